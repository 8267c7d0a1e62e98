import PyProof.Rows.All
import Wide.All
import OpenK.AllK
import Wide.FinOn
import PyProof.EqAt
import PyProof.EqKinds
import PyProof.NeKinds
import PyProof.TupleCall
import PyProof.StrWalks
import PyProof.EnumMake
import PyProof.WalksEnum
import PyProof.ZipIter
import PyProof.Rows.ZipGen
import PyProof.Rows.SortWalk
import KE.KSortedM
import PyProof.StrLawsIdx
import PyProof.ExcInit
import PyProof.InstStoreFacts
import PyProof.AttrMissHeap
import PyProof.FactsAll.enumerate
import PyProof.FactsAll.dict_1
import KE.KDictOf
import KE.KItemsList
import PyProof.ReprRoads
import PyProof.StrLawsNeg
import PyProof.FitsInt
import PyProof.TupleIter
import PyProof.WalksMore
import PyProof.ExcClass2
import PyProof.Rows.MatchSeqLen
import PyProof.AttrMissSeq
import PyProof.FactsAll.zip_1
import KE.LcSums
import KE.KRevIter
import PyProof.DictWalks
import PyProof.DictItemsLoops
import KE.KPairComp
import KE.KDictText
import PySem.Challenge.RW_farthestcut_k68_changes_made
set_option compiler.extract_closed false
set_option bootstrap.genMatcherCode false
set_option Elab.async false
set_option linter.all false
set_option maxRecDepth 100000
set_option maxHeartbeats 4000000
noncomputable section
abbrev cr:=List Nat
namespace L2
open PySem PySem.Spec PyProof.Rows
abbrev tm:=Sum Int Str
def FW:tm->Value->Bool
 |.inl k,v=>Value.isInt k v
 |.inr x,v=>Value.isStrOf x v
def L8(w:World):tm->Int
 |.inl k=>hashInt k
 |.inr x=>hashStr w x
theorem df:∀{k:tm}{v:Value},FW k v=true->(∃i t,k=Sum.inl i/\v=Value.int i t)∨(∃x t,k=Sum.inr x/\v=Value.str x t)
 |.inl i,v,h=>by
  obtain⟨t,e⟩:=Value.isInt_shape (k:=i) (v:=v) h;exact .inl ⟨i,t,rfl,e⟩
 |.inr x,v,h=>by
  obtain⟨t,e⟩:=Value.isStrOf_shape (x:=x) (v:=v) h;exact .inr ⟨x,t,rfl,e⟩
def Hu(a b:Int):decide ((Sum.inl a:tm)=Sum.inl b)=(a==b):=by
 by_cases e:a=b
 .subst e;simp
 .have h:¬(Sum.inl a:tm)=Sum.inl b:=λq=>e (Sum.inl.inj q)
  rw[decide_eq_false h];exact(beq_eq_false_iff_ne.mpr e).symm
def Hr(a b:Str):decide ((Sum.inr a:tm)=Sum.inr b)=decide (a=b):=by
 by_cases e:a=b
 .subst e;simp
 .have h:¬(Sum.inr a:tm)=Sum.inr b:=λq=>e (Sum.inr.inj q)
  rw[decide_eq_false h,decide_eq_false e]
def Ht(a:Int)(b:Str):decide ((Sum.inl a:tm)=Sum.inr b)=false:=decide_eq_false (λq=>nomatch q)
def Hs(a:Str)(b:Int):decide ((Sum.inr a:tm)=Sum.inl b)=false:=decide_eq_false (λq=>nomatch q)
noncomputable def xS(prog:Program) (w:World):PySem.KeyKind prog w tm where
 is:=FW
 hash:=L8 w
 inj:=λv a b ha hb=>by
  rcases df ha with⟨i,t,rfl,rfl⟩|⟨x,t,rfl,rfl⟩
  .rcases df hb with⟨j,u,rfl,e⟩|⟨y,u,rfl,e⟩
   .injection e with e1 _;rw[e1]
   .exact nomatch e
  .rcases df hb with⟨j,u,rfl,e⟩|⟨y,u,rfl,e⟩
   .exact nomatch e
   .injection e with e1 _;rw[e1]
 byValue:=λk v h=>by
  rcases df h with⟨i,t,rfl,rfl⟩|⟨x,t,rfl,rfl⟩<;>rfl
 pyHash:=λhv h=>by
  rcases df hv with⟨i,t,rfl,rfl⟩|⟨x,t,rfl,rfl⟩
  .exact wpAny_pyHash_int h
  .exact wpAny_pyHash_str h
 eqBool:=λhu hv h=>by
  rcases df hu with⟨i,t,rfl,rfl⟩|⟨x,t,rfl,rfl⟩
  .rcases df hv with⟨j,u,rfl,rfl⟩|⟨y,u,rfl,rfl⟩
   .rw[Hu]at h;exact wpAny_eqBool_int h
   .rw[Ht]at h;exact SeqAt.EqAt.int_str i t y u _ _ _ _ h
  .rcases df hv with⟨j,u,rfl,rfl⟩|⟨y,u,rfl,rfl⟩
   .rw[Hs]at h;exact SeqAt.EqAt.str_int x t j u _ _ _ _ h
   .rw[Hr]at h;exact wpAny_eqBool_str h
 «strs»:=λk x t v h=>by
  rcases df h with⟨i,u,rfl,e⟩|⟨y,u,rfl,e⟩
  .exact nomatch e
  .injection e with e1 _
   subst e1;cases v<;>rfl
inductive V where
 |non|bl (b:Bool)|int (i:Int)|str (x:Str)|byt (b:Array UInt8)|flt (b:UInt64)|ref (a:Addr)|ty (n:String)
 deriving DecidableEq
abbrev al:=List V
noncomputable def bY:V->Value->Prop
 |.non,u=>u=Value.none
 |.bl b,u=>u=Value.bool b
 |.int i,u=>∃t,u=Value.int i t
 |.str x,u=>∃t,u=Value.str x t
 |.byt b,u=>∃t,u=Value.bytes b t
 |.flt b,u=>∃t,u=Value.float b t
 |.ref a,u=>u=Value.ref a
 |.ty n,u=>u=Value.type n
abbrev bu:al->List Value->Prop:=Paired bY
def bu.length{xs:al}{us:List Value}(r:bu xs us):xs.length=us.length:=Paired.length r
theorem bu.get:∀{xs:al}{us:List Value}{i:Nat}{x:V},bu xs us->xs[i]?=some x->∃u,us[i]?=some u/\bY x u
 |_,_,_,_,.nil,e=>by simp at e
 |_,_,0,_,.cons r _,e=>by simp at e;subst e;exact⟨_,rfl,r⟩
 |_,_,i+1,x,.cons _ t,e=>by
  obtain⟨u,h1,h2⟩:=bu.get (i:=i) (x:=x) t (by simpa using e);exact⟨u,by simpa using h1,h2⟩
theorem bu.set{x:V}{u:Value}(r:bY x u):∀{xs:al}{us:List Value}(i:Nat),bu xs us->bu (xs.set i x) (us.set i u)
 |_,_,_,.nil=>.nil
 |_,_,0,.cons _ t=>.cons r t
 |_,_,i+1,.cons q t=>.cons q (bu.set r i t)
theorem bu.append:∀{xs ys:al}{us ws:List Value},bu xs us->bu ys ws->bu (xs++ys) (us++ws)
 |_,_,_,_,.nil,s=>s
 |_,_,_,_,.cons r t,s=>.cons r (bu.append t s)
theorem bu.take:∀{xs:al}{us:List Value}(n:Nat),bu xs us->bu (xs.take n) (us.take n)
 |_,_,0,_=>.nil
 |_,_,_+1,.nil=>.nil
 |_,_,n+1,.cons r t=>.cons r (bu.take n t)
theorem bu.drop:∀{xs:al}{us:List Value}(n:Nat),bu xs us->bu (xs.drop n) (us.drop n)
 |_,_,0,r=>r
 |_,_,_+1,.nil=>.nil
 |_,_,n+1,.cons _ t=>bu.drop n t
def Cr:Option V->Option Value->Prop
 |some v,some u=>bY v u
 |none,none=>True
 |_,_=>False
def KV{κ:Type}:List (κ×V)->List (κ×Value)->Prop:=Paired λ(p:κ×V) (q:κ×Value)=>p.1=q.1/\bY p.2 q.2
def kV:tm->V
 |.inl i=>.int i
 |.inr x=>.str x
inductive HO where
 |lst (xs:al)
 |tup (xs:al)
 |dK (kvs:List (tm×V))|dT (kvs:List (List tm×V))
 |set (S:Int->Bool) (n:Nat)
 |ins (C dx:Addr) (fs:List (Str×V))
 |own (x:Addr)
 |xd (fs:List (Str×V))
 |met (f x:Addr)
 |rng (lo hi:Int)
 |frz (o:Obj) (u:HO)
 |tbl (ps:Array Value)
 |ext (φ:Heap->Prop)
abbrev Hp:=Addr->Option HO
def upd(H:Hp)(a:Addr)(o:HO):Hp:=λb=>if b=a then some o else H b
def aF{H:Hp}{a:Addr}{o:HO}:upd H a o a=some o:=by unfold upd;rw[if_pos rfl]
def aD{H:Hp}{a b:Addr}{o:HO}(h:b≠a):upd H a o b=H b:=by unfold upd;rw[if_neg h]
def aY{H:Hp}{a b:Addr}{o:HO}(h:H a=some o)(h':H b=none):a≠b:=by
 intro e;subst e;rw[h]at h';cases h'
section
variable (P:Program) (w:World)
noncomputable def cm(H:Hp) (h:Heap) (a:Addr):HO->Prop
 |.lst xs=>xs.length<=sizeLine/\∃(its:List Value) (n:Nat),bu xs its/\h.get? a=some { cls:=.type "list",data:=.seq its.toArray n }
 |.tup xs=>xs.length<=sizeLine/\∃its:List Value,bu xs its/\IsTup h a its.toArray
 |.dK kvs=>kvs.length<=sizeLine/\(a==sysModules)=false/\∃vs,KV kvs vs/\h.DictOf (xS P w) a vs
 |.dT kvs=>kvs.length<=sizeLine/\(a==sysModules)=false/\∃xs:List (List tm×Addr×Value),
   Paired (λ(p:List tm×V) (q:List tm×Addr×Value)=>p.1=q.1/\H q.2.1=some (.tup (p.1.map kV))/\bY p.2 q.2.2) kvs xs /\
   ∃o es ep,h.get? a=some o/\o.ExactDict/\o.data=.dict es ep/\es.toList=xs.map (entryOfKey (tupleKind (xS P w)))/\(xs.map (·.1)).Nodup
 |.set S n=>h.SetOf (intKind P w) a S n
 |.ins C dx fs=>H dx=some (.own a)/\fs.length<=1000/\dx≠a/\h.get? a=some (W.instObj C dx) /\
   ∃mA,h.Ns1 dx mA/\(∀f,Cr (fs.lookup f) (mA f))/\PySem.Within mA (fs.map (·.1))
 |.own _=>∃o,h.get? a=some o
 |.xd fs=>∃mA,h.Ns1 a mA/\∀f,Cr (fs.lookup f) (mA f)
 |.rng lo hi=>∃t u v,h.get? a=some { cls:=.type "range",data:=.fields #[.int lo t,.int hi u,.int 1 v] }
 |.frz o u=>h.get? a=some o/\cm H h a u
 |.tbl ps=>h.get? a=some { cls:=.none,data:=.fields ps }
 |.met f x=>h.get? a=some (W.methodObj (.ref f) (.ref x))
 |.ext φ=>φ h/\(∃o,h.get? a=some o)/\∀h1 h2:Heap,φ h1->(∀o,h1.get? a=some o->h2.get? a=some o)->φ h2
def gh(H:Hp)(h:Heap):Prop:=∀a o,H a=some o->cm P w H h a o
end
section
variable {P:Program}{w:World}{H H':Hp}{h h':Heap}{a:Addr}{o:HO}
def cm.lt(x:cm P w H h a o):a<h.objs.size:=by
 cases o with|lst xs=>obtain⟨_,_,_,_,e⟩:=x;exact Heap.lt_size e|tup xs=>obtain⟨_,_,_,p⟩:=x;exact p.lt|dK kvs|dT kvs=>obtain⟨_,_,_,_,o,_,_,e,_⟩:=x;exact Heap.lt_size e|set S n=>obtain⟨o,_,_,_,e,_⟩:=x;exact Heap.lt_size e|ins C dx fs=>obtain⟨_,_,_,e,_⟩:=x;exact Heap.lt_size e|own y=>obtain⟨_,e⟩:=x;exact Heap.lt_size e|xd fs=>obtain⟨_,⟨_,_,_,e,_⟩,_⟩:=x;exact Heap.lt_size e|rng lo hi=>obtain⟨_,_,_,e⟩:=x;exact Heap.lt_size e|frz ob u=>obtain⟨e,_⟩:=x;exact Heap.lt_size e|tbl ps|met f y=>exact Heap.lt_size (show h.get? a=some _ from x)|ext φ=>obtain⟨_,⟨_,e⟩,_⟩:=x;exact Heap.lt_size e
theorem mW{α β:Type}{F G:α->β->Prop}:∀{lb:List α}{lc:List β},Paired F lb lc->(∀a b,F a b->G a b)->Paired G lb lc
 |_,_,.nil,_=>.nil
 |_,_,.cons r t,f=>.cons (f _ _ r) (mW t f)
def cm.stay(x:cm P w H h a o)(k:∀b u,(b=a∨H b=some (.own a))->h.get? b=some u->h'.get? b=some u)
  (ho:∀b,H b=some (.own a)->H' b=some (.own a))(ht:∀b xs,H b=some (.tup xs)->H' b=some (.tup xs)):cm P w H' h' a o:=by
 induction o with
 |lst xs=>obtain⟨z,its,n,r,e⟩:=x;exact⟨z,its,n,r,k _ _ (.inl rfl) e⟩|tup xs=>obtain⟨z,its,r,ob,e,c⟩:=x;exact⟨z,its,r,ob,k _ _ (.inl rfl) e,c⟩|dK kvs=>obtain⟨z,y,vs,r,ob,es,ep,e,c⟩:=x;exact⟨z,y,vs,r,ob,es,ep,k _ _ (.inl rfl) e,c⟩
 |dT kvs=>
  obtain⟨z,y,xs,r,ob,es,ep,e,c⟩:=x;exact⟨z,y,xs,mW r λp q z=>⟨z.1,ht _ _ z.2.1,z.2.2⟩,ob,es,ep,k _ _ (.inl rfl) e,c⟩
 |set S n=>obtain⟨ob,es,ep,t,e,c⟩:=x;exact⟨ob,es,ep,t,k _ _ (.inl rfl) e,c⟩
 |ins C dx fs=>
  obtain⟨d,z,ne,e,mA,⟨od,es,ep,e2,c⟩,r⟩:=x;exact⟨ho _ d,z,ne,k _ _ (.inl rfl) e,mA,⟨od,es,ep,k _ _ (.inr d) e2,c⟩,r⟩
 |own y=>obtain⟨ob,e⟩:=x;exact⟨ob,k _ _ (.inl rfl) e⟩|xd fs=>obtain⟨mA,⟨od,es,ep,e,c⟩,r⟩:=x;exact⟨mA,⟨od,es,ep,k _ _ (.inl rfl) e,c⟩,r⟩|rng lo hi=>obtain⟨t,u,v,e⟩:=x;exact⟨t,u,v,k _ _ (.inl rfl) e⟩|frz ob u ih=>obtain⟨e,q⟩:=x;exact⟨k _ _ (.inl rfl) e,ih q⟩
 |tbl ps=>
  have e:h.get? a=some { cls:=.none,data:=.fields ps }:=x;show h'.get? a=some { cls:=.none,data:=.fields ps };exact k a _ (.inl rfl) e
 |met f y=>
  have e:h.get? a=some (W.methodObj (.ref f) (.ref y)):=x;show h'.get? a=some (W.methodObj (.ref f) (.ref y));exact k a _ (.inl rfl) e
 |ext φ=>obtain⟨p,⟨o,e⟩,st⟩:=x;exact⟨st _ _ p λo q=>k _ _ (.inl rfl) q,⟨o,k _ _ (.inl rfl) e⟩,st⟩
def gh.lt(x:gh P w H h)(e:H a=some o):a<h.objs.size:=(x a o e).lt
def gh.fresh(x:gh P w H h)(e:h.objs.size<=a):H a=none:=by
 cases q:H a with|none=>rfl|some u=>exact absurd (Nat.lt_of_lt_of_le (x.lt q) e) (Nat.lt_irrefl _)
def gh.kept(x:gh P w H h)(k:∀b u,h.get? b=some u->h'.get? b=some u):gh P w H h':=λa o e=>
 (x a o e).stay (λb u _ q=>k b u q) (λ_ q=>q) λ_ _ q=>q
def gh.laid(x:gh P w H h)(k:∀b u,h.get? b=some u->h'.get? b=some u)(hp:h.objs.size<=a)(new:cm P w (upd H a o) h' a o):gh P w (upd H a o) h':=λb u e=>by
 have hn:=x.fresh hp
 by_cases hb:b=a
 .subst hb;rw[aF]at e;cases e;exact new
 .rw[aD hb]at e
  exact(x b u e).stay (λc v _ q=>k c v q) (λc q=>by rw[aD (aY q hn)];exact q) λc xs q=>by rw[aD (aY q hn)];exact q
end
def Rd(H:Hp)(a:Addr)(u:HO):Prop:=H a=some u∨∃o,H a=some (.frz o u)
def Rd.ok{P:Program}{w:World}{H:Hp}{h:Heap}{a:Addr}{u:HO}(r:Rd H a u)(x:gh P w H h):cm P w H h a u:=by
 rcases r with r|⟨o,r⟩
 .exact x a u r
 .obtain⟨_,q⟩:=x a _ r
  exact q
def Jl:Option HO->Prop
 |some (.lst _)=>True
 |some (.dK _)=>True
 |some (.dT _)=>True
 |some (.set _ _)=>True
 |some (.ins _ _ _)=>True
 |some (.ext _)=>True
 |_=>False
section
variable {P:Program}{w:World}{H:Hp}{h h':Heap}{x e:Addr}{o':HO}
def gh.write(ok:gh P w H h)(mu:Jl (H x))(he:e=x∨H e=some (.own x))(k:∀b u,b≠e->h.get? b=some u->h'.get? b=some u)(heo:∃u,h'.get? e=some u)
  (new:cm P w (upd H x o') h' x o'):gh P w (upd H x o') h':=λb u q=>by
 have nown:∀c y,H c=some (.own y)->c≠x:=λc y r z=>by subst z;rw[r]at mu;exact mu
 have ntup:∀c xs,H c=some (.tup xs)->c≠x:=λc xs r z=>by subst z;rw[r]at mu;exact mu
 by_cases hb:b=x
 .subst hb;rw[aF]at q;cases q;exact new
 .rw[aD hb]at q
  by_cases hbe:b=e
  .have q':H b=some (.own x):=by
    rcases he with z|z
    .exact absurd (hbe.trans z) hb
    .rw[hbe];exact z
   rw[q]at q';cases q';obtain⟨v,hv⟩:=heo;exact⟨v,by rw[hbe];exact hv⟩
  .refine(ok b u q).stay (λc v hc r=>k c v ?_ r) (λc r=>by rw[aD (nown c b r)];exact r) λc xs r=>by rw[aD (ntup c xs r)];exact r
   rcases hc with rfl|hc
   .exact hbe
   .rintro rfl
    rcases he with z|z
    .exact nown c b hc z
    .rw[hc]at z;cases z;exact hb rfl
end
structure Un (fs ex:List Addr) (H H':Hp) (h h':Heap):Prop where
 keep:∀b o,h.get? b=some o->H b=none->b∉fs->b∉ex->h'.get? b=some o
 slot:∀b o,h.get? b=some o->H b=none->b∈fs->b∉ex->∃sl,h'.get? b=some { o with slots:=sl }
 free:∀b o,h.get? b=some o->H b=none->b∉ex->H' b=none
 there:∀b o,h.get? b=some o->b∉ex->∃o',h'.get? b=some o'
 tups:∀b xs,H b=some (.tup xs)->H' b=some (.tup xs)
 frzs:∀b o u,H b=some (.frz o u)->H' b=some (.frz o u)
 tbls:∀b ps,H b=some (.tbl ps)->∃more,H' b=some (.tbl (ps++more))
section
variable {fs fs' ex ex':List Addr}{H H1 H2:Hp}{h h1 h2 h':Heap}{a x e:Addr}{o:HO}
def Un.any(u:Un fs ex H H1 h h1){b:Addr}{ob:Obj}(q:h.get? b=some ob)(n:H b=none)(hx:b∉ex):∃sl,h1.get? b=some { ob with slots:=sl }:=by
 by_cases hb:b∈fs
 .exact u.slot b ob q n hb hx
 .exact⟨ob.slots,u.keep b ob q n hb hx⟩
def Un.trans(a:Un fs ex H H1 h h1)(b:Un fs ex H1 H2 h1 h2):Un fs ex H H2 h h2 where
 keep:=λc ob q n hc hx=>b.keep c ob (a.keep c ob q n hc hx) (a.free c ob q n hx) hc hx
 slot:=λc ob q n hc hx=>by
  obtain⟨sl,e1⟩:=a.slot c ob q n hc hx;obtain⟨sl',e2⟩:=b.slot c _ e1 (a.free c ob q n hx) hc hx;exact⟨sl',e2⟩
 free:=λc ob q n hx=>by
  obtain⟨o',e1⟩:=a.there c ob q hx;exact b.free c o' e1 (a.free c ob q n hx) hx
 there:=λc ob q hx=>by
  obtain⟨o',e1⟩:=a.there c ob q hx;exact b.there c o' e1 hx
 tups:=λc xs q=>b.tups c xs (a.tups c xs q)
 frzs:=λc ob xs q=>b.frzs c ob xs (a.frzs c ob xs q)
 tbls:=λc ps q=>by
  obtain⟨m1,e1⟩:=a.tbls c ps q;obtain⟨m2,e2⟩:=b.tbls c _ e1;exact⟨m1++m2,by rw[e2,Array.append_assoc]⟩
def Un.kept(k:∀b u,h.get? b=some u->h'.get? b=some u):Un fs ex H H h h' :=
 ⟨λb ob q _ _ _=>k b ob q,λb ob q _ _ _=>⟨ob.slots,k b ob q⟩,λ_ _ _ n _=>n,λb ob q _=>⟨ob,k b ob q⟩,λ_ _ q=>q,λ_ _ _ q=>q,λ_ ps q=>⟨#[],by rw[q];simp⟩⟩
def Un.refl:Un fs ex H H h h:=Un.kept λ_ _ q=>q
def Un.laid(k:∀b u,h.get? b=some u->h'.get? b=some u)(hp:h.objs.size<=a)(hn:H a=none):Un fs ex H (upd H a o) h h' where
 keep:=λb u q _ _ _=>k b u q
 slot:=λb u q _ _ _=>⟨u.slots,k b u q⟩
 free:=λb u q n _=>by rw[aD (Nat.ne_of_lt (Nat.lt_of_lt_of_le (Heap.lt_size q) hp))];exact n
 there:=λb u q _=>⟨u,k b u q⟩
 tups:=λb xs q=>by rw[aD (aY q hn)];exact q
 frzs:=λb u xs q=>by rw[aD (aY q hn)];exact q
 tbls:=λb ps q=>⟨#[],by rw[aD (aY q hn),q];simp⟩
def Un.write(mu:Jl (H x))(he:e=x∨H e=some (.own x))(k:∀b u,b≠e->h.get? b=some u->h'.get? b=some u)(heo:∃u,h'.get? e=some u):Un fs ex H (upd H x o) h h':=by
 have hx:∀b,H b=none->b≠x:=λb n z=>by subst z;rw[n]at mu;exact mu
 have hb:∀b,H b=none->b≠e:=λb n z=>by
  subst z;rcases he with r|r
  .exact hx b n r
  .rw[n]at r;cases r
 have hm:∀b u,H b=some u->¬Jl (some u)->b≠x:=λb u q nm z=>by subst z;rw[q]at mu;exact nm mu
 refine⟨λb u q n _ _=>k b u (hb b n) q,λb u q n _ _=>⟨u.slots,k b u (hb b n) q⟩,λb u q n _=>by rw[aD (hx b n)];exact n,λb u q _=>?_,
  λb xs q=>by rw[aD (hm b _ q λz=>z)];exact q,λb u xs q=>by rw[aD (hm b _ q λz=>z)];exact q,λb ps q=>⟨#[],by rw[aD (hm b _ q λz=>z),q];simp⟩⟩
 by_cases hbe:b=e
 .subst hbe;exact heo
 .exact⟨u,k b u hbe q⟩
end
def Lg(h:Heap)(H:Hp):List Addr:=(List.range h.objs.size).filter λa=>(H a).isSome
def sA(h:Heap)(H:Hp):Heap:=W.hideAll h (Lg h H)
def zk(h:Heap)(H:Hp):(sA h H).objs.size=h.objs.size:=W.hideAll_size _ _
def Bq{h:Heap}{H:Hp}{b:Addr}{o:Obj}(e:h.get? b=some o)(n:H b=none):(sA h H).get? b=some o :=
 W.hideAll_get _ e λhm=>by
  have q:(H b).isSome=true:=(List.mem_filter.mp hm).2;rw[n]at q;simp at q
def DP{h:Heap}{H:Hp}{b:Addr}{o:Obj}(e:(sA h H).get? b=some o):h.get? b=some o/\H b=none:=by
 have e':h.get? b=some o:=W.of_hideAll (Lg h H) e;refine⟨e',?_⟩;cases q:H b with
 |none=>rfl
 |some x=>
  have hm:b∈Lg h H:=List.mem_filter.mpr ⟨List.mem_range.mpr (Heap.lt_size e'),by simp[q]⟩;have z:(sA h H).get? b=none:=W.hideAll_none (Lg h H) hm;rw[z]at e;cases e
structure Mod (K:W.Frag) (mg:Str->Option Value) (base:Heap):Prop where
 kin:K.In base
 glob:base.Ns mainGlobals mg
 blt:∃mb,base.Ns builtinsNs mb/\∀x:Str,x≠"__name__"->mb x=bootBuiltins x
 nolimit:base.NoLimit
 sm:∃mm,base.Ns sysModules mm
structure Cx where
 prog:Program
 w:World
 K:W.Frag
 mg:Str->Option Value
 base:Heap
 A:Around
 N:List Str
 sf:Shared
 Ha:Hp
 env:Env
 outer:List Env
 stack:List Env
 ex:List Addr
 fn:Str->Bool
 calm:Bool
 pn:List (Addr×Obj)
 xe:Value->Shared->Prop
def f9(l:List Env):List Addr:=l.filterMap (·.frame)
abbrev Cx.fs(X:Cx):List Addr:=f9 X.outer
def vd(sc:Scope)(x:Str):Prop:=sc.names.lookup x=some .local ∨ sc.names.lookup x=some .cell∨sc.names.lookup x=some .free
def zQ(sc:Scope)(x:Str):Prop:=sc.names.lookup x=some .local ∨ sc.names.lookup x=some .cell
def La(env:Env)(h:Heap)(m:Str->Option Value)(x:Str)(u:Value):Prop :=
 (env.kindOf x=some .local /\ m x=some u)∨((env.kindOf x=some .cell∨env.kindOf x=some .free)/\∃c,env.cells.lookup x=some c/\h.IsCell c (some u))
structure Cx.Ok (X:Cx):Prop where
 mod:Mod X.K X.mg X.base
 kind:X.env.scope.kind=.function
 glob:X.env.globals=mainGlobals
 blt:X.env.builtins=builtinsNs
 above:X.sf.heap.objs.size<=X.env.locals
 inj:∀x y c,X.env.cells.lookup x=some c->X.env.cells.lookup y=some c->x=y
 has:∀x,(X.env.kindOf x=some .cell∨X.env.kindOf x=some .free)->∃c,X.env.cells.lookup x=some c
 cab:∀x c,X.fn x=true->X.env.cells.lookup x=some c->X.sf.heap.objs.size<=c
 hd:X.calm=true->X.A.handled=none
 frames:X.A.frames=some X.stack
 stk:X.stack=X.outer∨(X.stack=X.env::X.outer/\X.env.frame=some X.env.locals)
 exf:∀b∈X.ex,b≠X.env.locals/\∀x c,X.env.cells.lookup x=some c->c≠b
 bs:∀b o,X.base.get? b=some o->X.sf.heap.get? b=some o/\X.Ha b=none
 bsz:X.base.objs.size<=X.sf.heap.objs.size
 noex:∀b o,X.base.get? b=some o->b∉X.ex
 exfs:∀b∈X.ex,b∉X.fs
 funs:X.sf.heap.FunFrames X.base X.outer
 frf:∀b∈X.fs,X.Ha b=none
structure Inv (X:Cx) (pins:List (Addr×Obj)) (σ:List (Option V)) (H:Hp) (s:Shared):Prop where
 ok:X.Ok
 os:s.os=X.sf.os
 bare:AllBare s.gens
 base:Un X.fs X.ex X.Ha H X.sf.heap s.heap
 loc:∃m,s.heap.Ns X.env.locals m/\∀(i:Nat) (x:Str) (v:V),X.N[i]?=some x->σ[i]?=some (some v)->vd X.env.scope x->∃u,bY v u/\La X.env s.heap m x u
 cell:∀x c,X.env.cells.lookup x=some c->∃v,s.heap.IsCell c v
 free:H X.env.locals=none
 freeC:∀x c,X.env.cells.lookup x=some c->H c=none
 pin:∀p∈X.pn++pins,s.heap.get? p.1=some p.2/\H p.1=none/\p.1≠X.env.locals/\p.1∉X.fs/\∀v,p.2.data≠.cell v
 hok:gh X.prog X.w H s.heap
 len:σ.length=X.N.length
section
variable {X:Cx}{pins:List (Addr×Obj)}{σ:List (Option V)}{H H':Hp}{s:Shared}{h':Heap}
def Cx.Ok.nofr(ok:X.Ok){b:Addr}{o:Obj}(e:X.base.get? b=some o):b∉X.fs:=λhb=>by
 have:=(ok.funs.mem hb).1;rw[e]at this;cases this
def Inv.bs(I:Inv X pins σ H s):∀b o,X.base.get? b=some o->s.heap.get? b=some o/\H b=none:=λb o e=>
 ⟨I.base.keep b o (I.ok.bs b o e).1 (I.ok.bs b o e).2 (I.ok.nofr e) (I.ok.noex b o e),I.base.free b o (I.ok.bs b o e).1 (I.ok.bs b o e).2 (I.ok.noex b o e)⟩
def Inv.bk(I:Inv X pins σ H s):∀b o,X.base.get? b=some o->s.heap.get? b=some o:=λb o e=>(I.bs b o e).1
def Inv.mod(I:Inv X pins σ H s):Mod X.K X.mg X.base:=I.ok.mod
def Inv.kIn(I:Inv X pins σ H s):X.K.In s.heap:=I.ok.mod.kin.keeps I.bk
def Inv.lt(I:Inv X pins σ H s):X.env.locals<s.heap.objs.size:=let ⟨_,hn,_⟩:=I.loc;hn.lt
def Inv.sz(I:Inv X pins σ H s):X.sf.heap.objs.size<=s.heap.objs.size:=Nat.le_trans I.ok.above (Nat.le_of_lt I.lt)
def Inv.nofs(I:Inv X pins σ H s){a:Addr}(h:s.heap.objs.size<=a):a∉X.fs:=λhb=>by
 obtain⟨_,o,ho,_⟩:=I.ok.funs.mem hb;exact absurd (Nat.lt_of_lt_of_le (Heap.lt_size ho) (Nat.le_trans I.sz h)) (Nat.lt_irrefl _)
def Inv.cne(I:Inv X pins σ H s):∀x c,X.env.cells.lookup x=some c->c≠X.env.locals:=λx c e z=>by
 obtain⟨v,o,ho,hd⟩:=I.cell x c e;obtain⟨m,⟨o',es,ep,ho',hd',_⟩,_⟩:=I.loc;rw[z,ho']at ho;cases ho;rw[hd']at hd;cases hd
def Inv.funs(I:Inv X pins σ H s):s.heap.FunFrames X.base X.outer:=by
 have all:∀(l:List Env),(∀b∈f9 l,b∈X.fs)->X.sf.heap.FunFrames X.base l->s.heap.FunFrames X.base l:=by
  intro l
  induction l with
  |nil=>intro _ _;trivial
  |cons env r ih=>
   intro hs hl;obtain⟨hk,⟨L,o,hf,hn,ho,hd⟩,hr⟩:=hl;have hL:L∈X.fs:=hs L (by unfold f9;rw[List.filterMap_cons,hf];exact List.mem_cons_self);obtain⟨sl,e⟩:=I.base.slot L o ho (I.ok.frf L hL) hL λz=>I.ok.exfs L z hL;exact⟨hk,⟨L,_,hf,hn,e,hd⟩,ih (λb hb=>hs b (by unfold f9;rw[List.filterMap_cons,hf];exact List.mem_cons_of_mem _ hb)) hr⟩
 exact all X.outer (λ_ hb=>hb) I.ok.funs
def Inv.stack(I:Inv X pins σ H s):s.heap.FunFrames X.base X.stack:=by
 rcases I.ok.stk with e|⟨e,hf⟩
 .rw[e];exact I.funs
 .rw[e]
  obtain⟨m,hn,_⟩:=I.loc;refine .cons (by rw[I.ok.kind];decide) hf hn ?_ I.funs;exact Heap.get?_none_of_le (Nat.le_trans I.ok.bsz I.ok.above)
def Inv.stkSub(I:Inv X pins σ H s):∀b∈f9 X.stack,b∈X.env.locals::X.fs:=λb hb=>by
 rcases I.ok.stk with e|⟨e,hf⟩
 .rw[e]at hb;exact List.mem_cons_of_mem _ hb
 .rw[e]at hb
  unfold f9 at hb;rw[List.filterMap_cons,hf]at hb;exact hb
def Inv.stkFree(I:Inv X pins σ H s):∀b∈f9 X.stack,H b=none:=λb hb=>by
 rcases List.mem_cons.mp (I.stkSub b hb) with e|hb
 .rw[e];exact I.free
 .obtain⟨_,o,ho,_⟩:=I.ok.funs.mem hb
  exact I.base.free b o ho (I.ok.frf b hb) λz=>I.ok.exfs b z hb
def Inv.step{g':Array GenState}{t':Nat}{d':Drawn}{ch:List Addr}(I:Inv X pins σ H s)
  (hch:∀b∈ch,(b∈X.ex∨X.sf.heap.objs.size<=b)/\b≠X.env.locals/\(∀x c,X.env.cells.lookup x=some c->c≠b)/\∀p∈X.pn++pins,p.1≠b)
  (keep:∀b o,b≠X.env.locals->b∉X.fs->b∉ch->s.heap.get? b=some o->H b=none->h'.get? b=some o)
  (slot:∀b o,b≠X.env.locals->b∈X.fs->b∉ch->s.heap.get? b=some o->H b=none->∃sl,h'.get? b=some { o with slots:=sl })(free:∀b o,b∉ch->s.heap.get? b=some o->H b=none->H' b=none)
  (there:∀b o,b∉ch->s.heap.get? b=some o->∃o',h'.get? b=some o')
  (tups:∀b xs,H b=some (.tup xs)->H' b=some (.tup xs))(frzs:∀b o u,H b=some (.frz o u)->H' b=some (.frz o u))(tbls:∀b ps,H b=some (.tbl ps)->∃more,H' b=some (.tbl (ps++more)))
  (ns:∀m,s.heap.Ns X.env.locals m->h'.Ns X.env.locals m)(hok:gh X.prog X.w H' h')(hg:AllBare g') :
  Inv X pins σ H' { s with heap:=h',gens:=g',drawn:=d',toks:=t' }:=by
 have neL:∀b o,X.sf.heap.get? b=some o->b≠X.env.locals:=λb o e=>Nat.ne_of_lt (Nat.lt_of_lt_of_le (Heap.lt_size e) I.ok.above);have neC:∀b o,X.sf.heap.get? b=some o->b∉X.ex->b∉ch:=λb o e hx hb=>by
  rcases(hch b hb).1 with z|z
  .exact hx z
  .exact absurd (Nat.lt_of_lt_of_le (Heap.lt_size e) z) (Nat.lt_irrefl _)
 have cellK:∀x c,X.env.cells.lookup x=some c->∀v,s.heap.IsCell c v->h'.IsCell c v:=λx c e v z9=>by
  obtain⟨o,ho,hd⟩:=z9;have nch:c∉ch:=λz=>(hch c z).2.2.1 x c e rfl
  by_cases hc:c∈X.fs
  .obtain⟨sl,q⟩:=slot c o (I.cne x c e) hc nch ho (I.freeC x c e)
   exact⟨_,q,hd⟩
  .exact⟨o,keep c o (I.cne x c e) hc nch ho (I.freeC x c e),hd⟩
 refine⟨I.ok,I.os,hg,⟨λb o e n hb hx=>?_,λb o e n hb hx=>?_,λb o e n hx=>?_,λb o e hx=>?_,λb xs e=>tups b xs (I.base.tups b xs e),λb o xs e=>frzs b o xs (I.base.frzs b o xs e),λb ps e=>?_⟩,?_,λx c e=>?_,?_,λx c e=>?_,λp hp=>?_,hok,I.len⟩
 .exact keep b o (neL b o e) hb (neC b o e hx) (I.base.keep b o e n hb hx) (I.base.free b o e n hx)
 .obtain⟨sl,e1⟩:=I.base.slot b o e n hb hx
  obtain⟨sl',e2⟩:=slot b _ (neL b o e) hb (neC b o e hx) e1 (I.base.free b o e n hx);exact⟨sl',e2⟩
 .obtain⟨o',e1⟩:=I.base.there b o e hx
  exact free b o' (neC b o e hx) e1 (I.base.free b o e n hx)
 .obtain⟨o',e1⟩:=I.base.there b o e hx
  exact there b o' (neC b o e hx) e1
 .obtain⟨m1,e1⟩:=I.base.tbls b ps e
  obtain⟨m2,e2⟩:=tbls b _ e1;exact⟨m1++m2,by rw[e2,Array.append_assoc]⟩
 .obtain⟨m,hn,hl⟩:=I.loc
  refine⟨m,ns m hn,λi x v e1 e2 e3=>?_⟩;obtain⟨u,r,l⟩:=hl i x v e1 e2 e3;refine⟨u,r,?_⟩;rcases l with l|⟨k,c,e,z⟩
  .exact .inl l
  .exact .inr ⟨k,c,e,cellK x c e _ z⟩
 .obtain⟨v,z⟩:=I.cell x c e
  exact⟨v,cellK x c e v z⟩
 .obtain⟨m,⟨o,_,_,ho,_⟩,_⟩:=I.loc
  exact free _ o (λz=>(hch _ z).2.1 rfl) ho I.free
 .obtain⟨v,o,ho,hd⟩:=I.cell x c e
  exact free c o (λz=>(hch c z).2.2.1 x c e rfl) ho (I.freeC x c e)
 .obtain⟨e,n,ne,nf,d⟩:=I.pin p hp
  have nch:p.1∉ch:=λz=>(hch p.1 z).2.2.2 p hp rfl;exact⟨keep p.1 p.2 ne nf nch e n,free p.1 p.2 nch e n,ne,nf,d⟩
def Inv.un{t':Nat}(I:Inv X pins σ H s)(u:Un X.fs [] H H' s.heap h')(hok:gh X.prog X.w H' h'):Inv X pins σ H' { s with heap:=h',toks:=t' }:=by
 obtain⟨m,⟨o,es,ep,ho,r⟩,_⟩:=id I.loc;obtain⟨sl,hL⟩:=u.any ho I.free (by simp);exact I.step (g':=s.gens) (d':=s.drawn) (ch:=[]) (λ_ z=>nomatch z) (λb o _ hb _ e n=>u.keep b o e n hb (by simp)) (λb o _ hb _ e n=>u.slot b o e n hb (by simp)) (λb o _ e n=>u.free b o e n (by simp)) (λb o _ e=>u.there b o e (by simp)) u.tups u.frzs u.tbls (λm' hm=>by
  obtain⟨o',es',ep',ho',r'⟩:=hm;rw[ho]at ho';cases ho';exact⟨_,es',ep',hL,r'⟩) hok I.bare
def Inv.call{g':Array GenState}{t':Nat}{d':Drawn}{ch:List Addr}(I:Inv X pins σ H s)(u:Un (f9 X.stack) ch H H' s.heap h')(hok:gh X.prog X.w H' h')(hg:AllBare g')
  (hch:∀b∈ch,(b∈X.ex∨X.sf.heap.objs.size<=b)/\b≠X.env.locals/\(∀x c,X.env.cells.lookup x=some c->c≠b)/\∀p∈X.pn++pins,p.1≠b) :
  Inv X pins σ H' { s with heap:=h',gens:=g',drawn:=d',toks:=t' }:=by
 obtain⟨m,⟨o,es,ep,ho,r⟩,_⟩:=id I.loc;obtain⟨sl,hL⟩:=u.any ho I.free λz=>(hch _ z).2.1 rfl;exact I.step (ch:=ch) hch (λb o hL hb hc e n=>u.keep b o e n (λz=>(List.mem_cons.mp (I.stkSub b z)).elim hL hb) hc) (λb o _ _ hc e n=>u.any e n hc) (λb o hc e n=>u.free b o e n hc) (λb o hc e=>u.there b o e hc) u.tups u.frzs u.tbls (λm' hm=>by
  obtain⟨o',es',ep',ho',r'⟩:=hm;rw[ho]at ho';cases ho';exact⟨_,es',ep',hL,r'⟩) hok hg
def Inv.turned{t':Nat}{it:Addr}(I:Inv X pins σ H s)(k:∀b o,b≠it->s.heap.get? b=some o->h'.get? b=some o)(hn:H it=none)(hL:it≠X.env.locals)
  (h1:it∈X.ex∨X.sf.heap.objs.size<=it)(h2:∀x c,X.env.cells.lookup x=some c->c≠it)(h3:∀p∈X.pn++pins,p.1≠it):Inv X pins σ H { s with heap:=h',toks:=t' }:=by
 have nit:∀b u,H b=some u->b≠it:=λb u e z=>by rw[z,hn]at e;cases e
 refine I.step (g':=s.gens) (d':=s.drawn) (ch:=[it]) (λb hb=>?_) (λb o _ _ hc e _=>k b o (λz=>hc (by simp[z])) e) (λb o _ _ hc e _=>⟨o.slots,k b o (λz=>hc (by simp[z])) e⟩) (λ_ _ _ _ n=>n)
  (λb o hc e=>⟨o,k b o (λz=>hc (by simp[z])) e⟩) (λ_ _ e=>e) (λ_ _ _ e=>e) (λb ps e=>⟨#[],by rw[e];simp⟩) (λm hm=>?_) (λb u e=>?_) I.bare
 .have e:b=it:=by simpa using hb
  subst e;exact⟨h1,hL,h2,h3⟩
 .obtain⟨o,es,ep,ho,r⟩:=hm
  exact⟨o,es,ep,k _ o (Ne.symm hL) ho,r⟩
 .refine(I.hok b u e).stay (λc v hc q=>k c v ?_ q) (λ_ q=>q) λ_ _ q=>q
  rcases hc with z|z
  .rw[z];exact nit b u e
  .exact nit c _ z
def Inv.tok(I:Inv X pins σ H s)(t:Nat):Inv X pins σ H { s with toks:=t }:=I.un (h':=s.heap) (t':=t) Un.refl I.hok
def Inv.kept{t':Nat}(I:Inv X pins σ H s)(k:∀b u,s.heap.get? b=some u->h'.get? b=some u):Inv X pins σ H { s with heap:=h',toks:=t' }:=I.un (Un.kept k) (I.hok.kept k)
def Inv.laid{a:Addr}{o:HO}{t':Nat}(I:Inv X pins σ H s)(k:∀b u,s.heap.get? b=some u->h'.get? b=some u)(hp:s.heap.objs.size<=a)(new:cm X.prog X.w (upd H a o) h' a o) :
  Inv X pins σ (upd H a o) { s with heap:=h',toks:=t' }:=I.un (Un.laid k hp (I.hok.fresh hp)) (I.hok.laid k hp new)
def Inv.write{x e:Addr}{o:HO}{t':Nat}(I:Inv X pins σ H s)(mu:Jl (H x))(he:e=x∨H e=some (.own x))(k:∀b u,b≠e->s.heap.get? b=some u->h'.get? b=some u)(heo:∃u,h'.get? e=some u)
  (new:cm X.prog X.w (upd H x o) h' x o):Inv X pins σ (upd H x o) { s with heap:=h',toks:=t' }:=I.un (Un.write mu he k heo) (I.hok.write mu he k heo new)
def Inv.pins_of{pins':List (Addr×Obj)}(I:Inv X pins σ H s)(h:∀p∈pins',s.heap.get? p.1=some p.2/\H p.1=none/\p.1≠X.env.locals/\p.1∉X.fs/\∀v,p.2.data≠.cell v):Inv X pins' σ H s :=
 ⟨I.ok,I.os,I.bare,I.base,I.loc,I.cell,I.free,I.freeC,λp hp=>(List.mem_append.mp hp).elim (λz=>I.pin p (List.mem_append_left _ z)) (h p),I.hok,I.len⟩
def oC{N:List Str}(hN:N.Nodup){i j:Nat}{x:Str}(a:N[i]?=some x)(b:N[j]?=some x):i=j:=by
 obtain⟨h1,e1⟩:=List.getElem?_eq_some_iff.mp a;obtain⟨h2,e2⟩:=List.getElem?_eq_some_iff.mp b;exact(List.getElem_inj hN).mp (e1.trans e2.symm)
def qh{M:Model}{A:Around}{E:Value->Shared->Prop}{i:Nat}{x:Str}{v:V}{u:Value}{Q:Unit->Shared->Prop}(I:Inv X pins σ H s)(hN:X.N.Nodup)(hi:X.N[i]?=some x)(hx:zQ X.env.scope x)(r:bY v u)
  (h:∀s',Inv X pins (σ.set i (some v)) H s'->(∃a,Heap.SameBut a s.heap s'.heap/\(a=X.env.locals∨X.env.cells.lookup x=some a))->Q () s')(hf:X.fn x=true∨X.env.scope.names.lookup x=some .local := by first|exact .inl rfl|exact .inr rfl|assumption):wpAny M A (storeName X.env x u) Q E s:=by
 obtain⟨m,hn,hl⟩:=id I.loc;have hcls:(X.env.scope.kind==.class||(X.env.scope.kind==.module&&X.env.locals != X.env.globals))=false:=by rw[I.ok.kind];rfl
 have hiσ:i<σ.length:=by rw[I.len];exact(List.getElem?_eq_some_iff.mp hi).1
 have cne:=I.cne;have tracked:∀{a:Addr}{h':Heap},(∃o,s.heap.get? a=some o/\H a=none)->Heap.SameBut a s.heap h'->gh X.prog X.w H h':=λ{a h'} ha hs b ob e=>by
  obtain⟨_,_,hfree⟩:=ha;refine(I.hok b ob e).stay (λc w' hc q=>(hs.2 c ?_).trans q) (λ_ q=>q) λ_ _ q=>q;rintro rfl;rcases hc with rfl|hc
  .rw[hfree]at e;cases e
  .rw[hfree]at hc;cases hc
 rcases hx with hk|hk
 .refine wpAny_storeName_local hk hn (λh' hn' hs=>?_) hcls
  obtain⟨oL,_,_,hoL,_⟩:=id hn;refine h _ ⟨I.ok,I.os,I.bare,⟨λb o e n hb hx=>?_,λb o e n hb hx=>?_,I.base.free,λb o e hx=>?_,I.base.tups,I.base.frzs,I.base.tbls⟩,⟨_,hn',λj y v' e1 e2 e3=>?_⟩,λy c e=>?_,I.free,I.freeC,λp hp=>?_,tracked ⟨oL,hoL,I.free⟩ hs,by simpa using I.len⟩ ⟨_,hs,.inl rfl⟩
  .exact(hs.2 b (Nat.ne_of_lt (Nat.lt_of_lt_of_le (Heap.lt_size e) I.ok.above))).trans (I.base.keep b o e n hb hx)
  .obtain⟨sl,e1⟩:=I.base.slot b o e n hb hx
   exact⟨sl,(hs.2 b (Nat.ne_of_lt (Nat.lt_of_lt_of_le (Heap.lt_size e) I.ok.above))).trans e1⟩
  .obtain⟨o',e1⟩:=I.base.there b o e hx
   exact⟨o',(hs.2 b (Nat.ne_of_lt (Nat.lt_of_lt_of_le (Heap.lt_size e) I.ok.above))).trans e1⟩
  .by_cases hj:j=i
   .subst hj
    rw[hi]at e1;cases e1;rw[List.getElem?_set_self hiσ]at e2;cases e2;exact⟨u,r,.inl ⟨hk,by simp⟩⟩
   .rw[List.getElem?_set_ne (Ne.symm hj)]at e2
    obtain⟨u',r',q⟩:=hl j y v' e1 e2 e3;refine⟨u',r',?_⟩;rcases q with⟨k,e⟩|⟨k,c,e,z⟩
    .refine .inl ⟨k,?_⟩
     have:y≠x:=λe=>hj (oC hN e1 (e▸hi));simp[this,e]
    .exact .inr ⟨k,c,e,z.sameBut hs (cne y c e)⟩
  .obtain⟨w',z⟩:=I.cell y c e
   exact⟨w',z.sameBut hs (cne y c e)⟩
  .obtain⟨e,n,ne,nf,d⟩:=I.pin p hp
   exact⟨(hs.2 p.1 ne).trans e,n,ne,nf,d⟩
 .have hfn:X.fn x=true:=by
   rcases hf with z|z
   .exact z
   .rw[z]at hk;cases hk
  obtain⟨c,hc⟩:=I.ok.has x (.inl hk);obtain⟨w',z⟩:=I.cell x c hc;refine wpAny_storeName_cell I.ok.kind hk hc z (λh' hc' hs=>?_);obtain⟨oc,hoc,hocd⟩:=id z;refine h { s with heap:=h' } ⟨I.ok,I.os,I.bare,⟨λb o e n hb hx=>?_,λb o e n hb hx=>?_,I.base.free,λb o e hx=>?_,I.base.tups,I.base.frzs,I.base.tbls⟩,⟨m,hn.sameBut hs (Ne.symm (cne x c hc)),λj y v' e1 e2 e3=>?_⟩,λy c' e=>?_,I.free,I.freeC,λp hp=>?_,tracked ⟨oc,hoc,I.freeC x c hc⟩ hs,by simpa using I.len⟩ ⟨c,hs,.inr hc⟩
  .exact(hs.2 b (Nat.ne_of_lt (Nat.lt_of_lt_of_le (Heap.lt_size e) (I.ok.cab x c hfn hc)))).trans (I.base.keep b o e n hb hx)
  .obtain⟨sl,e1⟩:=I.base.slot b o e n hb hx
   exact⟨sl,(hs.2 b (Nat.ne_of_lt (Nat.lt_of_lt_of_le (Heap.lt_size e) (I.ok.cab x c hfn hc)))).trans e1⟩
  .obtain⟨o',e1⟩:=I.base.there b o e hx
   exact⟨o',(hs.2 b (Nat.ne_of_lt (Nat.lt_of_lt_of_le (Heap.lt_size e) (I.ok.cab x c hfn hc)))).trans e1⟩
  .by_cases hj:j=i
   .subst hj
    rw[hi]at e1;cases e1;rw[List.getElem?_set_self hiσ]at e2;cases e2;exact⟨u,r,.inr ⟨.inl hk,c,hc,hc'⟩⟩
   .rw[List.getElem?_set_ne (Ne.symm hj)]at e2
    obtain⟨u',r',q⟩:=hl j y v' e1 e2 e3;refine⟨u',r',?_⟩;rcases q with q|⟨k,c',e,z'⟩
    .exact .inl q
    .refine .inr ⟨k,c',e,z'.sameBut hs ?_⟩
     rintro rfl;exact hj (oC hN e1 (I.ok.inj _ _ _ e hc▸hi))
  .by_cases hcc:c'=c
   .subst hcc;exact⟨_,hc'⟩
   .obtain⟨w2,z2⟩:=I.cell y c' e
    exact⟨w2,z2.sameBut hs hcc⟩
  .obtain⟨e,n,ne,nf,d⟩:=I.pin p hp
   refine⟨(hs.2 p.1 ?_).trans e,n,ne,nf,d⟩;intro q;rw[q,hoc]at e;have q':oc=p.2:=Option.some.inj e;exact d w' (by rw[←q'];exact hocd)
def iI{M:Model}{A:Around}{E:Value->Shared->Prop}{i:Nat}{x:Str}{v:V}{u:Value}{Q:Unit->Shared->Prop}(I:Inv X pins σ H s)(hN:X.N.Nodup)(hi:X.N[i]?=some x)(hx:zQ X.env.scope x)(r:bY v u)
  (h:∀s',Inv X pins (σ.set i (some v)) H s'->Q () s')(hf:X.fn x=true∨X.env.scope.names.lookup x=some .local := by first|exact .inl rfl|exact .inr rfl|assumption):wpAny M A (storeName X.env x u) Q E s :=
 qh I hN hi hx r (λs' I' _=>h s' I') hf
def Inv.call'{s':Shared}{ch:List Addr}(I:Inv X pins σ H s)(ho:s'.os=s.os)(u:Un (f9 X.stack) ch H H' s.heap s'.heap)(hok:gh X.prog X.w H' s'.heap)(hg:AllBare s'.gens)
  (hch:∀b∈ch,(b∈X.ex∨X.sf.heap.objs.size<=b)/\b≠X.env.locals/\(∀x c,X.env.cells.lookup x=some c->c≠b)/\∀p∈X.pn++pins,p.1≠b):Inv X pins σ H' s':=by
 obtain⟨h',g',d',t',o'⟩:=s';have e:o'=s.os:=ho;subst e;exact I.call (g':=g') (t':=t') (d':=d') u hok hg hch
end
abbrev XK:=Value->Option Addr->Hp->Prop
abbrev St:=List (Option V)
abbrev VK:=V->Hp->Prop
abbrev TE:=St->Hp->VK->Prop
abbrev TT:=St->Hp->(Bool->Hp->Prop)->Prop
abbrev TA:=St->Hp->(al->Hp->Prop)->Prop
structure gW where
 nx:St->Hp->Prop
 rt:VK
 bk:St->Hp->Prop:=λ_ _=>False
 ct:St->Hp->Prop:=λ_ _=>False
abbrev TS:=gW->St->Hp->Prop
def EP(X:Cx)(pins:List (Addr×Obj))(σ:St)(Q:VK)(u:Value)(s':Shared):Prop:=∃v H',Inv X pins σ H' s'/\bY v u/\Q v H'
def TP(X:Cx)(pins:List (Addr×Obj))(σ:St)(Q:Bool->Hp->Prop)(b:Bool)(s':Shared):Prop:=∃H',Inv X pins σ H' s'/\Q b H'
def AP(X:Cx)(pins:List (Addr×Obj))(σ:St)(Q:al->Hp->Prop)(us:List Value)(s':Shared):Prop:=∃vs H',Inv X pins σ H' s'/\bu vs us/\Q vs H'
noncomputable def SP(X:Cx) (pins:List (Addr×Obj)) (D:gW) (f:Flow) (s':Shared):Prop :=
 match f with
 |.next=>∃σ' H',Inv X pins σ' H' s'/\D.nx σ' H'
 |.brk=>∃σ' H',Inv X pins σ' H' s'/\D.bk σ' H'
 |.cont=>∃σ' H',Inv X pins σ' H' s'/\D.ct σ' H'
 |.ret u=>∃v σ' H',Inv X pins σ' H' s'/\bY v u/\D.rt v H'
def PE(X:Cx)(e:Expr)(t:TE):Prop :=
 ∀(pins:List (Addr×Obj)) (s:Shared) (σ:St) (H:Hp) (Q:VK),Inv X pins σ H s->t σ H Q->wpAny (model X.prog X.w) X.A (eval e X.env) (EP X pins σ Q) X.xe s
def PT(X:Cx)(e:Expr)(t:TT):Prop :=
 ∀(pins:List (Addr×Obj)) (s:Shared) (σ:St) (H:Hp) (Q:Bool->Hp->Prop),Inv X pins σ H s->t σ H Q->wpAny (model X.prog X.w) X.A (isTrue e X.env (eval e X.env)) (TP X pins σ Q) X.xe s
def PW(X:Cx)(e:Expr)(t:TT):Prop :=
 ∀(whole:Sem Value) (pins:List (Addr×Obj)) (s:Shared) (σ:St) (H:Hp) (Q:Bool->Hp->Prop),Inv X pins σ H s->t σ H Q->wpAny (model X.prog X.w) X.A (isTrue e X.env whole) (TP X pins σ Q) X.xe s
def PW.pt{X:Cx}{e:Expr}{t:TT}(h:PW X e t):PT X e t:=h _
def PA(X:Cx)(es:List Expr)(t:TA):Prop :=
 ∀(pos:Pos) (pins:List (Addr×Obj)) (s:Shared) (σ:St) (H:Hp) (Q:al->Hp->Prop),Inv X pins σ H s->t σ H Q->wpAny (model X.prog X.w) X.A (spliced (backTo pos (starEach es X.env))) (AP X pins σ Q) X.xe s
def PS(X:Cx)(st:Stmt)(t:TS):Prop :=
 ∀(pins:List (Addr×Obj)) (s:Shared) (σ:St) (H:Hp) (D:gW),Inv X pins σ H s->t D σ H->wpAny (model X.prog X.w) X.A (exec st X.env) (SP X pins D) X.xe s
def nI(X:Cx)(st:List Stmt)(t:TS):Prop :=
 ∀(pins:List (Addr×Obj)) (s:Shared) (σ:St) (H:Hp) (D:gW),Inv X pins σ H s->t D σ H->wpAny (model X.prog X.w) X.A (execs st X.env) (SP X pins D) X.xe s
def dy{α:Type}{t:Sem α}{Q Q':α->Shared->Prop}{M:Model}{A:Around}{E:Value->Shared->Prop}{s:Shared}(h:wpAny M A t Q E s)(hQ:∀a s,Q a s->Q' a s):wpAny M A t Q' E s:=wpAny_mono h hQ λ_ _ x=>x
section
variable {X:Cx}
def Ly(i:Nat):TE:=λσ H Q=>∃v,σ[i]?=some (some v)/\Q v H
def tC(v:V):TE:=λ_ H Q=>Q v H
def eR{i:Nat}{x:Str}{pos:Pos}(hN:X.N[i]?=some x)(hv:vd X.env.scope x)(hd:(x==("__debug__":Str))=false:=by decide)(hcd:(x==("__classdict__":Str))=false:=by decide):PE X (.Name x pos) (Ly i):=by
 intro pins s σ H Q I h;obtain⟨v,e,h⟩:=h;obtain⟨m,hn,hl⟩:=I.loc;obtain⟨u,r,l⟩:=hl i x v hN e hv;have fin:EP X pins σ Q u s:=⟨v,H,I,r,h⟩
 rcases l with⟨hk,hm⟩|⟨hk,c,hc,hcell⟩
 .exact wpAny_Name (wpAny_loadName_local I.ok.kind hk hn hm fin) hd
 .rcases hk with hk|hk
  .exact wpAny_Name (wpAny_loadName_cell I.ok.kind hk hc hcell fin) hd
  .exact wpAny_Name (wpAny_loadName_free I.ok.kind hk hc hcell fin hcd) hd
def ot{i j pos}:PE X (.Constant (.int i) j pos) (tC (.int i)):=λ_ _ _ H _ I h=>wpAny_Constant_int ⟨.int i,H,I.tok _,⟨_,rfl⟩,h⟩
def J6{b j pos}:PE X (.Constant (.bool b) j pos) (tC (.bl b)):=λ_ _ _ H _ I h=>Constant_bool ⟨.bl b,H,I,rfl,h⟩
def vJ{j pos}:PE X (.Constant .none j pos) (tC .non):=λ_ _ _ H _ I h=>Constant_none ⟨.non,H,I,rfl,h⟩
def G3{x j pos}:PE X (.Constant (.str x) j pos) (tC (.str x)):=λ_ _ _ H _ I h=>Calls.Constant_str ⟨.str x,H,I.tok _,⟨_,rfl⟩,h⟩
def Gl(X:Cx)(x:Str):Prop:=X.env.kindOf x=some .globalImplicit
def gA{E:Value->Shared->Prop}{pins:List (Addr×Obj)}{s:Shared}{σ:St}{H:Hp}{x:Str}{u:Value}{pos:Pos}{Q:Value->Shared->Prop}(I:Inv X pins σ H s)(hg:Gl X x)(hm:X.mg x=some u)(h:Q u s)
  (hd:(x==("__debug__":Str))=false:=by decide):wpAny (model X.prog X.w) X.A (eval (.Name x pos) X.env) Q E s :=
 Calls.Name_function_global I.ok.kind hg (Calls.loadGlobal_global (by rw[I.ok.glob];exact I.mod.glob.keeps I.bk) hm h) hd
def oJ{E:Value->Shared->Prop}{pins:List (Addr×Obj)}{s:Shared}{σ:St}{H:Hp}{x:Str}{u:Value}{pos:Pos}{Q:Value->Shared->Prop}(I:Inv X pins σ H s)(hg:Gl X x)(hm:X.mg x=none)(hv:bootBuiltins x=some u)(h:Q u s)
  (hn:x≠"__name__":=by decide)(hd:(x==("__debug__":Str))=false:=by decide):wpAny (model X.prog X.w) X.A (eval (.Name x pos) X.env) Q E s:=by
 obtain⟨mb,h1,h2⟩:=I.mod.blt;exact Calls.Name_function_global I.ok.kind hg (Calls.loadGlobal_builtin (by rw[I.ok.glob];exact I.mod.glob.keeps I.bk) hm (by rw[I.ok.blt];exact h1.keeps I.bk) ((h2 x hn).trans hv) h) hd
def lq{x:Str}{v:V}{u:Value}{pos:Pos}(hg:Gl X x)(hm:X.mg x=some u)(r:bY v u)(hd:(x==("__debug__":Str))=false:=by decide):PE X (.Name x pos) (tC v) :=
 λ_ _ _ H _ I h=>gA I hg hm ⟨v,H,I,r,h⟩ hd
def xH{x:Str}{v:V}{u:Value}{pos:Pos}(hg:Gl X x)(hm:X.mg x=none)(hv:bootBuiltins x=some u)(r:bY v u)(hn:x≠"__name__":=by decide)(hd:(x==("__debug__":Str))=false:=by decide):PE X (.Name x pos) (tC v) :=
 λ_ _ _ H _ I h=>oJ I hg hm hv ⟨v,H,I,r,h⟩ hn hd
variable {a b:Expr}{ta tb:TE}{pos:Pos}
noncomputable def PC(X:Cx) (op:CmpOp) (a b:Expr) (t:TE):Prop :=
 ∀(pins:List (Addr×Obj)) (s:Shared) (σ:St) (H:Hp) (Q:VK),Inv X pins σ H s->t σ H Q ->
  wpAny (model X.prog X.w) X.A (eval a X.env) (λv sg=>wpAny (model X.prog X.w) X.A (eval b X.env) (λu si=>wpAny (model X.prog X.w) X.A (compareOp op v u) (EP X pins σ Q) X.xe si) X.xe sg) X.xe s
def A4(b:Expr){op:CmpOp}(h:op≠.In)(h2:op≠.NotIn):behindInMarks op b=false:=by
 have e1:(op==CmpOp.In)=false:=by cases op<;>first|rfl|exact absurd rfl h
 have e2:(op==CmpOp.NotIn)=false:=by cases op<;>first|rfl|exact absurd rfl h2
 cases b<;>simp[behindInMarks,e1,e2]
def tB(t:TE):TT:=λσ H Q=>t σ H λx H1=>∃c,x=.bl c/\Q c H1
def GW{e:Expr}{t:TE}(h:PE X e t)(he:∀whole,isTrue e X.env whole=(do let v ←whole;standAt e.pos;holding [v] (truthy v)):=by intro _;rfl):PT X e (tB t):=by
 intro pins s σ H Q I hw;refine isTrue_plain (dy (h pins s σ H _ I hw) λv s1 z9=>?_) (he _);obtain⟨x,H1,I1,r1,q1⟩:=z9;obtain⟨d,rfl,q⟩:=q1;cases r1;exact wpAny_truthy_bool ⟨H1,I1,q⟩
variable {tA tB':TT}{rest:List Expr}
def LO(t u:TT):TT:=λσ H Q=>t σ H λc H1=>if c=true then u σ H1 Q else Q false H1
def MV(t u:TT):TT:=λσ H Q=>t σ H λc H1=>if c=true then Q true H1 else u σ H1 Q
def LH(t:TT):TT:=λσ H Q=>t σ H λc H1=>Q (!c) H1
def Ds(ha:PT X a tA):PW X (.BoolOp .And [a] pos) tA:=by
 intro wh pins s σ H Q I h;refine isTrue_and (dy (ha pins s σ H Q I h) λc s1 e=>?_);cases c with|true=>exact isTrue_and_nil e|false=>exact e
def GS(ha:PT X a tA):PW X (.BoolOp .Or [a] pos) tA:=by
 intro wh pins s σ H Q I h;refine isTrue_or (dy (ha pins s σ H Q I h) λc s1 e=>?_);cases c with|false=>exact isTrue_or_nil e|true=>exact e
def GU(ha:PT X a tA)(hb:PW X (.BoolOp .And (b::rest) pos) tB'):PW X (.BoolOp .And (a::b::rest) pos) (LO tA tB'):=by
 intro wh pins s σ H Q I h;refine isTrue_and (dy (ha pins s σ H _ I h) λc s1 z9=>?_);obtain⟨H1,I1,q1⟩:=z9;cases c with|true=>exact hb wh pins s1 σ H1 Q I1 q1|false=>exact⟨H1,I1,q1⟩
def JU(ha:PT X a tA)(hb:PW X (.BoolOp .Or (b::rest) pos) tB'):PW X (.BoolOp .Or (a::b::rest) pos) (MV tA tB'):=by
 intro wh pins s σ H Q I h;refine isTrue_or (dy (ha pins s σ H _ I h) λc s1 z9=>?_);obtain⟨H1,I1,q1⟩:=z9;cases c with|true=>exact⟨H1,I1,q1⟩|false=>exact hb wh pins s1 σ H1 Q I1 q1
def GX(ha:PT X a tA):PT X (.UnaryOp .Not a pos) (LH tA):=by
 intro pins s σ H Q I h;exact isTrue_not (ha pins s σ H (λc H1=>Q (!c) H1) I h)
def JC(ta tb:TE):TE:=λσ H Q=>ta σ H λx H1=>∃c,x=.bl c/\if c=true then tb σ H1 Q else Q (.bl false) H1
def LG(ta tb:TE):TE:=λσ H Q=>ta σ H λx H1=>∃c,x=.bl c/\if c=true then Q (.bl true) H1 else tb σ H1 Q
def Jx(ta:TE):TE:=λσ H Q=>ta σ H λx H1=>∃c,x=.bl c/\Q (.bl (!c)) H1
def G4{op}{t:TE}(h:PE X a t):PE X (.BoolOp op [a] pos) t:=λpins s σ H Q I hw=>BoolOp_one (h pins s σ H Q I hw)
def G6(ha:PE X a ta)(hb:PE X (.BoolOp .And (b::rest) pos) tb):PE X (.BoolOp .And (a::b::rest) pos) (JC ta tb):=by
 intro pins s σ H Q I h;refine BoolOp_and (dy (ha pins s σ H _ I h) λv s1 ⟨x,H1,I1,r1,q1⟩=>?_);obtain⟨c,rfl,q1⟩:=q1;cases r1;refine wpAny_truthy_bool ?_;cases c with|true=>exact hb pins s1 σ H1 Q I1 q1|false=>exact⟨.bl false,H1,I1,rfl,q1⟩
def J5(ha:PE X a ta)(hb:PE X (.BoolOp .Or (b::rest) pos) tb):PE X (.BoolOp .Or (a::b::rest) pos) (LG ta tb):=by
 intro pins s σ H Q I h;refine BoolOp_or (dy (ha pins s σ H _ I h) λv s1 ⟨x,H1,I1,r1,q1⟩=>?_);obtain⟨c,rfl,q1⟩:=q1;cases r1;refine wpAny_truthy_bool ?_;cases c with|false=>exact hb pins s1 σ H1 Q I1 q1|true=>exact⟨.bl true,H1,I1,rfl,q1⟩
def G5(ha:PE X a ta):PE X (.UnaryOp .Not a pos) (Jx ta):=by
 intro pins s σ H Q I h;refine UnaryOp_ (dy (ha pins s σ H _ I h) λv s1 z9=>?_);obtain⟨x,H1,I1,r1,q1⟩:=z9;obtain⟨c,rfl,q1⟩:=q1;cases r1;exact not_of (wpAny_truthy_bool ⟨.bl (!c),H1,I1,rfl,q1⟩)
def MW(t:TT)(ta tb:TE):TE:=λσ H Q=>t σ H λc H1=>if c=true then ta σ H1 Q else tb σ H1 Q
def AV{c:Expr}(hc:PT X c tA)(ha:PE X a ta)(hb:PE X b tb):PE X (.IfExp c a b pos) (MW tA ta tb):=by
 intro pins s σ H Q I h;refine wpAny_IfExp (dy (hc pins s σ H _ I h) λd s1 z9=>?_);obtain⟨H1,I1,q1⟩:=z9;cases d with|true=>exact ha pins s1 σ H1 Q I1 q1|false=>exact hb pins s1 σ H1 Q I1 q1
end
def fL(K:W.Frag)(H:Hp)(a:Addr)(xs:al):Prop :=
 Rd H a (.lst xs) ∨
  ∃(o:Obj) (its:Array Value) (n:Nat),K.lookup a=some o/\o.cls=.type "list"/\o.dict=none/\o.data=.seq its n/\its.size<=sizeLine/\bu xs its.toList
def iZ(K:W.Frag)(H:Hp)(a:Addr)(xs:al):Prop :=
 Rd H a (.tup xs) ∨
  ∃(o:Obj) (its:Array Value) (n:Nat),K.lookup a=some o/\o.cls=.type "tuple"/\o.data=.seq its n/\its.size<=sizeLine/\bu xs its.toList
def Ml:Value->Option V
 |.none=>some .non
 |.bool b=>some (.bl b)
 |.int i _=>some (.int i)
 |.str x _=>some (.str x)
 |.bytes b _=>some (.byt b)
 |.float b _=>some (.flt b)
 |.ref a=>some (.ref a)
 |.type n=>some (.ty n)
 |_=>none
def bY.abs{x:V}{u:Value}(r:bY x u):Ml u=some x:=by
 cases x with|non|bl _=>cases r;rfl|int _|str _|byt _|flt _=>obtain⟨t,rfl⟩:=r;rfl|ref _|ty _=>cases r;rfl
def bY.inj{x y:V}{u:Value}(r:bY x u)(q:bY y u):x=y:=Option.some.inj (r.abs.symm.trans q.abs)
theorem bu.inj:∀{xs ys:al}{us:List Value},bu xs us->bu ys us->xs=ys
 |_,_,_,.nil,.nil=>rfl
 |_,_,_,.cons r t,.cons r' t'=>by rw[r.inj r',bu.inj t t']
section
variable {X:Cx}{pins:List (Addr×Obj)}{σ:St}{H:Hp}{s:Shared}{a:Addr}{xs ys:al}
def fL.of{K:W.Frag}(h:H a=some (.lst xs)):fL K H a xs:=.inl (.inl h)
def iZ.of{K:W.Frag}(h:H a=some (.tup xs)):iZ K H a xs:=.inl (.inl h)
def Inv.list(I:Inv X pins σ H s)(h:fL X.K H a xs):∃its:List Value,bu xs its/\PlainL s.heap a its.toArray/\xs.length<=sizeLine:=by
 rcases h with h|⟨o,its,n,hk,hc,hd,hs,hz,r⟩
 .obtain⟨z,its,n,r,e⟩:=h.ok I.hok
  exact⟨its,r,⟨_,n,e,rfl,rfl,rfl⟩,z⟩
 .refine⟨its.toList,r,⟨o,n,I.kIn a o hk,hc,hd,by simpa using hs⟩,?_⟩
  have e:=r.length;simp only[Array.length_toList]at e;omega
def Inv.tuple(I:Inv X pins σ H s)(h:iZ X.K H a xs):∃its:List Value,bu xs its/\IsTup s.heap a its.toArray/\xs.length<=sizeLine:=by
 rcases h with h|⟨o,its,n,hk,hc,hs,hz,r⟩
 .obtain⟨z,its,r,p⟩:=h.ok I.hok
  exact⟨its,r,p,z⟩
 .refine⟨its.toList,r,⟨o,I.kIn a o hk,hc,n,by simpa using hs⟩,?_⟩
  have e:=r.length;simp only[Array.length_toList]at e;omega
def Inv.list_inj(I:Inv X pins σ H s)(h:fL X.K H a xs)(h':fL X.K H a ys):xs=ys:=by
 obtain⟨its,r,⟨o,n,e,_,_,d⟩,_⟩:=I.list h;obtain⟨its',r',⟨o',n',e',_,_,d'⟩,_⟩:=I.list h';rw[e]at e';cases e';rw[d]at d';injection d' with d1 _;have:its=its':=by simpa using congrArg Array.toList d1
 subst this;exact r.inj r'
def Inv.tuple_inj(I:Inv X pins σ H s)(h:iZ X.K H a xs)(h':iZ X.K H a ys):xs=ys:=by
 obtain⟨its,r,⟨o,e,_,n,d⟩,_⟩:=I.tuple h;obtain⟨its',r',⟨o',e',_,n',d'⟩,_⟩:=I.tuple h';rw[e]at e';cases e';rw[d]at d';injection d' with d1 _;have:its=its':=by simpa using congrArg Array.toList d1
 subst this;exact r.inj r'
end
abbrev Cx.wish(X:Cx)(E:Value->Shared->Prop):Cx:={ X with xe:=E }
abbrev Cx.nox(X:Cx):Cx:=X.wish λ_ _=>False
def Cx.Ok.wish{X:Cx}(ok:X.Ok)(E:Value->Shared->Prop):(X.wish E).Ok :=
 ⟨ok.mod,ok.kind,ok.glob,ok.blt,ok.above,ok.inj,ok.has,ok.cab,ok.hd,ok.frames,ok.stk,ok.exf,ok.bs,ok.bsz,ok.noex,ok.exfs,ok.funs,ok.frf⟩
def Cx.Ok.unwish{X:Cx}{E:Value->Shared->Prop}(ok:(X.wish E).Ok):X.Ok :=
 ⟨ok.mod,ok.kind,ok.glob,ok.blt,ok.above,ok.inj,ok.has,ok.cab,ok.hd,ok.frames,ok.stk,ok.exf,ok.bs,ok.bsz,ok.noex,ok.exfs,ok.funs,ok.frf⟩
section
variable {X:Cx}{pins:List (Addr×Obj)}{σ:St}{H:Hp}{s:Shared}{E:Value->Shared->Prop}
def Inv.wish(I:Inv X pins σ H s)(E:Value->Shared->Prop):Inv (X.wish E) pins σ H s:=⟨I.ok.wish E,I.os,I.bare,I.base,I.loc,I.cell,I.free,I.freeC,I.pin,I.hok,I.len⟩
def Inv.unwish(I:Inv (X.wish E) pins σ H s):Inv X pins σ H s:=⟨I.ok.unwish,I.os,I.bare,I.base,I.loc,I.cell,I.free,I.freeC,I.pin,I.hok,I.len⟩
def SP.unwish{D:gW}{f:Flow}{s':Shared}(h:SP (X.wish E) pins D f s'):SP X pins D f s':=by
 cases f with|next|brk|cont=>obtain⟨σ',H',I,q⟩:=h;exact⟨σ',H',I.unwish,q⟩|ret u=>obtain⟨v,σ',H',I,r,q⟩:=h;exact⟨v,σ',H',I.unwish,r,q⟩
def nI.nox{st:List Stmt}{t:TS}(h:nI X.nox st t):nI X st t:=λpins s σ H D I hw=>
 wpAny_mono (h pins s σ H D (I.wish _) hw) (λ_ _ q=>q.unwish) λ_ _ z=>False.elim z
end
section
variable {X:Cx}{st:Stmt}{rest:List Stmt}{t u:TS}{e:Expr}{te:TE}{pos:Pos}
def Jy:TS:=λD σ H=>D.nx σ H
def LB(t u:TS):TS:=λD σ H=>t { D with nx:=u D } σ H
def nt:nI X [] Jy:=λ_ _ σ H _ I h=>wpAny_execs_nil ⟨σ,H,I,h⟩
def c8(h1:PS X st t)(h2:nI X rest u):nI X (st::rest) (LB t u):=by
 intro pins s σ H D I h;refine wpAny_execs_cons (dy (h1 pins s σ H { D with nx:=u D } I h) λf s1 q=>?_);cases f with
 |next=>
  obtain⟨σ',H',I',q⟩:=q;exact h2 pins s1 σ' H' D I' q
 |ret v|brk|cont=>exact q
def Inv.quiet{pins:List (Addr×Obj)}{σ:St}{H:Hp}{s:Shared}(I:Inv X pins σ H s):interactive X.env=false:=by simp[interactive,I.ok.kind]
def Jz(te:TE):TS:=λD σ H=>te σ H λ_ H1=>D.nx σ H1
def gY(he:PE X e te)(hs:swapsWith e none pos.line X.env=pure false:=by rfl):PS X (.Expr e pos) (Jz te):=by
 intro pins s σ H D I h;exact wpAny_Expr_any (dy (he pins s σ H _ I h) λv s1 ⟨x,H1,I1,r1,q1⟩=>⟨σ,H1,I1,q1⟩) I.quiet hs
def LD(te:TE):TS:=λD σ H=>te σ H D.rt
def vF(he:PE X e te):PS X (.Return (some e) pos) (LD te):=by
 intro pins s σ H D I h;exact wpAny_Return_some (dy (he pins s σ H _ I h) λv s1 ⟨x,H1,I1,r1,q1⟩=>⟨x,σ,H1,I1,r1,q1⟩)
def LK(c:TT)(t u:TS):TS:=λD σ H=>c σ H λb H1=>if b=true then t D σ H1 else u D σ H1
def FP{c:Expr}{a b:List Stmt}{tc:TT}(hc:PT X c tc)(ha:nI X a t)(hb:nI X b u):PS X (.If c a b pos) (LK tc t u):=by
 intro pins s σ H D I h;refine wpAny_If (dy (hc pins s σ H _ I h) λd s1 z9=>?_);obtain⟨H1,I1,q1⟩:=z9;cases d with|true=>exact ha pins s1 σ H1 D I1 q1|false=>exact hb pins s1 σ H1 D I1 q1
end
abbrev TG:=V->St->Hp->(St->Hp->Prop)->Prop
abbrev CC:=al->St->Hp->(St->Hp->Prop)->Prop
noncomputable def PG(X:Cx) (target:Expr) (t:TG):Prop :=
 ∀(pins:List (Addr×Obj)) (s:Shared) (σ:St) (H:Hp) (v:V) (u:Value) (Q:St->Hp->Prop),Inv X pins σ H s->bY v u->t v σ H Q ->
  wpAny (model X.prog X.w) X.A (assign target X.env u) (λ_ s'=>∃σ' H',Inv X pins σ' H' s'/\Q σ' H') X.xe s
noncomputable def yH(X:Cx) (ts:List Expr) (t:CC):Prop :=
 ∀(pins:List (Addr×Obj)) (s:Shared) (σ:St) (H:Hp) (vs:al) (us:List Value) (Q:St->Hp->Prop),Inv X pins σ H s->bu vs us->t vs σ H Q ->
  wpAny (model X.prog X.w) X.A (assignInOrder ((assignEach ts X.env).map (·.2)) us) (λ_ s'=>∃σ' H',Inv X pins σ' H' s'/\Q σ' H') X.xe s
abbrev Jd:=V->V->V->Hp->(Hp->Prop)->Prop
noncomputable def K7(X:Cx) (t:Jd):Prop :=
 ∀(pins:List (Addr×Obj)) (s:Shared) (σ:St) (H:Hp) (o i v:V) (ov iv u:Value) (Q:Hp->Prop),Inv X pins σ H s->bY o ov->bY i iv->bY v u->t o i v H Q ->
  wpAny (model X.prog X.w) X.A (setItem ov iv u) (λ_ s'=>∃H',Inv X pins σ H' s'/\Q H') X.xe s
section
variable {X:Cx}{pos:Pos}
def Bt(i:Nat):TG:=λv σ H Q=>Q (σ.set i (some v)) H
def xF{i:Nat}{x:Str}(hN:X.N.Nodup)(hi:X.N[i]?=some x)(hx:zQ X.env.scope x)(hf:X.fn x=true∨X.env.scope.names.lookup x=some .local := by first|exact .inl rfl|exact .inr rfl|assumption):PG X (.Name x pos) (Bt i):=by
 intro pins s σ H v u Q I r h;exact wpAny_assign_Name (iI I hN hi hx r (λs' I'=>⟨_,H,I',h⟩) hf)
def Mf:CC:=λvs σ H Q=>vs=[]/\Q σ H
def Kp(t:TG)(u:CC):CC:=λvs σ H Q=>∃v r,vs=v::r/\t v σ H λσ' H'=>u r σ' H' Q
def Dy:yH X [] Mf:=by
 intro pins s σ H vs us Q I r h;obtain⟨e,h⟩:=h;subst e;cases r;exact assignInOrder_nil ⟨σ,H,I,h⟩
def AO{e:Expr}{es:List Expr}{t:TG}{u:CC}(h1:PG X e t)(h2:yH X es u)
  (hs:(assignEach (e::es) X.env).map (·.2)=assign e X.env::(assignEach es X.env).map (·.2):=by rfl):yH X (e::es) (Kp t u):=by
 intro pins s σ H vs us Q I r h;obtain⟨v,vr,e1,h⟩:=h;subst e1;cases r with
 |cons r rr=>
  rw[hs];refine assignInOrder_cons (dy (h1 pins s σ H _ _ _ I r h) λ_ s1 z9=>?_);obtain⟨σ1,H1,I1,q1⟩:=z9;exact h2 pins s1 σ1 H1 _ _ Q I1 rr q1
def Md(K:W.Frag)(n:Nat)(t:CC):TG:=λv σ H Q=>∃a xs,v=.ref a/\iZ K H a xs/\xs.length=n/\t xs σ H Q
def G1{es:List Expr}{k:Nat}{t:CC}{n:Nat}(hc:X.calm=true)(h:yH X es t)
  (hn:(assignEach es X.env).length=n:=by rfl)(hst:(assignEach es X.env).findIdx? (·.1)=none:=by rfl):PG X (.Tuple es k pos) (Md X.K n t):=by
 intro pins s σ H v u Q I r hw;obtain⟨a,xs,e1,hq,hl,hw⟩:=hw;subst e1;cases r;obtain⟨its,rv,ht,hz⟩:=I.tuple hq;refine assign_Tuple_tuple (I.ok.hd hc) ht (by simp[hn,←hl,rv.length]) hst λh' hx=>?_;have I1:Inv X pins σ H { s with heap:=h' }:=I.kept (t':=s.toks) λb o e=>hx b o (Nat.ne_of_lt (Heap.lt_size e)) e;exact h pins _ σ H xs _ Q I1 (by simpa using rv) hw
def Me(to ti:TE)(t:Jd):TG:=λv σ H Q=>to σ H λo H1=>ti σ H1 λi H2=>t o i v H2 λH3=>Q σ H3
def AQ{o i:Expr}{to ti:TE}{t:Jd}(ho:PE X o to)(hi:PE X i ti)(hs:K7 X t)
  (ha:∀v,assign (.Subscript o i pos) X.env v=(do
   let ov ←holding [v] (eval o X.env)
   let iv ←holding [v,ov] (eval i X.env)
   standAt pos
   holding [v,ov,iv] (setItem ov iv v)
   release [v,ov,iv] []):=by intro _;rfl):PG X (.Subscript o i pos) (Me to ti t):=by
 intro pins s σ H v u Q I r h;rw[ha];refine wpAny_bind (wpAny_holding (dy (ho pins s σ H _ I h) λov s1 ⟨x,H1,I1,r1,q1⟩=>?_));refine wpAny_bind (wpAny_holding (dy (hi pins s1 σ H1 _ I1 q1) λiv s2 ⟨y,H2,I2,r2,q2⟩=>?_));refine wpAny_bind (wpAny_standAt (wpAny_bind (wpAny_holding (dy (hs pins s2 σ H2 x y v ov iv u _ I2 r1 r2 r q2) λ_ s3 z9=>?_))));obtain⟨H3,I3,q3⟩:=z9;exact wpAny_release ⟨σ,H3,I3,q3⟩
def GG(te:TE)(g:TG):TS:=λD σ H=>te σ H λx H1=>g x σ H1 D.nx
def rO{tg e:Expr}{te:TE}{g:TG}(he:PE X e te)(hg:PG X tg g)(hs:swapsWithSole [tg] e pos.line X.env=pure false:=by rfl)(hw:swappedStores [tg] e X.env=pure none:=by rfl)
  (h1:(assignEach [tg] X.env).map (·.2)=[assign tg X.env]:=by rfl):PS X (.Assign [tg] e pos) (GG te g):=by
 intro pins s σ H D I h;refine wpAny_Assign_stores (dy (he pins s σ H _ I h) λv s1 z9=>?_) hs hw;obtain⟨x,H1,I1,r1,q1⟩:=z9;rw[h1];exact dy (hg pins s1 σ H1 x v _ I1 r1 q1) λ_ s2 q=>q
def rN{i:Nat}{x:Str}{e:Expr}{te:TE}{pos':Pos}(hN:X.N.Nodup)(hi:X.N[i]?=some x)(hx:zQ X.env.scope x)(he:PE X e te)(hs:swapsWith e (some (.Name x pos')) pos.line X.env=pure false:=by rfl)(hf:X.fn x=true∨X.env.scope.names.lookup x=some .local := by first|exact .inl rfl|exact .inr rfl|assumption) :
  PS X (.Assign [.Name x pos'] e pos) (GG te (Bt i)):=by
 intro pins s σ H D I h;refine wpAny_Assign_Name (dy (he pins s σ H _ I h) λv s1 z9=>?_) hs;obtain⟨y,H1,I1,r1,q1⟩:=z9;exact iI I1 hN hi hx r1 (λs2 I2=>⟨_,H1,I2,q1⟩) hf
def LF(i j:Nat)(ta:TA):TS:=λD σ H=>ta σ H λvs H1=>∃v w,vs=[v,w]/\D.nx ((σ.set i (some v)).set j (some w)) H1
def GY{i j:Nat}{x y:Str}{a b:Expr}{ta:TA}{px py pt:Pos}{kt k2 pt2}(hc:X.calm=true)(hN:X.N.Nodup)(hi:X.N[i]?=some x)(hj:X.N[j]?=some y)(hij:i≠j)
  (hx:X.env.scope.names.lookup x=some .local)(hy:X.env.scope.names.lookup y=some .local)(ha:PA X [a,b] ta)
  (hw:swappedStores [.Tuple [.Name x px,.Name y py] kt pt] (.Tuple [a,b] k2 pt2) X.env=pure (some [x,y]))
  (hs:swapsWithSole [.Tuple [.Name x px,.Name y py] kt pt] (.Tuple [a,b] k2 pt2) pos.line X.env=pure false:=by rfl) :
  PS X (.Assign [.Tuple [.Name x px,.Name y py] kt pt] (.Tuple [a,b] k2 pt2) pos) (LF i j ta):=by
 intro pins s σ H D I h;rw[exec_Assign_arm];refine wpAny_bind (wpAny_standAt ?_);rw[hs];refine wpAny_bind (wpAny_pure ?_);rw[if_neg (by decide)];refine wpAny_bind (Tuple_ (dy (ha _ pins s σ H _ I h) λus s1 z9=>?_));obtain⟨vs,H1,I1,r1,q1⟩:=z9;obtain⟨v,w,e1,q1⟩:=q1;subst e1;obtain⟨u1,u2,rfl,rv,rw'⟩:∃u1 u2,us=[u1,u2]/\bY v u1/\bY w u2:=by
  cases r1 with
  |cons p q=>
   cases q with
   |cons p' q'=>
    cases q';exact⟨_,_,rfl,p,p'⟩
 refine wpAny_newObj_type ?_ (by show 2<=sizeLine;decide);have I2:Inv X pins σ H1 { s1 with heap:=s1.heap.push { cls:=.type "tuple",data:=.seq [u1,u2].toArray } }:=I1.kept (t':=s1.toks) λb o e=>Heap.get?_push_of_some _ e;rw[hw];refine wpAny_bind (wpAny_pure ?_);show wpAny (model X.prog X.w) X.A (do rule "assign.swapped-stores";let items ←unpackItems (.ref s1.heap.objs.size) 2 none;assignInOrder [λv=>bindName X.env y v,λv=>bindName X.env x v] items.reverse;pure Flow.next) _ _ _;refine wpAny_bind (wpAny_rule (wpAny_bind (unpackItems_tuple (items:=#[u1,u2]) (I.ok.hd hc) (IsTup.new s1.heap _) λh' hx'=>?_)));have I3:=I2.kept (h':=h') (t':=s1.toks) λb o e=>hx' b o (Nat.ne_of_lt (Heap.lt_size e)) e;show wpAny _ _ (assignInOrder [λv=>bindName X.env y v,λv=>bindName X.env x v] [u2,u1] >>= λ_=>pure Flow.next) _ _ _;refine wpAny_bind (assignInOrder_cons (wpAny_bindName (iI I3 hN hj (.inl hy) rw' (λs2 I4=>?_) (.inr hy))));refine assignInOrder_cons (wpAny_bindName (iI I4 hN hi (.inl hx) rv (λs3 I5=>assignInOrder_nil (wpAny_pure ?_)) (.inr hx)));rw[List.set_comm _ _ (Ne.symm hij)]at I5;exact⟨_,H1,I5,q1⟩
end
section
variable {X:Cx}{pos:Pos}
def GD(c:TT)(tb:TS):TS:=λD σ H=>∃W:Nat->St->Hp->Prop,(∃m,W m σ H)/\∀m σ H,W m σ H ->
 c σ H λb H1=>if b=true then ∃N:St->Hp->Prop,(∀σ' H',N σ' H'->∃m',m' < m/\W m' σ' H')/\tb { D with nx:=N,ct:=N,bk:=D.nx } σ H1 else D.nx σ H1
def AK{c:Expr}{body:List Stmt}{tc:TT}{tb:TS}(hp:PassesOwn (model X.prog X.w) X.A X.env X.xe)(hc:PT X c tc)(hb:nI X body tb):PS X (.While c body [] pos) (GD tc tb):=by
 intro pins s σ H D I h;obtain⟨W,⟨m0,w0⟩,turn⟩:=h;refine wpAny_While (codeAny_whileLoop (λn s'=>∃σ' H',Inv X pins σ' H' s'/\W n σ' H') ?_ m0 ⟨σ,H,I,w0⟩);rintro n s1 ⟨σ1,H1,I1,w1⟩;refine wpAny_passesOwn hp (dy (hc pins s1 σ1 H1 _ I1 (turn n σ1 H1 w1)) λb s2 z9=>?_);obtain⟨H2,I2,q2⟩:=z9;cases b with
 |true=>
  obtain⟨N,hN,q2⟩:=q2;rw[if_pos rfl];refine wpAny_passesOwn hp (dy (hb pins s2 σ1 H2 _ I2 q2) λf s3 q3=>?_);cases f with
  |next=>
   obtain⟨σ3,H3,I3,n3⟩:=q3;obtain⟨m',hm,w3⟩:=hN σ3 H3 n3;exact⟨m',hm,σ3,H3,I3,w3⟩
  |cont=>
   obtain⟨σ3,H3,I3,n3⟩:=q3;obtain⟨m',hm,w3⟩:=hN σ3 H3 n3;exact⟨m',hm,σ3,H3,I3,w3⟩
  |brk|ret v=>exact q3
 |false=>
  rw[if_neg Bool.false_ne_true];exact wpAny_execs_nil ⟨σ1,H2,I2,q2⟩
end
structure It where
 go:Nat->Hp->Prop
 yld:Nat->Hp->V->Hp->Prop
 stop:Nat->Hp->Prop
def mx(X:Cx)(pins:List (Addr×Obj))(H:Hp)(b:Addr):Prop :=
 H b=none/\b≠X.env.locals/\b∉X.fs/\(b∈X.ex∨X.sf.heap.objs.size<=b)/\(∀x c,X.env.cells.lookup x=some c->c≠b)/\∀p∈X.pn++pins,p.1≠b
def Inv.fpOk{X:Cx}{pins:List (Addr×Obj)}{σ:St}{H H':Hp}{s:Shared}{b:Addr}(I:Inv X pins σ H s)(hb:s.heap.objs.size<=b)(hn:H' b=none):mx X pins H' b:=by
 refine⟨hn,Nat.ne_of_gt (Nat.lt_of_lt_of_le I.lt hb),I.nofs hb,.inr (Nat.le_trans I.sz hb),λx c e z=>?_,λp hp z=>?_⟩
 .obtain⟨v,q⟩:=I.cell x c e
  exact absurd (Nat.lt_of_lt_of_le q.lt (by rw[z];exact hb)) (Nat.lt_irrefl _)
 .exact absurd (Nat.lt_of_lt_of_le (Heap.lt_size (I.pin p hp).1) (by rw[z];exact hb)) (Nat.lt_irrefl _)
structure zK (P:Program) (w:World) (K:W.Frag) (tg:Expr) (J:It) (fp:List Addr) (it:Addr) (tn:Nat->Heap->Prop):Prop where
 mem:it∈fp
 obj:∀i h,tn i h->∀b∈fp,∃o,h.get? b=some o/\∀v,o.data≠.cell v
 keep:∀i h h',tn i h->(∀b∈fp,∀o,h.get? b=some o->h'.get? b=some o)->tn i h'
 item:∀(X:Cx),X.prog=P->X.w=w->X.K=K->X.calm=true->∀(i:Nat) (pins:List (Addr×Obj)) (s:Shared) (σ:St) (H:Hp) (E:Value->Shared->Prop),Inv X pins σ H s->(∀b∈fp,mx X pins H b)->tn i s.heap->J.go i H ->
  wpAny (model P w) X.A (pyNext (.ref it)) (λr s1=>∃u,r=some u /\
   wpAny (model P w) X.A (letOwnedTupleGo tg (.ref it) u) (λ_ s2=>∃x H',Inv X pins σ H' s2/\bY x u/\J.yld i H x H'/\tn (i+1) s2.heap/\∀b∈fp,H' b=none) E s1) E s
 done:∀(X:Cx),X.prog=P->X.w=w->X.K=K->X.calm=true->∀(i:Nat) (pins:List (Addr×Obj)) (s:Shared) (σ:St) (H:Hp) (E:Value->Shared->Prop),Inv X pins σ H s->(∀b∈fp,mx X pins H b)->tn i s.heap->J.stop i H ->
  wpAny (model P w) X.A (pyNext (.ref it)) (λr s1=>r=none/\Inv X pins σ H s1) E s
 self:∀(A:Around) (i:Nat) (s:Shared) (Q:Value->Shared->Prop) (E:Value->Shared->Prop),tn i s.heap->Q (.ref it) s->wpAny (model P w) A (pyIter (.ref it)) Q E s
abbrev TI:=St->Hp->(It->Hp->Prop)->Prop
noncomputable def Mp(X:Cx) (pins:List (Addr×Obj)) (σ:St) (tg:Expr) (R:It->Hp->Prop) (itv:Value) (s2:Shared):Prop :=
 ∃(it:Addr) (fp:List Addr) (tn:Nat->Heap->Prop) (J:It) (H':Hp),itv=.ref it/\Inv X pins σ H' s2/\zK X.prog X.w X.K tg J fp it tn/\tn 0 s2.heap/\(∀b∈fp,mx X pins H' b)/\R J H'
noncomputable def PI(X:Cx) (tg iter:Expr) (wi:TI):Prop :=
 ∀(pins:List (Addr×Obj)) (s:Shared) (σ:St) (H:Hp) (R:It->Hp->Prop),Inv X pins σ H s->wi σ H R ->
  wpAny (model X.prog X.w) X.A (eval iter X.env) (λv s1=>wpAny (model X.prog X.w) X.A (pyIter v) (Mp X pins σ tg R) X.xe s1) X.xe s
def yb{M:Model}{A:Around}{E:Value->Shared->Prop}{s:Shared}{tg:Expr}{it:Addr}{u:Value}{o:Obj}{n:String}{vs:Array Value}{Q:Unit->Shared->Prop}(ho:s.heap.get? it=some o)(hc:o.cls=.type n)(hd:o.data=.fields vs)
  (hn:["enumerate","zip","dict_itemiterator","dict_reverseitemiterator","odict_iterator","itertools.zip_longest","itertools.pairwise"].contains n=false)(hQ:Q () s):wpAny M A (letOwnedTupleGo tg (.ref it) u) Q E s:=by
 unfold letOwnedTupleGo;cases tg<;>first
  |exact wpAny_pure hQ
  |(cases u<;>first
    |exact wpAny_pure hQ
    |(refine wpAny_bind (wpAny_load ho ?_);rw[hc,hd];show wpAny M A (if(["enumerate","zip","dict_itemiterator","dict_reverseitemiterator","odict_iterator","itertools.zip_longest","itertools.pairwise"].contains n&&vs[0]?==some (rawInt _))=true then _ else _) Q E s;rw[if_neg (by intro h;rw[hn,Bool.false_and]at h;cases h)];exact wpAny_pure hQ))
def MI(K:W.Frag)(a:Addr):It :=
 ⟨λi H=>∃xs x,fL K H a xs/\xs[i]?=some x,λi H x H'=>H'=H/\∀xs,fL K H a xs->xs[i]?=some x,λi H=>∃xs,fL K H a xs/\xs.length<=i⟩
def Jm(lo:Int)(n:Nat):It:=⟨λi _=>i<n,λi H x H'=>H'=H/\x=.int (lo+i),λi _=>n<=i⟩
def yN{P:Program}{w:World}{K:W.Frag}{tg:Expr}(a it:Addr):zK P w K tg (MI K a) [it] it (λi h=>h.IsListIter it a i) where
 mem:=by simp
 obj:=λi h st b hb=>by
  have e:b=it:=by simpa using hb
  subst e;obtain⟨o,e,c,d⟩:=st;exact⟨o,e,λv z=>by rw[d]at z;cases z⟩
 keep:=λi h h' st k=>st.at λo e=>k it (by simp) o e
 item:=by
  intro X hP hw hK hc i pins s σ H E I hf st hg;subst hP hw hK;obtain⟨xs,x,hq,hx⟩:=hg;obtain⟨its,rv,p,hz⟩:=I.list hq;obtain⟨u,hu,ru⟩:=rv.get hx;obtain⟨f0,f1,f2,f3,f4,f5⟩:=hf it (by simp);refine wpAny_pyNext_list_item st p.isList (x:=u) (by simpa using hu) λh' st' sb=>?_;have I1:Inv X pins σ H { s with heap:=h' }:=I.turned (t':=s.toks) (λb o hb e=>(sb.2 b hb).trans e) f0 f1 f3 f4 f5;obtain⟨o,e,c,d⟩:=id st';exact⟨u,rfl,yb (s:={ s with heap:=h' }) e c d (by decide) ⟨x,H,I1,ru,⟨rfl,λys hy=>by rw[I.list_inj hy hq];exact hx⟩,st',λb hb=>(hf b hb).1⟩⟩
 done:=by
  intro X hP hw hK hc i pins s σ H E I hf st hg;subst hP hw hK;obtain⟨xs,hq,hx⟩:=hg;obtain⟨its,rv,p,hz⟩:=I.list hq;obtain⟨f0,f1,f2,f3,f4,f5⟩:=hf it (by simp);have hl:=rv.length;exact wpAny_pyNext_list_end (I.ok.hd hc) st p.isList (by simp;omega) λh' eb=>⟨rfl,I.turned (t':=s.toks) (λb o hb e=>eb b o hb e) f0 f1 f3 f4 f5⟩
 self:=λ_ _ _ _ _ st h=>wpAny_pyIter_listiter st h
def vp{P:Program}{w:World}{K:W.Frag}{tg:Expr}(it:Addr)(lo:Int)(n:Nat):zK P w K tg (Jm lo n) [it] it (λi h=>IsRangeIter h it (lo+(i:Nat)*1) ((n:Int)-(i:Nat)) 1) where
 mem:=by simp
 obj:=λi h st b hb=>by
  have e:b=it:=by simpa using hb
  subst e;exact⟨_,st,λv z=>by
   have z':Data.fields _=Data.cell v:=z;cases z'⟩
 keep:=λi h h' st k=>k it (by simp) _ st
 item:=by
  intro X hP hw hK hc i pins s σ H E I hf st hg;subst hP hw hK;obtain⟨f0,f1,f2,f3,f4,f5⟩:=hf it (by simp);have W:=Walks.range (prog:=X.prog) (w:=X.w) (I.ok.hd hc) it lo 1 n;refine W.item i s _ _ hg st λv h' tk hv st' kk=>?_;obtain⟨t,rfl⟩:=hv;have I1:Inv X pins σ H { s with heap:=h',toks:=tk }:=I.turned (λb o hb e=>kk b o (by simpa using hb) e) f0 f1 f3 f4 f5;refine⟨_,rfl,yb (s:={ s with heap:=h',toks:=tk }) (n:="range_iterator") st' rfl rfl (by decide) ⟨.int (lo+i),H,I1,⟨t,?_⟩,⟨rfl,rfl⟩,st',λb hb=>(hf b hb).1⟩⟩;rw[Int.mul_one]
 done:=by
  intro X hP hw hK hc i pins s σ H E I hf st hg;subst hP hw hK;obtain⟨f0,f1,f2,f3,f4,f5⟩:=hf it (by simp);exact wpAny_pyNext_range_end (I.ok.hd hc) st (by have:n<=i:=hg;omega) λh' eb=>⟨rfl,I.turned (t':=s.toks) (λb o hb e=>eb b o hb e) f0 f1 f3 f4 f5⟩
 self:=λ_ _ _ _ _ st h=>wpAny_pyIter_rangeiter st h
section
variable {X:Cx}{tg:Expr}
def Kn(K:W.Frag)(tl:TE):TI:=λσ H R=>tl σ H λx H1=>∃a,x=.ref a/\(∃xs,fL K H1 a xs)/\R (MI K a) H1
def Dw{l:Expr}{tl:TE}(hl:PE X l tl):PI X tg l (Kn X.K tl):=by
 intro pins s σ H R I h;refine dy (hl pins s σ H _ I h) λv s1 ⟨x,H1,I1,r1,q1⟩=>?_;obtain⟨a,e,⟨xs,hq⟩,q⟩:=q1;subst e;cases r1;obtain⟨its,rv,p,hz⟩:=I1.list hq;refine wpAny_pyIter_list p.isList ?_;refine⟨s1.heap.objs.size,[s1.heap.objs.size],_,_,H1,rfl,I1.kept (t':=s1.toks) λb o e=>Heap.get?_push_of_some _ e,yN a _,⟨_,Heap.get?_push_size _ rfl,rfl,rfl⟩,λb hb=>?_,q⟩;have e:b=s1.heap.objs.size:=by simpa using hb
 subst e;exact I1.fpOk (Nat.le_refl _) (I1.hok.fresh (Nat.le_refl _))
def AG{pins:List (Addr×Obj)}{σ:St}{H:Hp}{s:Shared}{R:It->Hp->Prop}{E:Value->Shared->Prop}{lo hi:Int}{t u v:Tok}{tk:Nat}(I:Inv X pins σ H s)(h1:-(2 ^ 62)<=lo)(h2:lo<2 ^ 62)(h3:-(2 ^ 62)<=hi)(h4:hi<2 ^ 62)
  (q:R (Jm lo (hi-lo).toNat) H):wpAny (model X.prog X.w) X.A (pyIter (.ref s.heap.objs.size)) (Mp X pins σ tg R) E { s with heap:=s.heap.push { cls:=.type "range",data:=.fields #[.int lo t,.int hi u,.int 1 v] },toks:=tk }:=by
 refine wpAny_pyIter_range (IsRange.new ..) (small_one h1 h2 h3 h4) ?_;have I1:Inv X pins σ H { s with heap:=s.heap.push { cls:=.type "range",data:=.fields #[.int lo t,.int hi u,.int 1 v] },toks:=tk }:=I.kept λb o e=>Heap.get?_push_of_some _ e;refine⟨(s.heap.push { cls:=.type "range",data:=.fields #[.int lo t,.int hi u,.int 1 v] }).objs.size,[(s.heap.push { cls:=.type "range",data:=.fields #[.int lo t,.int hi u,.int 1 v] }).objs.size],_,_,H,rfl,
  I1.kept (t':=tk) λb o e=>Heap.get?_push_of_some _ e,vp _ lo (hi-lo).toNat,?_,λb hb=>?_,q⟩
 .have e1:lo+((0:Nat):Int)*1=lo:=by simp
  have e2:(((hi-lo).toNat:Nat):Int)-((0:Nat):Int)=Builtin.Range.rangeSize lo hi 1:=by rw[rangeSize_one];split<;>omega
  show IsRangeIter _ _ (lo+((0:Nat):Int)*1) ((((hi-lo).toNat:Nat):Int)-((0:Nat):Int)) 1;rw[e1,e2];exact Heap.get?_push_size _ rfl
 .have e:b=(s.heap.push { cls:=.type "range",data:=.fields #[.int lo t,.int hi u,.int 1 v] }).objs.size:=by simpa using hb
  subst e;exact I1.fpOk (Nat.le_refl _) (I1.hok.fresh (Nat.le_refl _))
def Km(ta:TA):TI:=λσ H R=>ta σ H λvs H1=>∃j:Int,vs=[.int j]/\-(2 ^ 62)<=j/\j<2 ^ 62/\R (Jm 0 j.toNat) H1
def y8{a:Expr}{ta:TA}{p pos:Pos}(hg:Gl X "range")(hm:X.mg "range"=none)(ha:PA X [a] ta)(hs:starEach [a] X.env=[(false,eval a X.env)]:=by rfl):PI X tg (.Call (.Name "range" p) [a] [] pos) (Km ta):=by
 intro pins s σ H R I h;refine Call_ (oJ I hg hm boot_range (PyProof.Rows.callWith_type1 (dy (ha pos pins s σ H _ I h) λus s1 z9=>?_) hs rfl));obtain⟨vs,H1,I1,r1,q1⟩:=z9;obtain⟨j,e,q1,q2,q⟩:=q1;subst e;cases r1 with
 |cons r rr=>
  cases rr;obtain⟨t,rfl⟩:=r;exact call_range_1 (AG I1 (by omega) (by omega) q1 q2 (by simpa using q))
noncomputable def LL(wi:TI) (g:TG) (tb:TS):TS:=λD σ H=>wi σ H λJ H1=>∃W:Nat->Nat->St->Hp->Prop,(∃m,W 0 m σ H1)/\∀i m σ H,W i m σ H ->
 (J.stop i H/\D.nx σ H)∨(J.go i H/\∃N:St->Hp->Prop,(∀σ' H',N σ' H'->∃m',m' < m/\W (i+1) m' σ' H')/\∀x H',J.yld i H x H'->g x σ H' λσ2 H2=>tb { D with nx:=N,ct:=N,bk:=D.nx } σ2 H2)
def oq(fp:List Addr)(h:Heap):List (Addr×Obj):=fp.filterMap λb=>(h.get? b).map λo=>(b,o)
def jf{fp:List Addr}{h:Heap}{b:Addr}{o:Obj}(hb:b∈fp)(e:h.get? b=some o):(b,o)∈oq fp h:=List.mem_filterMap.mpr ⟨b,hb,by rw[e];rfl⟩
def zd{fp:List Addr}{h:Heap}{p:Addr×Obj}(hp:p∈oq fp h):p.1∈fp/\h.get? p.1=some p.2:=by
 obtain⟨b,hb,e⟩:=List.mem_filterMap.mp hp;cases q:h.get? b with
 |none=>rw[q]at e;cases e
 |some o=>
  rw[q]at e;have e':(b,o)=p:=Option.some.inj e;subst e';exact⟨hb,q⟩
def Inv.pinned{pins:List (Addr×Obj)}{σ:St}{H:Hp}{s:Shared}{fp:List Addr}(I:Inv X pins σ H s)(hf:∀b∈fp,mx X pins H b)(ho:∀b∈fp,∃o,s.heap.get? b=some o/\∀v,o.data≠.cell v):Inv X (pins++oq fp s.heap) σ H s :=
 I.pins_of λp hp=>(List.mem_append.mp hp).elim (λz=>I.pin p (List.mem_append_right _ z)) λz=>by
  obtain⟨hb,e⟩:=zd z;obtain⟨f0,f1,f2,_⟩:=hf p.1 hb;obtain⟨o,e',d⟩:=ho p.1 hb;rw[e]at e';cases e';exact⟨e,f0,f1,f2,d⟩
def Inv.unpinned{pins pl:List (Addr×Obj)}{σ:St}{H:Hp}{s:Shared}(I:Inv X (pins++pl) σ H s):Inv X pins σ H s:=I.pins_of λp hp=>I.pin p (List.mem_append_right _ (List.mem_append_left _ hp))
def AL{iter:Expr}{body:List Stmt}{wi:TI}{g:TG}{tb:TS}{pos:Pos}(hp:PassesOwn (model X.prog X.w) X.A X.env X.xe)(hc:X.calm=true)(hi:PI X tg iter wi)(hg:PG X tg g)(hb:nI X body tb)
  (hs:∀x,foldedSetIterable iter X.env x=pure x:=by intro _;rfl):PS X (.For tg iter body [] pos) (LL wi g tb):=by
 intro pins s σ H D I h;refine wpAny_For (dy (hi pins s σ H _ I h) λv s1 h1=>dy h1 λitv s2 h2=>?_) hs;obtain⟨it,fp,tn,J,H2,e,I2,T,st2,f2,W,⟨m0,w0⟩,turn⟩:=h2;subst e;have stat:∀{H':Hp},(∀b∈fp,H' b=none)->∀b∈fp,mx X pins H' b:=λhn b hb=>⟨hn b hb,(f2 b hb).2⟩
 refine codeAny_forLoop_any (λn s'=>∃i σ' H',Inv X pins σ' H' s'/\tn i s'.heap/\(∀b∈fp,H' b=none)/\W i n σ' H') ?_ m0 ⟨0,σ,H2,I2,st2,λb hb=>(f2 b hb).1,w0⟩;rintro n s3 ⟨i,σ3,H3,I3,st3,fr3,w3⟩;rcases turn i n σ3 H3 w3 with⟨stop,qn⟩|⟨go,N,hN,step⟩
 .refine wpAny_passesOwn hp (dy (T.done X rfl rfl rfl hc i pins s3 σ3 H3 X.xe I3 (stat fr3) st3 stop) λr s4 ⟨hr,I4⟩=>?_)
  subst hr;exact wpAny_execs_nil ⟨σ3,H3,I4,qn⟩
 .refine wpAny_passesOwn hp (dy (T.item X rfl rfl rfl hc i pins s3 σ3 H3 X.xe I3 (stat fr3) st3 go) λr s4 ⟨u,hr,h4⟩=>?_)
  subst hr;refine wpAny_passesOwn hp (dy h4 λ_ s5 ⟨x,H5,I5,r5,y5,st5,fr5⟩=>?_);have I5':=I5.pinned (stat fr5) (T.obj _ _ st5);refine wpAny_passesOwn hp (dy (hg _ s5 σ3 H5 x u _ I5' r5 (step x H5 y5)) λ_ s6 ⟨σ6,H6,I6,q6⟩=>?_);refine wpAny_passesOwn hp (dy (hb _ s6 σ6 H6 _ I6 q6) λf s7 q7=>?_);have again:∀{σ7:St}{H7:Hp},Inv X (pins++oq fp s5.heap) σ7 H7 s7->N σ7 H7->∃m,m<n/\∃i σ' H',Inv X pins σ' H' s7/\tn i s7.heap/\(∀b∈fp,H' b=none)/\W i m σ' H':=λ{σ7 H7} I7 n7=>by
   obtain⟨m',hm,w7⟩:=hN σ7 H7 n7;refine⟨m',hm,i+1,σ7,H7,I7.unpinned,T.keep _ _ _ st5 λb hb o e=>(I7.pin (b,o) (List.mem_append_right _ (List.mem_append_right _ (jf hb e)))).1,λb hb=>?_,w7⟩;obtain⟨o,e,d⟩:=T.obj _ _ st5 b hb;exact(I7.pin (b,o) (List.mem_append_right _ (List.mem_append_right _ (jf hb e)))).2.1
  cases f with|next|cont=>obtain⟨σ7,H7,I7,n7⟩:=q7;exact again I7 n7|brk=>obtain⟨σ7,H7,I7,q7⟩:=q7;exact⟨σ7,H7,I7.unpinned,q7⟩|ret v=>obtain⟨x7,σ7,H7,I7,r7,q7⟩:=q7;exact⟨x7,σ7,H7,I7.unpinned,r7,q7⟩
end
def zm{lo:Int}{n:Nat}{g:TG}{tb:TS}{D:gW}{σ:St}{H:Hp}(Pv:Nat->St->Hp->Prop)(h0:Pv 0 σ H)
  (hs:∀i σ H,i<n->Pv i σ H->g (.int (lo+i)) σ H λσ2 H2=>tb { D with nx:=Pv (i+1),ct:=Pv (i+1),bk:=D.nx } σ2 H2)(hd:∀σ H,Pv n σ H->D.nx σ H) :
  ∃W:Nat->Nat->St->Hp->Prop,(∃m,W 0 m σ H)/\∀i m σ H,W i m σ H ->
   ((Jm lo n).stop i H/\D.nx σ H)∨((Jm lo n).go i H/\∃N:St->Hp->Prop,(∀σ' H',N σ' H'->∃m',m' < m/\W (i+1) m' σ' H')/\∀x H',(Jm lo n).yld i H x H'->g x σ H' λσ2 H2=>tb { D with nx:=N,ct:=N,bk:=D.nx } σ2 H2):=by
 refine⟨λi m σ H=>m=n-i/\i<=n/\Pv i σ H,⟨n,by simp,Nat.zero_le _,h0⟩,?_⟩;rintro i m σ H ⟨rfl,hi,p⟩
 by_cases hlt:i<n
 .refine .inr ⟨hlt,Pv (i+1),λσ' H' p'=>⟨n-(i+1),by omega,rfl,hlt,p'⟩,λx H' y=>?_⟩
  obtain⟨e,y⟩:=y;subst e y;exact hs i σ _ hlt p
 .have e:i=n:=by omega
  subst e;exact .inl ⟨Nat.le_refl _,hd σ H p⟩
abbrev R2:=V->V->Hp->VK->Prop
def gf(X:Cx)(f:Value->Value->Sem Value)(r:R2):Prop :=
 ∀(pins:List (Addr×Obj)) (s:Shared) (σ:St) (H:Hp) (x y:V) (v u:Value) (Q:VK),Inv X pins σ H s->bY x v->bY y u->r x y H Q ->
  wpAny (model X.prog X.w) X.A (f v u) (EP X pins σ Q) X.xe s
def Ln(X:Cx)(f:Value->Sem Value)(r:V->Hp->VK->Prop):Prop :=
 ∀(pins:List (Addr×Obj)) (s:Shared) (σ:St) (H:Hp) (x:V) (v:Value) (Q:VK),Inv X pins σ H s->bY x v->r x H Q ->
  wpAny (model X.prog X.w) X.A (f v) (EP X pins σ Q) X.xe s
def jG(X:Cx)(f:Value)(r:al->Hp->VK->Prop):Prop :=
 ∀(pins:List (Addr×Obj)) (s:Shared) (σ:St) (H:Hp) (xs:al) (us:List Value) (Q:VK),Inv X pins σ H s->bu xs us->r xs H Q ->
  wpAny (model X.prog X.w) X.A (call f us) (EP X pins σ Q) X.xe s
def Nd(X:Cx)(r:V->Hp->(Bool->Hp->Prop)->Prop):Prop :=
 ∀(pins:List (Addr×Obj)) (s:Shared) (σ:St) (H:Hp) (x:V) (v:Value) (Q:Bool->Hp->Prop),Inv X pins σ H s->bY x v->r x H Q ->
  wpAny (model X.prog X.w) X.A (truthy v) (TP X pins σ Q) X.xe s
def Ji(r:R2)(ta tb:TE):TE:=λσ H Q=>ta σ H λx H1=>tb σ H1 λy H2=>r x y H2 Q
def MS(r:V->Hp->VK->Prop)(ta:TE):TE:=λσ H Q=>ta σ H λx H1=>r x H1 Q
def rI(C:Int->Int->Prop)(g:Int->Int->V):R2:=λx y H Q=>∃i j,x=.int i/\y=.int j/\C i j/\Q (g i j) H
def CA(g:Int->Int->V):R2:=λx y H Q=>∃i j,x=.int i/\y=.int j/\Q (g i j) H
def rU(g:Int->V):V->Hp->VK->Prop:=λx H Q=>∃i,x=.int i/\Q (g i) H
section
variable {X:Cx}{a b c:Expr}{ta tb tc:TE}{pos:Pos}
def IV(ha:PE X a ta)(hb:PE X b tb){pins:List (Addr×Obj)}{s:Shared}{σ:St}{H:Hp}{R:V->V->Hp->Prop}(I:Inv X pins σ H s)
  (h:ta σ H λx H1=>tb σ H1 λy H2=>R x y H2){Q:Value->Shared->Prop}{f:Value->Value->Sem Value}
  (hf:∀v u s2 x y H2,Inv X pins σ H2 s2->bY x v->bY y u->R x y H2->wpAny (model X.prog X.w) X.A (f v u) Q X.xe s2) :
  wpAny (model X.prog X.w) X.A (eval a X.env) (λv sg=>wpAny (model X.prog X.w) X.A (eval b X.env) (λu si=>wpAny (model X.prog X.w) X.A (f v u) Q X.xe si) X.xe sg) X.xe s:=by
 refine dy (ha pins s σ H _ I h) λv s1 ⟨x,H1,I1,r1,q1⟩=>?_;refine dy (hb pins s1 σ H1 _ I1 q1) λu s2 ⟨y,H2,I2,r2,q2⟩=>?_;exact hf v u s2 x y H2 I2 r1 r2 q2
def AS{op:Operator}{r:R2}(ho:gf X (binaryOp op) r)(ha:PE X a ta)(hb:PE X b tb):PE X (.BinOp a op b pos) (Ji r ta tb):=by
 intro pins s σ H Q I h;exact wpAny_BinOp (IV ha hb I h λv u s2 x y H2 I2 rx ry q=>ho pins s2 σ H2 x y v u Q I2 rx ry q)
def J4{op:UnaryOp}{r:V->Hp->VK->Prop}(ho:Ln X (unaryOp op) r)(ha:PE X a ta):PE X (.UnaryOp op a pos) (MS r ta):=by
 intro pins s σ H Q I h;exact UnaryOp_ (dy (ha pins s σ H _ I h) λv s1 ⟨x,H1,I1,r1,q1⟩=>ho pins s1 σ H1 x v Q I1 r1 q1)
def Lh{f:Value->Value->Sem Value}{C:Int->Int->Prop}{g:Int->Int->Int}
  (rule:∀(i j:Int) (t u:Tok) (s:Shared) (Q:Value->Shared->Prop) (E:Value->Shared->Prop),C i j->Q (.int (g i j) s.toks) { s with toks:=s.toks+1 }->wpAny (model X.prog X.w) X.A (f (.int i t) (.int j u)) Q E s) :
  gf X f (rI C λi j=>.int (g i j)):=by
 intro pins s σ H x y v u Q I rx ry h;obtain⟨i,j,rfl,rfl,hc,q⟩:=h;obtain⟨t,rfl⟩:=rx;obtain⟨t',rfl⟩:=ry;exact rule i j t t' s _ _ hc ⟨.int (g i j),H,I.tok _,⟨_,rfl⟩,q⟩
def J8{f:Value->Value->Sem Value}{g:Int->Int->Int}
  (rule:∀(i j:Int) (t u:Tok) (s:Shared) (Q:Value->Shared->Prop) (E:Value->Shared->Prop),Q (.int (g i j) s.toks) { s with toks:=s.toks+1 }->wpAny (model X.prog X.w) X.A (f (.int i t) (.int j u)) Q E s) :
  gf X f (CA λi j=>.int (g i j)):=by
 intro pins s σ H x y v u Q I rx ry h;obtain⟨i,j,rfl,rfl,q⟩:=h;obtain⟨t,rfl⟩:=rx;obtain⟨t',rfl⟩:=ry;exact rule i j t t' s _ _ ⟨.int (g i j),H,I.tok _,⟨_,rfl⟩,q⟩
def DN{f:Value->Value->Sem Value}{g:Int->Int->Bool}
  (rule:∀(i j:Int) (t u:Tok) (s:Shared) (Q:Value->Shared->Prop) (E:Value->Shared->Prop),Q (.bool (g i j)) s->wpAny (model X.prog X.w) X.A (f (.int i t) (.int j u)) Q E s) :
  gf X f (CA λi j=>.bl (g i j)):=by
 intro pins s σ H x y v u Q I rx ry h;obtain⟨i,j,rfl,rfl,q⟩:=h;obtain⟨t,rfl⟩:=rx;obtain⟨t',rfl⟩:=ry;exact rule i j t t' s _ _ ⟨.bl (g i j),H,I,rfl,q⟩
def Mw(i j:Int):Prop:=0<=j/\j<=1000000/\i.natAbs<2 ^ 64
def Lf(i j:Int):Prop:=(-(2 ^ 64)<i/\i<2 ^ 64)∨(-(2 ^ 64)<j/\j<2 ^ 64)
def Lf.ok{i j:Int}(h:Lf i j):IntMulOk i j:=by
 rcases h with⟨h1,h2⟩|⟨h1,h2⟩
 .exact .of_left (intBits_le_64 h1 h2)
 .exact .of_right (intBits_le_64 h1 h2)
def Hd:gf X (binaryOp .Add) (CA λi j=>.int (i+j)):=J8 λ_ _ _ _ _ _ _ q=>add_int q
def G7:gf X (binaryOp .Sub) (CA λi j=>.int (i-j)):=J8 λ_ _ _ _ _ _ _ q=>sub_int q
def DH:gf X (binaryOp .Mod) (rI (λ_ j=>j≠0) λi j=>.int (i.fmod j)):=Lh λ_ _ _ _ _ _ _ hc q=>mod_int' hc q
def G9:gf X (binaryOp .Pow) (rI Mw λi j=>.int (i ^ j.toNat)):=Lh λ_ _ _ _ _ _ _ hc q=>pow_int_small hc.1 hc.2.1 hc.2.2 q
def MP{f:Value->Sem Value}{g:Int->Int}
  (rule:∀(i:Int) (t:Tok) (s:Shared) (Q:Value->Shared->Prop) (E:Value->Shared->Prop),Q (.int (g i) s.toks) { s with toks:=s.toks+1 }->wpAny (model X.prog X.w) X.A (f (.int i t)) Q E s) :
  Ln X f (rU λi=>.int (g i)):=by
 intro pins s σ H x v Q I rx h;obtain⟨i,rfl,q⟩:=h;obtain⟨t,rfl⟩:=rx;exact rule i t s _ _ ⟨.int (g i),H,I.tok _,⟨_,rfl⟩,q⟩
def Gv:Ln X (unaryOp .USub) (rU λi=>.int (-i)):=MP λ_ _ _ _ _ q=>neg_int q
end
section
variable {X:Cx}{a b c:Expr}{ta tb tc:TE}{pos:Pos}
def Bz{pins:List (Addr×Obj)}{σ:St}{H:Hp}{s:Shared}{Q:VK}{k k':Bool}(I:Inv X pins σ H s)(q:Q (.bl k) H)(e:k=k'):EP X pins σ Q (.bool k') s:=by
 subst e;exact⟨.bl k,H,I,rfl,q⟩
def gZ:gf X (compareOp .Lt) (CA λi j=>.bl (decide (i<j))):=DN λ_ _ _ _ _ _ _ q=>lt_int q
def ue:gf X (compareOp .LtE) (CA λi j=>.bl (decide (i<=j))):=DN λ_ _ _ _ _ _ _ q=>le_int q
def jQ:gf X (compareOp .Gt) (CA λi j=>.bl (decide (j<i))):=DN λ_ _ _ _ _ _ _ q=>gt_int q
def uf:gf X (compareOp .GtE) (CA λi j=>.bl (decide (j<=i))):=DN λ_ _ _ _ _ _ _ q=>ge_int q
def zb:gf X (compareOp .In) (λx y H Q=>∃i j,x=.str i/\y=.str j/\Q (.bl (!(Builtin.Str.occurrences j i 0 j.length 1).isEmpty)) H):=by
 intro pins s σ H x y v u Q I rx ry h;obtain⟨i,j,rfl,rfl,q⟩:=h;obtain⟨t,rfl⟩:=rx;obtain⟨t',rfl⟩:=ry;exact in_str (Bz I q rfl)
def vM:gf X (compareOp .Is) (λx y H Q=>y=.non/\Q (.bl (decide (x=.non))) H):=by
 intro pins s σ H x y v u Q I rx ry h;obtain⟨rfl,q⟩:=h;cases ry;refine is_none_gen (Bz I q ?_);cases x<;>first
  |(cases rx;rfl)
  |(obtain⟨t,rfl⟩:=rx;rfl)
def gf.or{f:Value->Value->Sem Value}{r r':R2}(h:gf X f r)(h':gf X f r'):gf X f (λx y H Q=>r x y H Q∨r' x y H Q):=by
 intro pins s σ H x y v u Q I rx ry q;rcases q with q|q
 .exact h pins s σ H x y v u Q I rx ry q
 .exact h' pins s σ H x y v u Q I rx ry q
def DB{op:CmpOp}{r:R2}(ho:gf X (compareOp op) r)(ha:PE X a ta)(hb:PE X b tb)(hm:behindInMarks op b=false):PE X (.Compare a [op] [b] pos) (Ji r ta tb):=by
 intro pins s σ H Q I h;exact wpAny_Compare1 (IV ha hb I h λv u s2 x y H2 I2 rx ry q=>ho pins s2 σ H2 x y v u Q I2 rx ry q) hm
def FH(t:TE):TT:=λσ H Q=>t σ H λx H'=>∃k,x=.bl k/\Q k H'
def xD{op:CmpOp}{r:R2}(ho:gf X (compareOp op) r)(ha:PE X a ta)(hb:PE X b tb)(hm:behindInMarks op b=false):PT X (.Compare a [op] [b] pos) (FH (Ji r ta tb)):=by
 intro pins s σ H Q I h;refine wpAny_isTrue_Compare1 (dy (ha pins s σ H _ I h) λv s1 ⟨x,H1,I1,r1,q1⟩=>dy (hb pins s1 σ H1 _ I1 q1) λu s2 ⟨y,H2,I2,r2,q2⟩ =>
  dy (ho pins s2 σ H2 x y v u _ I2 r1 r2 q2) λc s3 ⟨z,H3,I3,r3,k,e,q3⟩=>?_) hm
 subst e;cases r3;exact wpAny_truthy_bool ⟨H3,I3,q3⟩
def vx(r r':R2)(ta tb tc:TE):TE:=λσ H Q=>ta σ H λx H1=>tb σ H1 λy H2=>r x y H2 λz H3=>∃k,z=.bl k /\
 (if k=true then tc σ H3 λw' H4=>r' y w' H4 Q else Q (.bl false) H3)
def AW{op op':CmpOp}{r r':R2}(ho:gf X (compareOp op) r)(ho':gf X (compareOp op') r')(ha:PE X a ta)(hb:PE X b tb)(hc:PE X c tc)
  (hm:lastMarks [op,op'] [b,c]=false:=by with_unfolding_all rfl):PE X (.Compare a [op,op'] [b,c] pos) (vx r r' ta tb tc):=by
 intro pins s σ H Q I h;refine Compare_chain (dy (ha pins s σ H _ I h) λv s1 ⟨x,H1,I1,r1,q1⟩=>chain_link (dy (hb pins s1 σ H1 _ I1 q1) λu s2 ⟨y,H2,I2,r2,q2⟩ =>
  dy (ho pins s2 σ H2 x y v u _ I2 r1 r2 q2) λd s3 ⟨z,H3,I3,r3,k,e,q3⟩=>?_)) hm
 subst e;cases r3;refine wpAny_truthy_bool ?_;cases k with|false=>exact ite_ff ⟨.bl false,H3,I3,rfl,q3⟩|true=>exact ite_tt (chain_last (dy (hc pins s3 σ H3 _ I3 q3) λw' s4 ⟨z',H4,I4,r4,q4⟩=>ho' pins s4 σ H4 y z' u w' Q I4 r2 r4 q4))
def AJ{op op':CmpOp}{r r':R2}(ho:gf X (compareOp op) r)(ho':gf X (compareOp op') r')(ha:PE X a ta)(hb:PE X b tb)(hc:PE X c tc)
  (hm:lastMarks [op,op'] [b,c]=false:=by with_unfolding_all rfl):PT X (.Compare a [op,op'] [b,c] pos) (FH (vx r r' ta tb tc)):=by
 intro pins s σ H Q I h;refine isTrue_chain (dy (ha pins s σ H _ I h) λv s1 ⟨x,H1,I1,r1,q1⟩=>test_link (dy (hb pins s1 σ H1 _ I1 q1) λu s2 ⟨y,H2,I2,r2,q2⟩ =>
  dy (ho pins s2 σ H2 x y v u _ I2 r1 r2 q2) λd s3 ⟨z,H3,I3,r3,k,e,q3⟩=>?_)) hm
 subst e;cases r3;refine wpAny_truthy_bool ?_;cases k with
 |false=>
  obtain⟨k',e',q'⟩:=q3;cases e';exact ite_ff ⟨H3,I3,q'⟩
 |true=>
  refine ite_tt (test_last (dy (hc pins s3 σ H3 _ I3 q3) λw' s4 ⟨z',H4,I4,r4,q4⟩=>dy (ho' pins s4 σ H4 y z' u w' _ I4 r2 r4 q4) λd' s5 z9=>?_));obtain⟨z2,H5,I5,r5,k2,e2,q5⟩:=z9;subst e2;cases r5;exact wpAny_truthy_bool ⟨H5,I5,q5⟩
noncomputable def Nc(K:W.Frag) (x:V) (H:Hp) (k:Bool):Prop :=
 match x with
 |.non=>k=false
 |.bl b=>k=b
 |.int i=>k=(i != 0)
 |.str y=>y.length<=sizeLine/\k=((y.length:Int) != 0)
 |.byt y=>y.size<=sizeLine/\k=((y.size:Int) != 0)
 |.ref p=>(∃xs,fL K H p xs/\k=!xs.isEmpty)∨(∃xs,iZ K H p xs/\k=!xs.isEmpty)∨∃kvs,H p=some (.dK kvs)/\k=!kvs.isEmpty
 |_=>False
def HA{κ:Type}{kvs:List (κ×V)}{vs:List (κ×Value)}(r:KV kvs vs):(!vs.isEmpty)=!kvs.isEmpty:=by
 cases r<;>rfl
def Hz{xs:al}{its:List Value}(r:bu xs its):(!its.toArray.isEmpty)=!xs.isEmpty:=by
 cases r<;>simp
def oH:(sizeLine:Nat)<2 ^ 63:=by rw[sizeLine_eq];decide
def vN:gf X (binaryOp .Add) (λx y H Q=>∃i j,x=.str i/\y=.str j/\i.length+j.length<=sizeLine/\Q (.str (i++j)) H):=by
 intro pins s σ H x y v u Q I rx ry h;obtain⟨i,j,rfl,rfl,hz,q⟩:=h;obtain⟨t,rfl⟩:=rx;obtain⟨t',rfl⟩:=ry;exact add_str (λt' tk=>⟨.str (i++j),H,I.tok _,⟨_,rfl⟩,q⟩) hz
def qc{x:V}{us:List Value}(r:bu [x] us):∃u,us=[u]/\bY x u:=by
 cases r with|cons r1 r2=>cases r2;exact⟨_,rfl,r1⟩
def Jt{x y:V}{us:List Value}(r:bu [x,y] us):∃u w',us=[u,w']/\bY x u/\bY y w':=by
 cases r with
 |cons r1 r2=>
  cases r2 with|cons r3 r4=>cases r4;exact⟨_,_,rfl,r1,r3⟩
def pA:jG X (.builtin "abs") (λxs H Q=>∃i,xs=[.int i]/\Q (.int (if i<0 then -i else i)) H):=by
 intro pins s σ H xs us Q I r h;obtain⟨i,rfl,q⟩:=h;obtain⟨u,rfl,t,rfl⟩:=qc r;exact call_abs_int λu tk=>⟨.int (if i<0 then -i else i),H,I.tok _,⟨_,rfl⟩,q⟩
def zG(hc:X.calm=true):jG X (.builtin "max") (λxs H Q=>∃i j,xs=[.int i,.int j]/\Q (.int (if j > i then j else i)) H):=by
 intro pins s σ H xs us Q I r h;obtain⟨i,j,rfl,q⟩:=h;obtain⟨u,w',rfl,⟨t,rfl⟩,⟨t',rfl⟩⟩:=Jt r;refine max_two_ints (I.ok.hd hc) λh' tk k=>⟨_,H,I.kept k,?_,q⟩
 by_cases hj:j > i
 .rw[if_pos hj,if_pos hj];exact⟨_,rfl⟩
 .rw[if_neg hj,if_neg hj];exact⟨_,rfl⟩
def mv:jG X (.type "int") (λxs H Q=>(∃i,xs=[.int i]/\Q (.int i) H)∨∃k,xs=[.bl k]/\Q (.int (if k then 1 else 0)) H):=by
 intro pins s σ H xs us Q I r h;rcases h with⟨i,rfl,q⟩|⟨k,rfl,q⟩
 .obtain⟨u,rfl,t,rfl⟩:=qc r
  exact call_int_int ⟨.int i,H,I,⟨_,rfl⟩,q⟩
 .obtain⟨u,rfl,r1⟩:=qc r
  cases r1;exact call_int_bool ⟨.int (if k then 1 else 0),H,I.tok _,⟨_,rfl⟩,q⟩
def Lb(K:W.Frag)(x:V)(H:Hp)(n:Nat):Prop :=
 match x with
 |.str y=>y.length<=sizeLine/\n=y.length
 |.byt y=>y.size<=sizeLine/\n=y.size
 |.ref p=>(∃xs,fL K H p xs/\n=xs.length)∨∃xs,iZ K H p xs/\n=xs.length
 |_=>False
def bj:jG X (.builtin "len") (λxs H Q=>∃x n,xs=[x]/\Lb X.K x H n/\Q (.int n) H):=by
 intro pins s σ H xs us Q I r h;obtain⟨x,n,rfl,e,q⟩:=h;obtain⟨u,rfl,rx⟩:=qc r;have hl:=oH;have hs:sizeLine=16777216:=sizeLine_eq;cases x with
 |str y=>
  obtain⟨t,rfl⟩:=rx;obtain⟨hy,e'⟩:y.length<=sizeLine/\n=y.length:=e;subst e';exact len_str (by omega) ⟨.int _,H,I.tok _,⟨_,rfl⟩,q⟩
 |byt y=>
  obtain⟨t,rfl⟩:=rx;obtain⟨hy,e'⟩:y.size<=sizeLine/\n=y.size:=e;subst e';exact W.len_bytes (by omega) ⟨.int _,H,I.tok _,⟨_,rfl⟩,q⟩
 |ref p=>
  cases rx;have e':(∃xs,fL X.K H p xs/\n=xs.length)∨∃xs,iZ X.K H p xs/\n=xs.length:=e;rcases e' with⟨xs,hx,e'⟩|⟨xs,hx,e'⟩
  .subst e'
   obtain⟨its,r',pl,hz⟩:=I.list hx;have hlen:=r'.length;exact Calls.call_len_list pl.isList (by simp only[List.size_toArray];omega) ⟨.int xs.length,H,I.tok _,⟨_,by simp only[List.size_toArray];rw[hlen]⟩,q⟩
  .subst e'
   obtain⟨its,r',pl,hz⟩:=I.tuple hx;have hlen:=r'.length;exact len_tuple pl (by simp only[List.size_toArray];omega) ⟨.int xs.length,H,I.tok _,⟨_,by simp only[List.size_toArray];rw[hlen]⟩,q⟩
 |_=>exact(show False from e).elim
end
structure Jg (h:Heap) (x dx C:Addr) (mA:Str->Option Value):Prop where
 obj:h.get? x=some (W.instObj C dx)
 ns:h.Ns1 dx mA
 ne:dx≠x
def qv{h:Heap}{dx:Addr}{mA:Str->Option Value}(n:h.Ns1 dx mA):∃od,h.get? dx=some od/\∀name,W.lookIn name od=some (mA name):=by
 obtain⟨o,es,ep,ho,hd,hk,_,hm⟩:=n;refine⟨o,ho,λname=>?_⟩;have e:=hm name;unfold nsFind findBy at e;rw[←Array.find?_toList]at e;unfold W.lookIn;rw[hd];dsimp only;split
 .rename_i y q
  rw[q]at e;exact congrArg some e
 .rename_i q
  rw[q]at e;have a:es.toList.any (·.refKey)=false:=by
   rw[List.any_eq_false];intro y hy;obtain⟨z,t,hkey⟩:=hk y (Array.mem_toList_iff.mp hy);simp[DictEntry.refKey,hkey]
  have a':¬es.toList.any (·.refKey)=true:=by rw[a];exact Bool.false_ne_true
  rw[if_neg a'];exact congrArg some e
def Jg.look{h:Heap}{x dx C:Addr}{mA:Str->Option Value}(I:Jg h x dx C mA):∃od,W.InstAt h x (W.instObj C dx) C (some od)/\∀name,W.lookIn name od=some (mA name) :=
 let ⟨od,ho,hl⟩:=qv I.ns
 ⟨od,⟨I.obj,rfl,rfl,ho⟩,hl⟩
def jH(f:Str)(v:V):List (Str×V)->List (Str×V)
 |[]=>[(f,v)]
 |(g,x)::r=>if g=f then(g,v)::r else(g,x)::jH f v r
theorem mH(f g:Str)(v:V):∀fs:List (Str×V),(jH f v fs).lookup g=if g=f then some v else fs.lookup g
 |[]=>by
  show List.lookup g [(f,v)]=_
  by_cases h:g=f
  .have hb:(g==f)=true:=beq_iff_eq.mpr h
   simp only[List.lookup,hb,if_pos h]
  .have hb:(g==f)=false:=beq_eq_false_iff_ne.mpr h
   simp only[List.lookup,hb,if_neg h]
 |(k,x)::r=>by
  have ih:=mH f g v r;rw[show jH f v ((k,x)::r)=(if k=f then(k,v)::r else(k,x)::jH f v r) from rfl]
  by_cases hk:k=f
  .rw[if_pos hk]
   by_cases h:g=k
   .have hb:(g==k)=true:=beq_iff_eq.mpr h
    simp only[List.lookup,hb,if_pos (h.trans hk)]
   .have hb:(g==k)=false:=beq_eq_false_iff_ne.mpr h
    simp only[List.lookup,hb,if_neg (λe:g=f=>h (e.trans hk.symm))]
  .rw[if_neg hk]
   by_cases h:g=k
   .have hb:(g==k)=true:=beq_iff_eq.mpr h
    simp only[List.lookup,hb,if_neg (λe:g=f=>hk (h.symm.trans e))]
   .have hb:(g==k)=false:=beq_eq_false_iff_ne.mpr h
    simp only[List.lookup,hb];exact ih
theorem ma(f:Str)(v:V):∀fs:List (Str×V),f∈(jH f v fs).map (·.1)/\∀g,g∈fs.map (·.1)->g∈(jH f v fs).map (·.1)
 |[]=>⟨by simp[jH],λg h=>by simp at h⟩
 |(k,x)::r=>by
  obtain⟨i1,i2⟩:=ma f v r;rw[show jH f v ((k,x)::r)=(if k=f then(k,v)::r else(k,x)::jH f v r) from rfl]
  by_cases hk:k=f
  .rw[if_pos hk]
   subst hk;exact⟨by simp,λg h=>by simpa using h⟩
  .rw[if_neg hk]
   refine⟨?_,λg h=>?_⟩
   .rw[List.map_cons]
    exact List.mem_cons_of_mem _ i1
   .rw[List.map_cons]at h ⊢
    rcases List.mem_cons.mp h with e|e
    .exact List.mem_cons.mpr (.inl e)
    .exact List.mem_cons_of_mem _ (i2 g e)
section
variable {P:Program}{w:World}{H H':Hp}{h h':Heap}{a C dx:Addr}{fs fs':List (Str×V)}
def x8(hok:gh P w H h)(e:H a=some (.ins C dx fs)):∃mA,Jg h a dx C mA/\(∀f,Cr (fs.lookup f) (mA f))/\PySem.Within mA (fs.map (·.1))/\fs.length<=1000/\H dx=some (.own a):=by
 obtain⟨d,z,ne,ob,mA,n,r,q⟩:=(show cm P w H h a (.ins C dx fs) from hok a _ e)
 exact⟨mA,⟨ob,n,ne⟩,r,q,z,d⟩
end
structure Ls (K:W.Frag) (C:Addr):Prop where
 pg:W.plainGet K C Str.empty=true
 hd:W.hasDictIn K C=true
 po:W.plainOver K C=true
 sa:W.findIn K (.ref C) "__setattr__"=some (some (.builtin "object.__setattr__"))
def Ls.get{K:W.Frag}{C:Addr}(c:Ls K C)(f:Str):W.plainGet K C f=true:=c.pg
def k8(K:W.Frag)(C:Addr)(f:Str):Prop:=W.findIn K (.ref C) f=some none
section
variable {X:Cx}{pins:List (Addr×Obj)}{σ:St}{H:Hp}{s:Shared}{A:Around}{E:Value->Shared->Prop}{Q:Value->Shared->Prop}{c:Value}{b:Bool}
inductive nh (K:W.Frag) (H:Hp):V->Value->Prop where
 |non:nh K H .non (.type "NoneType")
 |bl (x:Bool):nh K H (.bl x) (.type "bool")
 |int (i:Int):nh K H (.int i) (.type "int")
 |str (x:Str):nh K H (.str x) (.type "str")
 |flt (x:UInt64):nh K H (.flt x) (.type "float")
 |lst {a:Addr}{xs:al}(e:H a=some (.lst xs)):nh K H (.ref a) (.type "list")
 |frz {a:Addr}{o:Obj}{xs:al}(e:H a=some (.frz o (.lst xs))):nh K H (.ref a) (.type "list")
 |tup {a:Addr}{xs:al}(e:H a=some (.tup xs)):nh K H (.ref a) (.type "tuple")
 |dK {a:Addr}{kvs:List (tm×V)}(e:H a=some (.dK kvs)):nh K H (.ref a) (.type "dict")
 |dT {a:Addr}{kvs:List (List tm×V)}(e:H a=some (.dT kvs)):nh K H (.ref a) (.type "dict")
 |ins {a C dx:Addr}{fs:List (Str×V)}(e:H a=some (.ins C dx fs)) (cl:Ls K C) (ha:W.findIn K (.ref C) "__class__"=some (some (.builtin "object.__class__")))
   (hn:W.specialIn K (.builtin "object.__class__") "__get__"=some (some (.builtin "getset_descriptor.__get__"))) (htk:W.takesIn K (.builtin "object.__class__")=some true)
   (hm:W.mroIn K C (.type "object")=some true):nh K H (.ref a) (.ref C)
def iN{x:V}{u t:Value}(I:Inv X pins σ H s)(rx:bY x u)(ty:nh X.K H x t)(e:W.kitOne X.K t c=some b)(h:∀tk,Q (.bool b) { s with toks:=tk }) :
  wpAny (model X.prog X.w) A (call (.builtin "isinstance") [u,c]) Q E s:=by
 cases ty with
 |non=>cases (show u=Value.none from rx);exact W.kia_one W.kitx_none I.kIn True.intro e (λz=>nomatch z) h|bl y=>cases (show u=Value.bool y from rx);exact W.kia_one W.kitx_bool I.kIn True.intro e (λz=>nomatch z) h|int i=>obtain⟨t,q⟩:=(show ∃t,u=Value.int i t from rx);cases q;exact W.kia_one W.kitx_int I.kIn True.intro e (λz=>nomatch z) h|str y=>obtain⟨t,q⟩:=(show ∃t,u=Value.str y t from rx);cases q;exact W.kia_one W.kitx_str I.kIn True.intro e (λz=>nomatch z) h|flt y=>obtain⟨t,q⟩:=(show ∃t,u=Value.float y t from rx);cases q;exact W.kia_one W.kitx_float I.kIn True.intro e (λz=>nomatch z) h
 |@lst a xs ea=>
  cases (show u=Value.ref a from rx);obtain⟨_,_,n,_,h1⟩:=(show cm X.prog X.w H s.heap a (.lst xs) from I.hok a _ ea)
  exact W.kia_one W.kitx_list I.kIn ⟨_,h1,rfl⟩ e (λz=>nomatch z) h
 |@frz a ob xs ea=>
  cases (show u=Value.ref a from rx);obtain⟨_,_,_,n,_,h1⟩:=(show cm X.prog X.w H s.heap a (.frz ob (.lst xs)) from I.hok a _ ea)
  exact W.kia_one W.kitx_list I.kIn ⟨_,h1,rfl⟩ e (λz=>nomatch z) h
 |@tup a xs ea=>
  cases (show u=Value.ref a from rx);obtain⟨_,_,_,p⟩:=(show cm X.prog X.w H s.heap a (.tup xs) from I.hok a _ ea)
  obtain⟨o,h1,h2,_⟩:=p;exact W.kia_one W.kitx_tuple I.kIn ⟨o,h1,h2⟩ e (λz=>nomatch z) h
 |@dK a kvs ea=>
  cases (show u=Value.ref a from rx);obtain⟨_,_,vs,_,p⟩:=(show cm X.prog X.w H s.heap a (.dK kvs) from I.hok a _ ea)
  obtain⟨o,es,ep,h1,h2,_⟩:=p;exact W.kia_one W.kitx_dict I.kIn ⟨o,h1,h2.1⟩ e (λz=>nomatch z) h
 |@dT a kvs ea=>
  cases (show u=Value.ref a from rx);obtain⟨_,_,xs,_,o,es,ep,h1,h2,_⟩:=(show cm X.prog X.w H s.heap a (.dT kvs) from I.hok a _ ea)
  exact W.kia_one W.kitx_dict I.kIn ⟨o,h1,h2.1⟩ e (λz=>nomatch z) h
 |@ins a C dx fs ea cl ha hn htk hm=>
  cases (show u=Value.ref a from rx);obtain⟨mA,O,_⟩:=x8 I.hok ea;obtain⟨od,J,_⟩:=O.look;exact W.kia_one (W.kitx_own (cl.get _) cl.hd ha hn htk hm) I.kIn J e (λz=>nomatch z) h
end
structure dI (k:Nat) (A:Around):Prop where
 hd:A.handled=none
 dp:A.depth+3*k+5<recursionLimit
 un:A.units+16*k+200<cLine
 gd:A.guards=some []
def dI.mono{j k:Nat}{A:Around}(r:dI k A)(h:j<=k):dI j A:=⟨r.hd,by have:=r.dp;omega,by have:=r.un;omega,r.gd⟩
def dI.deeper{k:Nat}{A:Around}(r:dI (k+1) A)(env:Env):dI k (A.deeper env) :=
 ⟨r.hd,by have:=r.dp;show A.depth+1+3*k+5<_;omega,by have:=r.un;show A.units+3+16*k+200<_;omega,r.gd⟩
def vW{A:Around}{C:Addr}{us:List Value}{kw:List (Str×Value)}:(A.under (.builtin "type.__call__" ⟨.ref C::us,kw⟩)).depth=A.depth+1:=by
 first|rfl|simp[Around.under,Code.weight,Code.isCreation,Code.isGuard,Code.isCaller,Code.frames,Code.isFrame,guardIds]
def vV{A:Around}{C:Addr}{us:List Value}{kw:List (Str×Value)}:(A.under (.builtin "type.__call__" ⟨.ref C::us,kw⟩)).units=A.units+1:=by
 first|rfl|simp[Around.under,Code.cUnits,Code.frames,Code.isFrame]
def dI.make{k:Nat}{A:Around}(r:dI (k+1) A)(C:Addr)(us:List Value)(kw:List (Str×Value)):dI k (A.under (.builtin "type.__call__" ⟨.ref C::us,kw⟩)) :=
 ⟨r.hd,by have:=r.dp;rw[vW];omega,by have:=r.un;rw[vV];omega,by have:=r.gd;simp[Around.under,Code.guards,Code.isGuard,guardIds,pushGuards,this]⟩
def dI.depth{k:Nat}{A:Around}(r:dI k A):A.depth<recursionLimit:=by have:=r.dp;omega
def dI.units{k:Nat}{A:Around}(r:dI k A):A.units+64<cLine:=by have:=r.un;omega
def LI:TA:=λ_ H Q=>Q [] H
def JA(ta:TE)(tr:TA):TA:=λσ H Q=>ta σ H λx H1=>tr σ H1 λxs H2=>Q (x::xs) H2
section
variable {X:Cx}{e:Expr}{es:List Expr}{te:TE}{t:TA}{pos:Pos}
def gi:PA X [] LI:=λ_ _ _ _ H Q I h=>Calls.spliced_nil ⟨[],H,I,.nil,h⟩
def dP(ha:PE X e te)(hr:PA X es t)(hs:starEach (e::es) X.env=(false,eval e X.env)::starEach es X.env:=by rfl):PA X (e::es) (JA te t):=by
 intro pos pins s σ H Q I h;rw[hs];show wpAny _ _ (spliced ((false,eval e X.env)::backTo pos (starEach es X.env))) _ _ s;refine Calls.spliced_cons (dy (ha pins s σ H _ I h) λu s1 ⟨x,H1,I1,r1,q1⟩=>?_);exact dy (hr pos pins s1 σ H1 _ I1 q1) λus s2 ⟨xs,H2,I2,r2,q2⟩=>⟨x::xs,H2,I2,.cons r1 r2,q2⟩
def Lz(t:TA):TE:=λσ H Q=>t σ H λxs H1=>xs.length<=sizeLine/\∀p,H1 p=none->Q (.ref p) (upd H1 p (.tup xs))
def LJ(t:TA):TE:=λσ H Q=>t σ H λxs H1=>xs.length<=sizeLine/\∀p,H1 p=none->Q (.ref p) (upd H1 p (.lst xs))
def AR{x1}(h:PA X es t):PE X (.Tuple es x1 pos) (Lz t):=by
 intro pins s σ H Q I hq;refine wpAny_Tuple_spliced (dy (h pos pins s σ H _ I hq) λus s1 ⟨xs,H1,I1,r,z,q⟩=>⟨by rw[←r.length];exact z,?_⟩);have hf:H1 s1.heap.objs.size=none:=I1.hok.fresh (Nat.le_refl _);refine⟨.ref s1.heap.objs.size,upd H1 s1.heap.objs.size (.tup xs),I1.laid (t':=s1.toks) (λb u e=>Heap.get?_push_of_some _ e) (Nat.le_refl _) ?_,rfl,q _ hf⟩;exact⟨z,us,r,⟨_,Heap.get?_push_size _ rfl,rfl,_,rfl⟩⟩
def AU(h:PA X es t):PE X (.List es pos) (LJ t):=by
 intro pins s σ H Q I hq;refine wpAny_List_spliced (dy (h pos pins s σ H _ I hq) λus s1 ⟨xs,H1,I1,r,z,q⟩=>⟨by rw[←r.length];exact z,?_⟩);have hf:H1 s1.heap.objs.size=none:=I1.hok.fresh (Nat.le_refl _);refine⟨.ref s1.heap.objs.size,upd H1 s1.heap.objs.size (.lst xs),I1.laid (t':=s1.toks) (λb u e=>Heap.get?_push_of_some _ e) (Nat.le_refl _) ?_,rfl,q _ hf⟩;exact⟨z,us,0,r,Heap.get?_push_size _ rfl⟩
end
abbrev Sp:=al->Hp->VK->XK->Prop
abbrev q9:=List Env->Hp->Shared->XK->Value->Shared->Prop
structure vh (P:Program) (w:World) (K:W.Frag) (mg:Str->Option Value) (base:Heap) (A:Around) (outer:List Env) (s:Shared) (H:Hp):Prop where
 frames:A.frames=some outer
 mod:Mod K mg base
 bs:∀b o,base.get? b=some o->s.heap.get? b=some o/\H b=none
 bsz:base.objs.size<=s.heap.objs.size
 funs:s.heap.FunFrames base outer
 frf:∀b∈f9 outer,H b=none
 hok:gh P w H s.heap
 bare:AllBare s.gens
def CE(outer:List Env)(P:Program)(w:World)(H:Hp)(s:Shared)(Q:VK)(u:Value)(s':Shared):Prop :=
 ∃v H',s'.os=s.os/\AllBare s'.gens/\Un (f9 outer) [] H H' s.heap s'.heap/\gh P w H' s'.heap/\bY v u/\Q v H'
def CR(CX:q9)(outer:List Env)(P:Program)(w:World)(H:Hp)(s:Shared)(Q:VK)(E:XK)(r:Result)(s':Shared):Prop :=
 match r with
 |.ok (.ret u)=>CE outer P w H s Q u s'
 |.ok _=>False
 |.error e=>CX outer H s E e s'
structure FnOk (P:Program) (w:World) (K:W.Frag) (mg:Str->Option Value) (base:Heap) (CX:q9) (k:Nat) (f:Addr) (fd:FuncData) (ps:List Str) (sp:Sp):Prop where
 len:∀vs H Q E,sp vs H Q E->vs.length=ps.length
 run:∀(A:Around) (outer:List Env) (s:Shared) (H:Hp) (args:Args) (us:List Value) (vs:al) (Q:VK) (E:XK),dI k A->vh P w K mg base A outer s H->BindsTo s fd args (ps.zip us)->bu vs us->sp vs H Q E ->
  codeAny (model P w) A (.call (.ref f) args) (CR CX outer P w H s Q E) s
def FnOk.mono{P:Program}{w:World}{K:W.Frag}{mg:Str->Option Value}{base:Heap}{CX:q9}{j k:Nat}{f:Addr}{fd:FuncData}{ps:List Str}{sp:Sp}(F:FnOk P w K mg base CX j f fd ps sp)(h:j<=k) :
  FnOk P w K mg base CX k f fd ps sp:=⟨F.len,λA outer s H args us vs Q E hr=>F.run A outer s H args us vs Q E (hr.mono h)⟩
def vh.make{P:Program}{w:World}{K:W.Frag}{mg:Str->Option Value}{base:Heap}{A:Around}{outer:List Env}{s:Shared}{H:Hp}(e:vh P w K mg base A outer s H)(C:Addr)(us:List Value)(kw:List (Str×Value)) :
  vh P w K mg base (A.under (.builtin "type.__call__" ⟨.ref C::us,kw⟩)) outer s H:=⟨by first|exact e.frames|(simpa[Around.under,Code.envs,Code.isFrame,pushEnvs] using e.frames),e.mod,e.bs,e.bsz,e.funs,e.frf,e.hok,e.bare⟩
section
variable {X:Cx}{pins:List (Addr×Obj)}{σ:St}{H:Hp}{s s':Shared}
def Inv.env0(I:Inv X pins σ H s):vh X.prog X.w X.K X.mg X.base X.A X.stack s H :=
 ⟨I.ok.frames,I.ok.mod,I.bs,Nat.le_trans I.ok.bsz I.sz,I.stack,I.stkFree,I.hok,I.bare⟩
def Inv.after{Q:VK}{u:Value}(I:Inv X pins σ H s)(h:CE X.stack X.prog X.w H s Q u s'):EP X pins σ Q u s':=by
 obtain⟨v,H',os,bare,un,hok,r,q⟩:=h;obtain⟨hh,g,d,t,os'⟩:=s';obtain rfl:os'=s.os:=os;exact⟨v,H',I.call (h':=hh) (g':=g) (d':=d) (t':=t) (ch:=[]) un hok bare (λb z=>absurd z (by simp)),r,q⟩
end
def JB(sp:Sp)(dvs:al)(E:XK)(t:TA):TE:=λσ H Q=>t σ H λvs H1=>sp (vs++dvs) H1 Q E
def iu(K:W.Frag)(fd:FuncData)(ps:List Str)(ds:List Value):Prop :=
 ∀(s:Shared) (us:List Value),K.In s.heap->(us++ds).length=ps.length->BindsTo s fd ⟨us,[]⟩ (ps.zip (us++ds))
def iu.all{K:W.Frag}{fd:FuncData}{ps:List Str}(h:∀us:List Value,us.length=ps.length->bindArgs fd ⟨us,[]⟩=pure (ps.zip us)):iu K fd ps []:=λs us _ hl=>by
 rw[List.append_nil]at hl ⊢;exact .of_eq (h us hl)
def kj(CX:q9)(X:Cx)(E:XK):Prop:=∀(pins:List (Addr×Obj)) (σ:St) (H:Hp) (s:Shared) (e:Value) (s':Shared),Inv X pins σ H s->CX X.stack H s E e s'->X.xe e s'
section
variable {X:Cx}{CX:q9}{k:Nat}{f C:Addr}{fd:FuncData}{ps:List Str}{sp:Sp}{dvs:al}{ds:List Value}{E:XK}{x m:Str}{p pos apos:Pos}{e o:Expr}{es:List Expr}{ta:TE}{t:TA}
def GN{pins:List (Addr×Obj)}{σ:St}{H:Hp}{s:Shared}{Q:VK}{us:List Value}{vs:al}(F:FnOk X.prog X.w X.K X.mg X.base CX k f fd ps sp)(hr:dI k X.A)(hb:iu X.K fd ps ds)(hd:bu dvs ds)(hx:kj CX X E)
  (I:Inv X pins σ H s)(r:bu vs us)(h:sp (vs++dvs) H Q E):wpAny (model X.prog X.w) X.A (call (.ref f) us) (EP X pins σ Q) X.xe s:=by
 have r2:bu (vs++dvs) (us++ds):=r.append hd;have hl:(us++ds).length=ps.length:=by rw[←r2.length];exact F.len _ _ _ _ h
 refine wpAny_call (codeAny_mono (F.run X.A X.stack s H ⟨us,[]⟩ (us++ds) (vs++dvs) Q E hr I.env0 (hb s us I.kIn hl) r2 h) λr s' hq=>?_);cases r with
 |error e=>exact hx pins σ H s e s' I hq
 |ok fl=>
  cases fl with|ret u=>exact I.after hq|next|brk|cont=>exact False.elim hq
def xG(F:FnOk X.prog X.w X.K X.mg X.base CX k f fd ps sp)(hr:dI k X.A)(hg:Gl X x)(hm:X.mg x=some (.ref f))(hk:W.keepIn X.K (.ref f)=true)(hb:iu X.K fd ps ds)(hd:bu dvs ds)(hx:kj CX X E)
  (ha:PA X (e::es) t)(hdb:(x==("__debug__":Str))=false:=by decide)(he:starEach (e::es) X.env=(false,eval e X.env)::starEach es X.env:=by rfl)(hpl:(backTo pos (starEach es X.env)).any (·.1)=false:=by rfl) :
  PE X (.Call (.Name x p) (e::es) [] pos) (JB sp dvs E t):=by
 intro pins s σ H Q I h;refine wpAny_Call_Name_kw (gA I hg hm ?_ hdb);refine W.callWith_K (h₀:=X.base) I.ok.mod.kin hk (dy (ha pos pins s σ H _ I h) λus s1 z9=>?_) he hpl;obtain⟨vs,H1,I1,r,q⟩:=z9;refine⟨I1.kIn,?_⟩;exact GN F hr hb hd hx I1 r q
end
structure fX (N P:List Str) (sc:Scope):Prop where
 kind:sc.kind=.function
 co:sc.isCoroutine=false
 gen:sc.isGenerator=false
 nd:N.Nodup
 pre:N.take P.length=P
 par:∀x∈P,sc.names.lookup x=some .local ∨ sc.names.lookup x=some .cell
 nofree:∀y∈sc.names,y.2≠.free
theorem qS{kindOf:Str->Option NameKind}{x:Str}:∀{binds:List (Str×Value)}{m:Str->Option Value},(∀v,(x,v)∉binds)->bindL kindOf binds m x=m x
 |[],_,_=>rfl
 |(n,v)::r,m,h=>by
  unfold bindL;rw[qS λw hw=>h w (List.mem_cons_of_mem _ hw)];split
  .have:x≠n:=by rintro rfl;exact h v List.mem_cons_self
   simp[this]
  .rfl
theorem qU{kindOf:Str->Option NameKind}{x:Str}:∀{binds:List (Str×Value)}{m:Str->Option Value},(∀v,(x,v)∉binds)->bindC kindOf binds m x=m x
 |[],_,_=>rfl
 |(n,v)::r,m,h=>by
  unfold bindC;rw[qU λw hw=>h w (List.mem_cons_of_mem _ hw)];split
  .rfl
  .have:x≠n:=by rintro rfl;exact h v List.mem_cons_self
   simp[this]
theorem qT{kindOf:Str->Option NameKind}{x:Str}{v:Value}:∀{P:List Str}{vs:List Value}{i:Nat}{m:Str->Option Value},P.Nodup->P[i]?=some x->vs[i]?=some v->kindOf x=some .local ->
  bindL kindOf (P.zip vs) m x=some v
 |[],_,_,_,_,h,_,_=>by simp at h
 |_::_,[],_,_,_,_,h,_=>by simp at h
 |p::P,w::vs,0,m,nd,h1,h2,hk=>by
  simp at h1 h2;subst h1;subst h2;show bindL kindOf ((p,w)::P.zip vs) m p=_;unfold bindL;rw[qS λv hv=>(List.nodup_cons.mp nd).1 (List.of_mem_zip hv).1,if_pos hk];simp
 |p::P,w::vs,i+1,m,nd,h1,h2,hk=>by
  show bindL kindOf ((p,w)::P.zip vs) m x=_;unfold bindL;exact qT (i:=i) (List.nodup_cons.mp nd).2 (by simpa using h1) (by simpa using h2) hk
theorem qV{kindOf:Str->Option NameKind}{x:Str}{v:Value}:∀{P:List Str}{vs:List Value}{i:Nat}{m:Str->Option Value},P.Nodup->P[i]?=some x->vs[i]?=some v->kindOf x≠some .local ->
  bindC kindOf (P.zip vs) m x=some v
 |[],_,_,_,_,h,_,_=>by simp at h
 |_::_,[],_,_,_,_,h,_=>by simp at h
 |p::P,w::vs,0,m,nd,h1,h2,hk=>by
  simp at h1 h2;subst h1;subst h2;show bindC kindOf ((p,w)::P.zip vs) m p=_;unfold bindC;rw[qU λv hv=>(List.nodup_cons.mp nd).1 (List.of_mem_zip hv).1,if_neg hk];simp
 |p::P,w::vs,i+1,m,nd,h1,h2,hk=>by
  show bindC kindOf ((p,w)::P.zip vs) m x=_;unfold bindC;exact qV (i:=i) (List.nodup_cons.mp nd).2 (by simpa using h1) (by simpa using h2) hk
def start(N:List Str)(vs:al):St:=vs.map some++List.replicate (N.length-vs.length) none
noncomputable def cL(CX:q9) (P:Program) (w:World) (K:W.Frag) (mg:Str->Option Value) (base:Heap) (N:List Str) (qual:Str) (scope:Scope) (f:Addr) (cd:Value) (A:Around) (outer:List Env) (s:Shared) (H:Hp) (E:XK):Cx where
 prog:=P
 w:=w
 K:=K
 mg:=mg
 base:=base
 A:=A.deeper (envOfC qual scope s.heap.objs.size f cd)
 N:=N
 sf:=s
 Ha:=H
 env:=envOfC qual scope s.heap.objs.size f cd
 outer:=outer
 stack:=envOfC qual scope s.heap.objs.size f cd::outer
 ex:=[]
 calm:=true
 fn:=λ_=>true
 pn:=[]
 xe:=λe s'=>wpAny (model P w) (A.deeper (envOfC qual scope s.heap.objs.size f cd)) (leaving (envOfC qual scope s.heap.objs.size f cd) e) (λ_ s''=>CX outer H s E e s'') (λe' s''=>CX outer H s E e' s'') s'
def uZ{sc:Scope}{n:Nat}{x:Str}(h:sc.names.lookup x=some .cell):∃c,(cellsFrom n sc.names []).lookup x=some c:=by
 have q:=W.cellsFrom_some sc.names n [] (.inl h);exact Option.isSome_iff_exists.mp q
def zi{CX:q9}{P:Program}{w:World}{K:W.Frag}{mg:Str->Option Value}{base:Heap}{N ps:List Str}{qual:Str}{scope:Scope}{f:Addr}{cd:Value}{A:Around}{outer:List Env}{s s1:Shared}{H:Hp}{E:XK}{us:List Value}{vs:al}
  (S:fX N ps scope)(hd:A.handled=none)(e0:vh P w K mg base A outer s H)(hl:vs.length=ps.length)(r:bu vs us)
  (x:InCallC s s.heap.objs.size (bindL (envOfC qual scope s.heap.objs.size f cd).kindOf (ps.zip us) λ_=>none) (cellsFrom (s.heap.objs.size+1) scope.names []) (bindC (envOfC qual scope s.heap.objs.size f cd).kindOf (ps.zip us) λ_=>none) s1) :
  Inv (cL CX P w K mg base N qual scope f cd A outer s H E) [] (start N vs) H s1:=by
 have hpl:ps.length<=N.length:=by have:=congrArg List.length S.pre;rw[List.length_take]at this;omega
 obtain⟨h1,tk,rfl,hk⟩:=x.done;have noA:∀b:Addr,b∉(cL CX P w K mg base N qual scope f cd A outer s H E).ex:=λb z=>absurd (show b∈([]:List Addr) from z) (by simp);refine⟨⟨e0.mod,S.kind,rfl,rfl,Nat.le_refl _,λy z c h1 h2=>?_,λy hy=>?_,λy c _ h=>?_,λ_=>hd,Around.frames_deeper e0.frames,.inr ⟨rfl,rfl⟩,λb z=>absurd z (noA b),e0.bs,e0.bsz,λb _ _=>noA b,λb z=>absurd z (noA b),e0.funs,e0.frf⟩,
  rfl,e0.bare,Un.kept hk,⟨_,x.toInCall.ns,λi y v h1 h2 h3=>?_⟩,λy c h=>⟨_,x.cell y c h⟩,e0.hok.fresh (Nat.le_refl _),λy c h=>?_,λp hp=>absurd (show p∈([]:List (Addr×Obj)) from hp) (by simp),e0.hok.kept hk,?_⟩
 .exact name_of_addr x.apart (PySem.mem_of_lookup h1) (PySem.mem_of_lookup h2)
 .have hy:scope.names.lookup y=some .cell∨scope.names.lookup y=some .free:=hy
  rcases hy with hy|hy
  .exact uZ hy
  .exact absurd rfl (S.nofree _ (PySem.mem_of_lookup hy))
 .exact Nat.le_of_lt (x.above y c (PySem.mem_of_lookup h))
 .have hi:i<vs.length:=by
   unfold start at h2
   by_cases hi:i<vs.length
   .exact hi
   .rw[List.getElem?_append_right (by simpa using hi)]at h2
    rw[List.getElem?_replicate]at h2;split at h2<;>cases h2
  have ha:vs[i]?=some v:=by
   unfold start at h2;rw[List.getElem?_append_left (by simpa using hi),List.getElem?_map]at h2;cases e:vs[i]? with|none=>rw[e]at h2;cases h2|some a=>rw[e]at h2;cases h2;rfl
  obtain⟨u,hu,rv⟩:=r.get ha;have hp:ps[i]?=some y:=by
   rw[←S.pre,List.getElem?_take_of_lt (by omega)];exact h1
  have ndP:ps.Nodup:=by rw[←S.pre];exact S.nd.sublist (List.take_sublist _ _)
  refine⟨u,rv,?_⟩;rcases S.par y (List.mem_of_getElem? hp) with k|k
  .exact .inl ⟨k,qT ndP hp hu k⟩
  .obtain⟨c,e⟩:=uZ (n:=s.heap.objs.size+1) k
   refine .inr ⟨.inl k,c,e,?_⟩;have q:=x.cell y c e;rw[qV ndP hp hu (by show scope.names.lookup y≠_;rw[k];decide)]at q;exact q
 .exact e0.hok.fresh (Nat.le_of_lt (x.above y c (PySem.mem_of_lookup h)))
 .unfold start
  show _=N.length;rw[List.length_append,List.length_map,List.length_replicate];omega
def FZ{CX:q9}{P:Program}{w:World}{K:W.Frag}{mg:Str->Option Value}{base:Heap}{k:Nat}{f:Addr}{name qual:Str}{params:Arguments}{body:List Stmt}{scope:Scope}{dV kV doc pm cdv ct oc:Value}{an od:Option Addr}
  {osl:Array (Option Value)}{N ps:List Str}{sp:Sp}(lk:K.lookup f=some ⟨oc,od,.func (W.fnOf name qual params body scope dV kV doc pm an cdv ct),osl⟩) (hcd:W.codeIn K cdv qual=true) (S:fX N ps scope)
  (len:∀vs H Q E,sp vs H Q E->vs.length=ps.length)
  (hbody:∀(A:Around) (outer:List Env) (s:Shared) (H:Hp) (vs:al) (Q:VK) (E:XK),dI k (A.deeper (envOfC qual scope s.heap.objs.size f cdv))->sp vs H Q E ->
   ∃t,nI (cL CX P w K mg base N qual scope f cdv A outer s H E) body t/\t { nx:=λ_ H'=>Q .non H',rt:=Q } (start N vs) H) :
  FnOk P w K mg base CX (k+1) f (W.fnOf name qual params body scope dV kV doc pm an cdv ct) ps sp:=by
 refine⟨len,λA outer s H args us vs Q E hr e0 hb r hsp=>?_⟩;have hl:=len _ _ _ _ hsp;have KX:K.In s.heap:=e0.mod.kin.keeps λb o e=>(e0.bs b o e).1;have lim:s.heap.NoLimit:=e0.mod.nolimit.keeps λb o e=>(e0.bs b o e).1;have hkind:∀y∈ps.zip us,scope.names.lookup y.1=some .local ∨ (scope.names.lookup y.1=some .cell/\((cellsFrom (s.heap.objs.size+1) scope.names []).lookup y.1).isSome=true):=λ⟨n,v⟩ hy=>by
  rcases S.par n (List.of_mem_zip hy).1 with q|q
  .exact .inl q
  .exact .inr ⟨q,W.cellsFrom_some _ _ _ (.inl q)⟩
 refine codeAny_call_function hr.depth (KX _ _ lk) rfl S.co S.gen rfl (W.codeRec_of KX hcd) (hb _ _ _ _ ?_);refine wpAny_newFunctionEnv_cells S.kind hkind λenv he s1 x=>?_;subst he;refine⟨lim.keeps x.toInCall.keep,codeAny_func ?_⟩;obtain⟨t,ht,hq⟩:=hbody A outer s H vs Q E (hr.deeper _) hsp;have I:Inv (cL CX P w K mg base N qual scope f cdv A outer s H E) [] (start N vs) H s1:=zi S hr.hd e0 hl r x;refine wpAny_mono (ht [] s1 (start N vs) H _ I hq) (λfl s' hs=>?_) λe s' hs=>hs;have fin:∀{σ':St}{H':Hp}{v:V}{u:Value},Inv (cL CX P w K mg base N qual scope f cdv A outer s H E) [] σ' H' s'->bY v u->Q v H'->CE outer P w H s Q u s' :=
  λ{σ' H' v u} J rv q=>⟨v,H',J.os,J.bare,J.base,J.hok,rv,q⟩
 cases fl with
 |ret u=>
  obtain⟨v,σ',H',J,rv,q⟩:=hs;exact fin J rv q
 |next=>
  obtain⟨σ',H',J,q⟩:=hs;exact fin (v:=V.non) (u:=Value.none) J rfl q
 |brk=>
  obtain⟨_,_,_,q⟩:=hs;exact False.elim q
 |cont=>
  obtain⟨_,_,_,q⟩:=hs;exact False.elim q
section
variable {X:Cx}{x:Str}{p pos:Pos}{e:Expr}{es:List Expr}{t:TA}{id T:String}{r:al->Hp->VK->Prop}
def MA(r:al->Hp->VK->Prop)(t:TA):TE:=λσ H Q=>t σ H λvs H1=>r vs H1 Q
def lr(hc:jG X (.builtin id) r)(hg:Gl X x)(hm:X.mg x=none)(hv:bootBuiltins x=some (.builtin id))(ha:PA X (e::es) t)(hn:x≠"__name__":=by decide)(hdb:(x==("__debug__":Str))=false:=by decide)
  (he:starEach (e::es) X.env=(false,eval e X.env)::starEach es X.env:=by rfl)(hpl:(backTo pos (starEach es X.env)).any (·.1)=false:=by rfl):PE X (.Call (.Name x p) (e::es) [] pos) (MA r t):=by
 intro pins s σ H Q I h;refine wpAny_Call_Name_kw (oJ I hg hm hv ?_ hn hdb);exact PyProof.Rows.callWith_builtin1 (dy (ha pos pins s σ H _ I h) λus s1 ⟨vs,H1,I1,r1,q1⟩=>hc pins s1 σ H1 vs us Q I1 r1 q1) he hpl
def qr(hc:jG X (.type T) r)(hg:Gl X x)(hm:X.mg x=none)(hv:bootBuiltins x=some (.type T))(ha:PA X (e::es) t)(hn:x≠"__name__":=by decide)(hdb:(x==("__debug__":Str))=false:=by decide)
  (he:starEach (e::es) X.env=(false,eval e X.env)::starEach es X.env:=by rfl)(hpl:(backTo pos (starEach es X.env)).any (·.1)=false:=by rfl):PE X (.Call (.Name x p) (e::es) [] pos) (MA r t):=by
 intro pins s σ H Q I h;refine wpAny_Call_Name_kw (oJ I hg hm hv ?_ hn hdb);exact PyProof.Rows.callWith_type1 (dy (ha pos pins s σ H _ I h) λus s1 ⟨vs,H1,I1,r1,q1⟩=>hc pins s1 σ H1 vs us Q I1 r1 q1) he hpl
end
end L2
namespace HT
open PySem PyProof.Rows
section
variable {prog:Program}{w:World}{A:Around}{E:Value->Shared->Prop}{s:Shared}
def cat_tup{t b:Addr}{vs ws:List Value}{Q:Value->Shared->Prop}(ht:IsTup s.heap t vs.toArray)(hb:IsTup s.heap b ws.toArray)(hv:vs≠[])
  (h1:ws=[]->Q (.ref t) s)(h2:ws≠[]->Q (.ref s.heap.objs.size) { s with heap:=s.heap.push { cls:=.type "tuple",data:=.seq (vs++ws).toArray } })
  (hsz:vs.length+ws.length<=sizeLine):wpAny (model prog w) A (binaryOp .Add (.ref t) (.ref b)) Q E s:=by
 obtain⟨⟨cls,dd,data,sl⟩,ho,hc,n,hd⟩:=id ht;obtain⟨⟨cls2,dd2,data2,sl2⟩,ho2,hc2,n2,hd2⟩:=id hb;simp only at hc hd hc2 hd2;subst hc hd hc2 hd2;have e:vs.toArray++ws.toArray=(vs++ws).toArray:=by simp
 by_cases hw:ws=[]
 .exact concat_meets ⟨_,ho,rfl⟩ ⟨_,ho2,rfl⟩ noFill_tuple_add seq_tuple_add PySem.F.slot_tuple_add PySem.F.entry_tuple_add (PySem.F.args_tuple_add_2 _ _)
   (tuple_addW1 t b vs.toArray ws.toArray n n2 dd dd2 sl sl2 (by simpa using hv) (by simp[hw])) ⟨ho,ho2,h1 hw⟩
 .refine concat_meets ⟨_,ho,rfl⟩ ⟨_,ho2,rfl⟩ noFill_tuple_add seq_tuple_add PySem.F.slot_tuple_add PySem.F.entry_tuple_add (PySem.F.args_tuple_add_2 _ _)
   (tuple_addW2 t b vs.toArray ws.toArray n n2 dd dd2 sl sl2 (by simpa using hv) (by simpa using hw) (by rw[List.size_toArray,List.size_toArray];exact hsz)) ⟨ho,ho2,?_⟩
  rw[e];exact h2 hw
def sIx(n d:Nat):Option Int->Nat
 |none=>d
 |some v=>if v<0 then(v+(n:Int)).toNat else min v.toNat n
def sIx_none(n d:Nat):sIx n d none=d:=rfl
def sIx_nat(n d k:Nat):sIx n d (some (k:Int))=min k n:=by
 show(if(k:Int)<0 then((k:Int)+(n:Int)).toNat else min (k:Int).toNat n)=min k n;rw[if_neg (by omega),Int.toNat_natCast]
def GJ(n d:Nat)(hd:d<=n)(o:Option Int):sIx n d o<=n:=by
 cases o with
 |none=>exact hd
 |some v=>
  show(if v<0 then(v+(n:Int)).toNat else min v.toNat n)<=n
  by_cases hv:v<0
  .rw[if_pos hv];omega
  .rw[if_neg hv];exact Nat.min_le_right _ _
def yC(v:Int)(n d:Nat):(if v<0 then max (v+(n:Int)) 0 else min v (n:Int))=((sIx n d (some v):Nat):Int):=by
 show(if v<0 then max (v+(n:Int)) 0 else min v (n:Int))=(((if v<0 then(v+(n:Int)).toNat else min v.toNat n):Nat):Int)
 by_cases hv:v<0
 .simp only[if_pos hv];omega
 .simp only[if_neg hv];omega
def wV(lo hi:Option Int)(n:Nat):Builtin.Slice.sliceAdjust lo hi 1 (n:Int)=(((sIx n 0 lo:Nat):Int),((sIx n n hi:Nat):Int)):=by
 have h1:¬((1:Int)<0):=by omega
 unfold Builtin.Slice.sliceAdjust;simp only[h1,if_false];refine Prod.ext ?_ ?_
 .cases lo with
  |none=>rfl
  |some v=>exact yC v n 0
 .cases hi with
  |none=>rfl
  |some v=>exact yC v n n
def vH(i j:Nat):Builtin.Slice.slicePlaces (i:Int) (j:Int) 1=j-i:=by
 unfold Builtin.Slice.slicePlaces;have h1:(1:Int) > 0:=by omega
 simp only[h1,if_true,Int.ediv_one];split<;>omega
def nS{v:Value}{o:Option Int}{Q:Option Int->Shared->Prop}(p:IsPart v o)(h:Q o s):wpAny (model prog w) A (Builtin.Slice.slicePartIndex v) Q E s:=by
 cases p with|none=>exact slicePart_none h|int i t=>exact slicePart_int h
def iJ{sl:Addr}{vl vu:Value}{lo hi:Option Int}{n:Nat}{Q:Int×Int×Nat->Shared->Prop}(hs:s.heap.IsSliceOf sl vl vu .none)(pl:IsPart vl lo)(pu:IsPart vu hi)
  (h:Q (((sIx n 0 lo:Nat):Int),1,sIx n n hi-sIx n 0 lo) s):wpAny (model prog w) A (Builtin.Slice.sliceApplied (.ref sl) (pure (n:Int))) Q E s:=by
 obtain⟨os,hos,hcs,hds⟩:=id hs;unfold Builtin.Slice.sliceApplied Builtin.Slice.sliceFields;refine wpAny_bind (wpAny_bind (wpAny_field hos hds (x:=vl) rfl (wpAny_bind (wpAny_field hos hds (x:=vu) rfl (wpAny_bind (wpAny_field hos hds (x:=.none) rfl (wpAny_pure ?_)))))));refine wpAny_bind (slicePart_none ?_);show wpAny _ _ (if((1:Int)==0)=true then _ else _) _ _ s;rw[if_neg (by decide)];refine wpAny_bind (nS pl (wpAny_bind (nS pu (wpAny_bind (wpAny_pure ?_)))));show wpAny _ _ (match Builtin.Slice.sliceAdjust lo hi 1 (n:Int) with|(lo,hi)=>pure (lo,(1:Int),Builtin.Slice.slicePlaces lo hi 1)) _ _ s;rw[wV lo hi n];show wpAny _ _ (pure (((sIx n 0 lo:Nat):Int),(1:Int),Builtin.Slice.slicePlaces ((sIx n 0 lo:Nat):Int) ((sIx n n hi:Nat):Int) 1)) _ _ s;rw[vH];exact wpAny_pure h
def AN(xs:Array Value)(i k:Nat):((List.range k).filterMap λ(m:Nat)=>xs[((i:Int)+(m:Int)*1).toNat]?).toArray=((xs.toList.drop i).take k).toArray:=by
 have e:(λ(m:Nat)=>xs[((i:Int)+(m:Int)*1).toNat]?)=λm=>xs[i+m]?:=by
  funext m;have:((i:Int)+(m:Int)*1).toNat=i+m:=by omega
  rw[this]
 rw[e];have:=pick_run xs i k;rw[List.filterMap_map]at this;have e2:((λx=>xs[x]?)∘λx=>i+x)=λm=>xs[i+m]?:=rfl;rw[e2]at this;rw[this]
def getItem_tuple_cut{t sl:Addr}{items:Array Value}{vl vu:Value}{lo hi:Option Int}{Q:Value->Shared->Prop}(ht:IsTup s.heap t items)(hs:s.heap.IsSliceOf sl vl vu .none)(pl:IsPart vl lo)(pu:IsPart vu hi)
  (hw:¬(sIx items.size 0 lo=0/\sIx items.size items.size hi=items.size))
  (h:Q (.ref s.heap.objs.size) { s with heap:=s.heap.push { cls:=.type "tuple",data:=.seq ((items.toList.drop (sIx items.size 0 lo)).take (sIx items.size items.size hi-sIx items.size 0 lo)).toArray } })
  (hsz:items.size<=sizeLine):wpAny (model prog w) A (getItem (.ref t) (.ref sl)) Q E s:=by
 have htake:sizeOk (.seq ((items.toList.drop (sIx items.size 0 lo)).take (sIx items.size items.size hi-sIx items.size 0 lo)).toArray):=by
  show((items.toList.drop (sIx items.size 0 lo)).take (sIx items.size items.size hi-sIx items.size 0 lo)).toArray.size<=sizeLine;rw[List.size_toArray,List.length_take,List.length_drop,Array.length_toList];omega
 have hj:sIx items.size items.size hi<=items.size:=GJ _ _ (Nat.le_refl _) hi;obtain⟨os,hos,hcs,hds⟩:=id hs;have hTs:s.TypeIs (.ref sl) "slice":=⟨os,hos,hcs⟩
 unfold getItem
 try with_reducible refine wpAny_holding ?_
 first|refine wpAny_bind (wpAny_pure ?_)|skip
 refine wpAny_bind (wpAny_sequenceKey ht.typeIs (by decide) ?_);refine wpAny_bind (wpAny_callSpecial?_slot (name:=Str.ofString "__getitem__") ht.typeIs PyProof.Rows.slot_tuple_getitem
  (wpAny_call_entry PyProof.Rows.slot_tuple_getitem ht.typeIs entry_tuple_getitem ?_ (args_tuple_getitem _ _)))
 show wpAny _ _ (Builtin.Tuple.tupleItemsOf (.ref t) >>= _) _ _ s;refine wpAny_bind (tupleItemsOf_ ht ?_);refine wpAny_bind (wpAny_typeOf hTs ?_);rw[if_pos (by decide)];refine wpAny_bind (iJ hs pl pu ?_);have hno:¬((((sIx items.size 0 lo:Nat):Int)==0&&(1:Int)==1&&(sIx items.size items.size hi-sIx items.size 0 lo)==items.size)=true):=by
  intro q;rw[Bool.and_eq_true,Bool.and_eq_true]at q;have q1:((sIx items.size 0 lo:Nat):Int)=0:=eq_of_beq q.1.1;have q2:sIx items.size items.size hi-sIx items.size 0 lo=items.size:=eq_of_beq q.2;exact hw ⟨by omega,by omega⟩
 show wpAny _ _ (if(((sIx items.size 0 lo:Nat):Int)==0&&(1:Int)==1&&(sIx items.size items.size hi-sIx items.size 0 lo)==items.size)=true then _ else _) _ _ s;rw[if_neg hno,AN]
 first
  |exact wpAny_bind (m:=Builtin.Tuple.tupleExact _) (wpAny_newObj_type (wpAny_pure ⟨_,rfl,wpAny_pure h⟩) htake)
  |exact wpAny_bind (m:=Builtin.Tuple.tupleExact _) (wpAny_newObj_type (wpAny_bind (wpAny_pure (wpAny_pure ⟨_,rfl,wpAny_pure h⟩))) htake)
  |exact wpAny_bind (wpAny_bind (m:=Builtin.Tuple.tupleExact _) (wpAny_newObj_type (wpAny_pure (wpAny_pure ⟨_,rfl,wpAny_pure h⟩)) htake))
  |exact wpAny_bind (wpAny_bind (m:=Builtin.Tuple.tupleExact _) (wpAny_newObj_type (wpAny_pure ⟨_,rfl,wpAny_pure h⟩) htake))
end
end HT
namespace L2
open PySem PySem.Spec PyProof.Rows
abbrev TO:=St->Hp->(Option Int->Hp->Prop)->Prop
def PO(X:Cx)(e:Option Expr)(t:TO):Prop :=
 ∀(pins:List (Addr×Obj)) (s:Shared) (σ:St) (H:Hp) (Q:Option Int->Hp->Prop),Inv X pins σ H s->t σ H Q ->
  wpAny (model X.prog X.w) X.A (evalPart e X.env) (λu s'=>∃o H',Inv X pins σ H' s'/\IsPart u o/\Q o H') X.xe s
def De:TO:=λ_ H Q=>Q none H
def Jw(t:TE):TO:=λσ H Q=>t σ H λx H1=>∃i,x=.int i/\Q (some i) H1
section
variable {X:Cx}{e:Expr}{te:TE}{lo hi:Option Expr}{tl th:TO}{pos p2:Pos}
def Du:PO X none De:=by
 intro pins s σ H Q I h;rw[evalPart_none];exact wpAny_pure ⟨none,H,I,.none,h⟩
def Dt(h:PE X e te):PO X (some e) (Jw te):=by
 intro pins s σ H Q I hw;rw[evalPart_some];refine dy (h pins s σ H _ I hw) λu s1 ⟨x,H1,I1,r1,q1⟩=>?_;obtain⟨i,rfl,q⟩:=q1;obtain⟨t,rfl⟩:=r1;exact⟨some i,H1,I1,.int i t,q⟩
noncomputable def zP(X:Cx) (r:V->Option Int->Option Int->Hp->VK->Prop):Prop :=
 ∀(pins:List (Addr×Obj)) (s:Shared) (σ:St) (H:Hp) (x:V) (v vl vu:Value) (lo hi:Option Int) (sl:Addr) (Q:VK),Inv X pins σ H s->bY x v->s.heap.IsSliceOf sl vl vu .none->IsPart vl lo->IsPart vu hi->r x lo hi H Q ->
  ∃T id,typeLookup (.type T) "__getitem__"=pure (some (.builtin id))/\s.TypeIs v T/\wpAny (model X.prog X.w) X.A (getItem v (.ref sl)) (EP X pins σ Q) X.xe s
def zP.or{r r':V->Option Int->Option Int->Hp->VK->Prop}(h:zP X r)(h':zP X r'):zP X (λx lo hi H Q=>r x lo hi H Q∨r' x lo hi H Q):=by
 intro pins s σ H x v vl vu lo hi sl Q I rx hs pl pu q;rcases q with q|q
 .exact h pins s σ H x v vl vu lo hi sl Q I rx hs pl pu q
 .exact h' pins s σ H x v vl vu lo hi sl Q I rx hs pl pu q
def My(r:V->Option Int->Option Int->Hp->VK->Prop)(te:TE)(tl th:TO):TE:=λσ H Q=>te σ H λx H1=>tl σ H1 λl H2=>th σ H2 λu H3=>r x l u H3 Q
def ub{r:V->Option Int->Option Int->Hp->VK->Prop}(hr:zP X r)(he:PE X e te)(hl:PO X lo tl)(hu:PO X hi th):PE X (.Subscript e (.Slice lo hi none p2) pos) (My r te tl th):=by
 intro pins s σ H Q I h;refine Subscript_ (dy (he pins s σ H _ I h) λv s1 ⟨x,H1,I1,r1,q1⟩=>?_);refine wpAny_Slice (dy (hl pins s1 σ H1 _ I1 q1) λvl s2 ⟨l,H2,I2,pl,q2⟩=>dy (hu pins s2 σ H2 _ I2 q2) λvu s3 ⟨u,H3,I3,pu,q3⟩=>?_);rw[evalPart_none];refine wpAny_pure ?_;have I4:Inv X pins σ H3 { s3 with heap:=s3.heap.push { cls:=.type "slice",data:=.fields #[vl,vu,.none] } }:=I3.kept (t':=s3.toks) λb ob q=>Heap.get?_push_of_some _ q;obtain⟨T,id,hT,ht,hg⟩:=hr pins { s3 with heap:=s3.heap.push { cls:=.type "slice",data:=.fields #[vl,vu,.none] } } σ H3 x v vl vu l u s3.heap.objs.size Q I4 r1 (Heap.IsSliceOf.new ..) pl pu q3;show wpAny (model X.prog X.w) X.A (subscriptTail e (.Slice lo hi none p2) v (.ref s3.heap.objs.size)) (EP X pins σ Q) X.xe { s3 with heap:=s3.heap.push { cls:=.type "slice",data:=.fields #[vl,vu,.none] } };exact tail_any (ops:=[.ref s3.heap.objs.size,v]) ht hT hg (by with_unfolding_all rfl)
def uX(xs:al)(lo hi:Option Int):al:=(xs.drop (HT.sIx xs.length 0 lo)).take (HT.sIx xs.length xs.length hi-HT.sIx xs.length 0 lo)
def mS(xs:al)(lo hi:Option Int):(uX xs lo hi).length<=xs.length:=by
 unfold uX;rw[List.length_take,List.length_drop];omega
def LU(K:W.Frag):V->Option Int->Option Int->Hp->VK->Prop:=λx lo hi H Q=>∃a xs,x=.ref a/\iZ K H a xs /\
 ¬(HT.sIx xs.length 0 lo=0/\HT.sIx xs.length xs.length hi=xs.length)/\∀p,H p=none->Q (.ref p) (upd H p (.tup (uX xs lo hi)))
def As:zP X (LU X.K):=by
 intro pins s σ H x v vl vu lo hi sl Q I rx hs pl pu h;obtain⟨a,xs,rfl,hx,hw,q⟩:=h;cases rx;obtain⟨its,r,ht,hz⟩:=I.tuple hx;have hlen:its.toArray.size=xs.length:=by rw[List.size_toArray];exact r.length.symm
 refine⟨"tuple",_,PyProof.Rows.slot_tuple_getitem.lookup,ht.typeIs,?_⟩;refine HT.getItem_tuple_cut ht hs pl pu (by rw[hlen];exact hw) ?_ (by rw[hlen];exact hz);rw[hlen];refine⟨.ref s.heap.objs.size,_,I.laid (t':=s.toks) (o:=.tup (uX xs lo hi)) (λb ob q=>Heap.get?_push_of_some _ q) (Nat.le_refl _) ?_,rfl,q _ (I.hok.fresh (Nat.le_refl _))⟩;exact⟨Nat.le_trans (mS xs lo hi) hz,_,(r.drop (HT.sIx xs.length 0 lo)).take (HT.sIx xs.length xs.length hi-HT.sIx xs.length 0 lo),IsTup.new _ _⟩
def JR(K:W.Frag):R2:=λx y H Q=>∃a b xs ys,x=.ref a/\y=.ref b/\iZ K H a xs/\iZ K H b ys/\xs≠[]/\xs.length+ys.length<=sizeLine /\
 (ys=[]->Q (.ref a) H)/\(ys≠[]->∀p,H p=none->Q (.ref p) (upd H p (.tup (xs++ys))))
def bu.nil_iff{xs:al}{us:List Value}(r:bu xs us):us=[]↔xs=[]:=by
 cases r with|nil|cons _ _=>simp
def xM:gf X (binaryOp .Add) (JR X.K):=by
 intro pins s σ H x y v u Q I rx ry h;obtain⟨a,b,xs,ys,rfl,rfl,ha,hb,hx,hz,q1,q2⟩:=h;cases rx;cases ry;obtain⟨its,r1,p1,_⟩:=I.tuple ha;obtain⟨its2,r2,p2,_⟩:=I.tuple hb;refine HT.cat_tup p1 p2 (λz=>hx (r1.nil_iff.mp z)) (λz=>⟨.ref a,H,I,rfl,q1 (r2.nil_iff.mp z)⟩) (λz=>?_) (by rw[←r1.length,←r2.length];exact hz);refine⟨.ref s.heap.objs.size,_,I.laid (t':=s.toks) (o:=.tup (xs++ys)) (λb ob q=>Heap.get?_push_of_some _ q) (Nat.le_refl _) ?_,rfl,q2 (λw=>z (r2.nil_iff.mpr w)) _ (I.hok.fresh (Nat.le_refl _))⟩;exact⟨by rw[List.length_append];exact hz,_,r1.append r2,IsTup.new _ _⟩
end
def uA(n:Nat)(i:Int):Option Nat:=if 0<=i then(if i<n then some i.toNat else none) else if -(n:Int)<=i then some (i+n).toNat else none
def atI{α:Type}(xs:List α)(i:Int):Option α:=(uA xs.length i).bind λj=>xs[j]?
def sr{n:Nat}{i:Int}{j:Nat}(h:uA n i=some j):seqIndex? i n=some j/\j<n/\-(n:Int)<=i/\i<n:=by
 unfold uA at h
 by_cases h0:0<=i
 .rw[if_pos h0]at h
  by_cases h1:i<n
  .rw[if_pos h1]at h
   have e:i.toNat=j:=Option.some.inj h;exact⟨by rw[seqIndex_of h0 h1,e],by omega,by omega,h1⟩
  .rw[if_neg h1]at h;cases h
 .rw[if_neg h0]at h
  by_cases h1:-(n:Int)<=i
  .rw[if_pos h1]at h
   have e:(i+n).toNat=j:=Option.some.inj h;exact⟨by rw[seqIndex_neg (by omega) h1,e],by omega,h1,by omega⟩
  .rw[if_neg h1]at h;cases h
def td{α:Type}{xs:List α}{i:Int}{v:α}(h:atI xs i=some v):∃j,seqIndex? i xs.length=some j/\xs[j]?=some v/\j<xs.length/\-(xs.length:Int)<=i/\i<xs.length:=by
 unfold atI at h;cases e:uA xs.length i with
 |none=>rw[e]at h;cases h
 |some j=>
  rw[e]at h;obtain⟨h1,h2,h3,h4⟩:=sr e;exact⟨j,h1,h,h2,h3,h4⟩
def dD{α:Type}{xs:List α}{j:Nat}{v:α}(h:xs[j]?=some v):atI xs (j:Int)=some v:=by
 have hj:j<xs.length:=(List.getElem?_eq_some_iff.mp h).1;have e:uA xs.length (j:Int)=some j:=by
  unfold uA;rw[if_pos (by omega),if_pos (by omega)];simp
 unfold atI;rw[e];exact h
def jz(b:Expr):Prop:=∀o i,subscripted b false o i=operate [o,i] (getItem o i)
noncomputable def CD(X:Cx) (r:R2):Prop :=
 ∀(value slice:Expr) (pins:List (Addr×Obj)) (s:Shared) (σ:St) (H:Hp) (x y:V) (v u:Value) (Q:VK),Inv X pins σ H s->bY x v->bY y u->r x y H Q ->
  subscripted slice false v u=operate [v,u] (getItem v u)->wpAny (model X.prog X.w) X.A (subscriptTail value slice v u) (EP X pins σ Q) X.xe s
noncomputable def Mr(X:Cx) (id:String) (r:V->al->Hp->VK->Prop):Prop :=
 ∀(pins:List (Addr×Obj)) (s:Shared) (σ:St) (H:Hp) (x:V) (xs:al) (v:Value) (us:List Value) (Q:VK),Inv X pins σ H s->bY x v->bu xs us->r x xs H Q ->
  wpAny (model X.prog X.w) X.A (call (.builtin id) (v::us)) (EP X pins σ Q) X.xe s
section
variable {X:Cx}{a b:Expr}{ta tb:TE}{pos:Pos}
def CD.or{r r':R2}(h:CD X r)(h':CD X r'):CD X (λx y H Q=>r x y H Q∨r' x y H Q):=by
 intro value slice pins s σ H x y v u Q I rx ry q hs;rcases q with q|q
 .exact h value slice pins s σ H x y v u Q I rx ry q hs
 .exact h' value slice pins s σ H x y v u Q I rx ry q hs
def uc{r:R2}(hr:CD X r)(ha:PE X a ta)(hb:PE X b tb)(hs:jz b):PE X (.Subscript a b pos) (Ji r ta tb):=by
 intro pins s σ H Q I h;exact Subscript_ (IV ha hb I h λv u s2 x y H2 I2 rx ry q=>hr a b pins s2 σ H2 x y v u Q I2 rx ry q (hs _ _))
def JP(K:W.Frag):R2:=λx y H Q=>∃p xs i v,x=.ref p/\y=.int i/\fL K H p xs/\atI xs i=some v/\Q v H
def JN(K:W.Frag):R2:=λx y H Q=>∃p xs i v,x=.ref p/\y=.int i/\iZ K H p xs/\atI xs i=some v/\Q v H
def JO:R2:=λx y H Q=>∃z i c,x=.str z/\y=.int i/\z.length<=sizeLine/\atI z.cps.toList i=some c/\Q (.str ⟨#[c]⟩) H
def D8:CD X (JP X.K):=by
 intro value slice pins s σ H x y v u Q I rx ry h hs;obtain⟨p,xs,i,z,rfl,rfl,hq,he,q⟩:=h;cases rx;obtain⟨t,rfl⟩:=ry;obtain⟨its,r,pl,hz⟩:=I.list hq;obtain⟨j,h1,h2,h3,h4,h5⟩:=td he;obtain⟨w,ew,rw'⟩:=r.get h2;have hl:=r.length;have hn:=oH;have fin:EP X pins σ Q w s:=⟨z,H,I,rw',q⟩
 by_cases h0:0<=i
 .have hj:i.toNat=j:=by
   rw[seqIndex_of h0 h5]at h1;exact Option.some.inj h1
  exact item_listR pl.isList h0 (by omega) (by rw[hj];simpa using ew) fin hs
 .have hj:(i+(its.toArray.size:Int)).toNat=j:=by
   rw[seqIndex_neg (by omega) h4]at h1;rw[List.size_toArray,←hl];exact Option.some.inj h1
  exact subscriptTail_builtinR (x:=w) pl.isList.typeIs slot_list_getitem.lookup
   (wpAny_getItem_list_neg (Q:=λr s'=>r=w/\EP X pins σ Q r s') pl.isList (by omega) (by rw[List.size_toArray]<;>omega) (by omega) (by rw[hj];simpa using ew) ⟨rfl,fin⟩) hs
def kT:CD X (JN X.K):=by
 intro value slice pins s σ H x y v u Q I rx ry h hs;obtain⟨p,xs,i,z,rfl,rfl,hq,he,q⟩:=h;cases rx;obtain⟨t,rfl⟩:=ry;obtain⟨its,r,pl,hz⟩:=I.tuple hq;obtain⟨j,h1,h2,h3,h4,h5⟩:=td he;obtain⟨w,ew,rw'⟩:=r.get h2;have hl:=r.length;have hn:=oH;have fin:EP X pins σ Q w s:=⟨z,H,I,rw',q⟩
 exact subscriptTail_builtinR (x:=w) pl.typeIs slot_tuple_getitem.lookup
  (getItem_tuple (j:=j) (Q:=λr s'=>r=w/\EP X pins σ Q r s') pl (by omega) (by omega) (by rw[List.size_toArray,←hl];exact h1) (by simpa using ew) ⟨rfl,fin⟩) hs
def Hv:CD X JO:=by
 intro value slice pins s σ H x y v u Q I rx ry h hs;obtain⟨z,i,c,rfl,rfl,hz,he,q⟩:=h;obtain⟨t,rfl⟩:=rx;obtain⟨t',rfl⟩:=ry;obtain⟨j,h1,h2,h3,h4,h5⟩:=td he;have hl:z.cps.toList.length=z.length:=by simp[Str.length]
 rw[hl]at h1 h4 h5;have hn:=oH;exact tail_any (typeIs_str s z t) slot_str_getitem.lookup (getItem_str (c:=c) (by
  have e1:decide (i < -(2 ^ 63:Int))=false:=decide_eq_false (by omega);have e2:decide (i≥2 ^ 63)=false:=decide_eq_false (by omega);rw[e1,e2,Bool.or_false]) (by rw[h1];simpa using h2) ⟨.str ⟨#[c]⟩,H,I.tok _,⟨_,rfl⟩,q⟩) hs
def MB(K:W.Frag):R2:=λx y H Q=>JP K x y H Q∨JN K x y H Q∨JO x y H Q
def Hw:CD X (MB X.K):=D8.or (kT.or Hv)
def vU(its:List Value)(n j:Nat)(u:Value):Obj.mapSeq (·.setIfInBounds j u) { cls:=.type "list",data:=.seq its.toArray n }={ cls:=.type "list",data:=.seq (its.set j u).toArray n }:=by
 simp[Obj.mapSeq]
def Inv.lst{pins:List (Addr×Obj)}{σ:St}{H:Hp}{s:Shared}{p:Addr}{xs:al}(I:Inv X pins σ H s)(h:H p=some (.lst xs)) :
  ∃(its:List Value) (n:Nat),bu xs its/\s.heap.get? p=some { cls:=.type "list",data:=.seq its.toArray n }/\xs.length<=sizeLine:=by
 obtain⟨z,its,n,r,e⟩:=I.hok p _ h;exact⟨its,n,r,e,z⟩
def Inv.lstUpd{pins:List (Addr×Obj)}{σ:St}{H:Hp}{s:Shared}{p:Addr}{xs ys:al}{its its':List Value}{n n':Nat}{f:Obj->Obj}(I:Inv X pins σ H s)(h:H p=some (.lst xs))
  (ho:s.heap.get? p=some { cls:=.type "list",data:=.seq its.toArray n })(hf:f { cls:=.type "list",data:=.seq its.toArray n }={ cls:=.type "list",data:=.seq its'.toArray n' })(r:bu ys its')(hz:ys.length<=sizeLine)(t:Nat) :
  Inv X pins σ (upd H p (.lst ys)) { s with heap:=s.heap.update p f,toks:=t }:=by
 have e:(s.heap.update p f).get? p=some { cls:=.type "list",data:=.seq its'.toArray n' }:=by
  rw[Heap.get?_update_self f ho (by rw[hf]<;>rfl),hf]
 refine I.write (x:=p) (e:=p) (by rw[h];trivial) (.inl rfl) (λb u hb q=>(Heap.get?_update_other _ _ (Ne.symm hb)).trans q) ⟨_,e⟩ ?_;exact⟨hz,its',n',r,e⟩
def FL:V->V->V->Hp->(Hp->Prop)->Prop:=λo i v H Q=>∃p xs k j,o=.ref p/\i=.int k/\H p=some (.lst xs)/\uA xs.length k=some j/\Q (upd H p (.lst (xs.set j v)))
def tR:K7 X FL:=by
 intro pins s σ H o i v ov iv u Q I ro ri rv h;obtain⟨p,xs,k,j,rfl,rfl,hp,hj,q⟩:=h;cases ro;obtain⟨t,rfl⟩:=ri;obtain⟨its,n,r,ho,hz⟩:=I.lst hp;obtain⟨h1,h2,h3,h4⟩:=sr hj;have hl:=r.length;have hn:=oH;have I':Inv X pins σ (upd H p (.lst (xs.set j v))) { s with heap:=s.heap.update p (Obj.mapSeq (·.setIfInBounds j u)) } :=
  I.lstUpd hp ho (vU its n j u) (r.set rv j) (by rw[List.length_set];exact hz) s.toks
 by_cases h0:0<=k
 .have hk:k.toNat=j:=by
   rw[seqIndex_of h0 h4]at h1;exact Option.some.inj h1
  exact W.ki_setAt ho h0 (by omega) (by rw[List.size_toArray,←hl];exact h4) (by rw[hk];exact⟨_,I',q⟩)
 .have hk:(k+(its.toArray.size:Int)).toNat=j:=by
   rw[seqIndex_neg (by omega) h3]at h1;rw[List.size_toArray,←hl];exact Option.some.inj h1
  exact W.ki_setBack ho (by omega) (by rw[List.size_toArray,←hl];exact h3) (by omega) (by rw[hk];exact⟨_,I',q⟩)
def rz(lo hi:Option Int)(n:Nat):(sliceBounds lo hi none n).1=((HT.sIx n 0 lo:Nat):Int)/\(sliceBounds lo hi none n).2.1=((HT.sIx n n hi:Nat):Int)/\(sliceBounds lo hi none n).2.2=1:=by
 refine⟨?_,?_,rfl⟩
 .cases lo with
  |none=>simp[sliceBounds,HT.sIx]
  |some i=>
   simp only[sliceBounds,HT.sIx,Option.getD_none,show(1:Int) > 0 by decide,if_true]
   by_cases h:i<0
   .simp only[h,if_true]<;>omega
   .simp only[h,if_false]<;>omega
 .cases hi with
  |none=>simp[sliceBounds,HT.sIx]
  |some i=>
   simp only[sliceBounds,HT.sIx,Option.getD_none,show(1:Int) > 0 by decide,if_true]
   by_cases h:i<0
   .simp only[h,if_true]<;>omega
   .simp only[h,if_false]<;>omega
def pQ(its:List Value)(lo hi:Option Int):slicePick its.toArray lo hi none=((its.drop (HT.sIx its.length 0 lo)).take (HT.sIx its.length its.length hi-HT.sIx its.length 0 lo)).toArray:=by
 obtain⟨h1,h2,h3⟩:=rz lo hi its.toArray.size;unfold slicePick;rw[h1,h2,h3];simp only[sliceRange_one,pick_run,List.size_toArray]<;>rfl
def LW(K:W.Frag):V->Option Int->Option Int->Hp->VK->Prop:=λx lo hi H Q=>∃a xs,x=.ref a/\fL K H a xs/\∀p,H p=none->Q (.ref p) (upd H p (.lst (uX xs lo hi)))
def Dk:zP X (LW X.K):=by
 intro pins s σ H x v vl vu lo hi sl Q I rx hs pl pu h;obtain⟨a,xs,rfl,hx,q⟩:=h;cases rx;obtain⟨its,r,ht,hz⟩:=I.list hx;have hlen:=r.length;refine⟨"list",_,slot_list_getitem.lookup,ht.isList.typeIs,?_⟩;refine wpAny_getItem_list_slice ht.isList hs pl pu .none (by simp) ?_ (by rw[List.size_toArray]<;>omega);rw[pQ,←hlen];refine⟨.ref s.heap.objs.size,_,I.laid (t':=s.toks) (o:=.lst (uX xs lo hi)) (λb ob q=>Heap.get?_push_of_some _ q) (Nat.le_refl _) ?_,rfl,q _ (I.hok.fresh (Nat.le_refl _))⟩;exact⟨Nat.le_trans (mS xs lo hi) hz,_,0,(r.drop (HT.sIx xs.length 0 lo)).take (HT.sIx xs.length xs.length hi-HT.sIx xs.length 0 lo),Heap.get?_push_size _ rfl⟩
def rS:gf X (compareOp .NotIn) (λx y H Q=>∃i j,x=.str i/\y=.str j/\Q (.bl (!(!(Builtin.Str.occurrences j i 0 j.length 1).isEmpty))) H):=by
 intro pins s σ H x y v u Q I rx ry h;obtain⟨i,j,rfl,rfl,q⟩:=h;obtain⟨t,rfl⟩:=rx;obtain⟨t',rfl⟩:=ry;exact notIn_str ⟨.bl _,H,I,rfl,q⟩
def fH:jG X (.type "list") (λxs H Q=>∃p ys,xs=[.ref p]/\(fL X.K H p ys∨iZ X.K H p ys)/\∀l,H l=none->Q (.ref l) (upd H l (.lst ys))):=by
 intro pins s σ H xs us Q I r h;obtain⟨p,ys,rfl,hq,q⟩:=h;obtain⟨u,rfl,rx⟩:=qc r;cases rx;have fin:∀(its:List Value),bu ys its->ys.length<=sizeLine->∀(h':Heap) (c':Nat),(∀b o',s.heap.get? b=some o'->h'.get? b=some o') ->
   h'.get? s.heap.objs.size=some { cls:=.type "list",dict:=none,data:=.seq its.toArray c',slots:=#[] }->EP X pins σ Q (.ref s.heap.objs.size) { s with heap:=h' }:=λits r' hz h' c' kp e=>
  ⟨.ref s.heap.objs.size,_,I.laid (t':=s.toks) kp (Nat.le_refl _) (show cm X.prog X.w _ h' _ (.lst ys) from⟨hz,its,c',r',e⟩),rfl,q _ (I.hok.fresh (Nat.le_refl _))⟩
 rcases hq with hq|hq
 .obtain⟨its,r',pl,hz⟩:=I.list hq
  have hlen:=r'.length;obtain⟨o,ho,hc,n,hd⟩:=pl.isList;exact call_list_seq p (.inl rfl) ho hc hd (λh' c' kp e=>fin its r' hz h' c' kp e) (by simp only[List.size_toArray]<;>omega)
 .obtain⟨its,r',pl,hz⟩:=I.tuple hq
  have hlen:=r'.length;obtain⟨o,ho,hc,n,hd⟩:=pl;exact call_list_seq p (.inr rfl) ho hc hd (λh' c' kp e=>fin its r' hz h' c' kp e) (by simp only[List.size_toArray]<;>omega)
noncomputable def Lv(K:W.Frag) (T:String) (x:V) (H:Hp):Prop:=match x with
 |.str _=>T="str"
 |.int _=>T="int"
 |.ref p=>(T="list"/\∃xs,fL K H p xs)∨(T="tuple"/\∃o,K.lookup p=some o/\o.cls=.type "tuple"/\o.dict=none) ∨
   (T="dict"/\((∃kvs,H p=some (.dK kvs))∨∃kvs,H p=some (.dT kvs)))∨(T="set"/\∃S n,H p=some (.set S n))
 |_=>False
def Aa{pins:List (Addr×Obj)}{σ:St}{H:Hp}{s:Shared}{T:String}{x:V}{v:Value}(I:Inv X pins σ H s)(r:bY x v)(ty:Lv X.K T x H) :
  s.TypeIs v T/\∀a,v=.ref a->∃ob,s.heap.get? a=some ob/\ob.dict=none:=by
 cases x with
 |str z=>
  obtain⟨t,rfl⟩:=r;cases (show T="str" from ty);exact⟨typeIs_str s z t,λ_ e=>nomatch e⟩
 |int i=>
  obtain⟨t,rfl⟩:=r;cases (show T="int" from ty);exact⟨typeIs_int s i t,λ_ e=>nomatch e⟩
 |ref p=>
  cases r;rcases ty with⟨rfl,xs,hq⟩|⟨rfl,o,hk,hc,hd⟩|⟨rfl,hk⟩|⟨rfl,S,n,hk⟩
  .obtain⟨its,_,pl,_⟩:=I.list hq
   refine⟨pl.isList.typeIs,λa e=>?_⟩;cases e;obtain⟨o,n,e,c,hd,_⟩:=pl;exact⟨o,e,hd⟩
  .refine⟨⟨o,I.kIn p o hk,hc⟩,λa e=>?_⟩
   cases e;exact⟨o,I.kIn _ o hk,hd⟩
  .have z:∃o,s.heap.get? p=some o/\o.ExactDict:=by
    rcases hk with⟨kvs,hk⟩|⟨kvs,hk⟩
    .obtain⟨_,_,_,_,o,_,_,e,ex,_⟩:=I.hok p _ hk
     exact⟨o,e,ex⟩
    .obtain⟨_,_,_,_,o,_,_,e,ex,_⟩:=I.hok p _ hk
     exact⟨o,e,ex⟩
   obtain⟨o,e,ex⟩:=z;refine⟨⟨o,e,ex.1⟩,λa e2=>?_⟩;cases e2;exact⟨o,e,ex.2.1⟩
  .obtain⟨o,_,_,_,e,ex,_⟩:=I.hok p _ hk
   refine⟨⟨o,e,ex.1⟩,λa e2=>?_⟩;cases e2;exact⟨o,e,ex.2.1⟩
 |_=>exact False.elim ty
def LN(K:W.Frag)(T:String)(r:V->al->Hp->VK->Prop)(to:TE):TE:=λσ H Q=>to σ H λx H1=>Lv K T x H1/\r x [] H1 Q
def MY(K:W.Frag)(T:String)(r:V->al->Hp->VK->Prop)(to:TE)(t:TA):TE:=λσ H Q=>to σ H λx H1=>Lv K T x H1/\t σ H1 λxs H2=>r x xs H2 Q
variable {o e:Expr}{es:List Expr}{to:TE}{t:TA}{name:Str}{apos cpos:Pos}{T id:String}{r:V->al->Hp->VK->Prop}
def AX(pa:PlainAttrs T)(slot:Slot T name id)(hty:typeOf (.builtin id)=pure (.type "method_descriptor"))(hm:Mr X id r)(ho:PE X o to)
  (hbase:attributeBase o name X.env (eval o X.env)=eval o X.env:=by rfl)(hline:(apos.endLine==cpos.line)=true:=by rfl):PE X (.Call (.Attribute o name apos) [] [] cpos) (LN X.K T r to):=by
 intro pins s σ H Q I h;refine wpAny_Call_method0_late hbase hline (dy (ho pins s σ H _ I h) λv s1 z9=>?_);obtain⟨x,H1,I1,r1,ty,q1⟩:=z9;obtain⟨h1,h2⟩:=Aa I1 r1 ty;exact⟨T,id,pa,slot,hty,h1,h2,Calls.callWith_builtin rfl (PySem.evalArgs_none (hm pins s1 σ H1 x [] v [] Q I1 r1 .nil q1))⟩
def ud(pa:PlainAttrs T)(slot:Slot T name id)(hty:typeOf (.builtin id)=pure (.type "method_descriptor"))(hm:Mr X id r)(ho:PE X o to)(ha:PA X (e::es) t)
  (hbase:attributeBase o name X.env (eval o X.env)=eval o X.env:=by rfl)
  (hfew:((backTo cpos (starEach (e::es) X.env)).all (λx=>!x.1)&&(backToKw cpos (keywordEach [] X.env)).all (λx=>x.1.isSome)
  &&decide ((e::es).length+([]:List Keyword).length+(if([]:List Keyword).isEmpty then 0 else 1)<30))=true:=by rfl)
  (hline:(apos.endLine==cpos.line)=true:=by rfl) (hs:starEach (e::es) X.env=(false,eval e X.env)::starEach es X.env:=by rfl) (hplain:(backTo cpos (starEach es X.env)).any (·.1)=false:=by rfl) :
  PE X (.Call (.Attribute o name apos) (e::es) [] cpos) (MY X.K T r to t):=by
 intro pins s σ H Q I h;refine wpAny_Call_method_late hbase hfew hline rfl (dy (ho pins s σ H _ I h) λv s1 ⟨x,H1,I1,r1,ty,q1⟩=>?_);obtain⟨h1,h2⟩:=Aa I1 r1 ty;refine⟨T,id,pa,slot,hty,h1,h2,?_⟩;have hA:=ha cpos pins s1 σ H1 _ I1 q1;rw[hs]at hA ⊢;refine Calls.callWith_builtin (by show(false||(backTo cpos (starEach es X.env)).any (·.1))=false;rw[hplain]<;>rfl) (Calls.evalArgs_plain ?_);exact dy hA λus s2 ⟨vs,H2,I2,r2,q2⟩=>hm pins s2 σ H2 x vs v us Q I2 r1 r2 q2
end
noncomputable def Lq(X:Cx) (id:String) (r:V->al->Hp->VK->Prop):Prop :=
 ∀(pins:List (Addr×Obj)) (s:Shared) (σ:St) (H:Hp) (x:V) (xs:al) (v:Value) (us:List Value) (Q:VK),Inv X pins σ H s->bY x v->bu xs us->r x xs H Q ->
  wpAny (model X.prog X.w) X.A (call (.builtin id) (v::us)) (EP X pins σ Q) X.xe s
theorem bu.one:∀{x:V}{us:List Value},bu [x] us->∃u,us=[u]/\bY x u
 |_,_,.cons r .nil=>⟨_,rfl,r⟩
theorem bu.zero:∀{us:List Value},bu [] us->us=[]
 |_,.nil=>rfl
def bu.dropLast{xs:al}{us:List Value}(h:bu xs us):bu xs.dropLast us.dropLast:=by
 induction h with
 |nil=>exact .nil
 |cons r t ih=>
  cases t with|nil=>exact .nil|cons q t'=>exact .cons r ih
theorem bu.eraseIdx:∀{xs:al}{us:List Value}(i:Nat),bu xs us->bu (xs.eraseIdx i) (us.eraseIdx i)
 |_,_,_,.nil=>.nil
 |_,_,0,.cons _ t=>t
 |_,_,i+1,.cons r t=>.cons r (bu.eraseIdx i t)
theorem bu.rep{xs:al}{us:List Value}(h:bu xs us):∀k:Nat,bu (List.replicate k xs).flatten (List.replicate k us).flatten
 |0=>.nil
 |k+1=>by
  rw[List.replicate_succ,List.replicate_succ,List.flatten_cons,List.flatten_cons];exact bu.append h (bu.rep h k)
def wG{α:Type}(l:List α):l.eraseIdx (l.length-1)=l.dropLast:=by
 induction l with
 |nil=>rfl
 |cons a r ih=>
  cases r with
  |nil=>rfl
  |cons b r=>
   have e:(a::b::r).length-1=((b::r).length-1)+1:=by
    have h1:(a::b::r).length=r.length+2:=rfl;have h2:(b::r).length=r.length+1:=rfl;omega
   rw[e,List.eraseIdx_cons_succ,ih]
   all_goals rfl
theorem qw{α:Type}:∀(l:List α) (i:Nat),(l.eraseIdx i).length<=l.length
 |[],_=>Nat.le_refl _
 |_::_,0=>Nat.le_succ _
 |_::r,i+1=>Nat.succ_le_succ (qw r i)
theorem qC(its:List Value):∀(k:Nat) (acc:List Value),
  List.foldl (λx1 x2=>x1++x2) acc.toArray (List.replicate k its.toArray)=(acc++(List.replicate k its).flatten).toArray
 |0,acc=>by simp
 |k+1,acc=>by
  have e:acc.toArray++its.toArray=(acc++its).toArray:=by simp
  have e2:(acc++its)++(List.replicate k its).flatten=acc++(List.replicate (k+1) its).flatten:=by
   rw[List.replicate_succ,List.flatten_cons,List.append_assoc]
  rw[←e2,←qC its k (acc++its),←e,List.replicate_succ,List.foldl_cons]
section
variable {X:Cx}{pins:List (Addr×Obj)}{σ:St}{H:Hp}{s:Shared}{l b:Addr}{xs ys zs:al}
def Inv.lset{its its':List Value}{n:Nat}{f:Array Value->Array Value}{t':Nat}(I:Inv X pins σ H s)(hH:H l=some (.lst xs))
  (e:s.heap.get? l=some { cls:=.type "list",data:=.seq its.toArray n })(hf:f its.toArray=its'.toArray)(hv:bu ys its')(hz:ys.length<=sizeLine) :
  Inv X pins σ (upd H l (.lst ys)) { s with heap:=s.heap.update l (Obj.mapSeq f),toks:=t' }:=by
 have q:=PySem.IsL.update e f;rw[hf]at q;refine I.write (x:=l) (e:=l) (by rw[hH];exact trivial) (.inl rfl) (λb' u hb hu=>(Heap.get?_update_other s.heap (Obj.mapSeq f) (Ne.symm hb)).trans hu) ⟨_,q⟩ ?_;exact⟨hz,its',_,hv,q⟩
def Inv.lnew{its:List Value}{t':Nat}(I:Inv X pins σ H s)(hv:bu ys its)(hz:ys.length<=sizeLine) :
  Inv X pins σ (upd H s.heap.objs.size (.lst ys)) { s with heap:=s.heap.push { cls:=.type "list",data:=.seq its.toArray },toks:=t' } :=
 I.laid (λ_ _ q=>Heap.get?_push_of_some _ q) (Nat.le_refl _) ⟨hz,its,0,hv,Heap.get?_push_size _ rfl⟩
def Inv.fresh(I:Inv X pins σ H s):H s.heap.objs.size=none:=I.hok.fresh (Nat.le_refl _)
def Inv.lstM(I:Inv X pins σ H s)(hH:H l=some (.lst xs)):xs.length<=sizeLine/\∃(its:List Value) (n:Nat),bu xs its/\xs.length=its.length/\s.heap.get? l=some { cls:=.type "list",data:=.seq its.toArray n }:=by
 obtain⟨z,its,n,r,e⟩:=I.hok l _ hH;exact⟨z,its,n,r,r.length,e⟩
def A3{n:Nat}(h:n<=sizeLine):Builtin.List.listTooLong n=false:=by
 unfold Builtin.List.listTooLong;exact decide_eq_false (by omega)
end
section
variable {X:Cx}
def Dr:V->al->Hp->VK->Prop:=λx vs H Q=>∃l xs y,x=.ref l/\vs=[y]/\H l=some (.lst xs)/\xs.length<sizeLine/\Q .non (upd H l (.lst (xs++[y])))
def kq:Lq X "list.append" Dr:=by
 intro pins s σ H x vs v us Q I rx rv h;obtain⟨l,xs,y,rfl,rfl,hH,hz,q⟩:=h;cases rx;obtain⟨u,rfl,ru⟩:=rv.one;obtain⟨z,its,n,r,hl,e⟩:=I.lstM hH;refine call_meets F.slot_list_append ⟨_,e,rfl⟩ F.entry_list_append (F.args_list_append_2 _ _) (PySem.list_append l its.toArray n u (by rw[List.size_toArray];omega)) ⟨e,?_⟩;refine⟨.non,_,I.lset (its':=its++[u]) hH e (by simp) (r.append (.cons ru .nil)) ?_,rfl,q⟩;rw[List.length_append,List.length_singleton];omega
def LY:V->al->Hp->VK->Prop:=λx vs H Q=>∃l xs y,x=.ref l/\vs=[]/\H l=some (.lst xs)/\xs[xs.length-1]?=some y/\Q y (upd H l (.lst xs.dropLast))
def Hk:Lq X "list.pop" LY:=by
 intro pins s σ H x vs v us Q I rx rv h;obtain⟨l,xs,y,rfl,rfl,hH,hy,q⟩:=h;cases rx;have hus:=rv.zero;subst hus;obtain⟨z,its,n,r,hl,e⟩:=I.lstM hH;obtain⟨u,hu,ru⟩:=r.get hy;have hy':its.toArray[its.toArray.size-1]?=some u:=by
  show its.toArray[its.length-1]?=some u;rw[←Array.getElem?_toList,←hl];exact hu
 refine call_meets F.slot_list_pop ⟨_,e,rfl⟩ F.entry_list_pop (F.args_list_pop_1 _) (MeetsSeq.list_pop_last l its.toArray n u hy' (by rw[List.size_toArray];omega)) ⟨e,?_⟩;refine⟨y,_,I.lset (its':=its.dropLast) hH e ?_ r.dropLast ?_,ru,q⟩
 .show its.toArray.eraseIdxIfInBounds (its.toArray.size-1)=its.dropLast.toArray
  rw[List.size_toArray,List.eraseIdxIfInBounds_toArray,wG]
 .rw[List.length_dropLast]
  omega
def GQ:V->al->Hp->VK->Prop:=λx vs H Q=>∃l xs i k y,x=.ref l/\vs=[.int i]/\H l=some (.lst xs)/\-(2 ^ 63)<=i/\i<2 ^ 63/\seqIndex? i xs.length=some k/\xs[k]?=some y/\Q y (upd H l (.lst (xs.eraseIdx k)))
def Ba:Lq X "list.pop" GQ:=by
 intro pins s σ H x vs v us Q I rx rv h;obtain⟨l,xs,i,k,y,rfl,rfl,hH,h1,h2,hk,hy,q⟩:=h;cases rx;obtain⟨u,rfl,ru⟩:=rv.one;obtain⟨t,rfl⟩:=ru;obtain⟨z,its,n,r,hl,e⟩:=I.lstM hH;obtain⟨w,hw,rw'⟩:=r.get hy;refine call_meets F.slot_list_pop ⟨_,e,rfl⟩ F.entry_list_pop (F.args_list_pop_2 _ _)
  (MeetsSeq.list_pop_at l its.toArray n i t k w (fitsIndex_both h1 h2) (by rw[List.size_toArray,←hl];exact hk) (by rw[←Array.getElem?_toList];exact hw) (by rw[List.size_toArray];omega)) ⟨e,?_⟩
 refine⟨y,_,I.lset (its':=its.eraseIdx k) hH e ?_ (r.eraseIdx k) ?_,rw',q⟩
 .show its.toArray.eraseIdxIfInBounds k=(its.eraseIdx k).toArray
  rw[List.eraseIdxIfInBounds_toArray]
 .have:=qw xs k
  omega
def GR:V->al->Hp->VK->Prop:=λx vs H Q=>∃l xs,x=.ref l/\vs=[]/\H l=some (.lst xs)/\Q .non (upd H l (.lst []))
def Bb:Lq X "list.clear" GR:=by
 intro pins s σ H x vs v us Q I rx rv h;obtain⟨l,xs,rfl,rfl,hH,q⟩:=h;cases rx;have hus:=rv.zero;subst hus;obtain⟨z,its,n,r,hl,e⟩:=I.lstM hH;refine call_meets F.slot_list_clear ⟨_,e,rfl⟩ F.entry_list_clear (F.args_list_clear_1 _) (AutoSeq1.list_clear_list_0 l its.toArray n (by rw[List.size_toArray];omega)) ⟨e,?_⟩;exact⟨.non,_,I.lset (its':=[]) (ys:=[]) hH e rfl .nil (Nat.zero_le _),rfl,q⟩
def LX:R2:=λx y H Q=>∃l k xs,x=.ref l/\y=.int k/\H l=some (.lst xs)/\-(2 ^ 63)<=k/\k<2 ^ 63/\xs.length*k.toNat<=sizeLine /\
 ∀p,H p=none->Q (.ref p) (upd H p (.lst (List.replicate k.toNat xs).flatten))
def D0{α:Type}(xs:List α)(k:Nat):(List.replicate k xs).flatten.length=k*xs.length:=by
 induction k with|zero=>simp|succ k ih=>rw[List.replicate_succ,List.flatten_cons,List.length_append,ih,Nat.succ_mul,Nat.add_comm]
def G8:gf X (binaryOp .Mult) LX:=by
 intro pins s σ H x y v u Q I rx ry h;obtain⟨l,k,xs,rfl,rfl,hH,h1,h2,hz,q⟩:=h;cases rx;obtain⟨t,rfl⟩:=ry;obtain⟨z,its,n,r,hl,e⟩:=I.lstM hH;have hlen:its.toArray.size*k.toNat<=sizeLine:=by rw[List.size_toArray,←hl];exact hz
 have hcap:¬its.toArray.size*k.toNat > (2 ^ 63-1) / 8:=by
  have:(sizeLine:Nat)<=(2 ^ 63-1) / 8:=by decide
  omega
 have hfit:¬(!Builtin.List.listFitsIndex k)=true:=by
  rw[fitsIndex_both h1 h2];exact Bool.false_ne_true
 have hlong:¬Builtin.List.listTooLong (its.toArray.size*k.toNat)=true:=by
  rw[A3 hlen];exact Bool.false_ne_true
 have hnew:List.foldl (λx1 x2=>x1++x2) #[] (List.replicate (if its.toArray.isEmpty=true then 0 else k.toNat) its.toArray)=(List.replicate k.toNat its).flatten.toArray:=by
  have f0:∀m:Nat,List.foldl (λx1 x2=>x1++x2) #[] (List.replicate m its.toArray)=(List.replicate m its).flatten.toArray:=λm=>by
   have:=qC its m [];rw[List.nil_append]at this;exact this
  rw[f0];cases its with|nil=>simp|cons a r'=>rw[if_neg (by simp)]
 refine wpAny_binaryOp_repeat_ref (T:="list") (U:="int") (by decide) ⟨_,e,rfl⟩ (λs'=>typeIs_int s' k t) noFill_list_mul F.fills_int_mul F.slot_int_rmul repeat_list F.slot_int_index.lookup
  (call_meets F.slot_int_rmul (typeIs_int s k t) F.entry_int_rmul (F.args_int_rmul_2 _ _) (int___rmul___int_list k t l its.toArray n)
   ⟨e,rfl,⟨_,e,rfl⟩,call_meets F.slot_list_mul ⟨_,e,rfl⟩ F.entry_list_mul (F.args_list_mul_2 _ _) (AutoListH.list___mul___list_int_3 l its.toArray n k t hfit hcap hlong) ⟨e,?_⟩⟩)
 rw[hnew];exact⟨.ref _,_,I.lnew (t':=s.toks) (r.rep k.toNat) (by rw[D0,Nat.mul_comm];exact hz),rfl,q _ I.fresh⟩
end
end L2
namespace Att
open PySem PySem.W PySem.Calls PyProof.Rows
def m8{P:Params}{h:Heap}:∀(ns:List Int) (vs:List Value),WellAll P h vs (ns.map WData.int)->IntsAre vs ns:=by
 intro ns
 induction ns with
 |nil=>
  intro vs w;rw[List.map_nil]at w;cases w;exact .nil
 |cons n ns ih=>
  intro vs w;rw[List.map_cons]at w;cases w with
  |cons a b=>
   cases a;exact .cons _ _ (ih _ b)
def yS{l:OpenLaw}{n:Nat}(hn:l.most=some n){P:Params}{h:Heap}{args:List WData}{vals:List Value}
  (hpre:l.row.toRowW.claim.pre args=true)(hwl:WellAll P h vals args) :
  ∃a vs ns,vals=[Value.ref a]/\args=[WData.list (ns.map WData.int)]/\h.get? a=some { cls:=.type "list",data:=.seq vs.toArray }/\IntsAre vs ns/\ns.length<=n:=by
 have hsh:WShape.hasAll [] args [.list .int]=true:=(pre_splitW hpre).1;have hc:l.pre.holds [] { args:=args }=true:=(pre_splitW hpre).2;obtain⟨d,r,rfl,h1,h2⟩:=hasAllW_cons hsh;obtain rfl:=hasAllW_nil h2;obtain⟨xs,rfl,h3⟩:=hasW_list h1;obtain⟨ns,rfl⟩:=items_int h3;have hlen:ns.length<=n:=by
  unfold OpenLaw.pre at hc;have h4:(WTm.not (.lt (.lit (.int (n:Int))) (.len (.arg 0)))).holds [] { args:=[.list (ns.map .int)] }=true:=by
   have h4:=(holds_andW hc).1;rw[hn]at h4;exact h4
  have h5:=condW_of h4 (w_not (w_lt w_lit (w_len_list (w_arg rfl))));rw[List.length_map]at h5;refine Nat.le_of_not_lt λq=>?_;have q':(n:Int)<((ns.length:Nat):Int):=by omega
  first
   |(rw[decide_eq_true q']at h5;exact absurd h5 (by decide))
   |(simp at h5;omega)
 cases hwl with
 |cons w1 w2=>
  cases w2;cases w1 with|list ho hall=>exact⟨_,_,ns,rfl,rfl,ho,m8 ns _ hall,hlen⟩
def yY(l:OpenLaw)(args:List WData):l.row.toRowW.claim.post args (.bool true) args=true :=
 postW_of (r:=l.row.toRowW) (X:=(true==true))
  (show WShape.has [] (.bool true) .bool=true by first|rfl|decide|simp[WShape.has,WShape.arms,WShape.armsAll])
  (show(WTm.eq .res (.lit (.bool true))).value [] { args:=args,res:=some (.bool true),after:=args }=some (.bool (true==true)) from w_eq_bool (w_res rfl) w_lit) rfl
def attach_call{l:OpenLaw}{n:Nat}{q:Program}{loose:List Str}{XP:(Str->Option Value)->Heap->Prop}{YP:World->Heap->Prop}{d:DefRec}
  (hn:l.most=some n)(hdf:d.params.defaults=[])
  (call:∀(w:World) (sf sg:Shared) (mg mb:Str->Option Value) (fa:Addr) (o:Obj) (pm cd doc:Value) (a:Addr) (vs:List Value) (ns:List Int),
   Ground q loose [] XP w sf mg mb sg.heap->YP w sg.heap ->
   sg.heap.get? fa=some o->o.data=.func (docDef d.name d.params d.body d.scope pm cd doc)->sg.heap.CodeRec cd d.name->mg d.name=some (.ref fa) ->
   sg.heap.get? a=some { cls:=.type "list",data:=.seq vs.toArray }->IntsAre vs ns->ns.length<=n->sg.gens=#[] ->
   codeAny (model l.prog w) callerA (.call (.ref fa) ⟨[.ref a],[]⟩) (λr s'=>r=.ok (.ret (.bool true))/\OldK sg.heap s'.heap/\s'.os=sg.os/\AllBare s'.gens) sg) :
  WalkO q loose XP YP l.row.toRowW d [] (λf vs=>PySem.call f vs):=by
 intro w sf sg mg mb G Y fa o pm cd doc dV kV ho hd hcd hD hmg hg args vals as hpre hlay hrd hwl hlo;obtain rfl:dV=.none:=Dflts.none hD hdf;obtain rfl:kV=.none:=Dflts.noKw hD;obtain⟨a,vs,ns,rfl,rfl,hobj,hints,hlen⟩:=yS hn hpre hwl;refine enter_call (codeAny_mono (call w sf sg mg mb fa o pm cd doc a vs ns G Y ho (fd_plain hd) hcd hmg hobj hints hlen hg) λr s' hq=>?_);obtain⟨rfl,h2,h3,h4⟩:=hq;exact⟨.inl ⟨.bool true,.bool true,[],rfl,λ_=>rfl,.bool true,yY l _,λ_=>⟨List.Pairwise.nil,λ_ hm=>(nomatch hm)⟩⟩,h2,h3,h4⟩
end Att
namespace L2
open PySem PySem.Spec PyProof.Rows
theorem p9:∀{vs:List Value}{ns:List Int},IntsAre vs ns->bu (ns.map V.int) vs
 |_,_,.nil=>.nil
 |_,_,.cons n t h=>.cons ⟨t,rfl⟩ (p9 h)
def FC(H:Hp):Prop:=∀b,H b=none∨∃o xs,H b=some (.frz o (.lst xs))
def Bh{P:Program}{w:World}{K:W.Frag}{mg mb:Str->Option Value}{CX:q9}{k:Nat}{fa a:Addr}{fd:FuncData}{x:Str}{sp:Sp}{sg:Shared}{vs:List Value}{ns:List Int}
  (KX:K.In sg.heap)(hns:sg.heap.Ns mainGlobals mg)(hb:sg.heap.Ns builtinsNs mb)(hbb:∀x:Str,x≠"__name__"->mb x=bootBuiltins x)(hlim:sg.heap.NoLimit)(hsm:∃mm,sg.heap.Ns sysModules mm)(hg:sg.gens=#[])
  (ha:sg.heap.get? a=some { cls:=.type "list",data:=.seq vs.toArray })(hi:IntsAre vs ns)(hl:ns.length<=sizeLine)(hr:dI k callerA)
  (F:∀base:Heap,K.In base->base.Ns mainGlobals mg->FnOk P w K mg base CX k fa fd [x] sp)(hbind:∀(s:Shared) (u:Value),BindsTo s fd ⟨[u],[]⟩ [(x,u)])
  (hsp:∀H:Hp,FC H->fL K H a (ns.map V.int)->sp [.ref a] H (λv _=>v=.bl true) λ_ _ _=>False)
  (hCX:∀H e s',CX [] H sg (λ_ _ _=>False) e s'->False) :
  codeAny (model P w) callerA (.call (.ref fa) ⟨[.ref a],[]⟩) (λr s'=>r=.ok (.ret (.bool true))/\OldK sg.heap s'.heap/\s'.os=sg.os/\AllBare s'.gens) sg:=by
 have rv:=p9 hi;have lenV:=hi.length;have core:∀H:Hp,FC H->fL K H a (ns.map V.int)->gh P w H sg.heap->(∀b,H b≠none->b=a)->(H a≠none->K.lookup a=none) ->
   codeAny (model P w) callerA (.call (.ref fa) ⟨[.ref a],[]⟩) (λr s'=>r=.ok (.ret (.bool true))/\OldK sg.heap s'.heap/\s'.os=sg.os/\AllBare s'.gens) sg:=by
  intro H hO hS hok hA hK;have base_of:∀{b:Addr}{o:Obj},sg.heap.get? b=some o->H b=none->(sA sg.heap H).get? b=some o:=λe n=>Bq e n;have noA:∀{b:Addr}{o:Obj}{es:Array DictEntry}{ep:Nat},sg.heap.get? b=some o->o.data=.dict es ep->H b=none:=λ{b o es ep} e d=>by
   cases q:H b with
   |none=>rfl
   |some u=>
    have e':b=a:=hA b (by rw[q];simp);subst e';rw[ha]at e;cases e;have d':Data.seq vs.toArray _=Data.dict es ep:=d;cases d'
  have nsK:∀{b:Addr}{m:Str->Option Value},sg.heap.Ns b m->(sA sg.heap H).Ns b m:=λ{b m} ⟨o,es,ep,e,d,r⟩=>⟨o,es,ep,base_of e (noA e d),d,r⟩
  have hKb:K.In (sA sg.heap H):=λb o e=>base_of (KX b o e) (by
   cases q:H b with
   |none=>rfl
   |some u=>
    have e':b=a:=hA b (by rw[q];simp);subst e';rw[hK (by rw[q];simp)]at e;cases e)
  have hM:Mod K mg (sA sg.heap H):=⟨hKb,nsK hns,⟨mb,nsK hb,hbb⟩,let ⟨mc,h1,h2⟩:=hlim;⟨mc,nsK h1,h2⟩,let ⟨mm,h1⟩:=hsm;⟨mm,nsK h1⟩⟩
  have e0:vh P w K mg (sA sg.heap H) callerA [] sg H:=⟨rfl,hM,λb o e=>DP e,Nat.le_of_eq (zk _ _),trivial,λb hb=>absurd (show b∈([]:List Addr) from hb) (by simp),hok,.of_eq hg⟩
  refine codeAny_mono ((F _ hKb (nsK hns)).run callerA [] sg H ⟨[.ref a],[]⟩ [.ref a] [.ref a] _ _ hr e0 (hbind sg (.ref a)) (.cons rfl .nil) (hsp H hO hS)) λr s' h=>?_;cases r with
  |error e=>exact(hCX H e s' h).elim
  |ok fl=>
   cases fl with
   |next|brk|cont=>exact False.elim h
   |ret u=>
    obtain⟨v,H',os,bare,un,hok',r',q⟩:=h;have q':v=.bl true:=q;subst q';obtain rfl:u=Value.bool true:=r';refine⟨rfl,OldK.of_keep λb o e=>?_,os,bare⟩;cases q:H b with
    |none=>exact un.keep b o e q (by intro z;exact absurd (show b∈([]:List Addr) from z) (by simp)) (by simp)
    |some u=>
     rcases hO b with z|⟨ob,xs,z⟩
     .rw[q]at z;cases z
     .have z2:=un.frzs b ob _ z
      obtain⟨e1,_⟩:=hok b _ z;obtain⟨e2,_⟩:=hok' b _ z2;rw[e]at e1;cases e1;exact e2
 cases hk:K.lookup a with
 |some o=>
  have e:=KX a o hk;rw[ha]at e;cases e;refine core (λ_=>none) (λ_=>.inl rfl) (.inr ⟨_,vs.toArray,_,hk,rfl,rfl,rfl,by rw[List.size_toArray,lenV];exact hl,by simpa using rv⟩) (λb u z=>by have z':(none:Option HO)=some u:=z;cases z') (λb z=>absurd rfl z) λz=>absurd rfl z
 |none=>
  refine core (λb=>if b=a then some (.frz { cls:=.type "list",data:=.seq vs.toArray } (.lst (ns.map V.int))) else none) (λb=>?_) (.inl (.inr ⟨{ cls:=.type "list",data:=.seq vs.toArray },if_pos rfl⟩)) (λb u z=>?_) (λb z=>?_) λ_=>hk
  .by_cases hb:b=a
   .exact .inr ⟨_,_,if_pos hb⟩
   .exact .inl (if_neg hb)
  .by_cases hb:b=a
   .have z':=(if_pos hb).symm.trans z
    cases z';subst hb;exact⟨ha,by rw[List.length_map];exact hl,vs,_,rv,ha⟩
   .have z':=(if_neg hb).symm.trans z
    cases z'
  .by_cases hb:b=a
   .exact hb
   .exact absurd (if_neg hb) z
abbrev KOf{K:W.Frag}{h:Heap}(_:K.In h):W.Frag:=K
def CZ{l:W.OpenLaw}{n k:Nat}{q:Program}{loose:List Str}{XP:(Str->Option Value)->Heap->Prop}{YP:World->Heap->Prop}{d:DefRec}{K:Params->W.Frag}{CX:World->q9}{sp:World->Sp}{x:Str}
  (hi:importsNone q=true)(hn:l.most=some n)(hn2:n<=sizeLine)(hdf:d.params.defaults=[])(hr:dI k callerA)
  (hY:∀(w:World) (h:Heap),YP w h->(K w.params).In h)
  (F:∀(w:World) (mg:Str->Option Value) (fa:Addr) (h:Heap),(K w.params).In h->h.Ns mainGlobals mg->mg d.name=some (.ref fa) ->
   ∃fd:FuncData,(∀(s:Shared) (u:Value),BindsTo s fd ⟨[u],[]⟩ [(x,u)]) /\
    ∀base:Heap,(K w.params).In base->base.Ns mainGlobals mg->FnOk l.prog w (K w.params) mg base (CX w) k fa fd [x] (sp w))
  (hsp:∀(w:World) (H:Hp) (a:Addr) (ns:List Int),ns.length<=n->FC H->fL (K w.params) H a (ns.map V.int)->sp w [.ref a] H (λv _=>v=.bl true) λ_ _ _=>False)
  (hCX:∀(w:World) (H:Hp) (s:Shared) (e:Value) (s':Shared),CX w [] H s (λ_ _ _=>False) e s'->False) :
  W.WalkO q loose XP YP l.row.toRowW d [] (λf vs=>PySem.call f vs):=by
 refine Att.attach_call hn hdf λw sf sg mg mb fa o pm cd doc a vs ns G Y ho hd hcd hmg hobj hints hlen hg=>?_;have KX:=hY w _ Y;obtain⟨fd,hb,hF⟩:=F w mg fa _ KX G.T.g hmg;exact Bh KX G.T.g G.T.b G.T.builtins G.T.nolimit (let ⟨mm,h1,_⟩:=(G.T.seer hi).mods;⟨mm,h1⟩) hg hobj hints (Nat.le_trans hlen hn2) hr hF hb (λH hO hS=>hsp w H a ns hlen hO hS) λH e s'=>hCX w H sg e s'
def walk_ofK{l:W.OpenLaw}{n k:Nat}{q:Program}{loose:List Str}{XP:(Str->Option Value)->Heap->Prop}{YP:World->Heap->Prop}{d:DefRec}{K:Params->W.Frag}{CX:q9}{sp:W.Frag->Sp}{x:Str}
  (hi:importsNone q=true)(hn:l.most=some n)(hn2:n<=sizeLine)(hdf:d.params.defaults=[])(hr:dI k callerA)
  (hY:∀(w:World) (h:Heap),YP w h->(K w.params).In h)
  (F:∀(w:World) (mg:Str->Option Value) (fa:Addr) (h:Heap),(K w.params).In h->h.Ns mainGlobals mg->mg d.name=some (.ref fa) ->
   ∃fd:FuncData,(∀(s:Shared) (u:Value),BindsTo s fd ⟨[u],[]⟩ [(x,u)]) /\
    ∀base:Heap,(K w.params).In base->base.Ns mainGlobals mg->FnOk l.prog w (K w.params) mg base CX k fa fd [x] (sp (K w.params)))
  (hsp:∀(K:W.Frag) (H:Hp) (a:Addr) (ns:List Int),ns.length<=n->FC H->fL K H a (ns.map V.int)->sp K [.ref a] H (λv _=>v=.bl true) λ_ _ _=>False)
  (hCX:∀(H:Hp) (s:Shared) (e:Value) (s':Shared),CX [] H s (λ_ _ _=>False) e s'->False) :
  W.WalkO q loose XP YP l.row.toRowW d [] (λf vs=>PySem.call f vs) :=
 CZ (K:=K) (CX:=λ_=>CX) (sp:=λw=>sp (K w.params)) hi hn hn2 hdf hr hY F (λw H a ns h1 h2 h3=>hsp (K w.params) H a ns h1 h2 h3) λ_ H s e s'=>hCX H s e s'
def Eb(s:Stmt)(j:Nat):Stmt:=match s with
 |.ClassDef _ _ _ body _ _ _ _ _ _ _=>body.getD j (.Pass ⟨0,0,0,0⟩)
 |_=>.Pass ⟨0,0,0,0⟩
def defArgs(s:Stmt):Arguments:=match s with
 |.FunctionDef _ a _ _ _ _ _ _ _ _=>a
 |_=>{ posonlyargs:=[],args:=[],vararg:=none,kwonlyargs:=[],kw_defaults:=[],kwarg:=none,defaults:=[] }
def defBody(s:Stmt):List Stmt:=match s with
 |.FunctionDef _ _ b _ _ _ _ _ _ _=>b
 |_=>[]
def defScope(s:Stmt):Scope:=match s with
 |.FunctionDef _ _ _ _ _ _ sc _ _ _=>sc
 |_=>{ kind:=.function,names:=[],isGenerator:=false,isCoroutine:=false }
abbrev CX0:q9:=λ_ _ _ _ _ _=>False
abbrev E0:XK:=λ_ _ _=>False
def FQ{X:Cx}:kj CX0 X E0:=λ_ _ _ _ _ _ _ h=>h.elim
structure zR (K:W.Frag) (x qual:Str) (st:Stmt) (f:Addr) (fd:FuncData):Prop where
 ex:∃(oc:Value) (od:Option Addr) (kV doc pm:Value) (an:Option Addr) (cdv ct:Value) (osl:Array (Option Value)),
  fd=W.fnOf x qual (defArgs st) (defBody st) (defScope st) .none kV doc pm an cdv ct/\K.lookup f=some ⟨oc,od,.func fd,osl⟩/\W.codeIn K cdv qual=true
 kp:W.keepIn K (.ref f)=true
section
variable {P:Program}{w:World}{K:W.Frag}{mg:Str->Option Value}{base:Heap}
def zR.ok{x qual:Str}{st:Stmt}{f:Addr}{fd:FuncData}{N ps:List Str}{k:Nat}{sp:Sp}(F:zR K x qual st f fd)(S:fX N ps (defScope st))(len:∀vs H Q E,sp vs H Q E->vs.length=ps.length)
  (hbody:∀(cdv:Value) (A:Around) (outer:List Env) (s:Shared) (H:Hp) (vs:al) (Q:VK) (E:XK),dI k (A.deeper (envOfC qual (defScope st) s.heap.objs.size f cdv))->sp vs H Q E ->
   ∃t,nI (cL CX0 P w K mg base N qual (defScope st) f cdv A outer s H E).nox (defBody st) t/\t { nx:=λ_ H'=>Q .non H',rt:=Q } (start N vs) H):FnOk P w K mg base CX0 (k+1) f fd ps sp:=by
 obtain⟨oc,od,kV,doc,pm,an,cdv,ct,osl,rfl,lk,hcd⟩:=F.ex;refine FZ lk hcd S len λA outer s H vs Q E hr hsp=>?_;obtain⟨t,h,q⟩:=hbody cdv A outer s H vs Q E hr hsp;exact⟨t,h.nox,q⟩
def zR.binds{x qual:Str}{st:Stmt}{f:Addr}{fd:FuncData}{ps:List Str}(F:zR K x qual st f fd)
  (h:∀(kV doc pm:Value) (an:Option Addr) (cdv ct:Value) (us:List Value),us.length=ps.length->bindArgs (W.fnOf x qual (defArgs st) (defBody st) (defScope st) .none kV doc pm an cdv ct) ⟨us,[]⟩=pure (ps.zip us)):iu K fd ps []:=by
 obtain⟨oc,od,kV,doc,pm,an,cdv,ct,osl,rfl,lk,hcd⟩:=F.ex;exact .all (h kV doc pm an cdv ct)
def wt{x qual:Str}{st:Stmt}{f:Addr}{oc:Value}{od an:Option Addr}{osl:Array (Option Value)}{kV doc pm cdv ct:Value}(l:K.lookup f=some ⟨oc,od,.func (W.fnOf x qual (defArgs st) (defBody st) (defScope st) .none kV doc pm an cdv ct),osl⟩)
  (c:W.codeIn K cdv qual=true)(k:W.keepIn K (.ref f)=true):zR K x qual st f (W.fnOf x qual (defArgs st) (defBody st) (defScope st) .none kV doc pm an cdv ct):=⟨⟨oc,od,kV,doc,pm,an,cdv,ct,osl,rfl,l,c⟩,k⟩
end
def aE(H H':Hp):Prop:=∀b o,H b=some o->H' b=some o
def aE.refl(H:Hp):aE H H:=λ_ _ h=>h
def aE.trans{H H1 H2:Hp}(a:aE H H1)(b:aE H1 H2):aE H H2:=λc o h=>b c o (a c o h)
def aE.free{H H':Hp}(e:aE H H'){l:Addr}(h:H' l=Option.none):H l=Option.none:=by
 cases q:H l with
 |none=>rfl
 |some o=>
  rw[e l o q]at h;cases h
end L2
namespace DL
open PySem PySem.Spec PySem.Calls PySem.W PyProof.Rows Builtin Builtin.ObjectAttr Builtin.Getset_descriptor
section
variable {prog:Program}{w:World}{A:Around}{E:Value->Shared->Prop}{h:Heap}{g:Array GenState}{d:Drawn}{t:Nat}{os:OsState}{a C:Addr}{o:Obj}{K:Frag}
structure pZ (K:Frag) (C:Addr):Prop where
 cls:findIn K (.ref C) "__class__"=some (some (.builtin "object.__class__"))
 ga:findIn K (.ref C) "__getattribute__"=some (some (.builtin "BaseException.__getattribute__"))
 gt:findIn K (.ref C) "__getattr__"=some none
 ob:mroIn K C (.type "object")=some true
 be:subIn K (.ref C) (.type "BaseException")=some true
def Gk{R:Result->Shared->Prop}{tp:Value}(X:K.In h)(Z:pZ K C)(hx:h.get? a=some o)(hc:o.cls=.ref C)(hq:R (.ok (.ret (.ref C))) ⟨h,g,d,t,os⟩) :
  codeAny (model prog w) A (.call (.builtin "getset_descriptor.__get__") ⟨[.builtin "object.__class__",.ref a,tp],[]⟩) R ⟨h,g,d,t,os⟩:=by
 have L0:Looks (model prog w) h (typeOf (.ref a)) (.ref C):=hc▸(Looks.ld hx).andThen .now;have L1:=looks_mroIn (M:=model prog w) X Z.ob;refine codeAny_call_builtin KF.slot_gs.plain KF.entry_gs (KF.slot_gs.check _ _ _ _ _ _ _ _ KF.type_class (KF.args_gs _ _ _) ?_);unfold Builtin.«getset_descriptor.__get__» descrGet;rw[dga_obj];refine wpAny_bind (wpAny_pure ?_);unfold descrGetter descrCheckInstance descrNameAndClass isInstance;simp only[KF.owner_class]
 repeat lk
 refine⟨Code.quiet_builtin _ (by decide +kernel),codeAny_builtin KF.entry_class ?_⟩;unfold Builtin.«object.__class__» shownTypeOf
 repeat lk
 exact hq
def zY{M:Model}{nameV:Value}{Q:Unit->Shared->Prop}(X:K.In h)(Z:pZ K C)(hx:h.get? a=some o)(hc:o.cls=.ref C)(hq:Q () ⟨h,g,d,t,os⟩):wpAny M A (checkBuiltinCall "BaseException.__getattribute__" ⟨[.ref a,nameV],[]⟩) Q E ⟨h,g,d,t,os⟩:=by
 have hk:builtinKind "BaseException.__getattribute__"=some .slot:=by decide +kernel
 have hsplit:splitId "BaseException.__getattribute__"=some ("BaseException","__getattribute__"):=by decide +kernel
 have ha:=F.args_bexc_ga (.ref a) nameV;have LS:Looks M h (isSubtype (.ref C) (.type "BaseException")) true:=looks_subIn X Z.be;simp only[checkBuiltinCall,hk,hsplit];refine wpAny_bind ?_
 .unfold isInstance
  repeat (first|(with_reducible refine wpAny_loadPart_at hx ?_;rw[hc])|(with_reducible refine LS.at ?_)|wp_step)
  exact hq
def zX{tk:Tok}{Q:Fin->Shared->Prop}(X:K.In h)(Z:pZ K C)(hx:h.get? a=some o)(hc:o.cls=.ref C)(hq:Q (.done (.ret (.ref C))) ⟨h,g,d,t,os⟩) :
  wpAny (model prog w) A (Builtin.«object.__getattribute__» ⟨[.ref a,.str "__class__" tk],[]⟩) Q E ⟨h,g,d,t,os⟩:=by
 have hT5:(⟨h,g,d,t,os⟩:Shared).TypeIs (.builtin "object.__class__") "getset_descriptor":=F.typeOf_object_class;have f5:=F.typeOf_object_class;have f6:=F.slot_gs_get.lookup;have f7:=F.slot_gs_set.lookup;have LC:Looks (model prog w) h (typeLookup (.ref C) "__class__") (some (.builtin "object.__class__")):=looks_findIn X Z.cls
 repeat (any_goals (first|assumption|(with_reducible refine wpAny_loadPart_at hx ?_;rw[hc])|(with_reducible refine LC.at ?_)|wp_step))
 refine Gk X Z hx hc ?_
 repeat (any_goals (first|assumption|wp_step))
def CT{tk:Tok}{R:Result->Shared->Prop}(X:K.In h)(Z:pZ K C)(hx:h.get? a=some o)(hc:o.cls=.ref C)(hq:R (.ok (.ret (.ref C))) ⟨h,g,d,t,os⟩) :
  codeAny (model prog w) A (.call (.builtin "BaseException.__getattribute__") ⟨[.ref a,.str "__class__" tk],[]⟩) R ⟨h,g,d,t,os⟩ :=
 codeAny_call_builtin F.attr_ValueError.ga.plain F.entry_bexc_ga (zY X Z hx hc (zX X Z hx hc hq))
def Jq{tk:Tok}{Q:Value->Shared->Prop}(X:K.In h)(Z:pZ K C)(hx:h.get? a=some o)(hc:o.cls=.ref C)(hq:Q (.ref C) ⟨h,g,d,t,os⟩) :
  wpAny (model prog w) A (getAttrBy (.ref a) (.str "__class__" tk) false) Q E ⟨h,g,d,t,os⟩:=by
 have f3:=F.attr_ValueError.ga.bind (.ref a);have hx2:(Value.builtin "BaseException.__getattribute__"==Value.builtin "object.__getattribute__")=false:=by decide +kernel
 have hx1:(onTheHeap (Value.ref C)&&Value.builtin "BaseException.__getattribute__"==Value.builtin "object.__getattribute__")=false:=by rw[hx2];rfl
 have L1:Looks (model prog w) h (typeLookup (.ref C) "__getattribute__") (some (.builtin "BaseException.__getattribute__")):=looks_findIn X Z.ga;have L2:Looks (model prog w) h (typeLookup (.ref C) "__getattr__") none:=looks_findIn X Z.gt
 repeat (any_goals (first|assumption|(with_reducible refine wpAny_loadPart_at hx ?_;rw[hc])|(with_reducible refine L1.at ?_)|(with_reducible refine L2.at ?_)|wp_step))
 refine CT X Z hx hc ?_
 repeat (any_goals (first|assumption|wp_step))
def CU{Q:Option Value->Shared->Prop}(X:K.In h)(Z:pZ K C)(hx:h.get? a=some o)(hc:o.cls=.ref C)(hq:Q (some (.ref C)) ⟨h,g,d,t+1,os⟩):wpAny (model prog w) A (getAttr? (.ref a) "__class__") Q E ⟨h,g,d,t,os⟩:=by
 unfold getAttr? getAttrBy?
 repeat (any_goals (first|assumption|with_reducible apply Jq X Z hx hc|wp_step))
end
def wX(a C:Addr)(dc:Option Addr):Heap->Prop:=λh=>∃o vs,h.get? a=some o/\o.cls=.ref C/\o.data=.fields vs/\o.dict=dc
def lE{K:Frag}{a C:Addr}{dc:Option Addr}(Z:pZ K C)(hC:(clsIn K C).isSome=true):KitX K (.ref a) (.ref C) (wX a C dc) where
 ty:=λ_ _ _ ⟨o,_,h1,h2,_⟩=>h2▸(Looks.ld h1).andThen .now
 it:=λ_ _ X _=>by
  obtain⟨cd,hcD⟩:=Option.isSome_iff_exists.mp hC;unfold clsIn at hcD;split at hcD
  .rename_i c' d' cd' sl' ho
   intro A' Q' E' s' k q;unfold isType loadHead;exact wpAny_bind (wpAny_loadPart (k _ _ (X _ _ ho)) (wpAny_pure q))
  .cases hcD
 ne:=λh tp dd its n sl X htp=>by
  obtain⟨cd,hcD⟩:=Option.isSome_iff_exists.mp hC;refine Bool.eq_false_iff.mpr λq=>?_;have e:C=tp:=Value.ref.inj (beq_iff_eq.mp q);subst e;unfold clsIn at hcD;split at hcD
  .rename_i c' d' cd' sl' ho
   have z:=(X _ _ ho).symm.trans htp;cases z
  .cases hcD
 ca:=λ{_ _ _ _ _ s} X ⟨o,_,h1,h2,_⟩ k=>by
  obtain⟨h,g,d,t,os⟩:=s;exact CU X Z h1 h2 k
def pZ.isCls{K:Frag}{C:Addr}(Z:pZ K C):(clsIn K C).isSome=true:=by
 obtain⟨cd,a,b⟩:=Option.bind_eq_some_iff.mp Z.ob;rw[a];rfl
def gp:List String:=["NoneType","bool","int","str","tuple","list","dict"]
structure XC (K:Frag) (x:Str) (C:Addr):Prop where
 ns:nsIn K mainGlobals x=some (some (.ref C))
 ek:pZ K C
 bt:∀T∈gp,kitOne K (.ref C) (.type T)=some false
end DL
namespace DL
open PySem PySem.Spec PyProof.Rows L2
def gN(o:Obj)(f:Array Value->Array Value):(o.mapFields f).dict=o.dict:=by unfold Obj.mapFields;split<;>rfl
def jA(h:Heap)(e:Addr)(dc:Option Addr):Prop:=∃o,h.get? e=some o/\o.dict=dc/\(dc≠none->∃vs,o.data=.fields vs/\vs[2]?=some .none)
section
variable {M:Model}{A:Around}{E:Value->Shared->Prop}{s:Shared}{base:Heap}{env:PySem.Env}{outer l:List PySem.Env}{L e:Addr}{cls a0 fl:Value}{dc:Option Addr}{Q:Unit->Shared->Prop}
def uM{oe:Obj}{vs:Array Value}{head:Value}{b0:Bool}(hfr:A.frames=some (env::outer))(hl:s.heap.FunFrames base (env::outer))(hf:env.frame=some L)(he:s.heap.get? e=some oe)(kb:base.StaysIn s.heap)(hen:base.get? e=none)(hd:oe.data=.fields vs)(hz:1<vs.size)(h0:vs[0]?=some a0)(hx:oe.dict≠none->vs[2]?=some .none)
  (h:∀h',Heap.NotedW base (env::outer) e oe.cls a0 (rawInt L) s.heap h'->jA h' e oe.dict->Q () { s with heap:=h' }) :
  wpAny M A (do
   let a ←frameOf env
   let pl ←entryPlaceOf L b0
   let b ←EntryCells.newEntry head a .none (rawInt L) .none pl
   setField (.ref e) 1 b) Q E s:=by
 have nf:e∉(env::outer).filterMap (·.frame):=λhm=>by
  obtain⟨_,o,ho,q⟩:=hl.mem hm;rw[he]at ho;cases ho;exact q vs hd
 refine wpAny_bind (wpAny_frameOf_fun hfr hl hf λg ⟨_,same,slots⟩=>wpAny_bind (wpAny_entryPlaceOf λpl hpl=>?_));have ge:g.get? e=some oe:=(same e nf).trans he;have up:∀(N:Obj) (f:Obj->Obj) (b:Addr) (o:Obj),b≠e->g.get? b=some o->((g.push N).update e f).get? b=some o:=λN f b o hb q=>(Heap.get?_update_other _ _ (Ne.symm hb)).trans (Heap.get?_push_of_some _ q);have ne:∀b o,s.heap.get? b=some o->(∀vs,o.data≠.fields vs)->b≠e:=λb o q z c=>by subst c;rw[he]at q;cases q;exact z vs hd
 have kg:base.StaysIn g:=λb o q=>(same b λhm=>by rw[(hl.mem hm).1]at q;cases q).trans (kb b o q);unfold EntryCells.newEntry newFields;refine wpAny_bind (wpAny_newObj_type ?_ (hpl.sizeOk5 _ _ _ _ _));have d3:=Obj.data_mapFields hd (·.setIfInBounds 1 (Value.ref g.objs.size));have hTe:g.objs.size≠e:=Nat.ne_of_gt (Heap.lt_size ge);have at_e:∀N:Obj,((g.push N).update e (Obj.mapFields (·.setIfInBounds 1 (Value.ref g.objs.size)))).get? e=some (oe.mapFields (·.setIfInBounds 1 (Value.ref g.objs.size))):=λN=>Heap.get?_update_self _ (Heap.get?_push_of_some _ ge) (Obj.isFreed_of_fields d3);refine wpAny_setField (Heap.get?_push_of_some _ ge) hd hz (h _ ⟨λb o q=>up _ _ b o (λc=>by subst c;rw[hen]at q;cases q) (kg b o q),hl.of_keeps λb o q z=>?_,?_,λb o q z=>?_⟩ ⟨_,at_e _,gN _ _,λz=>⟨_,d3,by rw[Array.getElem?_setIfInBounds_ne (by decide)];exact hx z⟩⟩)
 .obtain⟨sl,x⟩:=slots b o q
  exact⟨_,up _ _ b _ (ne b o q z) x,rfl⟩
 .refine⟨_,_,g.objs.size,_,_,at_e _,⟨Obj.cls_mapFields _ _,?_⟩,d3,?_,kg.fresh,hTe,(Heap.get?_update_other _ _ (Ne.symm hTe)).trans (Heap.get?_push_size g rfl),rfl,?_⟩
  .rw[Array.getElem?_setIfInBounds_ne (by decide)];exact h0
  .simp[hz]
  .first|(simp;done)|(rcases hpl with rfl|⟨_,_,_,_,_,_,_,rfl⟩<;>simp)
 .obtain⟨sl,x⟩:=slots b o q
  exact⟨sl,up _ _ b _ (ne b o q z) x⟩
def uJ{oe:Obj}{vs:Array Value}(hfr:A.frames=some (env::outer))(hl:s.heap.FunFrames base (env::outer))(hf:env.frame=some L)(he:s.heap.get? e=some oe)(kb:base.StaysIn s.heap)(hen:base.get? e=none)(hd:oe.data=.fields vs)(h1:vs[1]?=some .none)(h0:vs[0]?=some a0)(hx:oe.dict≠none->vs[2]?=some .none)
  (h:∀h',Heap.NotedW base (env::outer) e oe.cls a0 (rawInt L) s.heap h'->jA h' e oe.dict->Q () { s with heap:=h' }):wpAny M A (noteFrame (.ref e) env) Q E s:=by
 unfold noteFrame;simp only[hf];refine wpAny_bind (wpAny_field he hd h1 ?_);rw[if_neg (by decide)];exact uM hfr hl hf he kb hen hd (Array.getElem?_eq_some_iff.mp h1).1 h0 hx h
def yj(hfr:A.frames=some (env::outer))(hl:s.heap.FunFrames base (env::outer))(hf:env.frame=some L)(ht:s.heap.TracedW base e cls a0)(hc:jA s.heap e dc)(kb:base.StaysIn s.heap)(hen:base.get? e=none)
  (h:∀h',Heap.NotedW base (env::outer) e cls a0 (rawInt L) s.heap h'->jA h' e dc->Q () { s with heap:=h' }):wpAny M A (noteFrame (.ref e) env) Q E s:=by
 obtain⟨oe,vs,T,oT,ts,he,⟨rfl,h0⟩,hd,h1,hnT,hTe,hT,dT,h3⟩:=ht;obtain⟨o',q,rfl,cx⟩:=hc;rw[he]at q;cases q;have hx:oe.dict≠none->vs[2]?=some .none:=λz=>by
  obtain⟨vs',d',g⟩:=cx z;rw[hd]at d';cases d';exact g
 have oth:∀(f:Obj->Obj) (b:Addr),b≠T->(s.heap.update T f).get? b=s.heap.get? b:=λf b hb=>Heap.get?_update_other _ _ (Ne.symm hb);have ne:∀b o,s.heap.get? b=some o->(∀vs,o.data≠.fields vs)->b≠T:=λb o q z c=>by subst c;rw[hT]at q;cases q;exact z ts dT
 unfold noteFrame;simp only[hf];refine wpAny_bind (wpAny_field he hd h1 ?_);rw[if_pos (by simp)];refine wpAny_bind (wpAny_field hT dT h3 ?_);rw[if_neg (by simp[rawInt])];refine wpAny_bind (wpAny_setField hT dT (Array.getElem?_eq_some_iff.mp h3).1 ?_);refine uM hfr (hl.of_keeps λb o q z=>⟨o,(oth _ b (ne b o q z)).trans q,rfl⟩) hf ((oth _ e (Ne.symm hTe)).trans he) (λb o q=>(oth _ b λc=>by subst c;rw[hnT]at q;cases q).trans (kb b o q)) hen hd (Array.getElem?_eq_some_iff.mp h1).1 h0 hx λh' ⟨x1,x2,x3,x4⟩ x5=>h h' ⟨x1,x2,x3,λb o q z=>x4 b o ((oth _ b (ne b o q z)).trans q) z⟩ x5
def iP(kb:base.StaysIn s.heap)(hl:s.heap.FunFrames base l)(ht:s.heap.TracedAtW base e cls a0 fl)(hc:jA s.heap e dc)
  (h:∀h',base.StaysIn h'->h'.FunFrames base l->h'.TracedW base e cls a0->(∀b o,s.heap.get? b=some o->(∀vs,o.data≠.fields vs)->h'.get? b=some o)->jA h' e dc->Q () { s with heap:=h' }):wpAny M A (setFlight (.ref e) none) Q E s:=by
 obtain⟨oe,vs,T,oT,ts,he,hcl,hd,h1,hnT,hTe,hT,dT,h3⟩:=ht;have z3:3<ts.size:=(Array.getElem?_eq_some_iff.mp h3).1;have oth:∀(f:Obj->Obj) (b:Addr),b≠T->(s.heap.update T f).get? b=s.heap.get? b:=λf b hb=>Heap.get?_update_other _ _ (Ne.symm hb);have ne:∀b o,s.heap.get? b=some o->(∀vs,o.data≠.fields vs)->b≠T:=λb o q z c=>by subst c;rw[hT]at q;cases q;exact z ts dT
 unfold setFlight;refine wpAny_bind (wpAny_field he hd h1 ?_);rw[if_pos (by simp)];obtain⟨o',q',rfl,cx⟩:=hc;refine wpAny_setField hT dT z3 (h _ (λb o q=>(oth _ b λc=>by subst c;rw[hnT]at q;cases q).trans (kb b o q)) (hl.of_keeps λb o q z=>⟨o,(oth _ b (ne b o q z)).trans q,rfl⟩) ?_ (λb o q z=>(oth _ b (ne b o q z)).trans q) ⟨o',(oth _ e (Ne.symm hTe)).trans q',rfl,cx⟩);exact⟨oe,vs,T,_,_,(oth _ e (Ne.symm hTe)).trans he,hcl,hd,h1,hnT,hTe,Heap.get?_update_self _ hT (Obj.isFreed_of_fields (Obj.data_mapFields dT _)),Obj.data_mapFields dT _,by simp[z3]⟩
def K8(h:Heap)(e:Addr)(ox:Option Addr):Prop:=∃dc,jA h e dc/\(ox=none∨ox=dc)
def oW{oe:Obj}{vs:Array Value}(hfr:A.frames=some (env::outer))(hl:s.heap.FunFrames base (env::outer))(hf:env.frame=some L)(he:s.heap.get? e=some oe)(kb:base.StaysIn s.heap)(hen:base.get? e=none)(hd:oe.data=.fields vs)(h1:vs[1]?=some .none)(h0:vs[0]?=some a0)(hx:oe.dict≠none->vs[2]?=some .none)
  (h:∀h',Heap.FlyingW base outer e oe.cls a0 h'->s.heap.UpToSlots h'->jA h' e oe.dict->Q () { s with heap:=h' }):wpAny M A (leaving env (.ref e)) Q E s:=by
 unfold leaving;refine wpAny_bind (uJ hfr hl hf he kb hen hd h1 h0 hx λg ⟨k1,k2,k3,k4⟩ dg=>?_);refine iP (s:={ s with heap:=g }) k1 k2 k3 dg λh' m1 ⟨_,_,m2⟩ m3 m4 dh=>h h' ⟨m1,hen,m2,m3⟩ (λb o q z=>?_) dh;obtain⟨sl,x⟩:=k4 b o q z;exact⟨sl,m4 b _ x z⟩
def zr(hfr:A.frames=some (env::outer))(hf:env.frame=some L)(hfl:Heap.FlyingW base (env::outer) e cls a0 s.heap)(hc:jA s.heap e dc)
  (h:∀h',Heap.FlyingW base outer e cls a0 h'->s.heap.UpToSlots h'->jA h' e dc->Q () { s with heap:=h' }):wpAny M A (leaving env (.ref e)) Q E s:=by
 obtain⟨f1,f2,f3,f4⟩:=hfl;unfold leaving;refine wpAny_bind (yj hfr f3 hf f4 hc f1 f2 λg ⟨k1,k2,k3,k4⟩ dg=>?_);refine iP (s:={ s with heap:=g }) k1 k2 k3 dg λh' m1 ⟨_,_,m2⟩ m3 m4 dh=>h h' ⟨m1,f2,m2,m3⟩ (λb o q z=>?_) dh;obtain⟨sl,x⟩:=k4 b o q z;exact⟨sl,m4 b _ x z⟩
def uK(hfr:A.frames=some (env::outer))(hf:env.frame=some L)(hfl:Heap.FlyingW base (env::outer) e cls a0 s.heap)(hc:jA s.heap e dc)
  (h:∀h',Heap.HeldW base (env::outer) e cls a0 L h'->s.heap.UpToSlots h'->jA h' e dc->Q () { s with heap:=h' }):wpAny M A (noteFrame (.ref e) env) Q E s:=by
 obtain⟨f1,f2,f3,f4⟩:=hfl;exact yj hfr f3 hf f4 hc f1 f2 λg ⟨k1,k2,k3,k4⟩ dg=>h g ⟨k1,f2,k2,k3⟩ k4 dg
def uL(hh:Heap.HeldW base l e cls a0 L s.heap)(hc:jA s.heap e dc)(h:∀h',Heap.FlyingW base l e cls a0 h'->s.heap.UpToSlots h'->jA h' e dc->Q () { s with heap:=h' }):wpAny M A (setFlight (.ref e) none) Q E s:=by
 obtain⟨f1,f2,f3,f4⟩:=hh;exact iP f1 f3 f4 hc λh' k1 k2 k3 k4 k5=>h h' ⟨k1,f2,k2,k3⟩ (λb o q z=>⟨o.slots,k4 b o q z⟩) k5
def uN(hh:Heap.FlyingW base l e cls a0 s.heap)(hc:jA s.heap e dc)(h:∀h',Heap.FlyingW base l e cls a0 h'->s.heap.UpToSlots h'->jA h' e dc->Q () { s with heap:=h' }):wpAny M A (setFlight (.ref e) none) Q E s:=by
 obtain⟨f1,f2,f3,f4⟩:=hh;exact iP f1 f3 f4.at hc λh' k1 k2 k3 k4 k5=>h h' ⟨k1,f2,k2,k3⟩ (λb o q z=>⟨o.slots,k4 b o q z⟩) k5
end
def Ke:Expr->Bool
 |.Starred _ _=>false
 |_=>true
def aN{e:Expr}{es:List Expr}{env:PySem.Env}(h:Ke e=true):starEach (e::es) env=(false,eval e env)::starEach es env:=by
 cases e<;>first|(rw[starEach];intros;contradiction)|rw[starEach]|(cases h)
def lh{e:Expr}{env:PySem.Env}(h:Ke e=true):starEach [e] env=[(false,eval e env)]:=by
 rw[aN h,starEach]
theorem bD{env:PySem.Env}{pos:Pos}:∀{es:List Expr},es.all Ke=true->(backTo pos (starEach es env)).any (·.1)=false
 |[],_=>by rw[starEach];rfl
 |e::es,h=>by
  rw[List.all_cons,Bool.and_eq_true]at h;rw[aN h.1];have:=bD (env:=env) (pos:=pos) h.2;show(false||(backTo pos (starEach es env)).any (·.1))=false;rw[this];rfl
def j9{e:Expr}{env:PySem.Env}{pos:Pos}(h:Ke e=true):((backTo pos (starEach [e] env)).all (λx=>!x.1)&&(backToKw pos (keywordEach [] env)).all (λx=>x.1.isSome)
  &&decide ([e].length+([]:List Keyword).length+(if([]:List Keyword).isEmpty then 0 else 1)<30))=true:=by
 rw[lh h,keywordEach];rfl
inductive Kd where
 |ins (c:Str) (ks:List Str)|dint (ks:List Int)|exf (c:Str) (ks:List Str)|pl
inductive D where
 |non|bl (b:Bool)|int (i:Int)|str (x:Str)|tup (xs:List D)|lst (xs:List D)|dic (ks:List Str) (xs:List D)|exc (x:Str)|ob (k:Kd) (xs:List D)
abbrev ac:=List D
structure Mo (K:W.Frag) (ks:List Str) (C:Addr):Prop where
 cls:Ls K C
 no:∀f∈ks,k8 K C f
 gc:W.findIn K (.ref C) "__class__"=some (some (.builtin "object.__class__"))
 gn:W.specialIn K (.builtin "object.__class__") "__get__"=some (some (.builtin "getset_descriptor.__get__"))
 tk:W.takesIn K (.builtin "object.__class__")=some true
 mo:W.mroIn K C (.type "object")=some true
 bt:∀T∈gp,W.kitOne K (.ref C) (.type T)=some false
noncomputable def vg(K:W.Frag) (H:Hp):Kd->Addr->al->Prop
 |.ins c ks,a,vs=>∃C dx,W.nsIn K mainGlobals c=some (some (.ref C))/\Mo K ks C/\H a=some (.ins C dx (ks.zip vs))/\ks.length=vs.length
 |.dint ks,a,vs=>∃kvs,Rd H a (.dK kvs)/\kvs=(ks.map Sum.inl).zip vs/\ks.length=vs.length
 |.exf c ks,a,vs=>∃C dx fs,XC K c C/\Rd H a (.ext (wX a C (some dx)))/\H dx=some (.xd fs)/\ks.length=vs.length/\∀(i:Nat) (f:Str) (v:V),ks[i]?=some f->vs[i]?=some v->fs.lookup f=some v
 |.pl,a,vs=>H a=some (.lst vs)
structure CF where
 cls:Str
 flds:List (Str×D)
inductive au (α:Type) where
 |ok (a:α)|exn (x:CF)|stuck
def au.bind{α β:Type}(r:au α)(f:α->au β):au β:=match r with
 |.ok a=>f a
 |.exn x=>.exn x
 |.stuck=>.stuck
mutual
def Rep(K:W.Frag)(H:Hp):D->V->Prop
 |.non,v=>v=.non
 |.bl b,v=>v=.bl b
 |.int i,v=>v=.int i
 |.str x,v=>v=.str x
 |.tup ds,v=>∃a vs,v=.ref a/\iZ K H a vs/\Reps K H ds vs
 |.lst ds,v=>∃a vs,v=.ref a/\fL K H a vs/\Reps K H ds vs
 |.dic ks ds,v=>∃a kvs vs,v=.ref a/\Rd H a (.dK kvs)/\kvs=(ks.map Sum.inr).zip vs/\ks.length=vs.length/\Reps K H ds vs
 |.exc x,v=>∃a C dc,v=.ref a/\XC K x C/\Rd H a (.ext (wX a C dc))
 |.ob k ds,v=>∃a vs,v=.ref a/\vg K H k a vs/\Reps K H ds vs
def Reps(K:W.Frag)(H:Hp):ac->al->Prop
 |[],vs=>vs=[]
 |d::ds,vs=>∃v r,vs=v::r/\Rep K H d v/\Reps K H ds r
end
def aE.rd{H H':Hp}(e:aE H H'){a:Addr}{o:HO}(h:Rd H a o):Rd H' a o:=by
 rcases h with h|⟨o',h⟩
 .exact .inl (e _ _ h)
 .exact .inr ⟨o',e _ _ h⟩
def aE.sqT{K:W.Frag}{H H':Hp}(e:aE H H'){a:Addr}{xs:al}(h:iZ K H a xs):iZ K H' a xs:=by
 rcases h with h|h
 .exact .inl (aE.rd e h)
 .exact .inr h
def aE.sqL{K:W.Frag}{H H':Hp}(e:aE H H'){a:Addr}{xs:al}(h:fL K H a xs):fL K H' a xs:=by
 rcases h with h|h
 .exact .inl (aE.rd e h)
 .exact .inr h
theorem vg.mono{K:W.Frag}{H H':Hp}(e:aE H H'):∀{k:Kd}{a:Addr}{vs:al},vg K H k a vs->vg K H' k a vs
 |.ins c ks,a,vs,⟨C,dx,h0,h1,h2,h3⟩=>⟨C,dx,h0,h1,e _ _ h2,h3⟩
 |.dint ks,a,vs,⟨kvs,h1,h2,h3⟩=>⟨kvs,aE.rd e h1,h2,h3⟩
 |.exf c ks,a,vs,⟨C,dx,fs,h1,h2,h3,h4⟩=>⟨C,dx,fs,h1,aE.rd e h2,e _ _ h3,h4⟩
 |.pl,a,vs,h=>e _ _ h
mutual
theorem Rep.mono{K:W.Frag}{H H':Hp}(e:aE H H'):∀{d:D}{v:V},Rep K H d v->Rep K H' d v
 |.non,_,h=>by unfold Rep at h ⊢;exact h
 |.bl _,_,h=>by unfold Rep at h ⊢;exact h
 |.int _,_,h=>by unfold Rep at h ⊢;exact h
 |.str _,_,h=>by unfold Rep at h ⊢;exact h
 |.tup ds,_,h=>by
  unfold Rep at h ⊢;obtain⟨a,vs,e1,e2,e3⟩:=h;exact⟨a,vs,e1,aE.sqT e e2,Reps.mono e e3⟩
 |.lst ds,_,h=>by
  unfold Rep at h ⊢;obtain⟨a,vs,e1,e2,e3⟩:=h;exact⟨a,vs,e1,aE.sqL e e2,Reps.mono e e3⟩
 |.dic ks ds,_,h=>by
  unfold Rep at h ⊢;obtain⟨a,kvs,vs,e1,e2,e3,e4,e5⟩:=h;exact⟨a,kvs,vs,e1,aE.rd e e2,e3,e4,Reps.mono e e5⟩
 |.exc x,_,h=>by
  unfold Rep at h ⊢;obtain⟨a,C,dc,e1,e2,e3⟩:=h;exact⟨a,C,dc,e1,e2,aE.rd e e3⟩
 |.ob k ds,_,h=>by
  unfold Rep at h ⊢;obtain⟨a,vs,e1,e2,e3⟩:=h;exact⟨a,vs,e1,e2.mono e,Reps.mono e e3⟩
theorem Reps.mono{K:W.Frag}{H H':Hp}(e:aE H H'):∀{ds:ac}{vs:al},Reps K H ds vs->Reps K H' ds vs
 |[],_,h=>by unfold Reps at h ⊢;exact h
 |d::ds,_,h=>by
  unfold Reps at h ⊢;obtain⟨v,r,e1,e2,e3⟩:=h;exact⟨v,r,e1,Rep.mono e e2,Reps.mono e e3⟩
end
section
variable {K:W.Frag}{H:Hp}{v:V}{vs:al}{d:D}{ds:ac}
def aS:Rep K H .non v↔v=.non:=by unfold Rep;exact Iff.rfl
def aH{b}:Rep K H (.bl b) v↔v=.bl b:=by unfold Rep;exact Iff.rfl
def aA{i}:Rep K H (.int i) v↔v=.int i:=by unfold Rep;exact Iff.rfl
def Rep.str_iff{x}:Rep K H (.str x) v↔v=.str x:=by unfold Rep;exact Iff.rfl
def aB:Rep K H (.tup ds) v↔∃a vs,v=.ref a/\iZ K H a vs/\Reps K H ds vs:=by rw[Rep]
def aC:Rep K H (.lst ds) v↔∃a vs,v=.ref a/\fL K H a vs/\Reps K H ds vs:=by rw[Rep]
def ff{x}:Rep K H (.exc x) v↔∃a C dc,v=.ref a/\XC K x C/\Rd H a (.ext (wX a C dc)):=by rw[Rep]
def bX{k}:Rep K H (.ob k ds) v↔∃a vs,v=.ref a/\vg K H k a vs/\Reps K H ds vs:=by rw[Rep]
def Rep.exf_exc{c:Str}{ks:List Str}(h:Rep K H (.ob (.exf c ks) ds) v):Rep K H (.exc c) v:=by
 obtain⟨a,vs,e,⟨C,dx,fs,h1,h2,_⟩,_⟩:=bX.mp h;exact ff.mpr ⟨a,C,some dx,e,h1,h2⟩
def Reps.nil_iff:Reps K H [] vs↔vs=[]:=by unfold Reps;exact Iff.rfl
def az:Reps K H (d::ds) vs↔∃v r,vs=v::r/\Rep K H d v/\Reps K H ds r:=by rw[Reps]
def Reps.nil:Reps K H [] []:=Reps.nil_iff.mpr rfl
def Reps.cons(h:Rep K H d v)(h':Reps K H ds vs):Reps K H (d::ds) (v::vs):=az.mpr ⟨_,_,rfl,h,h'⟩
end
theorem Reps.length{K:W.Frag}{H:Hp}:∀{ds:ac}{vs:al},Reps K H ds vs->ds.length=vs.length
 |[],_,h=>by rw[Reps.nil_iff.mp h];rfl
 |d::ds,_,h=>by
  obtain⟨v,r,rfl,_,h⟩:=az.mp h;simp[Reps.length h]
theorem Reps.get{K:W.Frag}{H:Hp}:∀{ds:ac}{vs:al}{i:Nat}{d:D},Reps K H ds vs->ds[i]?=some d->∃v,vs[i]?=some v/\Rep K H d v
 |[],_,_,_,h,e=>by simp at e
 |x::ds,_,0,d,h,e=>by
  obtain⟨v,r,rfl,h1,_⟩:=az.mp h;simp at e;subst e;exact⟨v,rfl,h1⟩
 |x::ds,_,i+1,d,h,e=>by
  obtain⟨v,r,rfl,_,h2⟩:=az.mp h;obtain⟨u,e1,e2⟩:=Reps.get (i:=i) h2 (by simpa using e);exact⟨u,by simpa using e1,e2⟩
theorem Reps.app{K:W.Frag}{H:Hp}:∀{ds es:ac}{vs us:al},Reps K H ds vs->Reps K H es us->Reps K H (ds++es) (vs++us)
 |[],_,_,_,h,h'=>by rw[Reps.nil_iff.mp h];exact h'
 |d::ds,_,_,_,h,h'=>by
  obtain⟨v,r,rfl,h1,h2⟩:=az.mp h;exact Reps.cons h1 (Reps.app h2 h')
theorem Reps.take{K:W.Frag}{H:Hp}:∀{ds:ac}{vs:al}(n:Nat),Reps K H ds vs->Reps K H (ds.take n) (vs.take n)
 |_,_,0,_=>by simp;exact Reps.nil
 |[],_,n+1,h=>by rw[Reps.nil_iff.mp h];exact Reps.nil
 |d::ds,_,n+1,h=>by
  obtain⟨v,r,rfl,h1,h2⟩:=az.mp h;exact Reps.cons h1 (Reps.take n h2)
theorem Reps.drop{K:W.Frag}{H:Hp}:∀{ds:ac}{vs:al}(n:Nat),Reps K H ds vs->Reps K H (ds.drop n) (vs.drop n)
 |_,_,0,h=>by simpa using h
 |[],_,n+1,h=>by rw[Reps.nil_iff.mp h];exact Reps.nil
 |d::ds,_,n+1,h=>by
  obtain⟨v,r,rfl,h1,h2⟩:=az.mp h;exact Reps.drop n h2
theorem Reps.set{K:W.Frag}{H:Hp}{d:D}{v:V}(h:Rep K H d v):∀{ds:ac}{vs:al}(n:Nat),Reps K H ds vs->Reps K H (ds.set n d) (vs.set n v)
 |[],_,n,h'=>by rw[Reps.nil_iff.mp h'];exact Reps.nil
 |x::ds,_,0,h'=>by
  obtain⟨v,r,rfl,h1,h2⟩:=az.mp h';exact Reps.cons h h2
 |x::ds,_,n+1,h'=>by
  obtain⟨v,r,rfl,h1,h2⟩:=az.mp h';exact Reps.cons h1 (Reps.set h n h2)
theorem qY{K:W.Frag}{H:Hp}:∀(ns:List Int),Reps K H (ns.map D.int) (ns.map V.int)
 |[]=>Reps.nil
 |n::r=>Reps.cons (aA.mpr rfl) (qY r)
structure bH (H Ha H' Ha':Hp):Prop where
 s:aE H H'
 z:aE Ha Ha'
 sub:aE Ha' H'
 nw:∀a,Ha' a≠none->Ha a=none->H a=none
def bH.refl{H Ha:Hp}(h:aE Ha H):bH H Ha H Ha:=⟨aE.refl _,aE.refl _,h,λa h1 h2=>absurd h2 h1⟩
theorem bH.trans{H Ha H1 H01 H2 H02:Hp}(a:bH H Ha H1 H01)(b:bH H1 H01 H2 H02):bH H Ha H2 H02 :=
 ⟨a.s.trans b.s,a.z.trans b.z,b.sub,λx h1 h2=>by
  cases q:H01 x with
  |none=>exact a.s.free (b.nw x h1 q)
  |some o=>exact a.nw x (by rw[q];simp) h2⟩
def aO{H Ha:Hp}{p:Addr}{o:HO}(hs:aE Ha H)(hp:H p=none):bH H Ha (upd H p o) (upd Ha p o) :=
 ⟨same_new hp o,same_new (hs.free hp) o,λb u e=>by
  by_cases hb:b=p
  .subst hb;rw[aF]at e ⊢;exact e
  .rw[aD hb]at e ⊢;exact hs _ _ e,λa h1 h2=>by
  by_cases hb:a=p
  .subst hb;exact hp
  .rw[aD hb]at h1;exact absurd h2 h1⟩
where
 same_new {H:Hp}{p:Addr}(h:H p=none) (o:HO):aE H (upd H p o):=λb u q=>by rw[aD (aY q h)];exact q
inductive Sl where
 |no|sh (d:D)|ow (d:D)|ox (j:Nat) (ds:ac)|pt (a:Addr)
abbrev Ev:=List Sl
abbrev am:=Ev->au D
def eu(K:W.Frag)(Ha:Hp)(σ:L2.St)(ρ:Ev):Prop:=∀(i:Nat) (d:D),ρ[i]?=some (.sh d)->∃v,σ[i]?=some (some v)/\Rep K Ha d v
def eu.mono{K:W.Frag}{H H':Hp}{σ:L2.St}{ρ:Ev}(e:aE H H')(r:eu K H σ ρ):eu K H' σ ρ:=λi d h=>
 let ⟨v,h1,h2⟩:=r i d h
 ⟨v,h1,h2.mono e⟩
def vm(K:W.Frag)(H:Hp)(x:CF)(C:Value)(ox:Option Addr):Prop :=
 (∃c,C=.ref c/\XC K x.cls c)/\match ox with
  |none=>x.flds=[]
  |some a=>∃fs,H a=some (.xd fs)/\∀n d,x.flds.lookup n=some d->∃v,fs.lookup n=some v/\Rep K H d v
def post(K:W.Frag)(E:XK)(H Ha:Hp)(r:au D)(Q:VK):Prop:=match r with
 |.ok d=>∀v H' Ha',bH H Ha H' Ha'->Rep K Ha' d v->Q v H'
 |.exn x=>∀C ox H' Ha',bH H Ha H' Ha'->vm K Ha' x C ox->E C ox H'
 |.stuck=>False
def og(K:W.Frag)(E:XK)(H Ha:Hp)(r:au (ac))(Q:al->Hp->Prop):Prop:=match r with
 |.ok ds=>∀vs H' Ha',bH H Ha H' Ha'->Reps K Ha' ds vs->Q vs H'
 |.exn x=>∀C ox H' Ha',bH H Ha H' Ha'->vm K Ha' x C ox->E C ox H'
 |.stuck=>False
def oh(K:W.Frag)(E:XK)(H Ha:Hp)(r:au D)(Q:Bool->Hp->Prop):Prop:=match r with
 |.ok (.bl b)=>∀H' Ha',bH H Ha H' Ha'->Q b H'
 |.ok _=>False
 |.exn x=>∀C ox H' Ha',bH H Ha H' Ha'->vm K Ha' x C ox->E C ox H'
 |.stuck=>False
section
variable {K:W.Frag}{E:XK}{H Ha H1 H01:Hp}
def post.grow{r:au D}{Q:VK}(h:post K E H Ha r Q)(g:bH H Ha H1 H01):post K E H1 H01 r Q:=by
 cases r with|ok d=>exact λv H' Ha' g'=>h v H' Ha' (g.trans g')|exn x=>exact λC ox H' Ha' g'=>h C ox H' Ha' (g.trans g')|stuck=>exact h
def og.grow{r:au (ac)}{Q:al->Hp->Prop}(h:og K E H Ha r Q)(g:bH H Ha H1 H01):og K E H1 H01 r Q:=by
 cases r with|ok d=>exact λv H' Ha' g'=>h v H' Ha' (g.trans g')|exn x=>exact λC ox H' Ha' g'=>h C ox H' Ha' (g.trans g')|stuck=>exact h
def oh.grow{r:au D}{Q:Bool->Hp->Prop}(h:oh K E H Ha r Q)(g:bH H Ha H1 H01):oh K E H1 H01 r Q:=by
 cases r with
 |ok d=>
  cases d with|bl b=>exact λH' Ha' g'=>h H' Ha' (g.trans g')| _=>exact h
 |exn x=>exact λC ox H' Ha' g'=>h C ox H' Ha' (g.trans g')
 |stuck=>exact h
end
def tD(K:W.Frag)(E:XK)(f:am):TE:=λσ H Q=>∃Ha ρ,aE Ha H/\eu K Ha σ ρ/\post K E H Ha (f ρ) Q
def Mz(K:W.Frag)(E:XK)(f:Ev->au (ac)):TA:=λσ H Q=>∃Ha ρ,aE Ha H/\eu K Ha σ ρ/\og K E H Ha (f ρ) Q
def Jj(K:W.Frag)(E:XK)(f:am):TT:=λσ H Q=>∃Ha ρ,aE Ha H/\eu K Ha σ ρ/\oh K E H Ha (f ρ) Q
structure DE (X:Cx) (E:XK) (e:Expr) (f:am):Prop where
 o:PE X e (tD X.K E f)
structure DA (X:Cx) (E:XK) (es:List Expr) (f:Ev->au (ac)):Prop where
 o:PA X es (Mz X.K E f)
structure DT (X:Cx) (E:XK) (e:Expr) (f:am):Prop where
 o:PT X e (Jj X.K E f)
structure DW (X:Cx) (E:XK) (e:Expr) (f:am):Prop where
 o:PW X e (Jj X.K E f)
section
variable {X:Cx}{E:XK}{e a b:Expr}{es:List Expr}{f g:am}{fa:Ev->au (ac)}{pos:Pos}
def bp{t t':TE}(h:PE X e t)(w:∀σ H Q,t' σ H Q->t σ H Q):PE X e t':=λpins s σ H Q I q=>h pins s σ H Q I (w σ H Q q)
def xJ{t t':TA}(h:PA X es t)(w:∀σ H Q,t' σ H Q->t σ H Q):PA X es t':=λpos pins s σ H Q I q=>h pos pins s σ H Q I (w σ H Q q)
def lp{t t':TT}(h:PT X e t)(w:∀σ H Q,t' σ H Q->t σ H Q):PT X e t':=λpins s σ H Q I q=>h pins s σ H Q I (w σ H Q q)
def xC{t t':TT}(h:PW X e t)(w:∀σ H Q,t' σ H Q->t σ H Q):PW X e t':=λwh pins s σ H Q I q=>h wh pins s σ H Q I (w σ H Q q)
def ah(i:Nat):am:=λρ=>match ρ[i]? with
 |some (.sh d)=>.ok d
 |_=>.stuck
def dC(d:D):am:=λ_=>.ok d
def IJ{i:Nat}{x:Str}(hN:X.N[i]?=some x)(hv:vd X.env.scope x)(hd:(x==("__debug__":Str))=false:=by decide)(hcd:(x==("__classdict__":Str))=false:=by decide):DE X E (.Name x pos) (ah i):=by
 refine⟨?_⟩;refine bp (eR hN hv hd hcd) λσ H Q ⟨Ha,ρ,hs,hr,q⟩=>?_;unfold ah at q;cases e:ρ[i]? with
 |none=>rw[e]at q;exact q.elim
 |some s=>
  rw[e]at q;cases s with
  |sh d=>
   obtain⟨v,e1,e2⟩:=hr i d e;exact⟨v,e1,q v H Ha (bH.refl hs) e2⟩
  |no|ow d|ox j ds|pt a=>exact q.elim
def ai{i j}:DE X E (.Constant (.int i) j pos) (dC (.int i)):=⟨bp ot λσ H Q ⟨Ha,ρ,hs,hr,q⟩=>q _ H Ha (bH.refl hs) (aA.mpr rfl)⟩
def dG{i j}:DE X E (.Constant (.bool i) j pos) (dC (.bl i)):=⟨bp J6 λσ H Q ⟨Ha,ρ,hs,hr,q⟩=>q _ H Ha (bH.refl hs) (aH.mpr rfl)⟩
def eN{j}:DE X E (.Constant .none j pos) (dC .non):=⟨bp vJ λσ H Q ⟨Ha,ρ,hs,hr,q⟩=>q _ H Ha (bH.refl hs) (aS.mpr rfl)⟩
def aQ{x j}:DE X E (.Constant (.str x) j pos) (dC (.str x)):=⟨bp G3 λσ H Q ⟨Ha,ρ,hs,hr,q⟩=>q _ H Ha (bH.refl hs) (Rep.str_iff.mpr rfl)⟩
def Fg{x:Str}{v:V}{u:Value}{d:D}(hg:Gl X x)(hm:X.mg x=some u)(r:bY v u)(hr:∀H,Rep X.K H d v)(hd:(x==("__debug__":Str))=false:=by decide):DE X E (.Name x pos) (dC d) :=
 ⟨bp (lq hg hm r hd) λσ H Q ⟨Ha,ρ,hs,hr',q⟩=>q _ H Ha (bH.refl hs) (hr Ha)⟩
def ae(f g:am)(op:D->D->au D):am:=λρ=>(f ρ).bind λx=>(g ρ).bind λy=>op x y
def bf(f:am)(op:D->au D):am:=λρ=>(f ρ).bind op
def zM(K:W.Frag)(E:XK)(r:R2)(op:D->D->au D):Prop:=∀(x y:D) (v u:V) (H Ha:Hp) (Q:VK),aE Ha H->Rep K Ha x v->Rep K Ha y u->post K E H Ha (op x y) Q->r v u H Q
def kl{r:R2}{op:D->D->au D}(ho:zM X.K E r op)(σ:L2.St)(H:Hp)(Q:VK)(h:tD X.K E (ae f g op) σ H Q):Ji r (tD X.K E f) (tD X.K E g) σ H Q:=by
 obtain⟨Ha,ρ,hs,hr,q⟩:=h;refine⟨Ha,ρ,hs,hr,?_⟩;unfold ae at q;cases e1:f ρ with
 |stuck|exn x=>rw[e1]at q;exact q
 |ok x=>
  rw[e1]at q;intro v H1 H01 g1 r1;refine⟨H01,ρ,g1.sub,hr.mono g1.z,?_⟩;replace q:post X.K E H Ha ((g ρ).bind λy=>op x y) Q:=q;replace q:=q.grow g1;cases e2:g ρ with
  |stuck|exn x=>rw[e2]at q;exact q
  |ok y=>
   rw[e2]at q;intro u H2 H02 g2 r2;exact ho x y v u H2 H02 Q g2.sub (r1.mono g2.z) r2 (post.grow (r:=op x y) q g2)
def pd{op:Operator}{r:R2}{o:D->D->au D}(h:gf X (binaryOp op) r)(ho:zM X.K E r o)(ha:DE X E a f)(hb:DE X E b g):DE X E (.BinOp a op b pos) (ae f g o) :=
 ⟨bp (AS h ha.o hb.o) (kl ho)⟩
def cZ{op:CmpOp}{r:R2}{o:D->D->au D}(h:gf X (compareOp op) r)(ho:zM X.K E r o)(ha:DE X E a f)(hb:DE X E b g)(hm:behindInMarks op b=false):DE X E (.Compare a [op] [b] pos) (ae f g o) :=
 ⟨bp (DB h ha.o hb.o hm) (kl ho)⟩
def KU{r:R2}{o:D->D->au D}(h:CD X r)(ho:zM X.K E r o)(ha:DE X E a f)(hb:DE X E b g)(hs:jz b):DE X E (.Subscript a b pos) (ae f g o) :=
 ⟨bp (uc h ha.o hb.o hs) (kl ho)⟩
def Nb(K:W.Frag)(E:XK)(r:V->Hp->VK->Prop)(op:D->au D):Prop:=∀(x:D) (v:V) (H Ha:Hp) (Q:VK),aE Ha H->Rep K Ha x v->post K E H Ha (op x) Q->r v H Q
def KS{op:UnaryOp}{r:V->Hp->VK->Prop}{o:D->au D}(h:Ln X (unaryOp op) r)(ho:Nb X.K E r o)(ha:DE X E a f):DE X E (.UnaryOp op a pos) (bf f o):=by
 refine⟨?_⟩;refine bp (J4 h ha.o) λσ H Q z9=>?_;obtain⟨Ha,ρ,hs,hr,q⟩:=z9;refine⟨Ha,ρ,hs,hr,?_⟩
 unfold bf at q;cases e1:f ρ with
 |stuck|exn x=>rw[e1]at q;exact q
 |ok x=>
  rw[e1]at q;intro v H1 H01 g1 r1;exact ho x v H1 H01 Q g1.sub r1 (post.grow (r:=o x) q g1)
def ay:Ev->au (ac):=λ_=>.ok []
def ag(f:am)(fa:Ev->au (ac)):Ev->au (ac):=λρ=>(f ρ).bind λx=>(fa ρ).bind λxs=>.ok (x::xs)
def aq:DA X E [] ay:=⟨xJ gi λσ H Q ⟨Ha,ρ,hs,hr,q⟩=>q [] H Ha (bH.refl hs) Reps.nil⟩
def aa(ha:DE X E e f)(hr:DA X E es fa)(hs:starEach (e::es) X.env=(false,eval e X.env)::starEach es X.env:=by exact aN rfl):DA X E (e::es) (ag f fa):=by
 refine⟨?_⟩;refine xJ (dP ha.o hr.o hs) λσ H Q z9=>?_;obtain⟨Ha,ρ,hs,hr,q⟩:=z9;refine⟨Ha,ρ,hs,hr,?_⟩
 unfold ag at q;cases e1:f ρ with
 |stuck|exn x=>rw[e1]at q;exact q
 |ok x=>
  rw[e1]at q;intro v H1 H01 g1 r1;refine⟨H01,ρ,g1.sub,hr.mono g1.z,?_⟩;replace q:og X.K E H Ha ((fa ρ).bind λxs=>.ok (x::xs)) Q:=q;replace q:=q.grow g1;cases e2:fa ρ with
  |stuck|exn x=>rw[e2]at q;exact q
  |ok xs=>
   rw[e2]at q;intro us H2 H02 g2 r2;exact q (v::us) H2 H02 g2 (Reps.cons (r1.mono g2.z) r2)
def line:Nat:=1000000
def dS{n:Nat}(h:n<=line):n<=sizeLine:=Nat.le_trans h (by decide)
def ar(fa:Ev->au (ac))(m:ac->au D):am:=λρ=>(fa ρ).bind m
def dZ:ac->au D:=λds=>if ds.length<=line then .ok (.tup ds) else .stuck
def cY:ac->au D:=λds=>if ds.length<=line then .ok (.lst ds) else .stuck
def kC{m:ac->au D}{r:al->Hp->VK->Prop}(ho:∀(ds:ac) (vs:al) (H Ha:Hp) (Q:VK),aE Ha H->Reps X.K Ha ds vs->post X.K E H Ha (m ds) Q->r vs H Q)
  (σ:L2.St)(H:Hp)(Q:VK)(h:tD X.K E (ar fa m) σ H Q):Mz X.K E fa σ H λvs H1=>r vs H1 Q:=by
 obtain⟨Ha,ρ,hs,hr,q⟩:=h;refine⟨Ha,ρ,hs,hr,?_⟩;unfold ar at q;cases e1:fa ρ with
 |stuck|exn x=>rw[e1]at q;exact q
 |ok x=>
  rw[e1]at q;intro v H1 H01 g1 r1;exact ho x v H1 H01 Q g1.sub r1 (post.grow (r:=m x) q g1)
def bW{x1}(h:DA X E es fa):DE X E (.Tuple es x1 pos) (ar fa dZ):=by
 refine⟨?_⟩;refine bp (AR h.o) (kC (r:=λxs H1 Q=>xs.length<=sizeLine/\∀p,H1 p=none->Q (.ref p) (upd H1 p (.tup xs))) λds vs H Ha Q hs hr q=>?_);unfold dZ at q
 by_cases hl:ds.length<=line
 .rw[if_pos hl]at q
  refine⟨by rw[←hr.length];exact dS hl,λp hp=>q _ _ _ (aO hs hp) (aB.mpr ⟨p,vs,rfl,iZ.of aF,hr.mono (aO hs hp).z⟩)⟩
 .rw[if_neg hl]at q;exact q.elim
def cJ(h:DA X E es fa):DE X E (.List es pos) (ar fa cY):=by
 refine⟨?_⟩;refine bp (AU h.o) (kC (r:=λxs H1 Q=>xs.length<=sizeLine/\∀p,H1 p=none->Q (.ref p) (upd H1 p (.lst xs))) λds vs H Ha Q hs hr q=>?_);unfold cY at q
 by_cases hl:ds.length<=line
 .rw[if_pos hl]at q
  refine⟨by rw[←hr.length];exact dS hl,λp hp=>q _ _ _ (aO hs hp) (aC.mpr ⟨p,vs,rfl,fL.of aF,hr.mono (aO hs hp).z⟩)⟩
 .rw[if_neg hl]at q;exact q.elim
def spD(K:W.Frag)(n:Nat)(m:ac->au D):Sp:=λvs H Q E=>vs.length=n/\∃Ha ds,aE Ha H/\Reps K Ha ds vs/\post K E H Ha (m ds) Q
def Fj{CX:q9}{k n:Nat}{fn:Addr}{fd:FuncData}{ps:List Str}{m:ac->au D}{x:Str}{p:Pos}(F:FnOk X.prog X.w X.K X.mg X.base CX k fn fd ps (spD X.K n m))(hr:dI k X.A)(hg:Gl X x)(hm:X.mg x=some (.ref fn))
  (hk:W.keepIn X.K (.ref fn)=true)(hb:iu X.K fd ps [])(hx:kj CX X E)(ha:DA X E (e::es) fa)(hn:(e::es).length=n:=by rfl)(hl:∀ρ ds,fa ρ=.ok ds->ds.length=(e::es).length)
  (hdb:(x==("__debug__":Str))=false:=by decide)(he:starEach (e::es) X.env=(false,eval e X.env)::starEach es X.env:=by exact aN rfl)(hpl:(backTo pos (starEach es X.env)).any (·.1)=false:=by exact bD rfl) :
  DE X E (.Call (.Name x p) (e::es) [] pos) (ar fa m):=by
 refine⟨?_⟩;refine bp (xG F hr hg hm hk hb .nil hx ha.o hdb he hpl) λσ H Q h=>?_;obtain⟨Ha,ρ,hs,hr,q⟩:=h;refine⟨Ha,ρ,hs,hr,?_⟩;unfold ar at q;cases e1:fa ρ with
 |stuck|exn x=>rw[e1]at q;exact q
 |ok ds=>
  rw[e1]at q;intro v H1 H01 g1 r1;refine⟨?_,H01,ds,g1.sub,by simpa using r1,post.grow (r:=m ds) q g1⟩;have:=r1.length;have:=hl ρ ds e1;simp only[List.append_nil];omega
def Cn{ρ:Ev}{ds:ac}(h:ay ρ=.ok ds):ds.length=0:=by cases h;rfl
def kD{ρ:Ev}{ds:ac}{n:Nat}(hr:∀es,fa ρ=.ok es->es.length=n)(h:ag f fa ρ=.ok ds):ds.length=n+1:=by
 unfold ag at h;cases e1:f ρ with
 |stuck|exn x=>rw[e1]at h;cases h
 |ok x=>
  rw[e1]at h;replace h:((fa ρ).bind λxs=>au.ok (x::xs))=.ok ds:=h;cases e2:fa ρ with
  |stuck|exn x=>rw[e2]at h;cases h
  |ok xs=>
   rw[e2]at h;cases h;simp[hr xs e2]
def kL(X:Cx)(E:XK)(r:al->Hp->VK->Prop)(m:ac->au D):Prop:=∀(ds:ac) (vs:al) (H Ha:Hp) (Q:VK),aE Ha H->Reps X.K Ha ds vs->post X.K E H Ha (m ds) Q->r vs H Q
def aU{id:String}{r:al->Hp->VK->Prop}{m:ac->au D}{x:Str}{p:Pos}(hc:jG X (.builtin id) r)(hd:kL X E r m)(hg:Gl X x)(hm:X.mg x=none)(hv:bootBuiltins x=some (.builtin id))(ha:DA X E (e::es) fa)(hn:x≠"__name__":=by decide)(hdb:(x==("__debug__":Str))=false:=by decide)
  (he:starEach (e::es) X.env=(false,eval e X.env)::starEach es X.env:=by exact aN rfl)(hpl:(backTo pos (starEach es X.env)).any (·.1)=false:=by exact bD rfl):DE X E (.Call (.Name x p) (e::es) [] pos) (ar fa m) :=
 ⟨bp (lr hc hg hm hv ha.o hn hdb he hpl) (kC hd)⟩
def BS(h:PT X e (tB (tD X.K E f))):DT X E e f:=by
 refine⟨?_⟩;refine lp h λσ H Q z9=>?_;obtain⟨Ha,ρ,hs,hr,q⟩:=z9;refine⟨Ha,ρ,hs,hr,?_⟩
 cases e1:f ρ with
 |stuck|exn x=>rw[e1]at q;exact q
 |ok d=>
  rw[e1]at q;intro v H1 H01 g1 r1;cases d with|bl b=>rw[aH.mp r1];exact⟨b,rfl,q H1 H01 g1⟩| _=>exact q.elim
def bQ(h:DE X E e f)(he:∀whole,isTrue e X.env whole=(do let v ←whole;standAt e.pos;holding [v] (truthy v)):=by intro _;rfl):DT X E e f:=BS (GW h.o he)
def aJ{op:CmpOp}{r:R2}{o:D->D->au D}(h:gf X (compareOp op) r)(ho:zM X.K E r o)(ha:DE X E a f)(hb:DE X E b g)(hm:behindInMarks op b=false):DT X E (.Compare a [op] [b] pos) (ae f g o):=by
 refine⟨?_⟩;refine lp (xD h ha.o hb.o hm) λσ H Q h=>?_;have w:tD X.K E (ae f g o) σ H λx H'=>∃k,x=.bl k/\Q k H':=by
  obtain⟨Ha,ρ,hs,hr,q⟩:=h;refine⟨Ha,ρ,hs,hr,?_⟩;cases e1:ae f g o ρ with
  |stuck|exn x=>rw[e1]at q;exact q
  |ok d=>
   rw[e1]at q;intro v H1 H01 g1 r1;cases d with|bl b=>rw[aH.mp r1];exact⟨b,rfl,q H1 H01 g1⟩| _=>exact q.elim
 exact kl ho σ H _ w
def cC(f:am):am:=bf f λx=>match x with
 |.bl b=>.ok (.bl (!b))
 |_=>.stuck
def ef(f g:am):am:=λρ=>(f ρ).bind λx=>match x with
 |.bl true=>g ρ
 |.bl false=>.ok (.bl false)
 |_=>.stuck
def fq(f g:am):am:=λρ=>(f ρ).bind λx=>match x with
 |.bl true=>.ok (.bl true)
 |.bl false=>g ρ
 |_=>.stuck
def bR(ha:DT X E a f):DT X E (.UnaryOp .Not a pos) (cC f):=by
 refine⟨?_⟩;refine lp (GX ha.o) λσ H Q z9=>?_;obtain⟨Ha,ρ,hs,hr,q⟩:=z9;refine⟨Ha,ρ,hs,hr,?_⟩
 unfold cC bf at q;cases e1:f ρ with
 |stuck|exn x=>rw[e1]at q;exact q
 |ok d=>
  rw[e1]at q;cases d with|bl b=>exact q| _=>exact q.elim
def B4(ha:DE X E a f):DE X E (.UnaryOp .Not a pos) (cC f):=by
 refine⟨?_⟩;refine bp (G5 ha.o) λσ H Q z9=>?_;obtain⟨Ha,ρ,hs,hr,q⟩:=z9;refine⟨Ha,ρ,hs,hr,?_⟩
 unfold cC bf at q;cases e1:f ρ with
 |stuck|exn x=>rw[e1]at q;exact q
 |ok d=>
  rw[e1]at q;intro v H1 H01 g1 r1;cases d with|bl b=>rw[aH.mp r1];exact⟨b,rfl,q (.bl !b) H1 H01 g1 (aH.mpr rfl)⟩| _=>exact q.elim
variable {rest:List Expr}
def dX(ha:DT X E a f):DW X E (.BoolOp .And [a] pos) f:=⟨Ds ha.o⟩
def aX(ha:DT X E a f):DW X E (.BoolOp .Or [a] pos) f:=⟨GS ha.o⟩
def jo(ha:DT X E a f)(hb:DW X E (.BoolOp .And (b::rest) pos) g):DW X E (.BoolOp .And (a::b::rest) pos) (ef f g):=by
 refine⟨?_⟩;refine xC (GU ha.o hb.o) λσ H Q z9=>?_;obtain⟨Ha,ρ,hs,hr,q⟩:=z9;refine⟨Ha,ρ,hs,hr,?_⟩
 unfold ef at q;cases e1:f ρ with
 |stuck|exn x=>rw[e1]at q;exact q
 |ok d=>
  rw[e1]at q;cases d with
  |bl b=>
   cases b with|true=>exact λH1 H01 g1=>⟨H01,ρ,g1.sub,hr.mono g1.z,oh.grow (r:=g ρ) q g1⟩|false=>exact λH1 H01 g1=>q H1 H01 g1
  |_=>exact q.elim
def cP(ha:DT X E a f)(hb:DW X E (.BoolOp .Or (b::rest) pos) g):DW X E (.BoolOp .Or (a::b::rest) pos) (fq f g):=by
 refine⟨?_⟩;refine xC (JU ha.o hb.o) λσ H Q z9=>?_;obtain⟨Ha,ρ,hs,hr,q⟩:=z9;refine⟨Ha,ρ,hs,hr,?_⟩
 unfold fq at q;cases e1:f ρ with
 |stuck|exn x=>rw[e1]at q;exact q
 |ok d=>
  rw[e1]at q;cases d with
  |bl b=>
   cases b with|false=>exact λH1 H01 g1=>⟨H01,ρ,g1.sub,hr.mono g1.z,oh.grow (r:=g ρ) q g1⟩|true=>exact λH1 H01 g1=>q H1 H01 g1
  |_=>exact q.elim
def DW.dt(h:DW X E e f):DT X E e f:=⟨PW.pt h.o⟩
def eB{op}(h:DE X E a f):DE X E (.BoolOp op [a] pos) f:=⟨G4 h.o⟩
def eX(ha:DE X E a f)(hb:DE X E (.BoolOp .And (b::rest) pos) g):DE X E (.BoolOp .And (a::b::rest) pos) (ef f g):=by
 refine⟨?_⟩;refine bp (G6 ha.o hb.o) λσ H Q z9=>?_;obtain⟨Ha,ρ,hs,hr,q⟩:=z9;refine⟨Ha,ρ,hs,hr,?_⟩
 unfold ef at q;cases e1:f ρ with
 |stuck|exn x=>rw[e1]at q;exact q
 |ok d=>
  rw[e1]at q;intro v H1 H01 g1 r1;cases d with
  |bl b=>
   rw[aH.mp r1];cases b with|true=>exact⟨true,rfl,H01,ρ,g1.sub,hr.mono g1.z,post.grow (r:=g ρ) q g1⟩|false=>exact⟨false,rfl,q (.bl false) H1 H01 g1 (aH.mpr rfl)⟩
  |_=>exact q.elim
def yz(ha:DE X E a f)(hb:DE X E (.BoolOp .Or (b::rest) pos) g):DE X E (.BoolOp .Or (a::b::rest) pos) (fq f g):=by
 refine⟨?_⟩;refine bp (J5 ha.o hb.o) λσ H Q z9=>?_;obtain⟨Ha,ρ,hs,hr,q⟩:=z9;refine⟨Ha,ρ,hs,hr,?_⟩
 unfold fq at q;cases e1:f ρ with
 |stuck|exn x=>rw[e1]at q;exact q
 |ok d=>
  rw[e1]at q;intro v H1 H01 g1 r1;cases d with
  |bl b=>
   rw[aH.mp r1];cases b with|false=>exact⟨false,rfl,H01,ρ,g1.sub,hr.mono g1.z,post.grow (r:=g ρ) q g1⟩|true=>exact⟨true,rfl,q (.bl true) H1 H01 g1 (aH.mpr rfl)⟩
  |_=>exact q.elim
def KZ(c f g:am):am:=λρ=>(c ρ).bind λx=>match x with
 |.bl true=>f ρ
 |.bl false=>g ρ
 |_=>.stuck
def uT{c:Expr}{fc:am}(hc:DT X E c fc)(ha:DE X E a f)(hb:DE X E b g):DE X E (.IfExp c a b pos) (KZ fc f g):=by
 refine⟨?_⟩;refine bp (AV hc.o ha.o hb.o) λσ H Q z9=>?_;obtain⟨Ha,ρ,hs,hr,q⟩:=z9;refine⟨Ha,ρ,hs,hr,?_⟩
 unfold KZ at q;cases e1:fc ρ with
 |stuck|exn x=>rw[e1]at q;exact q
 |ok d=>
  rw[e1]at q;cases d with
  |bl b=>
   cases b with|true=>exact λH1 H01 g1=>⟨H01,ρ,g1.sub,hr.mono g1.z,post.grow (r:=f ρ) q g1⟩|false=>exact λH1 H01 g1=>⟨H01,ρ,g1.sub,hr.mono g1.z,post.grow (r:=g ρ) q g1⟩
  |_=>exact q.elim
end
noncomputable def Mq(K:W.Frag) (Ha H:Hp) (a:Addr) (d:D):Prop:=match d with
 |.lst ds=>∃vs,H a=some (.lst vs)/\Reps K Ha ds vs
 |.dic ks ds=>∃vs,H a=some (.dK ((ks.map Sum.inr).zip vs))/\ks.length=vs.length/\Reps K Ha ds vs
 |.ob (.dint ks) ds=>∃vs,H a=some (.dK ((ks.map Sum.inl).zip vs))/\ks.length=vs.length/\Reps K Ha ds vs
 |_=>False
def rP(j k:Nat):Bool:=if j=99 then decide (k<=1) else k==j
noncomputable def Lp(K:W.Frag) (He Ha H:Hp) (a:Addr) (j:Nat) (ds:ac) (P:Nat->Addr):Prop:=∃vs,He a=none/\H a=some (.tup vs)/\ds.length=vs.length /\
 (∀k,rP j k=true->∃es us,He (P k)=none/\Ha (P k)=none/\ds[k]?=some (.lst es)/\vs[k]?=some (.ref (P k))/\H (P k)=some (.lst us)/\Reps K Ha es us) /\
 (∀k l,rP j k=true->rP j l=true->P k=P l->k=l)/\∀k d v,rP j k=false->ds[k]?=some d->vs[k]?=some v->Rep K Ha d v
noncomputable def OX(K:W.Frag) (He Ha:Hp) (σ:L2.St) (H:Hp) (ρ:Ev):Prop:=(∀(i j:Nat) (ds:ac),ρ[i]?=some (.ox j ds)->∃a P,σ[i]?=some (some (.ref a))/\Lp K He Ha H a j ds P/\(∀(k:Nat) (d:D) (l:Nat),rP j l=true->ρ[k]?=some (.ow d)->σ[k]?≠some (some (.ref (P l))))/\∀(k j':Nat) (ds':ac),ρ[k]?=some (.ox j' ds')->k=i)/\∀(i:Nat) (a:Addr),ρ[i]?=some (.pt a)->σ[i]?=some (some (.ref a))
def OX.upd{K:W.Frag}{He Ha Ha' H H':Hp}{σ σ':L2.St}{ρ ρ':Ev}(h:OX K He Ha σ H ρ)
  (hk:∀(j:Nat) (s:Sl),ρ'[j]?=some s->(ρ[j]?=some s/\σ'[j]?=σ[j]?)∨(∃d,s=.sh d)∨s=.no∨∃d q,s=.ow d/\σ'[j]?=some (some (.ref q))/\∀(i j:Nat) (ds:ac) (a:Addr) (P:Nat->Addr),ρ[i]?=some (.ox j ds)->σ[i]?=some (some (.ref a))->Lp K He Ha H a j ds P->∀l,rP j l=true->q≠P l)
  (hz:aE Ha Ha')(ht:∀a vs,He a=none->H a=some (.tup vs)->H' a=some (.tup vs))
  (hl:∀p us,He p=none->Ha p=none->H p=some (.lst us)->(∀(k:Nat) (d:D),ρ[k]?=some (.ow d)->σ[k]?≠some (some (.ref p)))->H' p=some (.lst us)/\Ha' p=none):OX K He Ha' σ' H' ρ':=by
 refine⟨λi j ds e=>?_,λi a e=>?_⟩
 rotate_left
 .rcases hk i _ e with h1|⟨d,h1⟩|h1|⟨d,q,h1,_⟩
  .rw[h1.2];exact h.2 i a h1.1
  .cases h1
  .cases h1
  .cases h1
 have old:ρ[i]?=some (.ox j ds)/\σ'[i]?=σ[i]?:=by
  rcases hk i _ e with h1|⟨d,h1⟩|h1|⟨d,q,h1,_⟩
  .exact h1
  .cases h1
  .cases h1
  .cases h1
 obtain⟨a,P,h1,h2,h3,h4⟩:=h.1 i j ds old.1;have h2':=h2;obtain⟨vs,r1,r2,r3,r4,r5,r6⟩:=h2;refine⟨a,P,old.2.trans h1,⟨vs,r1,ht a vs r1 r2,r3,λk ok=>?_,r5,λk d v hk e1 e2=>(r6 k d v hk e1 e2).mono hz⟩,λk d l ok ek z=>?_,λk j' ds' ek=>?_⟩
 .obtain⟨es,us,q1,q2,q3,q4,q5,q6⟩:=r4 k ok
  obtain⟨l1,l2⟩:=hl (P k) us q1 q2 q5 λm d em=>h3 m d k ok em;exact⟨es,us,q1,l2,q3,q4,l1,q6.mono hz⟩
 .rcases hk k _ ek with h1'|⟨d',h1'⟩|h1'|⟨d',q,h1',h2'',h3'⟩
  .exact h3 k d l ok h1'.1 (by rw[←h1'.2];exact z)
  .cases h1'
  .cases h1'
  .rw[h2'']at z
   cases z;exact h3' i j ds a P old.1 h1 h2' l ok rfl
 .rcases hk k _ ek with h1'|⟨d',h1'⟩|h1'|⟨d',q,h1',_⟩
  .exact h4 k j' ds' h1'.1
  .cases h1'
  .cases h1'
  .cases h1'
def OX.none{K:W.Frag}{He Ha H:Hp}{σ:L2.St}{ρ:Ev}(h:∀(i j:Nat) (ds:ac),ρ[i]?≠some (.ox j ds))(h':∀(i:Nat) (a:Addr),ρ[i]?=some (.pt a)->σ[i]?=some (some (.ref a))):OX K He Ha σ H ρ:=⟨λi j ds e=>absurd e (h i j ds),h'⟩
theorem xA{K:W.Frag}{H:Hp}:∀{ds:ac}{vs:al},ds.length=vs.length->(∀(k:Nat) (d:D) (v:V),ds[k]?=some d->vs[k]?=some v->Rep K H d v)->Reps K H ds vs
 |[],[],_,_=>Reps.nil
 |d::ds,v::vs,hl,h=>Reps.cons (h 0 d v rfl rfl) (xA (by simpa using hl) λk d' v' e1 e2=>h (k+1) d' v' e1 e2)
structure eG (K:W.Frag) (He H0e Ha:Hp) (σ:L2.St) (H:Hp) (ρ:Ev):Prop where
 g:bH He H0e H Ha
 rd:eu K Ha σ ρ
 ow:∀(i:Nat) (d:D),ρ[i]?=some (.ow d)->∃a,σ[i]?=some (some (.ref a))/\He a=none/\Ha a=none/\Mq K Ha H a d
 ap:∀(i j:Nat) (d d':D),i≠j->ρ[i]?=some (.ow d)->ρ[j]?=some (.ow d')->σ[i]?≠σ[j]?
 ln:ρ.length=σ.length
 ex:OX K He Ha σ H ρ
inductive Fl where
 |nx (ρ:Ev)|rt (d:D)|bk (ρ:Ev)|ct (ρ:Ev)
abbrev bv:=Ev->au Fl
noncomputable def bZ(K:W.Frag) (E:XK) (He H0e Ha:Hp) (r:au Fl) (D:gW):Prop:=match r with
 |.ok (.nx ρ)=>∀σ H Ha',aE Ha Ha'->eG K He H0e Ha' σ H ρ->D.nx σ H
 |.ok (.rt d)=>∀v H Ha',bH He H0e H Ha'->Rep K Ha' d v->D.rt v H
 |.ok (.bk ρ)=>∀σ H Ha',aE Ha Ha'->eG K He H0e Ha' σ H ρ->D.bk σ H
 |.ok (.ct ρ)=>∀σ H Ha',aE Ha Ha'->eG K He H0e Ha' σ H ρ->D.ct σ H
 |.exn x=>∀C ox H Ha',bH He H0e H Ha'->vm K Ha' x C ox->E C ox H
 |.stuck=>False
def bZ.grow{K:W.Frag}{E:XK}{He H0e Ha Hb:Hp}{r:au Fl}{D:gW}(h:bZ K E He H0e Ha r D)(s:aE Ha Hb):bZ K E He H0e Hb r D:=by
 cases r with
 |ok f=>
  cases f with|nx ρ=>exact λσ H Ha' s'=>h σ H Ha' (s.trans s')|rt d=>exact h|bk ρ=>exact λσ H Ha' s'=>h σ H Ha' (s.trans s')|ct ρ=>exact λσ H Ha' s'=>h σ H Ha' (s.trans s')
 |exn x=>exact h
 |stuck=>exact h
def tS(K:W.Frag)(E:XK)(He H0e:Hp)(g:bv):TS:=λD σ H=>∃Ha ρ,eG K He H0e Ha σ H ρ/\bZ K E He H0e Ha (g ρ) D
structure DS (X:Cx) (E:XK) (He H0e:Hp) (st:Stmt) (g:bv):Prop where
 o:PS X st (tS X.K E He H0e g)
structure tq (X:Cx) (E:XK) (He H0e:Hp) (st:List Stmt) (g:bv):Prop where
 o:nI X st (tS X.K E He H0e g)
def gz(ρ:Ev):Ev:=ρ.map λs=>match s with
 |.ow d=>.sh d
 |.ox _ ds=>.sh (.tup ds)
 |x=>x
def frz(He Ha H:Hp):Hp:=λa=>match He a with
 |none=>H a
 |some _=>Ha a
section
variable {K:W.Frag}{E:XK}{He H0e Ha H H1:Hp}{σ:L2.St}{ρ:Ev}
def eG.same(h:eG K He H0e Ha σ H ρ)(s:aE H H1):eG K He H0e Ha σ H1 ρ :=
 ⟨⟨h.g.s.trans s,h.g.z,h.g.sub.trans s,h.g.nw⟩,h.rd,λi d e=>by
  obtain⟨a,h1,h2,h3,h4⟩:=h.ow i d e;refine⟨a,h1,h2,h3,?_⟩;cases d with
  |lst ds=>obtain⟨vs,h5,h6⟩:=h4;exact⟨vs,s _ _ h5,h6⟩|dic ks ds=>obtain⟨vs,h5,hl,h6⟩:=h4;exact⟨vs,s _ _ h5,hl,h6⟩
  |ob kk ds=>
   cases kk with|dint ks=>obtain⟨vs,h5,hl,h6⟩:=h4;exact⟨vs,s _ _ h5,hl,h6⟩| _=>exact h4.elim
  |_=>exact h4,h.ap,h.ln,h.ex.upd (λj s' e=>.inl ⟨e,rfl⟩) (aE.refl _) (λa vs _ e=>s _ _ e) λp us _ h0 hp _=>⟨s _ _ hp,h0⟩⟩
def eG.grow{H01:Hp}(h:eG K He H0e Ha σ H ρ)(s:bH H Ha H1 H01):eG K He H0e H01 σ H1 ρ :=
 ⟨h.g.trans s,h.rd.mono s.z,λi d e=>by
  obtain⟨a,h1,h2,h3,h4⟩:=h.ow i d e;have ha:H01 a=none:=by
   cases q:H01 a with
   |none=>rfl
   |some o=>
    have:=s.nw a (by rw[q];simp) h3;cases d with
    |lst ds|dic ks ds=>obtain⟨vs,h5,_⟩:=h4;rw[h5]at this;cases this
    |ob kk ds=>
     cases kk with|dint ks=>obtain⟨vs,h5,_⟩:=h4;rw[h5]at this;cases this| _=>exact h4.elim
    |_=>exact h4.elim
  refine⟨a,h1,h2,ha,?_⟩;cases d with
  |lst ds=>obtain⟨vs,h5,h6⟩:=h4;exact⟨vs,s.s _ _ h5,h6.mono s.z⟩|dic ks ds=>obtain⟨vs,h5,hl,h6⟩:=h4;exact⟨vs,s.s _ _ h5,hl,h6.mono s.z⟩
  |ob kk ds=>
   cases kk with|dint ks=>obtain⟨vs,h5,hl,h6⟩:=h4;exact⟨vs,s.s _ _ h5,hl,h6.mono s.z⟩| _=>exact h4.elim
  |_=>exact h4,h.ap,h.ln,h.ex.upd (λj s' e=>.inl ⟨e,rfl⟩) s.z (λa vs _ e=>s.s _ _ e) λp us _ h0 hp _=>⟨s.s _ _ hp,by
   cases q:H01 p with
   |none=>rfl
   |some o=>have:=s.nw p (by rw[q];simp) h0;rw[hp]at this;cases this⟩⟩
def eG.frz_sub(h:eG K He H0e Ha σ H ρ):aE Ha (frz He Ha H):=λb o e=>by
 unfold frz;cases q:He b with|none=>exact h.g.sub _ _ e|some _=>exact e
def eG.frz_le(h:eG K He H0e Ha σ H ρ):aE (frz He Ha H) H:=λb o e=>by
 unfold frz at e;cases q:He b with|none=>rw[q]at e;exact e|some _=>rw[q]at e;exact h.g.sub _ _ e
theorem eG.frz_grow(h:eG K He H0e Ha σ H ρ):bH He H0e H (frz He Ha H) :=
 ⟨h.g.s,h.g.z.trans h.frz_sub,h.frz_le,λa h1 h2=>by
  cases q:He a with
  |none=>rfl
  |some o=>
   unfold frz at h1;rw[q]at h1;have:=h.g.nw a h1 h2;rw[q]at this;cases this⟩
def eG.looks(h:eG K He H0e Ha σ H ρ):eu K (frz He Ha H) σ (gz ρ):=λi d e=>by
 unfold gz at e;rw[List.getElem?_map]at e;cases q:ρ[i]? with
 |none=>rw[q]at e;cases e
 |some s=>
  rw[q]at e;cases s with
  |no|pt a=>cases e
  |sh d'=>
   cases e;obtain⟨v,h1,h2⟩:=h.rd i d q;exact⟨v,h1,h2.mono h.frz_sub⟩
  |ow d'=>
   cases e;obtain⟨a,h1,h2,h3,h4⟩:=h.ow i d q;refine⟨_,h1,?_⟩;cases d with
   |lst ds=>
    obtain⟨vs,h5,h6⟩:=h4;exact aC.mpr ⟨a,vs,rfl,fL.of (by unfold frz;rw[h2];exact h5),h6.mono h.frz_sub⟩
   |dic ks ds=>
    obtain⟨vs,h5,hl,h6⟩:=h4;rw[Rep];exact⟨a,_,vs,rfl,.inl (by unfold frz;rw[h2];exact h5),rfl,hl,h6.mono h.frz_sub⟩
   |ob kk ds=>
    cases kk with
    |dint ks=>
     obtain⟨vs,h5,hl,h6⟩:=h4;exact bX.mpr ⟨a,vs,rfl,⟨_,.inl (by unfold frz;rw[h2];exact h5),rfl,hl⟩,h6.mono h.frz_sub⟩
    |_=>exact h4.elim
   |_=>exact h4.elim
  |ox j ds=>
   cases e;obtain⟨a,P,h1,⟨vs,r1,r2,r3,r4,r5,r6⟩,_⟩:=h.ex.1 i j ds q;refine⟨_,h1,aB.mpr ⟨a,vs,rfl,iZ.of (by unfold frz;rw[r1];exact r2),xA r3 λk d v e1 e2=>?_⟩⟩;cases hk:rP j k with
   |true=>
    obtain⟨es,us,q1,q2,q3,q4,q5,q6⟩:=r4 k hk;rw[q3]at e1;cases e1;rw[q4]at e2;cases e2;exact aC.mpr ⟨P k,us,rfl,fL.of (by unfold frz;rw[q1];exact q5),q6.mono h.frz_sub⟩
   |false=>exact(r6 k d v hk e1 e2).mono h.frz_sub
def eG.put(h:eG K He H0e Ha σ H ρ){i:Nat}{d:D}{v:V}(r:Rep K Ha d v):eG K He H0e Ha (σ.set i (some v)) H (ρ.set i (.sh d)):=by
 have key:∀(j:Nat) (s:Sl),(ρ.set i (.sh d))[j]?=some s->(j=i/\s=.sh d/\i<σ.length)∨(j≠i/\ρ[j]?=some s):=λj s e=>by
  by_cases hj:i=j
  .subst hj
   rw[List.getElem?_set_self']at e;cases q:ρ[i]? with
   |none=>rw[q]at e;cases e
   |some s'=>
    rw[q]at e;cases e;refine .inl ⟨rfl,rfl,?_⟩;rw[←h.ln];exact(List.getElem?_eq_some_iff.mp q).1
  .rw[List.getElem?_set_ne hj]at e
   exact .inr ⟨λz=>hj z.symm,e⟩
 refine⟨h.g,λj d' e=>?_,λj d' e=>?_,λj k d1 d2 hn e1 e2=>?_,by simp[h.ln],h.ex.upd (λj s e=>?_) (aE.refl _) (λa vs _ e=>e) λp us _ h0 hp _=>⟨hp,h0⟩⟩
 rotate_left 3
 .rcases key j _ e with⟨rfl,e',hl⟩|⟨hj,e'⟩
  .exact .inr (.inl ⟨d,e'⟩)
  .exact .inl ⟨e',by rw[List.getElem?_set_ne (Ne.symm hj)]⟩
 .rcases key j _ e with⟨rfl,e',hl⟩|⟨hj,e'⟩
  .cases e'
   exact⟨v,by rw[List.getElem?_set_self hl],r⟩
  .obtain⟨v',h1,h2⟩:=h.rd j d' e'
   exact⟨v',by rw[List.getElem?_set_ne (Ne.symm hj)];exact h1,h2⟩
 .rcases key j _ e with⟨rfl,e',hl⟩|⟨hj,e'⟩
  .cases e'
  .obtain⟨a,h1,h2⟩:=h.ow j d' e'
   exact⟨a,by rw[List.getElem?_set_ne (Ne.symm hj)];exact h1,h2⟩
 .rcases key j _ e1 with⟨_,e',_⟩|⟨hj,e1'⟩
  .cases e'
  rcases key k _ e2 with⟨_,e',_⟩|⟨hk,e2'⟩
  .cases e'
  rw[List.getElem?_set_ne (Ne.symm hj),List.getElem?_set_ne (Ne.symm hk)];exact h.ap j k d1 d2 hn e1' e2'
def eG.putOwn(h:eG K He H0e Ha σ H ρ){i:Nat}{ds:ac}{vs:al}{p:Addr}(hp:∀(j:Nat) (a:Addr),σ[j]?=some (some (V.ref a))->a=p->∀d:D,ρ[j]?≠some (Sl.ow d))(he:He p=none)(h0:Ha p=none)(hv:H p=some (.lst vs))(r:Reps K Ha ds vs)(hx:∀(i j:Nat) (ds:ac) (a:Addr) (P:Nat->Addr),ρ[i]?=some (.ox j ds)->σ[i]?=some (some (.ref a))->Lp K He Ha H a j ds P->∀l,rP j l=true->p≠P l) :
  eG K He H0e Ha (σ.set i (some (.ref p))) H (ρ.set i (.ow (.lst ds))):=by
 have key:∀(j:Nat) (s:Sl),(ρ.set i (.ow (.lst ds)))[j]?=some s->(j=i/\s=.ow (.lst ds)/\i<σ.length)∨(j≠i/\ρ[j]?=some s):=λj s e=>by
  by_cases hj:i=j
  .subst hj
   rw[List.getElem?_set_self']at e;cases q:ρ[i]? with
   |none=>rw[q]at e;cases e
   |some s'=>
    rw[q]at e;cases e;refine .inl ⟨rfl,rfl,?_⟩;rw[←h.ln];exact(List.getElem?_eq_some_iff.mp q).1
  .rw[List.getElem?_set_ne hj]at e
   exact .inr ⟨λz=>hj z.symm,e⟩
 have other:∀(k:Nat) (d2:D),k≠i->ρ[k]?=some (.ow d2)->some (some (V.ref p))≠σ[k]?:=λk d2 hk e2 z=>by
  obtain⟨a,h1,_⟩:=h.ow k d2 e2;rw[h1]at z;cases z;exact hp k p h1 rfl d2 e2
 refine⟨h.g,λj d' e=>?_,λj d' e=>?_,λj k d1 d2 hn e1 e2=>?_,by simp[h.ln],h.ex.upd (λj s e=>?_) (aE.refl _) (λa vs _ e=>e) λp us _ h0 hp _=>⟨hp,h0⟩⟩
 rotate_left 3
 .rcases key j _ e with⟨rfl,e',hl⟩|⟨hj,e'⟩
  .exact .inr (.inr (.inr ⟨.lst ds,p,e',by rw[List.getElem?_set_self hl],hx⟩))
  .exact .inl ⟨e',by rw[List.getElem?_set_ne (Ne.symm hj)]⟩
 .rcases key j _ e with⟨rfl,e',hl⟩|⟨hj,e'⟩
  .cases e'
  .obtain⟨v',h1,h2⟩:=h.rd j d' e'
   exact⟨v',by rw[List.getElem?_set_ne (Ne.symm hj)];exact h1,h2⟩
 .rcases key j _ e with⟨rfl,e',hl⟩|⟨hj,e'⟩
  .cases e'
   exact⟨p,by rw[List.getElem?_set_self hl],he,h0,vs,hv,r⟩
  .obtain⟨a,h1,h2⟩:=h.ow j d' e'
   exact⟨a,by rw[List.getElem?_set_ne (Ne.symm hj)];exact h1,h2⟩
 .rcases key j _ e1 with⟨rfl,_,hl⟩|⟨hj,e1'⟩
  .rcases key k _ e2 with⟨rfl,_,_⟩|⟨hk,e2'⟩
   .exact absurd rfl hn
   .rw[List.getElem?_set_self hl,List.getElem?_set_ne (Ne.symm hk)]
    exact other k d2 hk e2'
  .rcases key k _ e2 with⟨rfl,_,hl⟩|⟨hk,e2'⟩
   .rw[List.getElem?_set_self hl,List.getElem?_set_ne (Ne.symm hj)]
    exact λz=>other j d1 hj e1' z.symm
   .rw[List.getElem?_set_ne (Ne.symm hj),List.getElem?_set_ne (Ne.symm hk)]
    exact h.ap j k d1 d2 hn e1' e2'
def eG.fresh_x{H01:Hp}{p:Addr}(h:eG K He H0e Ha σ H ρ)(s:aE H H1)(hp:H p=none):∀(i j:Nat) (ds:ac) (a:Addr) (P:Nat->Addr),ρ[i]?=some (.ox j ds)->σ[i]?=some (some (.ref a))->Lp K He H01 H1 a j ds P->∀l,rP j l=true->p≠P l:=λi j ds a P x1 x2 x3 l ol=>by
 obtain⟨a2,P2,y1,⟨vs2,_,z3,_,y4,_⟩,_⟩:=h.ex.1 i j ds x1;rw[x2]at y1;cases y1;obtain⟨vs1,_,z1,_,y5,_⟩:=x3;have:=s _ _ z3;rw[z1]at this;cases this;obtain⟨_,us2,_,_,_,z4,z5,_⟩:=y4 l ol;obtain⟨_,_,_,_,_,z2,_⟩:=y5 l ol;rw[z2]at z4;injection z4 with z4;injection z4 with z4;intro z;rw[←z4,←z,hp]at z5;cases z5
def eG.write(h:eG K He H0e Ha σ H ρ){i:Nat}{d:D}{p:Addr}{ds:ac}{vs:al}(e:ρ[i]?=some (.ow d))(es:σ[i]?=some (some (.ref p)))(r:Reps K Ha ds vs) :
  eG K He H0e Ha σ (upd H p (.lst vs)) (ρ.set i (.ow (.lst ds))):=by
 obtain⟨a,h1,h2,h3,h4⟩:=h.ow i d e;rw[h1]at es;cases es;have hil:i<ρ.length:=(List.getElem?_eq_some_iff.mp e).1;have key:∀(j:Nat) (s:Sl),(ρ.set i (.ow (.lst ds)))[j]?=some s->(j=i/\s=.ow (.lst ds))∨(j≠i/\ρ[j]?=some s):=λj s e=>by
  by_cases hj:i=j
  .subst hj
   rw[List.getElem?_set_self hil]at e;cases e;exact .inl ⟨rfl,rfl⟩
  .rw[List.getElem?_set_ne hj]at e
   exact .inr ⟨λz=>hj z.symm,e⟩
 refine⟨⟨λb o eb=>?_,h.g.z,λb o eb=>?_,h.g.nw⟩,λj d' e'=>?_,λj d' e'=>?_,λj k d1 d2 hn e1 e2=>?_,by simp[h.ln],h.ex.upd (λj s e'=>?_) (aE.refl _) (λb us _ eb=>?_) λq us _ q0 hq hd=>?_⟩
 rotate_left 5
 .rcases key j _ e' with⟨rfl,e''⟩|⟨hj,e''⟩
  .exact .inr (.inr (.inr ⟨.lst ds,p,e'',h1,λi' j' ds' a' P' x1 x2 x3 l ol=>by
    obtain⟨a2,P2,y1,y2,y3,_⟩:=h.ex.1 i' j' ds' x1;rw[x2]at y1;cases y1;have:P2 l=P' l:=by
     obtain⟨vs1,_,z1,_,y5,_⟩:=x3;obtain⟨vs2,_,z3,_,y4,_⟩:=y2;rw[z1]at z3;cases z3;obtain⟨_,_,_,_,_,z2,_⟩:=y5 l ol;obtain⟨_,_,_,_,_,z4,_⟩:=y4 l ol;rw[z2]at z4;injection z4 with z4;injection z4 with z4;exact z4.symm
    rw[←this];intro zz;rw[zz]at h1;exact y3 j d l ol e h1⟩))
  .exact .inl ⟨e'',rfl⟩
 .rw[aD (by
   intro z;subst z;cases d with
   |lst ds'|dic ks ds'=>obtain⟨vs',h5,_⟩:=h4;rw[h5]at eb;cases eb
   |ob kk ds'=>
    cases kk with|dint ks=>obtain⟨vs',h5,_⟩:=h4;rw[h5]at eb;cases eb| _=>exact h4.elim
   |_=>exact h4)];exact eb
 .have hq':q≠p:=by
   intro z;subst z;exact hd i d e h1
  exact⟨by rw[aD hq'];exact hq,q0⟩
 .rw[aD (by intro z;subst z;rw[h2]at eb;cases eb)];exact h.g.s _ _ eb
 .rw[aD (by intro z;subst z;rw[h3]at eb;cases eb)];exact h.g.sub _ _ eb
 .rcases key j _ e' with⟨rfl,e''⟩|⟨hj,e''⟩
  .cases e''
  .exact h.rd j d' e''
 .rcases key j _ e' with⟨rfl,e''⟩|⟨hj,e''⟩
  .cases e''
   exact⟨p,h1,h2,h3,vs,aF,r⟩
  .obtain⟨b,k1,k2,k3,k4⟩:=h.ow j d' e''
   refine⟨b,k1,k2,k3,?_⟩;have hb:b≠p:=by
    intro z;subst z;exact h.ap j i d' d hj e'' e (by rw[k1,h1])
   cases d' with
   |lst ds'=>
    obtain⟨vs',h5,h6⟩:=k4;exact⟨vs',by rw[aD hb];exact h5,h6⟩
   |dic ks ds'=>
    obtain⟨vs',h5,hl,h6⟩:=k4;exact⟨vs',by rw[aD hb];exact h5,hl,h6⟩
   |ob kk ds'=>
    cases kk with
    |dint ks=>
     obtain⟨vs',h5,hl,h6⟩:=k4;exact⟨vs',by rw[aD hb];exact h5,hl,h6⟩
    |_=>exact k4.elim
   |_=>exact k4.elim
 .rcases key j _ e1 with⟨rfl,e1'⟩|⟨hj,e1'⟩
  .rcases key k _ e2 with⟨rfl,_⟩|⟨hk,e2'⟩
   .exact absurd rfl hn
   .exact h.ap j k d d2 hn e e2'
  .rcases key k _ e2 with⟨rfl,_⟩|⟨hk,e2'⟩
   .exact h.ap j k d1 d hn e1' e
   .exact h.ap j k d1 d2 hn e1' e2'
end
mutual
def eW:D->Bool
 |.lst _=>false
 |.dic _ _=>false
 |.exc _=>false
 |.ob _ _=>false
 |.tup ds=>flats ds
 |_=>true
def flats:ac->Bool
 |[]=>true
 |d::ds=>eW d&&flats ds
end
mutual
theorem Rep.flat_to{K:W.Frag}{H H':Hp}(e:∀a vs,Rd H a (.tup vs)->Rd H' a (.tup vs)):∀{d:D}{v:V},eW d=true->Rep K H d v->Rep K H' d v
 |.non,_,_,h=>by unfold Rep at h ⊢;exact h
 |.bl _,_,_,h=>by unfold Rep at h ⊢;exact h
 |.int _,_,_,h=>by unfold Rep at h ⊢;exact h
 |.str _,_,_,h=>by unfold Rep at h ⊢;exact h
 |.tup ds,_,f,h=>by
  unfold eW at f;obtain⟨a,vs,e1,e2,e3⟩:=aB.mp h;refine aB.mpr ⟨a,vs,e1,?_,Reps.flat_to e f e3⟩;rcases e2 with e2|e2
  .exact .inl (e _ _ e2)
  .exact .inr e2
 |.lst ds,_,f,h=>by unfold eW at f;cases f
 |.dic ks ds,_,f,h=>by unfold eW at f;cases f
 |.exc x,_,f,h=>by unfold eW at f;cases f
 |.ob k ds,_,f,h=>by unfold eW at f;cases f
theorem Reps.flat_to{K:W.Frag}{H H':Hp}(e:∀a vs,Rd H a (.tup vs)->Rd H' a (.tup vs)):∀{ds:ac}{vs:al},flats ds=true->Reps K H ds vs->Reps K H' ds vs
 |[],_,_,h=>by unfold Reps at h ⊢;exact h
 |d::ds,_,f,h=>by
  unfold flats at f;rw[Bool.and_eq_true]at f;obtain⟨v,r,e1,e2,e3⟩:=az.mp h;exact az.mpr ⟨v,r,e1,Rep.flat_to e f.1 e2,Reps.flat_to e f.2 e3⟩
end
def kI(Ha J:Hp):Hp:=λa=>match Ha a with
 |some o=>some o
 |none=>match J a with
  |some (.tup vs)=>some (.tup vs)
  |some (.frz o (.tup vs))=>some (.frz o (.tup vs))
  |_=>none
section
variable {K:W.Frag}{E:XK}{He H0e Ha H H1 J:Hp}{σ:L2.St}{ρ:Ev}
def Fx(h:aE Ha J):∀a o,kI Ha J a=some o->J a=some o:=λa o e=>by
 unfold kI at e;cases q:Ha a with
 |some u=>rw[q]at e;cases e;exact h _ _ q
 |none=>
  rw[q]at e;cases q2:J a with
  |none=>rw[q2]at e;cases e
  |some u=>
   rw[q2]at e;cases u with
   |tup vs=>cases e;rfl
   |frz o u'=>
    cases u' with|tup vs=>cases e;rfl| _=>cases e
   |_=>cases e
def Fw(h:aE Ha J)(a:Addr)(vs:al)(e:Rd J a (.tup vs)):Rd (kI Ha J) a (.tup vs):=by
 rcases e with e|⟨o,e⟩
 .refine .inl ?_
  unfold kI;cases q:Ha a with|some u=>have:=h _ _ q;rw[e]at this;cases this;rfl|none=>rw[e]
 .refine .inr ⟨o,?_⟩
  unfold kI;cases q:Ha a with|some u=>have:=h _ _ q;rw[e]at this;cases this;rfl|none=>rw[e]
def eG.behind(h:eG K He H0e Ha σ H ρ)(g:bH H (frz He Ha H) H1 J):eG K He H0e (kI Ha J) σ H1 ρ:=by
 have hJ:aE Ha J:=h.frz_sub.trans g.z;have le:=Fx (Ha:=Ha) (J:=J) hJ;have z:aE Ha (kI Ha J):=λb o e=>by unfold kI;rw[e]
 refine⟨⟨h.g.s.trans g.s,h.g.z.trans z,λb o e=>g.sub _ _ (le b o e),λa h1 h2=>?_⟩,h.rd.mono z,λi d e=>?_,h.ap,h.ln,h.ex.upd (λj s e=>.inl ⟨e,rfl⟩) z (λa vs _ e=>g.s _ _ e) λp us hp h0 hl _=>⟨g.s _ _ hl,by
  have:frz He Ha H p=some (.lst us):=by unfold frz;rw[hp];exact hl
  have:=g.z _ _ this;unfold kI;rw[h0,this]⟩⟩
 .cases q:kI Ha J a with
  |none=>exact absurd q h1
  |some o=>
   have hj:=le a o q;exact(h.frz_grow.trans g).nw a (by rw[hj];simp) h2
 .obtain⟨a,k1,k2,k3,k4⟩:=h.ow i d e
  refine⟨a,k1,k2,?_,?_⟩
  .cases d with
   |lst ds=>
    obtain⟨vs,h5,_⟩:=k4;have:frz He Ha H a=some (.lst vs):=by unfold frz;rw[k2];exact h5
    have:=g.z _ _ this;unfold kI;rw[k3,this]
   |dic ks ds=>
    obtain⟨vs,h5,_⟩:=k4;have:frz He Ha H a=some (.dK ((ks.map Sum.inr).zip vs)):=by unfold frz;rw[k2];exact h5
    have:=g.z _ _ this;unfold kI;rw[k3,this]
   |ob kk ds=>
    cases kk with
    |dint ks=>
     obtain⟨vs,h5,_⟩:=k4;have:frz He Ha H a=some (.dK ((ks.map Sum.inl).zip vs)):=by unfold frz;rw[k2];exact h5
     have:=g.z _ _ this;unfold kI;rw[k3,this]
    |_=>exact k4.elim
   |_=>exact k4.elim
  .cases d with
   |lst ds=>obtain⟨vs,h5,h6⟩:=k4;exact⟨vs,g.s _ _ h5,h6.mono z⟩
   |dic ks ds=>obtain⟨vs,h5,hl,h6⟩:=k4;exact⟨vs,g.s _ _ h5,hl,h6.mono z⟩
   |ob kk ds=>
    cases kk with|dint ks=>obtain⟨vs,h5,hl,h6⟩:=k4;exact⟨vs,g.s _ _ h5,hl,h6.mono z⟩| _=>exact k4.elim
   |_=>exact k4.elim
end
section
variable {X:Cx}{E:XK}{He H0e:Hp}{st:Stmt}{rest:List Stmt}{e a b:Expr}{es:List Expr}{f g:am}{fa:Ev->au (ac)}{s t:bv}{pos:Pos}
def dA{t t':TS}(h:PS X st t)(w:∀D σ H,t' D σ H->t D σ H):PS X st t':=λpins s σ H D I q=>h pins s σ H D I (w D σ H q)
def dE{t t':TS}(h:nI X rest t)(w:∀D σ H,t' D σ H->t D σ H):nI X rest t':=λpins s σ H D I q=>h pins s σ H D I (w D σ H q)
def av:bv:=λρ=>.ok (.nx ρ)
def aw(s t:bv):bv:=λρ=>(s ρ).bind λr=>match r with
 |.nx ρ'=>t ρ'
 |r=>.ok r
def aj:tq X E He H0e [] av:=⟨dE nt λD σ H ⟨Ha,ρ,h,q⟩=>q σ H Ha (aE.refl _) h⟩
def af(h1:DS X E He H0e st s)(h2:tq X E He H0e rest t):tq X E He H0e (st::rest) (aw s t):=by
 refine⟨?_⟩;refine dE (c8 h1.o h2.o) λD σ H z9=>?_;obtain⟨Ha,ρ,h,q⟩:=z9;refine⟨Ha,ρ,h,?_⟩
 unfold aw at q;cases e1:s ρ with
 |stuck|exn x=>rw[e1]at q;exact q
 |ok r=>
  rw[e1]at q;cases r with|nx ρ'=>exact λσ' H' Ha' s' h'=>⟨Ha',ρ',h',bZ.grow (r:=t ρ') q s'⟩|rt d|bk ρ'|ct ρ'=>exact q
def iy:bv:=λ_=>.stuck
def plain{K:W.Frag}{Ha H:Hp}{σ:L2.St}{ρ:Ev}{k:D->au Fl}{D':gW}(h:eG K He H0e Ha σ H ρ){r:au D}{Q:VK}
  (q:bZ K E He H0e Ha (r.bind k) D')(hk:∀d v H' Ha',r=.ok d->bH H Ha H' Ha'->Rep K Ha' d v->bZ K E He H0e Ha' (k d) D'->Q v H'):post K E H Ha r Q:=by
 cases r with|stuck=>exact q|exn x=>exact λC ox H' Ha' g ex=>q C ox H' Ha' (h.g.trans g) ex|ok d=>exact λv H' Ha' g rp=>hk d v H' Ha' rfl g rp (bZ.grow (r:=k d) q g.z)
def look{K:W.Frag}{Ha H:Hp}{σ:L2.St}{ρ:Ev}{k:D->au Fl}{D':gW}(h:eG K He H0e Ha σ H ρ){r:au D}{Q:VK}
  (q:bZ K E He H0e Ha (r.bind k) D')(hk:∀d v H' J,r=.ok d->bH H (frz He Ha H) H' J->Rep K J d v->bZ K E He H0e Ha (k d) D'->Q v H'):post K E H (frz He Ha H) r Q:=by
 cases r with|stuck=>exact q|exn x=>exact λC ox H' Ha' g ex=>q C ox H' Ha' (h.frz_grow.trans g) ex|ok d=>exact λv H' J g rp=>hk d v H' J rfl g rp q
def FV{K:W.Frag}{Ha H:Hp}{σ:L2.St}{ρ:Ev}{k:Bool->au Fl}{D':gW}(h:eG K He H0e Ha σ H ρ){r:au D}{Q:Bool->Hp->Prop}
  (q:bZ K E He H0e Ha (r.bind λx=>match x with|.bl b=>k b|_=>.stuck) D')(hk:∀b H',aE H H'->bZ K E He H0e Ha (k b) D'->Q b H'):oh K E H (frz He Ha H) r Q:=by
 cases r with
 |stuck=>exact q|exn x=>exact λC ox H' Ha' g ex=>q C ox H' Ha' (h.frz_grow.trans g) ex
 |ok d=>
  cases d with|bl b=>exact λH' J g=>hk b H' g.s q| _=>exact q.elim
def bb(i:Nat)(f:am):bv:=λρ=>(f ρ).bind λd=>.ok (.nx (ρ.set i (.sh d)))
def bG(f:am):bv:=λρ=>(f (gz ρ)).bind λd=>.ok (.rt d)
def ll(f:am):bv:=λρ=>(f (gz ρ)).bind λ_=>.ok (.nx ρ)
def dJ(c:am)(s t:bv):bv:=λρ=>(c (gz ρ)).bind λx=>match x with
 |.bl b=>if b=true then s ρ else t ρ
 |_=>.stuck
def aM{i:Nat}{x:Str}{pos':Pos}(hN:X.N.Nodup)(hi:X.N[i]?=some x)(hx:zQ X.env.scope x)(he:DE X E e f)(hs:swapsWith e (some (.Name x pos')) pos.line X.env=pure false:=by rfl)
  (hf:X.fn x=true∨X.env.scope.names.lookup x=some .local := by first|exact .inl rfl|exact .inr rfl|assumption):DS X E He H0e (.Assign [.Name x pos'] e pos) (bb i f):=by
 refine⟨?_⟩;refine dA (rN hN hi hx he.o hs hf) λD σ H z9=>?_;obtain⟨Ha,ρ,h,q⟩:=z9;refine⟨Ha,ρ,h.g.sub,h.rd,?_⟩
 refine plain h q λd v H' Ha' _ g rp q'=>?_;exact q' _ H' Ha' (aE.refl _) ((h.grow g).put rp)
def aK(he:DE X E e f):DS X E He H0e (.Return (some e) pos) (bG f):=by
 refine⟨?_⟩;refine dA (vF he.o) λD σ H z9=>?_;obtain⟨Ha,ρ,h,q⟩:=z9;refine⟨frz He Ha H,gz ρ,h.frz_le,h.looks,?_⟩
 exact look h q λd v H' J _ g rp q'=>q' v H' J (h.frz_grow.trans g) rp
def sT(he:DE X E e f)(hs:swapsWith e none pos.line X.env=pure false:=by rfl):DS X E He H0e (.Expr e pos) (ll f):=by
 refine⟨?_⟩;refine dA (gY he.o hs) λD σ H z9=>?_;obtain⟨Ha,ρ,h,q⟩:=z9;refine⟨frz He Ha H,gz ρ,h.frz_le,h.looks,?_⟩
 exact look h q λd v H' J _ g rp q'=>q' σ H' Ha (aE.refl _) (h.same g.s)
def bo{c:Expr}{fc:am}{sa sb:List Stmt}(hc:DT X E c fc)(ha:tq X E He H0e sa s)(hb:tq X E He H0e sb t):DS X E He H0e (.If c sa sb pos) (dJ fc s t):=by
 refine⟨?_⟩;refine dA (FP hc.o ha.o hb.o) λD σ H z9=>?_;obtain⟨Ha,ρ,h,q⟩:=z9;refine⟨frz He Ha H,gz ρ,h.frz_le,h.looks,?_⟩
 refine FV (k:=λb=>if b=true then s ρ else t ρ) h q λb H' hs q'=>?_;cases b with|true=>rw[if_pos rfl]at q' ⊢;exact⟨Ha,ρ,h.same hs,q'⟩|false=>rw[if_neg Bool.false_ne_true]at q' ⊢;exact⟨Ha,ρ,h.same hs,q'⟩
noncomputable def tF(K:W.Frag) (E:XK) (f:am):TE:=λσ H Q=>∃Ha ρ,aE Ha H/\eu K Ha σ ρ/\match f ρ with
 |.ok (.lst ds)=>∀p vs H' Ha',bH H Ha H' Ha'->H p=none->Ha' p=none->H' p=some (.lst vs)->Reps K Ha' ds vs->Q (.ref p) H'
 |.ok _=>False
 |.exn x=>∀C ox H' Ha',bH H Ha H' Ha'->vm K Ha' x C ox->E C ox H'
 |.stuck=>False
structure DF (X:Cx) (E:XK) (e:Expr) (f:am):Prop where
 o:PE X e (tF X.K E f)
def rG(i:Nat)(f:am):bv:=λρ=>(f ρ).bind λd=>match d with
 |.lst ds=>.ok (.nx (ρ.set i (.ow (.lst ds))))
 |_=>.stuck
def mj{i:Nat}{x:Str}{pos':Pos}(hN:X.N.Nodup)(hi:X.N[i]?=some x)(hx:zQ X.env.scope x)(he:DF X E e f)(hs:swapsWith e (some (.Name x pos')) pos.line X.env=pure false:=by rfl)
  (hf:X.fn x=true∨X.env.scope.names.lookup x=some .local := by first|exact .inl rfl|exact .inr rfl|assumption):DS X E He H0e (.Assign [.Name x pos'] e pos) (rG i f):=by
 refine⟨?_⟩;refine dA (rN hN hi hx he.o hs hf) λD σ H z9=>?_;obtain⟨Ha,ρ,h,q⟩:=z9;refine⟨Ha,ρ,h.g.sub,h.rd,?_⟩
 unfold rG at q;cases e1:f ρ with
 |stuck=>rw[e1]at q;exact q|exn x=>rw[e1]at q;exact λC ox H' Ha' g ex=>q C ox H' Ha' (h.g.trans g) ex
 |ok d=>
  rw[e1]at q;cases d with
  |lst ds=>
   intro p vs H' Ha' g hp h0 hv rp;refine q _ H' Ha' g.z ((h.grow g).putOwn (λj a ej ea d ed=>?_) (h.g.s.free hp) h0 hv rp (h.fresh_x g.s hp));subst ea;obtain⟨a',k1,_,_,k4⟩:=h.ow j d ed;rw[ej]at k1;cases k1;cases d with
   |lst ds'|dic ks ds'=>obtain⟨vs',h5,_⟩:=k4;rw[hp]at h5;cases h5
   |ob kk ds'=>
    cases kk with|dint ks=>obtain⟨vs',h5,_⟩:=k4;rw[hp]at h5;cases h5| _=>exact k4.elim
   |_=>exact k4.elim
  |_=>exact q.elim
def pb(h:DA X E es fa):DF X E (.List es pos) (ar fa cY):=by
 refine⟨?_⟩;refine bp (AU h.o) λσ H Q h=>?_;obtain⟨Ha,ρ,hs,hr,q⟩:=h;refine⟨Ha,ρ,hs,hr,?_⟩;unfold ar at q;cases e1:fa ρ with
 |stuck|exn x=>rw[e1]at q;exact q
 |ok ds=>
  rw[e1]at q;intro vs H1 H01 g1 r1;replace q:match cY ds with
   |.ok (.lst ds)=>∀p vs H' Ha',bH H Ha H' Ha'->H p=none->Ha' p=none->H' p=some (.lst vs)->Reps X.K Ha' ds vs->Q (.ref p) H'
   |.ok _=>False
   |.exn x=>∀C ox H' Ha',bH H Ha H' Ha'->vm X.K Ha' x C ox->E C ox H'
   |.stuck=>False:=q
  unfold cY at q
  by_cases hl:ds.length<=line
  .rw[if_pos hl]at q
   refine⟨by rw[←r1.length];exact dS hl,λp hp=>?_⟩;have h0:H01 p=none:=g1.sub.free hp;refine q p vs _ H01 (g1.trans ⟨λb o q=>by rw[aD (aY q hp)];exact q,aE.refl _,λb o q=>?_,λa h1 h2=>absurd h2 h1⟩) (g1.s.free hp) h0 aF r1;rw[aD (by intro z;subst z;rw[h0]at q;cases q)];exact g1.sub _ _ q
  .rw[if_neg hl]at q;exact q.elim
def ou(ρ:Ev)(i:Nat)(k:ac->au Fl):au Fl:=match ρ[i]? with
 |some (.ow (.lst ds))=>k ds
 |_=>.stuck
def er(i:Nat)(f:am):bv:=λρ=>ou ρ i λds=>(f ρ).bind λd=>if ds.length<line then .ok (.nx (ρ.set i (.ow (.lst (ds++[d]))))) else .stuck
def lz{K:W.Frag}{Ha H:Hp}{σ:L2.St}{ρ:Ev}{i:Nat}{k:ac->au Fl}{D':gW}(h:eG K He H0e Ha σ H ρ)(q:bZ K E He H0e Ha (ou ρ i k) D') :
  ∃ds p vs,ρ[i]?=some (.ow (.lst ds))/\σ[i]?=some (some (.ref p))/\He p=none/\Ha p=none/\H p=some (.lst vs)/\Reps K Ha ds vs/\bZ K E He H0e Ha (k ds) D':=by
 unfold ou at q;cases e:ρ[i]? with
 |none=>rw[e]at q;exact q.elim
 |some s=>
  rw[e]at q;cases s with
  |no|sh d|ox j ds|pt a=>exact q.elim
  |ow d=>
   cases d with
   |lst ds=>
    obtain⟨p,h1,h2,h3,vs,h4,h5⟩:=h.ow i _ e;exact⟨ds,p,vs,rfl,h1,h2,h3,h4,h5,q⟩
   |_=>exact q.elim
def gJ{i:Nat}{x:Str}{p1 p2 p3:Pos}(hN:X.N[i]?=some x)(hv:vd X.env.scope x)(he:DE X E e f)
  (hd:(x==("__debug__":Str))=false:=by decide)(hcd:(x==("__classdict__":Str))=false:=by decide)
  (hbase:attributeBase (.Name x p1) "append" X.env (eval (.Name x p1) X.env)=eval (.Name x p1) X.env:=by rfl)
  (hfew:((backTo p3 (starEach [e] X.env)).all (λx=>!x.1)&&(backToKw p3 (keywordEach [] X.env)).all (λx=>x.1.isSome)
  &&decide ([e].length+([]:List Keyword).length+(if([]:List Keyword).isEmpty then 0 else 1)<30))=true:=by exact j9 rfl)
  (hline:(p2.endLine==p3.line)=true:=by rfl) (hs:starEach [e] X.env=(false,eval e X.env)::starEach [] X.env:=by exact aN rfl) (hplain:(backTo p3 (starEach [] X.env)).any (·.1)=false:=by exact bD rfl)
  (hw:swapsWith (.Call (.Attribute (.Name x p1) "append" p2) [e] [] p3) none pos.line X.env=pure false:=by rfl) :
  DS X E He H0e (.Expr (.Call (.Attribute (.Name x p1) "append" p2) [e] [] p3) pos) (er i f):=by
 refine⟨?_⟩;refine dA (gY (ud PySem.F.plainAttrs_list PySem.F.slot_list_append PySem.F.type_list_append kq (eR hN hv hd hcd) (dP he.o gi hs) hbase hfew hline hs hplain) hw) λD σ H ⟨Ha,ρ,h,q⟩=>?_;obtain⟨ds,p,vs,e1,e2,e3,e4,e5,e6,q⟩:=lz h q;refine⟨.ref p,e2,.inl ⟨rfl,vs,fL.of e5⟩,?_⟩;refine⟨Ha,ρ,h.g.sub,h.rd,plain h q λd v H' Ha' _ g rp q'=>?_⟩
 by_cases hl:ds.length<line
 .rw[if_pos hl]at q'
  have e5':H' p=some (.lst vs):=g.s _ _ e5;refine⟨p,vs,v,rfl,rfl,e5',by rw[←e6.length];exact Nat.lt_of_lt_of_le hl (by decide),?_⟩;exact q' σ _ Ha' (aE.refl _) ((h.grow g).write e1 e2 ((e6.mono g.z).app (Reps.cons rp Reps.nil)))
 .rw[if_neg hl]at q';exact q'.elim
def putAt(ρ:Ev)(i:Nat)(ds:ac)(d:D)(j:D):au Fl:=match j with
 |.int j=>match uA ds.length j with
  |some n=>.ok (.nx (ρ.set i (.ow (.lst (ds.set n d)))))
  |none=>.stuck
 |_=>.stuck
def GI(i:Nat)(f k:am):bv:=λρ=>ou ρ i λds=>(f ρ).bind λd=>(k ρ).bind λj=>putAt ρ i ds d j
def xw(i:Nat)(f k:am):bv:=λρ=>ou ρ i λds=>(f (gz ρ)).bind λd=>(k (gz ρ)).bind λj=>if eW d=true then putAt ρ i ds d j else .stuck
def t8{K:W.Frag}{Ha H:Hp}{σ:L2.St}{ρ:Ev}{i:Nat}{D':gW}{ds:ac}{d j:D}{p:Addr}{vs:al}{v u:V}(h:eG K He H0e Ha σ H ρ)(e1:ρ[i]?=some (.ow (.lst ds)))(e2:σ[i]?=some (some (.ref p)))(e5:H p=some (.lst vs))(e6:Reps K Ha ds vs)
  (rp:Rep K Ha d v)(rj:Rep K Ha j u)(q:bZ K E He H0e Ha (putAt ρ i ds d j) D'):FL (.ref p) u v H λH'=>D'.nx σ H':=by
 unfold putAt at q;cases j with
 |int n=>
  cases en:uA ds.length n with
  |none=>simp only[en]at q;exact q.elim
  |some m=>
   simp only[en]at q;refine⟨p,vs,n,m,rfl,aA.mp rj,e5,by rw[←e6.length];exact en,?_⟩;exact q σ _ Ha (aE.refl _) (h.write e1 e2 (e6.set rp m))
 |_=>exact q.elim
section
variable {i:Nat}{x:Str}{p1 p2:Pos}{k:am}
def IF(hN:X.N[i]?=some x)(hv:vd X.env.scope x)(he:DE X E e f)(hk:DE X E b k)
  (hd:(x==("__debug__":Str))=false:=by decide)(hcd:(x==("__classdict__":Str))=false:=by decide)
  (ha:∀v,assign (.Subscript (.Name x p1) b p2) X.env v=(do
   let ov ←holding [v] (eval (.Name x p1) X.env)
   let iv ←holding [v,ov] (eval b X.env)
   standAt p2
   holding [v,ov,iv] (setItem ov iv v)
   release [v,ov,iv] []):=by intro _;rfl)
  (hs:swapsWithSole [.Subscript (.Name x p1) b p2] e pos.line X.env=pure false:=by rfl) (hw:swappedStores [.Subscript (.Name x p1) b p2] e X.env=pure none:=by rfl)
  (h1:(assignEach [.Subscript (.Name x p1) b p2] X.env).map (·.2)=[assign (.Subscript (.Name x p1) b p2) X.env]:=by rfl) :
  DS X E He H0e (.Assign [.Subscript (.Name x p1) b p2] e pos) (GI i f k):=by
 refine⟨?_⟩;refine dA (rO he.o (AQ (eR hN hv hd hcd) hk.o tR ha) hs hw h1) λD σ H z9=>?_;obtain⟨Ha,ρ,h,q⟩:=z9;refine⟨Ha,ρ,h.g.sub,h.rd,?_⟩
 obtain⟨ds,p,vs,e1,e2,e3,e4,e5,e6,q⟩:=lz h q;refine plain (k:=λd=>(k ρ).bind λj=>putAt ρ i ds d j) h q λd v H1 H01 _ g1 r1 q1=>⟨.ref p,e2,?_⟩
 have h1':=h.grow g1;refine⟨H01,ρ,h1'.g.sub,h1'.rd,plain (k:=λj=>putAt ρ i ds d j) h1' q1 λj u H2 H02 _ g2 r2 q2=>?_⟩;exact t8 (h1'.grow g2) e1 e2 (g2.s _ _ (g1.s _ _ e5)) ((e6.mono g1.z).mono g2.z) (r1.mono g2.z) r2 q2
def yt(hN:X.N[i]?=some x)(hv:vd X.env.scope x)(he:DE X E e f)(hk:DE X E b k)
  (hd:(x==("__debug__":Str))=false:=by decide)(hcd:(x==("__classdict__":Str))=false:=by decide)
  (ha:∀v,assign (.Subscript (.Name x p1) b p2) X.env v=(do
   let ov ←holding [v] (eval (.Name x p1) X.env)
   let iv ←holding [v,ov] (eval b X.env)
   standAt p2
   holding [v,ov,iv] (setItem ov iv v)
   release [v,ov,iv] []):=by intro _;rfl)
  (hs:swapsWithSole [.Subscript (.Name x p1) b p2] e pos.line X.env=pure false:=by rfl) (hw:swappedStores [.Subscript (.Name x p1) b p2] e X.env=pure none:=by rfl)
  (h1:(assignEach [.Subscript (.Name x p1) b p2] X.env).map (·.2)=[assign (.Subscript (.Name x p1) b p2) X.env]:=by rfl) :
  DS X E He H0e (.Assign [.Subscript (.Name x p1) b p2] e pos) (xw i f k):=by
 refine⟨?_⟩;refine dA (rO he.o (AQ (eR hN hv hd hcd) hk.o tR ha) hs hw h1) λD σ H z9=>?_;obtain⟨Ha,ρ,h,q⟩:=z9;refine⟨frz He Ha H,gz ρ,h.frz_le,h.looks,?_⟩
 obtain⟨ds,p,vs,e1,e2,e3,e4,e5,e6,q⟩:=lz h q;refine look (k:=λd=>(k (gz ρ)).bind λj=>if eW d=true then putAt ρ i ds d j else .stuck) h q λd v H1 J1 _ g1 r1 q1=>⟨.ref p,e2,?_⟩
 have hJ1:aE Ha J1:=h.frz_sub.trans g1.z;refine⟨J1,gz ρ,g1.sub,h.looks.mono g1.z,?_⟩;cases ek:k (gz ρ) with
 |stuck=>rw[ek]at q1;exact q1|exn x=>rw[ek]at q1;exact λC ox H' Ha' g ex=>q1 C ox H' Ha' (h.frz_grow.trans (g1.trans g)) ex
 |ok j=>
  rw[ek]at q1;intro u H2 J2 g2 r2;replace q1:bZ X.K E He H0e Ha (if eW d=true then putAt ρ i ds d j else .stuck) D:=q1
  by_cases fl:eW d=true
  .rw[if_pos fl]at q1
   have g:=g1.trans g2;have hJ:aE Ha J2:=h.frz_sub.trans g.z;have z:aE Ha (kI Ha J2):=λb o e=>by unfold kI;rw[e]
   have rd:=(r1.mono g2.z).flat_to (Fw hJ) fl;have rj:Rep X.K (kI Ha J2) j u:=by
    cases j with|int n=>exact aA.mpr (aA.mp r2)| _=>exact q1.elim
   exact t8 (h.behind g) e1 e2 (g.s _ _ e5) (e6.mono z) rd rj (q1.grow z)
  .rw[if_neg fl]at q1;exact q1.elim
end
noncomputable def dw(tg:Ev->D->au Ev) (body:bv):ac->bv
 |[],ρ=>.ok (.nx ρ)
 |d::r,ρ=>(tg ρ d).bind λρ1=>(body ρ1).bind λx=>match x with
  |.nx ρ2=>dw tg body r ρ2
  |.ct ρ2=>dw tg body r ρ2
  |.bk ρ2=>.ok (.nx ρ2)
  |.rt d=>.ok (.rt d)
def tG(K:W.Frag)(He H0e:Hp)(tg:Ev->D->au Ev):TG:=λv σ H Q=>∃Ha ρ d,eG K He H0e Ha σ H ρ/\Rep K Ha d v/\match tg ρ d with
  |.ok ρ'=>∀σ' H' Ha',aE Ha Ha'->eG K He H0e Ha' σ' H' ρ'->Q σ' H'
  |_=>False
structure DG (X:Cx) (E:XK) (He H0e:Hp) (target:Expr) (tg:Ev->D->au Ev):Prop where
 o:PG X target (tG X.K He H0e tg)
def j7(i:Nat):Ev->D->au Ev:=λρ d=>.ok (ρ.set i (.sh d))
def rR{tgt:Expr}{t t':TG}(h:PG X tgt t)(w:∀v σ H Q,t' v σ H Q->t v σ H Q):PG X tgt t':=λpins s σ H v u Q I r q=>h pins s σ H v u Q I r (w v σ H Q q)
def kz{i:Nat}{x:Str}(hN:X.N.Nodup)(hi:X.N[i]?=some x)(hx:zQ X.env.scope x)(hf:X.fn x=true∨X.env.scope.names.lookup x=some .local := by first|exact .inl rfl|exact .inr rfl|assumption):DG X E He H0e (.Name x pos) (j7 i) :=
 ⟨rR (xF hN hi hx hf) λv σ H Q ⟨Ha,ρ,d,h,rp,q⟩=>q _ H Ha (aE.refl _) (h.put rp)⟩
def iY(K:W.Frag)(E:XK)(He H0e Hb:Hp)(tg:Ev->D->au Ev)(s:bv)(ds:ac)(D':gW)(i:Nat)(σ:L2.St)(H:Hp):Prop :=
 ∃Ha ρ,aE Hb Ha/\eG K He H0e Ha σ H ρ/\bZ K E He H0e Ha (dw tg s (ds.drop i) ρ) D'
def iY.step{K:W.Frag}{Hb:Hp}{tg:Ev->D->au Ev}{ds:ac}{D':gW}{i:Nat}{σ:L2.St}{H:Hp}{d:D}{v:V}(h:iY K E He H0e Hb tg s ds D' i σ H)(hd:ds[i]?=some d)(rv:Rep K Hb d v)
  (he:∀ρ,tg ρ d=.stuck∨∃ρ',tg ρ d=.ok ρ') :
  tG K He H0e tg v σ H λσ2 H2=>tS K E He H0e s { D' with nx:=iY K E He H0e Hb tg s ds D' (i+1),ct:=iY K E He H0e Hb tg s ds D' (i+1),bk:=D'.nx } σ2 H2:=by
 obtain⟨Ha,ρ,z,h,q⟩:=h;have hi:i<ds.length:=(List.getElem?_eq_some_iff.mp hd).1;have hdr:ds.drop i=d::ds.drop (i+1):=by
  rw[List.drop_eq_getElem_cons hi];rw[List.getElem?_eq_getElem hi]at hd;cases hd;rfl
 rw[hdr]at q;refine⟨Ha,ρ,d,h,rv.mono z,?_⟩;unfold dw at q;rcases he ρ with e1|⟨ρ1,e1⟩
 .rw[e1]at q;exact q.elim
 .rw[e1]at q ⊢
  intro σ' H' Ha' z' h';refine⟨Ha',ρ1,h',?_⟩;replace q:=bZ.grow (r:=(s ρ1).bind λx=>match x with
   |.nx ρ2=>dw tg s (ds.drop (i+1)) ρ2
   |.ct ρ2=>dw tg s (ds.drop (i+1)) ρ2
   |.bk ρ2=>.ok (.nx ρ2)
   |.rt d=>.ok (.rt d)) q z'
  cases e2:s ρ1 with
  |stuck|exn x=>rw[e2]at q;exact q
  |ok r=>
   rw[e2]at q;cases r with|nx ρ2=>exact λσ3 H3 H03 z3 h3=>⟨H03,ρ2,(z.trans z').trans z3,h3,bZ.grow (r:=dw tg s (ds.drop (i+1)) ρ2) q z3⟩|ct ρ2=>exact λσ3 H3 H03 z3 h3=>⟨H03,ρ2,(z.trans z').trans z3,h3,bZ.grow (r:=dw tg s (ds.drop (i+1)) ρ2) q z3⟩|bk ρ2|rt d=>exact q
def iY.done{K:W.Frag}{Hb:Hp}{tg:Ev->D->au Ev}{ds:ac}{D':gW}{σ:L2.St}{H:Hp}(h:iY K E He H0e Hb tg s ds D' ds.length σ H):D'.nx σ H:=by
 obtain⟨Ha,ρ,z,h,q⟩:=h;rw[List.drop_length]at q;unfold dw at q;exact q σ H Ha (aE.refl _) h
def yG(tg:Ev->D->au Ev):Prop:=∀ρ d,tg ρ d=.stuck∨∃ρ',tg ρ d=.ok ρ'
def km{i:Nat}:yG (j7 i):=λρ d=>.inr ⟨_,rfl⟩
def JI(f:am)(tg:Ev->D->au Ev)(s:bv):bv:=λρ=>(f ρ).bind λd=>match d with
 |.lst ds=>dw tg s ds ρ
 |_=>.stuck
def intsFrom(lo:Int)(n:Nat):ac:=(List.range n).map λ(k:Nat)=>D.int (lo+(k:Int))
def mD(f:am)(tg:Ev->D->au Ev)(s:bv):bv:=λρ=>(f (gz ρ)).bind λd=>match d with
 |.int j=>if -4611686018427387904<=j/\j<4611686018427387904 then dw tg s (intsFrom 0 j.toNat) ρ else .stuck
 |_=>.stuck
def nC{tgt iter:Expr}{p pos2:Pos}{body:List Stmt}{tg:Ev->D->au Ev}(hp:PassesOwn (model X.prog X.w) X.A X.env X.xe)(hc:X.calm=true)(hgl:Gl X "range")(hm:X.mg "range"=none)(hi:DE X E iter f)(hg:DG X E He H0e tgt tg)(ht:yG tg)(hb:tq X E He H0e body s)
  (hst:starEach [iter] X.env=[(false,eval iter X.env)]:=by exact lh rfl)(hs:∀x,foldedSetIterable (.Call (.Name "range" p) [iter] [] pos2) X.env x=pure x:=by intro _;rfl):DS X E He H0e (.For tgt (.Call (.Name "range" p) [iter] [] pos2) body [] pos) (mD f tg s):=by
 refine⟨?_⟩;refine dA (AL hp hc (y8 hgl hm (dP hi.o gi hst) hst) hg.o hb.o hs) λD' σ H ⟨Ha,ρ,h,q⟩=>?_;refine⟨frz He Ha H,gz ρ,h.frz_le,h.looks,look h q λd v H1 J _ g rp q1=>?_⟩;cases d with
 |int j=>
  rw[aA.mp rp];replace q1:bZ X.K E He H0e Ha (if -4611686018427387904<=j/\j<4611686018427387904 then dw tg s (intsFrom 0 j.toNat) ρ else .stuck) D':=q1
  by_cases hj:-4611686018427387904<=j/\j<4611686018427387904
  .rw[if_pos hj]at q1
   refine⟨j,rfl,by omega,by omega,?_⟩;have hlen:(intsFrom 0 j.toNat).length=j.toNat:=by unfold intsFrom;simp
   refine zm (lo:=0) (n:=j.toNat) (g:=tG X.K He H0e tg) (tb:=tS X.K E He H0e s) (D:=D') (iY X.K E He H0e Ha tg s (intsFrom 0 j.toNat) D') ⟨Ha,ρ,aE.refl _,h.same g.s,q1⟩ ?_ ?_
   .intro i σ' H' hlt hI
    refine hI.step (d:=.int (0+i)) ?_ (aA.mpr rfl) λρ=>ht ρ _;unfold intsFrom;simp[hlt]
   .intro σ' H' hI
    exact iY.done (ds:=intsFrom 0 j.toNat) (by rw[hlen];exact hI)
  .rw[if_neg hj]at q1;exact q1.elim
 |_=>exact q1.elim
noncomputable def ft(c:am) (s:bv):Nat->bv
 |0,_=>.stuck
 |n+1,ρ=>(c (gz ρ)).bind λx=>match x with
  |.bl b=>if b=true then(s ρ).bind λx=>match x with
    |.nx ρ2=>ft c s n ρ2
    |.ct ρ2=>ft c s n ρ2
    |.bk ρ2=>.ok (.nx ρ2)
    |.rt d=>.ok (.rt d)
   else .ok (.nx ρ)
  |_=>.stuck
def nV(fuel:Ev->Nat)(c:am)(s:bv):bv:=λρ=>ft c s (fuel ρ) ρ
def uR(fuel:Ev->Nat){c:Expr}{body:List Stmt}{fc:am}(hp:PassesOwn (model X.prog X.w) X.A X.env X.xe)(hc:DT X E c fc)(hb:tq X E He H0e body s):DS X E He H0e (.While c body [] pos) (nV fuel fc s):=by
 refine⟨?_⟩;refine dA (AK hp hc.o hb.o) λD' σ H ⟨Ha,ρ,h,q⟩=>?_;refine⟨λm σ H=>∃Ha ρ,eG X.K He H0e Ha σ H ρ/\bZ X.K E He H0e Ha (ft fc s m ρ) D',⟨fuel ρ,Ha,ρ,h,q⟩,?_⟩;rintro m σ1 H1 ⟨H01,ρ1,h1,q1⟩;cases m with
 |zero=>exact q1.elim
 |succ m=>
  refine⟨frz He H01 H1,gz ρ1,h1.frz_le,h1.looks,?_⟩;unfold ft at q1;refine FV (k:=λb=>if b=true then(s ρ1).bind λx=>match x with
    |.nx ρ2=>ft fc s m ρ2
    |.ct ρ2=>ft fc s m ρ2
    |.bk ρ2=>.ok (.nx ρ2)
    |.rt d=>.ok (.rt d)
   else .ok (.nx ρ1)) h1 q1 λb H2 hs q2=>?_
  cases b with
  |false=>
   rw[if_neg Bool.false_ne_true]at q2 ⊢;exact q2 σ1 H2 H01 (aE.refl _) (h1.same hs)
  |true=>
   rw[if_pos rfl]at q2 ⊢;refine⟨λσ' H'=>∃m',m' < m+1/\∃Ha ρ,eG X.K He H0e Ha σ' H' ρ/\bZ X.K E He H0e Ha (ft fc s m' ρ) D',λσ' H' z=>z,H01,ρ1,h1.same hs,?_⟩;cases e2:s ρ1 with
   |stuck|exn x=>rw[e2]at q2;exact q2
   |ok r=>
    rw[e2]at q2;cases r with|nx ρ2=>exact λσ3 H3 H03 z3 h3=>⟨m,Nat.lt_succ_self _,H03,ρ2,h3,bZ.grow (r:=ft fc s m ρ2) q2 z3⟩|ct ρ2=>exact λσ3 H3 H03 z3 h3=>⟨m,Nat.lt_succ_self _,H03,ρ2,h3,bZ.grow (r:=ft fc s m ρ2) q2 z3⟩|bk ρ2|rt d=>exact q2
end
def cM(n:Nat)(s:bv)(ds:ac):au D:=(s (ds.map Sl.sh++List.replicate (n-ds.length) .no)).bind λr=>match r with
 |.nx _=>.ok .non
 |.rt d=>.ok d
 |_=>.stuck
def jL{K:W.Frag}{Ha:Hp}{N:List Str}{ds:ac}{vs:al}(h:Reps K Ha ds vs):eu K Ha (start N vs) (ds.map Sl.sh++List.replicate (N.length-ds.length) .no):=by
 intro i d e;have hl:=h.length
 by_cases hi:i<ds.length
 .rw[List.getElem?_append_left (by simpa using hi),List.getElem?_map]at e
  cases q:ds[i]? with
  |none=>rw[q]at e;cases e
  |some d'=>
   rw[q]at e;cases e;obtain⟨v,h1,h2⟩:=h.get q;refine⟨v,?_,h2⟩;unfold L2.start;rw[List.getElem?_append_left (by simp;omega),List.getElem?_map,h1];rfl
 .rw[List.getElem?_append_right (by simpa using hi),List.getElem?_replicate]at e
  split at e<;>cases e
def l5{ds:ac}{n:Nat}(i j:Nat)(es:ac):(ds.map Sl.sh++List.replicate n Sl.no)[i]?≠some (.ox j es):=λe=>by
 have:=List.mem_of_getElem? e;rw[List.mem_append]at this;rcases this with h|h
 .obtain⟨_,_,h⟩:=List.mem_map.mp h;cases h
 .have:=List.eq_of_mem_replicate h;cases this
def kN{ds:ac}{n:Nat}{σ:L2.St}(i:Nat)(a:Addr)(e:(ds.map Sl.sh++List.replicate n Sl.no)[i]?=some (.pt a)):σ[i]?=some (some (.ref a)):=by
 have:=List.mem_of_getElem? e;rw[List.mem_append]at this;rcases this with h|h
 .obtain⟨_,_,h⟩:=List.mem_map.mp h;cases h
 .have:=List.eq_of_mem_replicate h;cases this
def zo{P:Program}{w:World}{K:W.Frag}{mg:Str->Option Value}{base:Heap}{x qual:Str}{st:Stmt}{f:Addr}{fd:FuncData}{N ps:List Str}{k:Nat}{s:bv}(F:zR K x qual st f fd)(S:fX N ps (defScope st))
  (hbody:∀(cdv:Value) (A:Around) (outer:List PySem.Env) (s0:Shared) (H Ha:Hp) (E:XK),dI k (A.deeper (envOfC qual (defScope st) s0.heap.objs.size f cdv)) ->
   tq (cL CX0 P w K mg base N qual (defScope st) f cdv A outer s0 H E).nox E H Ha (defBody st) s):FnOk P w K mg base CX0 (k+1) f fd ps (spD K ps.length (cM N.length s)):=by
 have hpl:ps.length<=N.length:=by have:=congrArg List.length S.pre;rw[List.length_take]at this;omega
 refine F.ok S (λvs H Q E h=>h.1) λcdv A outer s0 H vs Q E hr h=>?_;obtain⟨hn,Ha,ds,hs,hv,q⟩:=h;refine⟨_,(hbody cdv A outer s0 H Ha E hr).o,Ha,ds.map Sl.sh++List.replicate (N.length-ds.length) .no,?_,?_⟩
 .refine⟨bH.refl hs,jL hv,λi d e=>?_,λi j d d' hij e=>?_,?_,OX.none l5 kN⟩
  .by_cases hi:i<ds.length
   .rw[List.getElem?_append_left (by simpa using hi),List.getElem?_map]at e
    cases q:ds[i]? with|none|some d'=>rw[q]at e;cases e
   .rw[List.getElem?_append_right (by simpa using hi),List.getElem?_replicate]at e
    split at e<;>cases e
  .by_cases hi:i<ds.length
   .rw[List.getElem?_append_left (by simpa using hi),List.getElem?_map]at e
    cases q:ds[i]? with|none|some d'=>rw[q]at e;cases e
   .rw[List.getElem?_append_right (by simpa using hi),List.getElem?_replicate]at e
    split at e<;>cases e
  .unfold L2.start
   have:=hv.length;simp only[List.length_append,List.length_map,List.length_replicate];omega
 .unfold cM at q
  cases e1:s (ds.map Sl.sh++List.replicate (N.length-ds.length) .no) with
  |stuck|exn x=>rw[e1]at q;exact q
  |ok r=>
   rw[e1]at q;cases r with|nx ρ'=>exact λσ' H' Ha' _ h'=>q .non H' Ha' h'.g (aS.mpr rfl)|rt d=>exact λv H' Ha' g rp=>q v H' Ha' g rp|bk ρ'|ct ρ'=>exact q.elim
mutual
def dB:D->D->Bool
 |.non,.non=>true
 |.bl a,.bl b=>a==b
 |.bl a,.int b=>(if a then 1 else 0)==b
 |.int a,.bl b=>a==(if b then 1 else 0)
 |.int a,.int b=>a==b
 |.str a,.str b=>a==b
 |.tup xs,.tup ys=>eqDs xs ys
 |.lst xs,.lst ys=>eqDs xs ys
 |_,_=>false
def eqDs:ac->ac->Bool
 |[],[]=>true
 |x::xs,y::ys=>dB x y&&eqDs xs ys
 |_,_=>false
end
def bg:Nat->D->Bool
 |_,.non=>true
 |_,.bl _=>true
 |_,.int _=>true
 |_,.str _=>true
 |n+1,.tup ds=>ds.all (bg n)
 |n+1,.lst ds=>ds.all (bg n)
 |_,_=>false
def qH{ds:ac}(h:∀d∈ds,dB d d=true):eqDs ds ds=true:=by
 induction ds with
 |nil=>simp[eqDs]
 |cons d r ih=>
  unfold eqDs;rw[h d List.mem_cons_self,ih λx hx=>h x (List.mem_cons_of_mem _ hx)];rfl
theorem iQ:∀(n:Nat) (d:D),bg n d=true->dB d d=true
 |_,.non,_=>by simp[dB]
 |_,.bl b,_=>by simp[dB]
 |_,.int b,_=>by simp[dB]
 |_,.str b,_=>by simp[dB]
 |n+1,.tup ds,h=>by
  unfold bg at h;unfold dB;exact qH λd hd=>iQ n d (List.all_eq_true.mp h d hd)
 |n+1,.lst ds,h=>by
  unfold bg at h;unfold dB;exact qH λd hd=>iQ n d (List.all_eq_true.mp h d hd)
 |0,.tup ds,h=>by unfold bg at h;cases h
 |0,.lst ds,h=>by unfold bg at h;cases h
 |0,.dic ks ds,h=>by unfold bg at h;cases h
 |n+1,.dic ks ds,h=>by unfold bg at h;cases h
 |0,.exc x,h=>by unfold bg at h;cases h
 |0,.ob k x,h=>by unfold bg at h;cases h
 |n+1,.ob k x,h=>by unfold bg at h;cases h
 |n+1,.exc x,h=>by unfold bg at h;cases h
def E7{xs ys:ac}:dB (.tup xs) (.tup ys)=eqDs xs ys:=by rw[dB]
def yr{xs ys:ac}:dB (.lst xs) (.lst ys)=eqDs xs ys:=by rw[dB]
theorem kX:∀(xs ys:ac),xs.length=ys.length->eqDs xs ys=(List.range xs.length).all λj=>dB (xs.getD j .non) (ys.getD j .non)
 |[],[],_=>by simp[eqDs]
 |x::xs,y::ys,h=>by
  have ih:=kX xs ys (by simpa using h);unfold eqDs;rw[ih,List.length_cons,List.range_succ_eq_map,List.all_cons,List.all_map];rfl
 |[],_::_,h=>by simp at h
 |_::_,[],h=>by simp at h
theorem o8:∀(xs ys:ac),xs.length≠ys.length->eqDs xs ys=false
 |[],[],h=>absurd rfl h
 |x::xs,y::ys,h=>by
  unfold eqDs;rw[o8 xs ys (by simpa using h),Bool.and_false]
 |[],_::_,h=>by simp[eqDs]
 |_::_,[],h=>by simp[eqDs]
section
variable {X:Cx}{pins:List (Addr×Obj)}{σ:L2.St}{H:Hp}{s:Shared}
def bE(I:Inv X pins σ H s){ds:ac}{v:V}{u:Value}(r:Rep X.K H (.tup ds) v)(rv:bY v u):∃a vs its,v=.ref a/\u=.ref a/\iZ X.K H a vs/\Reps X.K H ds vs/\bu vs its/\IsTup s.heap a its.toArray/\ds.length=its.length:=by
 obtain⟨a,vs,rfl,h1,h2⟩:=aB.mp r;obtain rfl:u=Value.ref a:=rv;obtain⟨its,h3,h4,_⟩:=I.tuple h1;exact⟨a,vs,its,rfl,rfl,h1,h2,h3,h4,h2.length.trans h3.length⟩
def br(I:Inv X pins σ H s){ds:ac}{v:V}{u:Value}(r:Rep X.K H (.lst ds) v)(rv:bY v u):∃a vs its,v=.ref a/\u=.ref a/\fL X.K H a vs/\Reps X.K H ds vs/\bu vs its/\s.heap.IsList a its.toArray/\ds.length=its.length:=by
 obtain⟨a,vs,rfl,h1,h2⟩:=aC.mp r;obtain rfl:u=Value.ref a:=rv;obtain⟨its,h3,h4,_⟩:=I.list h1;exact⟨a,vs,its,rfl,rfl,h1,h2,h3,h4.isList,h2.length.trans h3.length⟩
theorem nY{n:Nat}(ih:∀(d d':D) (v:V),bg n d=true->bg n d'=true->Rep X.K H d v->Rep X.K H d' v->d=d'):∀(ds ds':ac) (vs:al),ds.all (bg n)=true->ds'.all (bg n)=true->Reps X.K H ds vs->Reps X.K H ds' vs->ds=ds'
 |[],ds',vs,_,_,h,h'=>by
  rw[Reps.nil_iff.mp h]at h';cases ds' with|nil=>rfl|cons d r=>obtain⟨_,_,e,_⟩:=az.mp h';cases e
 |d::ds,ds',vs,a,a',h,h'=>by
  obtain⟨v,r,rfl,h1,h2⟩:=az.mp h;cases ds' with
  |nil=>cases Reps.nil_iff.mp h'
  |cons d' ds'=>
   obtain⟨v',r',e,h1',h2'⟩:=az.mp h';cases e;rw[List.all_cons,Bool.and_eq_true]at a a';rw[ih d d' v a.1 a'.1 h1 h1',nY ih ds ds' r a.2 a'.2 h2 h2']
def Rep.inj(I:Inv X pins σ H s):∀(n:Nat) (d d':D) (v:V),bg n d=true->bg n d'=true->Rep X.K H d v->Rep X.K H d' v->d=d':=by
 have atom:∀(n:Nat) (d d':D) (v:V),(∀ds,d≠.tup ds)->(∀ds,d≠.lst ds)->bg n d=true->bg n d'=true->Rep X.K H d v->Rep X.K H d' v->d=d':=by
  intro n d d' v n1 n2 s1 s2 h h';have nd:∀m ks ds,bg m (.dic ks ds)=true->False:=λm ks ds h=>by cases m<;>(unfold bg at h;cases h)
  have nx:∀m x,bg m (.exc x)=true->False:=λm x h=>by cases m<;>(unfold bg at h;cases h)
  have nb:∀m k x,bg m (.ob k x)=true->False:=λm k x h=>by cases m<;>(unfold bg at h;cases h)
  cases d with
  |tup ds=>exact absurd rfl (n1 ds)|lst ds=>exact absurd rfl (n2 ds)|dic ks ds=>exact(nd _ _ _ s1).elim|exc x=>exact(nx _ _ s1).elim|ob k x=>exact(nb _ _ _ s1).elim
  |non=>
   rw[aS.mp h]at h';cases d' with|non=>rfl|bl b=>cases aH.mp h'|int b=>cases aA.mp h'|str b=>cases Rep.str_iff.mp h'|tup ds=>obtain⟨_,_,e,_⟩:=aB.mp h';cases e|lst ds=>obtain⟨_,_,e,_⟩:=aC.mp h';cases e|dic ks ds=>exact(nd _ _ _ s2).elim|exc x=>exact(nx _ _ s2).elim|ob k x=>exact(nb _ _ _ s2).elim
  |bl x=>
   rw[aH.mp h]at h';cases d' with|non=>cases aS.mp h'|bl b=>cases aH.mp h';rfl|int b=>cases aA.mp h'|str b=>cases Rep.str_iff.mp h'|tup ds=>obtain⟨_,_,e,_⟩:=aB.mp h';cases e|lst ds=>obtain⟨_,_,e,_⟩:=aC.mp h';cases e|dic ks ds=>exact(nd _ _ _ s2).elim|exc x=>exact(nx _ _ s2).elim|ob k x=>exact(nb _ _ _ s2).elim
  |int x=>
   rw[aA.mp h]at h';cases d' with|non=>cases aS.mp h'|bl b=>cases aH.mp h'|int b=>cases aA.mp h';rfl|str b=>cases Rep.str_iff.mp h'|tup ds=>obtain⟨_,_,e,_⟩:=aB.mp h';cases e|lst ds=>obtain⟨_,_,e,_⟩:=aC.mp h';cases e|dic ks ds=>exact(nd _ _ _ s2).elim|exc x=>exact(nx _ _ s2).elim|ob k x=>exact(nb _ _ _ s2).elim
  |str x=>
   rw[Rep.str_iff.mp h]at h';cases d' with|non=>cases aS.mp h'|bl b=>cases aH.mp h'|int b=>cases aA.mp h'|str b=>cases Rep.str_iff.mp h';rfl|tup ds=>obtain⟨_,_,e,_⟩:=aB.mp h';cases e|lst ds=>obtain⟨_,_,e,_⟩:=aC.mp h';cases e|dic ks ds=>exact(nd _ _ _ s2).elim|exc x=>exact(nx _ _ s2).elim|ob k x=>exact(nb _ _ _ s2).elim
 intro n
 induction n with
 |zero=>
  intro d d' v s1 s2 h h';exact atom 0 d d' v (λds e=>by subst e;unfold bg at s1;cases s1) (λds e=>by subst e;unfold bg at s1;cases s1) s1 s2 h h'
 |succ n ih=>
  intro d d' v s1 s2 h h'
  by_cases t1:∃ds,d=.tup ds
  .obtain⟨ds,rfl⟩:=t1
   by_cases t2:∃ds',d'=.tup ds'
   .obtain⟨ds',rfl⟩:=t2
    obtain⟨a,vs,rfl,h1,h2⟩:=aB.mp h;obtain⟨a',vs',e,h1',h2'⟩:=aB.mp h';cases e;rw[I.tuple_inj h1' h1]at h2';unfold bg at s1 s2;rw[nY ih ds ds' vs s1 s2 h2 h2']
   .by_cases t3:∃ds',d'=.lst ds'
    .obtain⟨ds',rfl⟩:=t3
     obtain⟨a0,_,ev,_,_⟩:=aB.mp h;subst ev;obtain⟨a,vs,its,ea,_,h1,h2,h3,h4,_⟩:=bE I h rfl;cases ea;obtain⟨a',vs',its',e,_,h1',h2',h3',h4',_⟩:=br I h' rfl;cases e;exact absurd rfl (SeqAt.ne_of_list_tuple h4' h4)
    .exact(atom (n+1) d' _ v (λds e=>t2 ⟨ds,e⟩) (λds e=>t3 ⟨ds,e⟩) s2 s1 h' h).symm
  .by_cases t1':∃ds,d=.lst ds
   .obtain⟨ds,rfl⟩:=t1'
    by_cases t2:∃ds',d'=.lst ds'
    .obtain⟨ds',rfl⟩:=t2
     obtain⟨a,vs,rfl,h1,h2⟩:=aC.mp h;obtain⟨a',vs',e,h1',h2'⟩:=aC.mp h';cases e;rw[I.list_inj h1' h1]at h2';unfold bg at s1 s2;rw[nY ih ds ds' vs s1 s2 h2 h2']
    .by_cases t3:∃ds',d'=.tup ds'
     .obtain⟨ds',rfl⟩:=t3
      obtain⟨a0,_,ev,_,_⟩:=aC.mp h;subst ev;obtain⟨a,vs,its,ea,_,h1,h2,h3,h4,_⟩:=br I h rfl;cases ea;obtain⟨a',vs',its',e,_,h1',h2',h3',h4',_⟩:=bE I h' rfl;cases e;exact absurd rfl (SeqAt.ne_of_list_tuple h4 h4')
     .exact(atom (n+1) d' _ v (λds e=>t3 ⟨ds,e⟩) (λds e=>t2 ⟨ds,e⟩) s2 s1 h' h).symm
   .exact atom (n+1) d d' v (λds e=>t1 ⟨ds,e⟩) (λds e=>t1' ⟨ds,e⟩) s1 s2 h h'
def uB{n:Nat}{A:Around}{xs ys:ac}{vs us:al}{is js:List Value}
  (ih:∀(x y:D) (v u:V) (a b:Value),bg n x=true->bg n y=true->Rep X.K H x v->Rep X.K H y u->bY v a->bY u b->SeqAt.EqAt A.in1 s a b (dB x y))
  (sx:xs.all (bg n)=true)(sy:ys.all (bg n)=true)(rx:Reps X.K H xs vs)(ry:Reps X.K H ys us)(qx:bu vs is)(qy:bu us js) :
  ∀j (h1:j<is.toArray.size) (h2:j<js.toArray.size),SeqAt.EqAt A.in1 s is.toArray[j] js.toArray[j] (dB (xs.getD j .non) (ys.getD j .non)):=by
 intro j h1 h2;have lx:=rx.length;have ly:=ry.length;have kx:=qx.length;have ky:=qy.length;have h1':j<is.length:=by simpa using h1
 have h2':j<js.length:=by simpa using h2
 have hx:j<xs.length:=by omega
 have hy:j<ys.length:=by omega
 obtain⟨v,e1,r1⟩:=rx.get (List.getElem?_eq_getElem hx);obtain⟨u,e2,r2⟩:=ry.get (List.getElem?_eq_getElem hy);obtain⟨a,e3,r3⟩:=qx.get e1;obtain⟨b,e4,r4⟩:=qy.get e2;have ea:is.toArray[j]=a:=by
  rw[List.getElem?_eq_getElem h1']at e3;simpa using Option.some.inj e3
 have eb:js.toArray[j]=b:=by
  rw[List.getElem?_eq_getElem h2']at e4;simpa using Option.some.inj e4
 rw[ea,eb];have gx:xs.getD j .non=xs[j]:=by simp[List.getD,List.getElem?_eq_getElem hx]
 have gy:ys.getD j .non=ys[j]:=by simp[List.getD,List.getElem?_eq_getElem hy]
 rw[gx,gy];exact ih _ _ v u a b (List.all_eq_true.mp sx _ (List.getElem_mem hx)) (List.all_eq_true.mp sy _ (List.getElem_mem hy)) r1 r2 r3 r4
def tX(I:Inv X pins σ H s){A:Around}(hu:A.units<cLine){x y:D}{v u:V}{a b:Value}(rx:Rep X.K H x v)(ry:Rep X.K H y u)(qx:bY v a)(qy:bY u b)
  (n1:∀ds ds',¬(x=.lst ds/\y=.lst ds'))(n2:∀ds ds',¬(x=.tup ds/\y=.tup ds'))(d1:∀ks ds,x≠.dic ks ds)(d2:∀ks ds,y≠.dic ks ds)(x1:∀c,x≠.exc c)(x2:∀c,y≠.exc c)(o1:∀k c,x≠.ob k c)(o2:∀k c,y≠.ob k c) :
  SeqAt.RcAt A s a b (dB x y)/\SeqAt.EqAt A s a b (dB x y)/\SeqAt.RcNeAt A s a b (!(dB x y)):=by
 cases x with
 |non=>
  cases y with
  |non=>
   obtain rfl:=aS.mp rx;obtain rfl:a=Value.none:=qx;obtain rfl:=aS.mp ry;obtain rfl:b=Value.none:=qy;unfold dB;exact⟨SeqAt.RcAt.none_none ,SeqAt.EqAt.same _,SeqAt.RcNeAt.none_none ⟩
  |bl y=>
   obtain rfl:=aS.mp rx;obtain rfl:a=Value.none:=qx;obtain rfl:=aH.mp ry;obtain rfl:b=Value.bool _:=qy;unfold dB;exact⟨SeqAt.RcAt.none_bool _,SeqAt.EqAt.none_bool _,SeqAt.RcNeAt.none_bool _⟩
  |int y=>
   obtain rfl:=aS.mp rx;obtain rfl:a=Value.none:=qx;obtain rfl:=aA.mp ry;obtain⟨ty,rfl⟩:∃t,b=Value.int _ t:=qy;unfold dB;exact⟨SeqAt.RcAt.none_int _ _,SeqAt.EqAt.none_int _ _,SeqAt.RcNeAt.none_int _ _⟩
  |str y=>
   obtain rfl:=aS.mp rx;obtain rfl:a=Value.none:=qx;obtain rfl:=Rep.str_iff.mp ry;obtain⟨ty,rfl⟩:∃t,b=Value.str _ t:=qy;unfold dB;exact⟨SeqAt.RcAt.none_str _ _,SeqAt.EqAt.none_str _ _,SeqAt.RcNeAt.none_str _ _⟩
  |lst y=>
   obtain rfl:=aS.mp rx;obtain rfl:a=Value.none:=qx;obtain⟨ly,_,_,rfl,rfl,_,_,_,hy,_⟩:=br I ry qy;unfold dB;exact⟨SeqAt.RcAt.none_list  hy hu,SeqAt.EqAt.none_list  hy hu,SeqAt.RcNeAt.none_list  hy hu⟩
  |tup y=>
   obtain rfl:=aS.mp rx;obtain rfl:a=Value.none:=qx;obtain⟨ly,_,_,rfl,rfl,_,_,_,hy,_⟩:=bE I ry qy;unfold dB;exact⟨SeqAt.RcAt.none_tuple  hy hu,SeqAt.EqAt.none_tuple  hy hu,SeqAt.RcNeAt.none_tuple  hy hu⟩
  |dic ks ds=>exact absurd rfl (d2 ks ds)|exc c=>exact absurd rfl (x2 c)|ob k c=>exact absurd rfl (o2 k c)
 |bl x=>
  cases y with
  |non=>
   obtain rfl:=aH.mp rx;obtain rfl:a=Value.bool _:=qx;obtain rfl:=aS.mp ry;obtain rfl:b=Value.none:=qy;unfold dB;exact⟨SeqAt.RcAt.bool_none _,SeqAt.EqAt.bool_none _,SeqAt.RcNeAt.bool_none _⟩
  |bl y=>
   obtain rfl:=aH.mp rx;obtain rfl:a=Value.bool _:=qx;obtain rfl:=aH.mp ry;obtain rfl:b=Value.bool _:=qy;unfold dB;exact⟨SeqAt.RcAt.bool_bool _ _,SeqAt.EqAt.bool_bool _ _,SeqAt.RcNeAt.bool_bool _ _⟩
  |int y=>
   obtain rfl:=aH.mp rx;obtain rfl:a=Value.bool _:=qx;obtain rfl:=aA.mp ry;obtain⟨ty,rfl⟩:∃t,b=Value.int _ t:=qy;unfold dB;exact⟨SeqAt.RcAt.bool_int _ _ _,SeqAt.EqAt.bool_int _ _ _,SeqAt.RcNeAt.bool_int _ _ _⟩
  |str y=>
   obtain rfl:=aH.mp rx;obtain rfl:a=Value.bool _:=qx;obtain rfl:=Rep.str_iff.mp ry;obtain⟨ty,rfl⟩:∃t,b=Value.str _ t:=qy;unfold dB;exact⟨SeqAt.RcAt.bool_str _ _ _,SeqAt.EqAt.bool_str _ _ _,SeqAt.RcNeAt.bool_str _ _ _⟩
  |lst y=>
   obtain rfl:=aH.mp rx;obtain rfl:a=Value.bool _:=qx;obtain⟨ly,_,_,rfl,rfl,_,_,_,hy,_⟩:=br I ry qy;unfold dB;exact⟨SeqAt.RcAt.bool_list _ hy hu,SeqAt.EqAt.bool_list _ hy hu,SeqAt.RcNeAt.bool_list _ hy hu⟩
  |tup y=>
   obtain rfl:=aH.mp rx;obtain rfl:a=Value.bool _:=qx;obtain⟨ly,_,_,rfl,rfl,_,_,_,hy,_⟩:=bE I ry qy;unfold dB;exact⟨SeqAt.RcAt.bool_tuple _ hy hu,SeqAt.EqAt.bool_tuple _ hy hu,SeqAt.RcNeAt.bool_tuple _ hy hu⟩
  |dic ks ds=>exact absurd rfl (d2 ks ds)|exc c=>exact absurd rfl (x2 c)|ob k c=>exact absurd rfl (o2 k c)
 |int x=>
  cases y with
  |non=>
   obtain rfl:=aA.mp rx;obtain⟨tx,rfl⟩:∃t,a=Value.int _ t:=qx;obtain rfl:=aS.mp ry;obtain rfl:b=Value.none:=qy;unfold dB;exact⟨SeqAt.RcAt.int_none _ _,SeqAt.EqAt.int_none _ _,SeqAt.RcNeAt.int_none _ _⟩
  |bl y=>
   obtain rfl:=aA.mp rx;obtain⟨tx,rfl⟩:∃t,a=Value.int _ t:=qx;obtain rfl:=aH.mp ry;obtain rfl:b=Value.bool _:=qy;unfold dB;exact⟨SeqAt.RcAt.int_bool _ _ _,SeqAt.EqAt.int_bool _ _ _,SeqAt.RcNeAt.int_bool _ _ _⟩
  |int y=>
   obtain rfl:=aA.mp rx;obtain⟨tx,rfl⟩:∃t,a=Value.int _ t:=qx;obtain rfl:=aA.mp ry;obtain⟨ty,rfl⟩:∃t,b=Value.int _ t:=qy;unfold dB;exact⟨SeqAt.RcAt.int_int _ _ _ _,SeqAt.EqAt.int_int _ _ _ _,SeqAt.RcNeAt.int_int _ _ _ _⟩
  |str y=>
   obtain rfl:=aA.mp rx;obtain⟨tx,rfl⟩:∃t,a=Value.int _ t:=qx;obtain rfl:=Rep.str_iff.mp ry;obtain⟨ty,rfl⟩:∃t,b=Value.str _ t:=qy;unfold dB;exact⟨SeqAt.RcAt.int_str _ _ _ _,SeqAt.EqAt.int_str _ _ _ _,SeqAt.RcNeAt.int_str _ _ _ _⟩
  |lst y=>
   obtain rfl:=aA.mp rx;obtain⟨tx,rfl⟩:∃t,a=Value.int _ t:=qx;obtain⟨ly,_,_,rfl,rfl,_,_,_,hy,_⟩:=br I ry qy;unfold dB;exact⟨SeqAt.RcAt.int_list _ _ hy hu,SeqAt.EqAt.int_list _ _ hy hu,SeqAt.RcNeAt.int_list _ _ hy hu⟩
  |tup y=>
   obtain rfl:=aA.mp rx;obtain⟨tx,rfl⟩:∃t,a=Value.int _ t:=qx;obtain⟨ly,_,_,rfl,rfl,_,_,_,hy,_⟩:=bE I ry qy;unfold dB;exact⟨SeqAt.RcAt.int_tuple _ _ hy hu,SeqAt.EqAt.int_tuple _ _ hy hu,SeqAt.RcNeAt.int_tuple _ _ hy hu⟩
  |dic ks ds=>exact absurd rfl (d2 ks ds)|exc c=>exact absurd rfl (x2 c)|ob k c=>exact absurd rfl (o2 k c)
 |str x=>
  cases y with
  |non=>
   obtain rfl:=Rep.str_iff.mp rx;obtain⟨tx,rfl⟩:∃t,a=Value.str _ t:=qx;obtain rfl:=aS.mp ry;obtain rfl:b=Value.none:=qy;unfold dB;exact⟨SeqAt.RcAt.str_none _ _,SeqAt.EqAt.str_none _ _,SeqAt.RcNeAt.str_none _ _⟩
  |bl y=>
   obtain rfl:=Rep.str_iff.mp rx;obtain⟨tx,rfl⟩:∃t,a=Value.str _ t:=qx;obtain rfl:=aH.mp ry;obtain rfl:b=Value.bool _:=qy;unfold dB;exact⟨SeqAt.RcAt.str_bool _ _ _,SeqAt.EqAt.str_bool _ _ _,SeqAt.RcNeAt.str_bool _ _ _⟩
  |int y=>
   obtain rfl:=Rep.str_iff.mp rx;obtain⟨tx,rfl⟩:∃t,a=Value.str _ t:=qx;obtain rfl:=aA.mp ry;obtain⟨ty,rfl⟩:∃t,b=Value.int _ t:=qy;unfold dB;exact⟨SeqAt.RcAt.str_int _ _ _ _,SeqAt.EqAt.str_int _ _ _ _,SeqAt.RcNeAt.str_int _ _ _ _⟩
  |str y=>
   obtain rfl:=Rep.str_iff.mp rx;obtain⟨tx,rfl⟩:∃t,a=Value.str _ t:=qx;obtain rfl:=Rep.str_iff.mp ry;obtain⟨ty,rfl⟩:∃t,b=Value.str _ t:=qy;unfold dB;exact⟨SeqAt.RcAt.str_str _ _ _ _,SeqAt.EqAt.str_str _ _ _ _,SeqAt.RcNeAt.str_str _ _ _ _⟩
  |lst y=>
   obtain rfl:=Rep.str_iff.mp rx;obtain⟨tx,rfl⟩:∃t,a=Value.str _ t:=qx;obtain⟨ly,_,_,rfl,rfl,_,_,_,hy,_⟩:=br I ry qy;unfold dB;exact⟨SeqAt.RcAt.str_list _ _ hy hu,SeqAt.EqAt.str_list _ _ hy hu,SeqAt.RcNeAt.str_list _ _ hy hu⟩
  |tup y=>
   obtain rfl:=Rep.str_iff.mp rx;obtain⟨tx,rfl⟩:∃t,a=Value.str _ t:=qx;obtain⟨ly,_,_,rfl,rfl,_,_,_,hy,_⟩:=bE I ry qy;unfold dB;exact⟨SeqAt.RcAt.str_tuple _ _ hy hu,SeqAt.EqAt.str_tuple _ _ hy hu,SeqAt.RcNeAt.str_tuple _ _ hy hu⟩
  |dic ks ds=>exact absurd rfl (d2 ks ds)|exc c=>exact absurd rfl (x2 c)|ob k c=>exact absurd rfl (o2 k c)
 |lst x=>
  cases y with
  |non=>
   obtain⟨lx,_,_,rfl,rfl,_,_,_,hx,_⟩:=br I rx qx;obtain rfl:=aS.mp ry;obtain rfl:b=Value.none:=qy;unfold dB;exact⟨SeqAt.RcAt.list_none  hx hu,SeqAt.EqAt.list_none  hx hu,SeqAt.RcNeAt.list_none  hx hu⟩
  |bl y=>
   obtain⟨lx,_,_,rfl,rfl,_,_,_,hx,_⟩:=br I rx qx;obtain rfl:=aH.mp ry;obtain rfl:b=Value.bool _:=qy;unfold dB;exact⟨SeqAt.RcAt.list_bool _ hx hu,SeqAt.EqAt.list_bool _ hx hu,SeqAt.RcNeAt.list_bool _ hx hu⟩
  |int y=>
   obtain⟨lx,_,_,rfl,rfl,_,_,_,hx,_⟩:=br I rx qx;obtain rfl:=aA.mp ry;obtain⟨ty,rfl⟩:∃t,b=Value.int _ t:=qy;unfold dB;exact⟨SeqAt.RcAt.list_int _ _ hx hu,SeqAt.EqAt.list_int _ _ hx hu,SeqAt.RcNeAt.list_int _ _ hx hu⟩
  |str y=>
   obtain⟨lx,_,_,rfl,rfl,_,_,_,hx,_⟩:=br I rx qx;obtain rfl:=Rep.str_iff.mp ry;obtain⟨ty,rfl⟩:∃t,b=Value.str _ t:=qy;unfold dB;exact⟨SeqAt.RcAt.list_str _ _ hx hu,SeqAt.EqAt.list_str _ _ hx hu,SeqAt.RcNeAt.list_str _ _ hx hu⟩
  |lst y=>
   exact absurd ⟨rfl,rfl⟩ (n1 x y)
  |tup y=>
   obtain⟨lx,_,_,rfl,rfl,_,_,_,hx,_⟩:=br I rx qx;obtain⟨ly,_,_,rfl,rfl,_,_,_,hy,_⟩:=bE I ry qy;unfold dB;exact⟨SeqAt.RcAt.list_tuple  hx hy hu,SeqAt.EqAt.list_tuple  hx hy hu,SeqAt.RcNeAt.list_tuple  hx hy hu⟩
  |dic ks ds=>exact absurd rfl (d2 ks ds)|exc c=>exact absurd rfl (x2 c)|ob k c=>exact absurd rfl (o2 k c)
 |tup x=>
  cases y with
  |non=>
   obtain⟨lx,_,_,rfl,rfl,_,_,_,hx,_⟩:=bE I rx qx;obtain rfl:=aS.mp ry;obtain rfl:b=Value.none:=qy;unfold dB;exact⟨SeqAt.RcAt.tuple_none  hx hu,SeqAt.EqAt.tuple_none  hx hu,SeqAt.RcNeAt.tuple_none  hx hu⟩
  |bl y=>
   obtain⟨lx,_,_,rfl,rfl,_,_,_,hx,_⟩:=bE I rx qx;obtain rfl:=aH.mp ry;obtain rfl:b=Value.bool _:=qy;unfold dB;exact⟨SeqAt.RcAt.tuple_bool _ hx hu,SeqAt.EqAt.tuple_bool _ hx hu,SeqAt.RcNeAt.tuple_bool _ hx hu⟩
  |int y=>
   obtain⟨lx,_,_,rfl,rfl,_,_,_,hx,_⟩:=bE I rx qx;obtain rfl:=aA.mp ry;obtain⟨ty,rfl⟩:∃t,b=Value.int _ t:=qy;unfold dB;exact⟨SeqAt.RcAt.tuple_int _ _ hx hu,SeqAt.EqAt.tuple_int _ _ hx hu,SeqAt.RcNeAt.tuple_int _ _ hx hu⟩
  |str y=>
   obtain⟨lx,_,_,rfl,rfl,_,_,_,hx,_⟩:=bE I rx qx;obtain rfl:=Rep.str_iff.mp ry;obtain⟨ty,rfl⟩:∃t,b=Value.str _ t:=qy;unfold dB;exact⟨SeqAt.RcAt.tuple_str _ _ hx hu,SeqAt.EqAt.tuple_str _ _ hx hu,SeqAt.RcNeAt.tuple_str _ _ hx hu⟩
  |lst y=>
   obtain⟨lx,_,_,rfl,rfl,_,_,_,hx,_⟩:=bE I rx qx;obtain⟨ly,_,_,rfl,rfl,_,_,_,hy,_⟩:=br I ry qy;unfold dB;exact⟨SeqAt.RcAt.tuple_list  hx hy hu,SeqAt.EqAt.tuple_list  hx hy hu,SeqAt.RcNeAt.tuple_list  hx hy hu⟩
  |tup y=>
   exact absurd ⟨rfl,rfl⟩ (n2 x y)
  |dic ks ds=>exact absurd rfl (d2 ks ds)|exc c=>exact absurd rfl (x2 c)|ob k c=>exact absurd rfl (o2 k c)
 |dic ks ds=>exact absurd rfl (d1 ks ds)
 |exc c=>exact absurd rfl (x1 c)
 |ob k c=>exact absurd rfl (o1 k c)
def GP(I:Inv X pins σ H s):∀(n:Nat) (A:Around),A.units+n<cLine->∀(x y:D) (v u:V) (a b:Value),bg n x=true->bg n y=true->Rep X.K H x v->Rep X.K H y u->bY v a->bY u b ->
  SeqAt.RcAt A s a b (dB x y)/\SeqAt.EqAt A s a b (dB x y)/\SeqAt.RcNeAt A s a b (!(dB x y)):=by
 have nd:∀m ks ds,bg m (.dic ks ds)=true->False:=λm ks ds h=>by cases m<;>(unfold bg at h;cases h)
 have nx:∀m x,bg m (.exc x)=true->False:=λm x h=>by cases m<;>(unfold bg at h;cases h)
 have nb:∀m k x,bg m (.ob k x)=true->False:=λm k x h=>by cases m<;>(unfold bg at h;cases h)
 intro n
 induction n with
 |zero=>
  intro A hu x y v u a b sx sy rx ry qa qb;refine tX I (by omega) rx ry qa qb (λds ds' z=>?_) (λds ds' z=>?_) (λks ds z=>?_) (λks ds z=>?_) (λc z=>nx _ _ (z▸sx)) (λc z=>nx _ _ (z▸sy)) (λk c z=>nb _ _ _ (z▸sx)) (λk c z=>nb _ _ _ (z▸sy))
  .rw[z.1]at sx;unfold bg at sx;cases sx
  .rw[z.1]at sx;unfold bg at sx;cases sx
  .rw[z]at sx;exact nd _ _ _ sx
  .rw[z]at sy;exact nd _ _ _ sy
 |succ n ih=>
  intro A hu x y v u a b sx sy rx ry qa qb;have ih':∀(x y:D) (v u:V) (a b:Value),bg n x=true->bg n y=true->Rep X.K H x v->Rep X.K H y u->bY v a->bY u b->SeqAt.EqAt A.in1 s a b (dB x y) :=
   λx y v u a b s1 s2 r1 r2 q1 q2=>(ih A.in1 (by show A.units+1+n<cLine;omega) x y v u a b s1 s2 r1 r2 q1 q2).2.1
  by_cases t1:∃ds ds',x=.tup ds/\y=.tup ds'
  .obtain⟨xs,ys,rfl,rfl⟩:=t1
   obtain⟨l,vs,is,rfl,rfl,h1,h2,h3,h4,h5⟩:=bE I rx qa;obtain⟨m,us,js,rfl,rfl,k1,k2,k3,k4,k5⟩:=bE I ry qb;have hsx:=sx;have hsy:=sy;unfold bg at sx sy;have each:=uB (A:=A) ih' sx sy h2 k2 h3 k3;have eall:dB (.tup xs) (.tup ys)=((List.range (min is.toArray.size js.toArray.size)).all (λj=>dB (xs.getD j .non) (ys.getD j .non))&&is.toArray.size==js.toArray.size):=by
    rw[E7];simp only[List.size_toArray,←h5,←k5]
    by_cases hl:xs.length=ys.length
    .rw[kX xs ys hl,←hl,Nat.min_self,beq_self_eq_true,Bool.and_true]
    .rw[o8 xs ys hl,beq_eq_false_iff_ne.mpr hl,Bool.and_false]
   refine⟨?_,?_,?_⟩
   .rw[eall];exact SeqAt.RcAt.tuples h4 k4 (by omega) each
   .by_cases hlm:l=m
    .subst hlm
     rw[Rep.inj I (n+1) _ _ _ hsx hsy rx ry,iQ (n+1) _ hsy];exact SeqAt.EqAt.same _
    .refine SeqAt.EqAt.of_refs hlm ?_
     rw[eall];exact SeqAt.RcAt.tuples h4 k4 (by omega) each
   .rw[eall];exact SeqAt.RcNeAt.tuples h4 k4 (by omega) each
  .by_cases t2:∃ds ds',x=.lst ds/\y=.lst ds'
   .obtain⟨xs,ys,rfl,rfl⟩:=t2
    obtain⟨l,vs,is,rfl,rfl,h1,h2,h3,h4,h5⟩:=br I rx qa;obtain⟨m,us,js,rfl,rfl,k1,k2,k3,k4,k5⟩:=br I ry qb;have hsx:=sx;have hsy:=sy;unfold bg at sx sy;have each:=uB (A:=A) ih' sx sy h2 k2 h3 k3
    by_cases hl:xs.length=ys.length
    .have hsz:is.toArray.size=js.toArray.size:=by simp only[List.size_toArray];omega
     have eall:dB (.lst xs) (.lst ys)=(List.range is.toArray.size).all (λj=>dB (xs.getD j .non) (ys.getD j .non)):=by
      rw[yr];simp only[List.size_toArray,←h5];exact kX xs ys hl
     refine⟨?_,?_,?_⟩
     .rw[eall];exact SeqAt.RcAt.lists h4 k4 hsz (by omega) each
     .by_cases hlm:l=m
      .subst hlm
       rw[Rep.inj I (n+1) _ _ _ hsx hsy rx ry,iQ (n+1) _ hsy];exact SeqAt.EqAt.same _
      .refine SeqAt.EqAt.of_refs hlm ?_
       rw[eall];exact SeqAt.RcAt.lists h4 k4 hsz (by omega) each
     .rw[eall];exact SeqAt.RcNeAt.lists h4 k4 hsz (by omega) each
    .have hsz:(is.toArray.size != js.toArray.size)=true:=by simp only[List.size_toArray,bne_iff_ne,ne_eq];omega
     have eall:dB (.lst xs) (.lst ys)=false:=by rw[yr];exact o8 xs ys hl
     rw[eall];refine⟨SeqAt.RcAt.lists_lengths h4 k4 hsz (by omega),?_,SeqAt.RcNeAt.lists_lengths h4 k4 hsz (by omega)⟩;refine SeqAt.EqAt.of_refs (λe=>?_) (SeqAt.RcAt.lists_lengths h4 k4 hsz (by omega));subst e;have:=Rep.inj I (n+1) _ _ _ hsx hsy rx ry;cases this;exact hl rfl
   .exact tX I (by omega) rx ry qa qb (λds ds' z=>t2 ⟨ds,ds',z⟩) (λds ds' z=>t1 ⟨ds,ds',z⟩) (λks ds z=>by rw[z]at sx;exact nd _ _ _ sx) (λks ds z=>by rw[z]at sy;exact nd _ _ _ sy) (λc z=>nx _ _ (z▸sx)) (λc z=>nx _ _ (z▸sy)) (λk c z=>nb _ _ _ (z▸sx)) (λk c z=>nb _ _ _ (z▸sy))
end
section
variable {X:Cx}{E:XK}
def fM(x y:D):au D:=if bg 40 x=true/\bg 40 y=true then .ok (.bl (dB x y)) else .stuck
def kH(x y:D):au D:=if bg 40 x=true/\bg 40 y=true then .ok (.bl (!(dB x y))) else .stuck
def JQ(K:W.Frag):R2:=λv u H Q=>∃x y,Rep K H x v/\Rep K H y u/\bg 40 x=true/\bg 40 y=true/\Q (.bl (dB x y)) H
def JL(K:W.Frag):R2:=λv u H Q=>∃x y,Rep K H x v/\Rep K H y u/\bg 40 x=true/\bg 40 y=true/\Q (.bl (!(dB x y))) H
def bI(hu:X.A.units+64<cLine):gf X (compareOp .Eq) (JQ X.K):=by
 intro pins s σ H x y v u Q I rx ry h;obtain⟨d,d',h1,h2,s1,s2,q⟩:=h;exact(GP I 40 X.A (by omega) d d' x y v u s1 s2 h1 h2 rx ry).1 _ _ _ _ ⟨.bl _,H,I,rfl,q⟩
def fz(hu:X.A.units+64<cLine):gf X (compareOp .NotEq) (JL X.K):=by
 intro pins s σ H x y v u Q I rx ry h;obtain⟨d,d',h1,h2,s1,s2,q⟩:=h;exact(GP I 40 X.A (by omega) d d' x y v u s1 s2 h1 h2 rx ry).2.2 _ _ _ _ ⟨.bl _,H,I,rfl,q⟩
def cG:zM X.K E (JQ X.K) fM:=by
 intro x y v u H Ha Q hs r1 r2 q;unfold fM at q
 by_cases c:bg 40 x=true/\bg 40 y=true
 .rw[if_pos c]at q
  exact⟨x,y,r1.mono hs,r2.mono hs,c.1,c.2,q _ H Ha (bH.refl hs) (aH.mpr rfl)⟩
 .rw[if_neg c]at q;exact q.elim
def hZ:zM X.K E (JL X.K) kH:=by
 intro x y v u H Ha Q hs r1 r2 q;unfold kH at q
 by_cases c:bg 40 x=true/\bg 40 y=true
 .rw[if_pos c]at q
  exact⟨x,y,r1.mono hs,r2.mono hs,c.1,c.2,q _ H Ha (bH.refl hs) (aH.mpr rfl)⟩
 .rw[if_neg c]at q;exact q.elim
open Classical in
noncomputable def kG(K:W.Frag) (H:Hp) (ds:ac) (x:D) (u:Value):Bool :=
 if h:∃d,d∈ds/\∃v,Rep K H d v/\bY v u then dB h.choose x else false
def yq{pins:List (Addr×Obj)}{σ:L2.St}{H:Hp}{s:Shared}(I:Inv X pins σ H s){ds:ac}{x d:D}{v:V}{u:Value}(sd:ds.all (bg 40)=true)(hd:d∈ds)(r:Rep X.K H d v)(q:bY v u):kG X.K H ds x u=dB d x:=by
 have h:∃d,d∈ds/\∃v,Rep X.K H d v/\bY v u:=⟨d,hd,v,r,q⟩
 unfold kG;rw[dif_pos h];obtain⟨h1,v',h2,h3⟩:=h.choose_spec;have e:v'=v:=h3.inj q;subst e;rw[Rep.inj I 40 _ _ _ (List.all_eq_true.mp sd _ h1) (List.all_eq_true.mp sd _ hd) h2 r]
def vC(K:W.Frag)(neg:Bool):R2:=λv u H Q=>∃x ds,Rep K H x v/\(Rep K H (.lst ds) u∨Rep K H (.tup ds) u)/\bg 40 x=true/\ds.all (bg 40)=true/\Q (.bl (if neg then !(ds.any λd=>dB d x) else ds.any λd=>dB d x)) H
theorem kh{pins:List (Addr×Obj)}{σ:L2.St}{H:Hp}{s:Shared}(I:Inv X pins σ H s){x:D}{es:ac}(se:es.all (bg 40)=true):∀{ds:ac}{vs:al}{us:List Value},(∀d∈ds,d∈es)->Reps X.K H ds vs->bu vs us->us.any (kG X.K H es x)=ds.any λd=>dB d x
 |[],_,_,_,h,q=>by
  rw[Reps.nil_iff.mp h]at q;cases q;rfl
 |d::ds,_,_,hm,h,q=>by
  obtain⟨v,r,rfl,h1,h2⟩:=az.mp h;cases q with
  |cons q1 q2=>
   rw[List.any_cons,List.any_cons,yq I se (hm d List.mem_cons_self) h1 q1,kh I se (λx hx=>hm x (List.mem_cons_of_mem _ hx)) h2 q2]
theorem iR{pins:List (Addr×Obj)}{σ:L2.St}{H:Hp}{s:Shared}(I:Inv X pins σ H s)(hu:X.A.units+64<cLine){x:D}{v:V}{u:Value}(sx:bg 40 x=true)(rx:Rep X.K H x v)(qx:bY v u){es:ac}(se:es.all (bg 40)=true):∀{ds:ac}{vs:al}{us:List Value},(∀d∈ds,d∈es)->Reps X.K H ds vs->bu vs us->∀y∈us,SeqAt.EqAt X.A.in1 s y u (kG X.K H es x y)
 |[],_,_,_,h,q=>λy hy=>by
  rw[Reps.nil_iff.mp h]at q;cases q;cases hy
 |d::ds,_,_,hm,h,q=>λy hy=>by
  obtain⟨w,r,rfl,h1,h2⟩:=az.mp h;cases q with
  |cons q1 q2=>
   rcases List.mem_cons.mp hy with rfl|hy
   .rw[yq I se (hm d List.mem_cons_self) h1 q1]
    exact(GP I 40 X.A.in1 (by show X.A.units+1+40<cLine;omega) d x w v _ u (List.all_eq_true.mp se _ (hm d List.mem_cons_self)) sx h1 rx q1 qx).2.1
   .exact iR I hu sx rx qx se (λx hx=>hm x (List.mem_cons_of_mem _ hx)) h2 q2 y hy
def Hc(hu:X.A.units+64<cLine):gf X (compareOp .In) (vC X.K false):=by
 intro pins s σ H x y v u Q I rx ry h;obtain⟨d,ds,h1,h2,s1,s2,q⟩:=h;rcases h2 with h2|h2
 .obtain⟨a,vs,its,rfl,rfl,k1,k2,k3,k4,k5⟩:=br I h2 ry
  refine SeqAt.in_listAt (kG X.K H ds d) k4 (λw hw=>iR I hu s1 h1 rx s2 (λ_ z=>z) k2 k3 w (by simpa using hw)) ⟨.bl _,H,I,rfl,?_⟩;rw[show its.toArray.any (kG X.K H ds d)=its.any (kG X.K H ds d) by simp,kh I s2 (λ_ z=>z) k2 k3];exact q
 .obtain⟨a,vs,its,rfl,rfl,k1,k2,k3,k4,k5⟩:=bE I h2 ry
  refine SeqAt.in_tupleAt (kG X.K H ds d) k4 (λw hw=>iR I hu s1 h1 rx s2 (λ_ z=>z) k2 k3 w (by simpa using hw)) ⟨.bl _,H,I,rfl,?_⟩;rw[show its.toArray.any (kG X.K H ds d)=its.any (kG X.K H ds d) by simp,kh I s2 (λ_ z=>z) k2 k3];exact q
def za(hu:X.A.units+64<cLine):gf X (compareOp .NotIn) (vC X.K true):=by
 intro pins s σ H x y v u Q I rx ry h;obtain⟨d,ds,h1,h2,s1,s2,q⟩:=h;rcases h2 with h2|h2
 .obtain⟨a,vs,its,rfl,rfl,k1,k2,k3,k4,k5⟩:=br I h2 ry
  refine SeqAt.notIn_listAt (kG X.K H ds d) k4 (λw hw=>iR I hu s1 h1 rx s2 (λ_ z=>z) k2 k3 w (by simpa using hw)) ⟨.bl _,H,I,rfl,?_⟩;rw[show its.toArray.any (kG X.K H ds d)=its.any (kG X.K H ds d) by simp,kh I s2 (λ_ z=>z) k2 k3];exact q
 .obtain⟨a,vs,its,rfl,rfl,k1,k2,k3,k4,k5⟩:=bE I h2 ry
  refine SeqAt.notIn_tupleAt (kG X.K H ds d) k4 (λw hw=>iR I hu s1 h1 rx s2 (λ_ z=>z) k2 k3 w (by simpa using hw)) ⟨.bl _,H,I,rfl,?_⟩;rw[show its.toArray.any (kG X.K H ds d)=its.any (kG X.K H ds d) by simp,kh I s2 (λ_ z=>z) k2 k3];exact q
def Li(i j:Str):Bool:=!(Builtin.Str.occurrences j i 0 j.length 1).isEmpty
noncomputable def Bm(x y:D):Option Bool:=match y with
 |.lst ds=>if bg 40 x=true/\ds.all (bg 40)=true then some (ds.any λd=>dB d x) else none
 |.tup ds=>if bg 40 x=true/\ds.all (bg 40)=true then some (ds.any λd=>dB d x) else none
 |.str j=>match x with
  |.str i=>some (Li i j)
  |_=>none
 |_=>none
def B7(x y:D):au D:=match Bm x y with
 |some b=>.ok (.bl b)
 |none=>.stuck
def du(x y:D):au D:=match Bm x y with
 |some b=>.ok (.bl (!b))
 |none=>.stuck
def AI(neg:Bool):R2:=λx y H Q=>∃i j,x=.str i/\y=.str j/\Q (.bl (if neg then !(Li i j) else Li i j)) H
def A0(hu:X.A.units+64<cLine):gf X (compareOp .In) (λv u H Q=>vC X.K false v u H Q∨AI false v u H Q):=gf.or (Hc hu) (by
 intro pins s σ H x y v u Q I rx ry h;obtain⟨i,j,rfl,rfl,q⟩:=h;exact zb pins s σ H _ _ v u Q I rx ry ⟨i,j,rfl,rfl,q⟩)
def iL(hu:X.A.units+64<cLine):gf X (compareOp .NotIn) (λv u H Q=>vC X.K true v u H Q∨AI true v u H Q):=gf.or (za hu) (by
 intro pins s σ H x y v u Q I rx ry h;obtain⟨i,j,rfl,rfl,q⟩:=h;exact rS pins s σ H _ _ v u Q I rx ry ⟨i,j,rfl,rfl,q⟩)
def uq{neg:Bool}{x y:D}{v u:V}{H Ha:Hp}{Q:VK}(hs:aE Ha H)(r1:Rep X.K Ha x v)(r2:Rep X.K Ha y u)
  (q:post X.K E H Ha (match Bm x y with|some b=>.ok (.bl (if neg then !b else b))|none=>.stuck) Q):vC X.K neg v u H Q∨AI neg v u H Q:=by
 cases y with
 |lst ds=>
  simp only[Bm]at q
  by_cases c:bg 40 x=true/\ds.all (bg 40)=true
  .rw[if_pos c]at q
   exact .inl ⟨x,ds,r1.mono hs,.inl (r2.mono hs),c.1,c.2,q _ H Ha (bH.refl hs) (aH.mpr rfl)⟩
  .rw[if_neg c]at q;exact q.elim
 |tup ds=>
  simp only[Bm]at q
  by_cases c:bg 40 x=true/\ds.all (bg 40)=true
  .rw[if_pos c]at q
   exact .inl ⟨x,ds,r1.mono hs,.inr (r2.mono hs),c.1,c.2,q _ H Ha (bH.refl hs) (aH.mpr rfl)⟩
  .rw[if_neg c]at q;exact q.elim
 |str j=>
  cases x with|str i=>exact .inr ⟨i,j,Rep.str_iff.mp r1,Rep.str_iff.mp r2,q _ H Ha (bH.refl hs) (aH.mpr rfl)⟩| _=>exact q.elim
 |_=>exact q.elim
def A2:zM X.K E (λv u H Q=>vC X.K false v u H Q∨AI false v u H Q) B7:=λx y v u H Ha Q hs r1 r2 q=>uq (neg:=false) (E:=E) hs r1 r2 (by
 unfold B7 at q;cases e:Bm x y with
 |none=>rw[e]at q;exact q
 |some b=>rw[e]at q;exact q)
def iM:zM X.K E (λv u H Q=>vC X.K true v u H Q∨AI true v u H Q) du:=λx y v u H Ha Q hs r1 r2 q=>uq (neg:=true) (E:=E) hs r1 r2 (by
 unfold du at q;cases e:Bm x y with
 |none=>rw[e]at q;exact q
 |some b=>rw[e]at q;exact q)
end
@[irreducible] def B9:Nat:=2 ^ 9000
@[irreducible] def Cz:Nat:=2 ^ 13500
@[irreducible] def CG:Nat:=2 ^ 60000
theorem yI:B9=2 ^ 9000:=by unfold B9;rfl
def Cy:Cz=2 ^ 13500:=by unfold Cz;rfl
def wZ:CG=2 ^ 60000:=by unfold CG;rfl
def oG{n k:Nat}(h:n<2 ^ k)(hk:0<k):n.log2<k:=by
 by_cases h0:n=0
 .rw[h0]
  have:Nat.log2 0=0:=by decide
  omega
 .exact(Nat.log2_lt h0).mpr h
def Kg{x y:Int}(h:y.natAbs<B9):Builtin.divisionGoesByPylong x y=false:=by
 rw[yI]at h;exact PyProof.noPylong_of_log2 (oG h (by omega))
def Hj{x y:Int}(h:x.natAbs<Cz):Builtin.divisionGoesByPylong x y=false:=by
 rw[Cy]at h;have hx:x.natAbs.log2<13500:=oG h (by omega);show(decide ((if y==0 then 0 else y.natAbs.log2 / 30+1) > 300)&&decide ((if x==0 then 0 else x.natAbs.log2 / 30+1) > (if y==0 then 0 else y.natAbs.log2 / 30+1)+150))=false;have k:(if x==0 then 0 else x.natAbs.log2 / 30+1)<=450:=by
  by_cases hx0:(x==0)=true
  .rw[if_pos hx0];omega
  .rw[if_neg hx0];omega
 by_cases c:(if y==0 then 0 else y.natAbs.log2 / 30+1) > 300
 .rw[Bool.and_eq_false_iff];right;exact decide_eq_false (by omega)
 .rw[Bool.and_eq_false_iff];left;exact decide_eq_false c
def jF(i j:Int):Bool:=decide (j≠0)&&(decide (j.natAbs<B9)||decide (i.natAbs<Cz))
def ia(i j:Int):Bool:=decide (i.natAbs<CG)&&decide (j.natAbs<CG)
def jF.ok{i j:Int}(h:jF i j=true):j≠0/\Builtin.divisionGoesByPylong i j=false:=by
 unfold jF at h;rw[Bool.and_eq_true,Bool.or_eq_true]at h;refine⟨of_decide_eq_true h.1,?_⟩;rcases h.2 with h|h
 .exact Kg (of_decide_eq_true h)
 .exact Hj (of_decide_eq_true h)
def ia.ok{i j:Int}(h:ia i j=true):IntMulOk i j:=by
 unfold ia at h;rw[Bool.and_eq_true]at h;have h1:=of_decide_eq_true h.1;have h2:=of_decide_eq_true h.2;rw[wZ]at h1 h2;exact PyProof.Rows.mulOk_of_bits (m:=60000) (n:=60000) (PySem.intBits_le_iff.mpr h1) (PySem.intBits_le_iff.mpr h2) (by decide)
section
variable {X:Cx}{E:XK}{e a b c:Expr}{es:List Expr}{f g k:am}{fa:Ev->au (ac)}{pos:Pos}
def cB{K:W.Frag}{H Ha:Hp}{d:D}{v:V}{Q:VK}(hs:aE Ha H)(q:post K E H Ha (.ok d) Q)(r:Rep K Ha d v):Q v H:=q v H Ha (bH.refl hs) r
def uC(c:Int->Int->Bool)(g:Int->Int->D)(x y:D):au D:=match x,y with
 |.int i,.int j=>if c i j=true then .ok (g i j) else .stuck
 |_,_=>.stuck
def vP{C:Int->Int->Prop}{c:Int->Int->Bool}{gv:Int->Int->V}{g:Int->Int->D}(hc:∀i j,c i j=true->C i j)(hg:∀K H i j,Rep K H (g i j) (gv i j)):zM X.K E (rI C gv) (uC c g):=by
 intro x y v u H Ha Q hs r1 r2 q;unfold uC at q;cases x with
 |int i=>
  cases y with
  |int j=>
   by_cases h:c i j=true
   .simp only[if_pos h]at q
    exact⟨i,j,aA.mp r1,aA.mp r2,hc i j h,cB hs q (hg _ _ i j)⟩
   .simp only[if_neg h]at q;exact q.elim
  |_=>exact q.elim
 |_=>exact q.elim
def bK{gv:Int->Int->V}{g:Int->Int->D}(hg:∀K H i j,Rep K H (g i j) (gv i j)):zM X.K E (CA gv) (uC (λ_ _=>true) g):=by
 intro x y v u H Ha Q hs r1 r2 q;unfold uC at q;cases x with
 |int i=>
  cases y with|int j=>simp only[if_pos]at q;exact⟨i,j,aA.mp r1,aA.mp r2,cB hs q (hg _ _ i j)⟩| _=>exact q.elim
 |_=>exact q.elim
def ri{K:W.Frag}{H:Hp}(n:Int):Rep K H (.int n) (.int n):=aA.mpr rfl
def rb{K:W.Frag}{H:Hp}(n:Bool):Rep K H (.bl n) (.bl n):=aH.mpr rfl
abbrev lP:=uC (λ_ _=>true) λi j=>.int (i-j)
abbrev mn:=uC jF λi j=>.int (i.fdiv j)
abbrev cp:=uC (λ_ j=>decide (j≠0)) λi j=>.int (i.fmod j)
abbrev gP:=uC (λi j=>decide (0<=j)&&decide (j<=1000000)&&decide (i.natAbs<18446744073709551616)) λi j=>.int (i ^ j.toNat)
abbrev uW:=uC (λ_ _=>true) λi j=>.bl (decide (i<j))
abbrev IL:=uC (λ_ _=>true) λi j=>.bl (decide (i<=j))
abbrev sV:=uC (λ_ _=>true) λi j=>.bl (decide (j<i))
abbrev F5:=uC (λ_ _=>true) λi j=>.bl (decide (j<=i))
def DD:gf X (binaryOp .Mult) (rI IntMulOk λi j=>.int (i*j)):=Lh λ_ _ _ _ _ _ _ hc q=>mul_int q hc
def DK:gf X (binaryOp .FloorDiv) (rI (λi j=>j≠0/\Builtin.divisionGoesByPylong i j=false) λi j=>.int (i.fdiv j)):=Lh λ_ _ _ _ _ _ _ hc q=>floordiv_int hc.1 q (.inl hc.2)
def jr(ha:DE X E a f)(hb:DE X E b g):DE X E (.BinOp a .Sub b pos) (ae f g lP):=pd G7 (bK λ_ _ _ _=>ri _) ha hb
def ml(ha:DE X E a f)(hb:DE X E b g):DE X E (.BinOp a .FloorDiv b pos) (ae f g mn):=pd DK (vP (λ_ _ h=>jF.ok h) λ_ _ _ _=>ri _) ha hb
def bT(ha:DE X E a f)(hb:DE X E b g):DE X E (.BinOp a .Mod b pos) (ae f g cp):=pd DH (vP (λ_ _ h=>of_decide_eq_true h) λ_ _ _ _=>ri _) ha hb
def iC(ha:DE X E a f)(hb:DE X E b g):DE X E (.BinOp a .Pow b pos) (ae f g gP):=pd G9 (vP (λi j h=>by
 rw[Bool.and_eq_true,Bool.and_eq_true]at h;exact⟨of_decide_eq_true h.1.1,of_decide_eq_true h.1.2,of_decide_eq_true h.2⟩) λ_ _ _ _=>ri _) ha hb
def nm{op:CmpOp}{b:Expr}(h1:op≠.In:=by decide)(h2:op≠.NotIn:=by decide):behindInMarks op b=false:=A4 _ h1 h2
def uV(x:D):au D:=match x with
 |.int i=>.ok (.int (-i))
 |_=>.stuck
def pf(ha:DE X E a f):DE X E (.UnaryOp .USub a pos) (bf f uV):=KS Gv (by
 intro x v H Ha Q hs r q;cases x with
 |int i=>exact⟨i,aA.mp r,cB hs q (ri _)⟩
 |_=>exact q.elim) ha
def xN:gf X (binaryOp .Add) (λx y H Q=>∃l b xs zs,x=.ref l/\y=.ref b/\fL X.K H l xs/\fL X.K H b zs/\xs.length+zs.length<=sizeLine/\∀p,H p=none->Q (.ref p) (upd H p (.lst (xs++zs)))):=by
 intro pins s σ H x y v u Q I rx ry h;obtain⟨l,b,xs,zs,rfl,rfl,hH,hB,hz,q⟩:=h;cases rx;cases ry;obtain⟨its,r,pl,z⟩:=I.list hH;obtain⟨its2,r2,pl2,z2⟩:=I.list hB;obtain⟨⟨cls,dd,data,sl⟩,ho,hc,n,hd⟩:=pl.isList;obtain⟨⟨cls2,dd2,data2,sl2⟩,ho2,hc2,n2,hd2⟩:=pl2.isList;simp only at hc hd hc2 hd2;subst hc hd hc2 hd2;have e:its.toArray++its2.toArray=(its++its2).toArray:=by simp
 have l1:=r.length;have l2:=r2.length;refine concat_meets ⟨_,ho,rfl⟩ ⟨_,ho2,rfl⟩ noFill_list_add seq_list_add PySem.F.slot_list_add PySem.F.entry_list_add (PySem.F.args_list_add_2 _ _) (list_addW l b its.toArray its2.toArray n n2 dd dd2 sl sl2 (by simp only[List.size_toArray];omega)) ⟨ho,ho2,?_⟩;rw[e];exact⟨.ref _,_,I.lnew (t':=s.toks) (r.append r2) (by rw[List.length_append];omega),rfl,q _ I.fresh⟩
noncomputable def bC(x y:D):au D:=match x,y with
 |.int i,.int j=>.ok (.int (i+j))
 |.str i,.str j=>if i.length+j.length<=line then .ok (.str (i++j)) else .stuck
 |.lst ds,.lst es=>if ds.length+es.length<=line then .ok (.lst (ds++es)) else .stuck
 |.tup ds,.tup es=>if ds.isEmpty=false/\ds.length+es.length<=line then .ok (.tup (ds++es)) else .stuck
 |_,_=>.stuck
def bc(ha:DE X E a f)(hb:DE X E b g):DE X E (.BinOp a .Add b pos) (ae f g bC):=pd (gf.or Hd (gf.or vN (gf.or xN xM))) (by
 intro x y v u H Ha Q hs r1 r2 q;unfold bC at q;cases x with
 |int i=>
  cases y with|int j=>exact .inl ⟨i,j,aA.mp r1,aA.mp r2,cB hs q (ri _)⟩| _=>exact q.elim
 |str i=>
  cases y with
  |str j=>
   by_cases h:i.length+j.length<=line
   .simp only[if_pos h]at q
    exact .inr (.inl ⟨i,j,Rep.str_iff.mp r1,Rep.str_iff.mp r2,dS h,cB hs q (Rep.str_iff.mpr rfl)⟩)
   .simp only[if_neg h]at q;exact q.elim
  |_=>exact q.elim
 |lst ds=>
  cases y with
  |lst es=>
   by_cases h:ds.length+es.length<=line
   .simp only[if_pos h]at q
    obtain⟨l,vs,rfl,h1,h2⟩:=aC.mp r1;obtain⟨m,us,rfl,k1,k2⟩:=aC.mp r2;refine .inr (.inr (.inl ⟨l,m,vs,us,rfl,rfl,aE.sqL hs h1,aE.sqL hs k1,by rw[←h2.length,←k2.length];exact dS h,λp hp=>?_⟩));exact q _ _ _ (aO hs hp) (aC.mpr ⟨p,_,rfl,fL.of aF,(h2.app k2).mono (aO hs hp).z⟩)
   .simp only[if_neg h]at q;exact q.elim
  |_=>exact q.elim
 |tup ds=>
  cases y with
  |tup es=>
   by_cases h:ds.isEmpty=false/\ds.length+es.length<=line
   .simp only[if_pos h]at q
    obtain⟨l,vs,rfl,h1,h2⟩:=aB.mp r1;obtain⟨m,us,rfl,k1,k2⟩:=aB.mp r2;refine .inr (.inr (.inr ⟨l,m,vs,us,rfl,rfl,aE.sqT hs h1,aE.sqT hs k1,λz=>?_,by rw[←h2.length,←k2.length];exact dS h.2,λz=>?_,λz p hp=>?_⟩))
    .have:=h2.length
     rw[z]at this;have e:ds=[]:=List.length_eq_zero_iff.mp this;rw[e]at h;exact absurd h.1 (by decide)
    .have:=k2.length
     rw[z]at this;have e:es=[]:=List.length_eq_zero_iff.mp this;rw[e,List.append_nil]at q;exact cB hs q r1
    .exact q _ _ _ (aO hs hp) (aB.mpr ⟨p,_,rfl,iZ.of aF,(h2.app k2).mono (aO hs hp).z⟩)
   .simp only[if_neg h]at q;exact q.elim
  |_=>exact q.elim
 |_=>exact q.elim) ha hb
noncomputable def aP(x y:D):au D:=match y with
 |.int i=>match x with
  |.lst ds=>match atI ds i with
   |some d=>.ok d
   |none=>.stuck
  |.tup ds=>match atI ds i with
   |some d=>.ok d
   |none=>.stuck
  |.str z=>if z.length<=line then match atI z.cps.toList i with
   |some c=>.ok (.str ⟨#[c]⟩)
   |none=>.stuck else .stuck
  |_=>.stuck
 |_=>.stuck
def Reps.atI{K:W.Frag}{H:Hp}{ds:ac}{vs:al}{i:Int}{d:D}(h:Reps K H ds vs)(e:atI ds i=some d):∃v,L2.atI vs i=some v/\Rep K H d v:=by
 unfold L2.atI at e ⊢;rw[←h.length];cases q:uA ds.length i with
 |none=>rw[q]at e;cases e
 |some j=>
  rw[q]at e;exact h.get e
def Kc:zM X.K E (MB X.K) aP:=by
 intro x y v u H Ha Q hs r1 r2 q;unfold aP at q;cases y with
 |int i=>
  cases x with
  |lst ds=>
   obtain⟨l,vs,rfl,h1,h2⟩:=aC.mp r1;cases e:atI ds i with
   |none=>simp only[e]at q;exact q.elim
   |some d=>
    simp only[e]at q;obtain⟨w,e1,e2⟩:=h2.atI e;exact .inl ⟨l,vs,i,w,rfl,aA.mp r2,aE.sqL hs h1,e1,cB hs q e2⟩
  |tup ds=>
   obtain⟨l,vs,rfl,h1,h2⟩:=aB.mp r1;cases e:atI ds i with
   |none=>simp only[e]at q;exact q.elim
   |some d=>
    simp only[e]at q;obtain⟨w,e1,e2⟩:=h2.atI e;exact .inr (.inl ⟨l,vs,i,w,rfl,aA.mp r2,aE.sqT hs h1,e1,cB hs q e2⟩)
  |str z=>
   by_cases hz:z.length<=line
   .simp only[if_pos hz]at q
    cases e:atI z.cps.toList i with
    |none=>simp only[e]at q;exact q.elim
    |some c=>
     simp only[e]at q;exact .inr (.inr ⟨z,i,c,Rep.str_iff.mp r1,aA.mp r2,dS hz,e,cB hs q (Rep.str_iff.mpr rfl)⟩)
   .simp only[if_neg hz]at q;exact q.elim
  |_=>exact q.elim
 |_=>exact q.elim
def ao(ha:DE X E a f)(hb:DE X E b g)(hs:jz b:=by intro _ _;rfl):DE X E (.Subscript a b pos) (ae f g aP):=KU Hw Kc ha hb hs
def cT:Ev->au (Option Int):=λ_=>.ok none
def bN(f:am):Ev->au (Option Int):=λρ=>(f ρ).bind λx=>match x with
 |.int i=>.ok (some i)
 |_=>.stuck
def LM(K:W.Frag)(E:XK)(f:Ev->au (Option Int)):TO:=λσ H Q=>∃Ha ρ,aE Ha H/\eu K Ha σ ρ/\match f ρ with
 |.ok o=>∀H' Ha',bH H Ha H' Ha'->Q o H'
 |.exn x=>∀C ox H' Ha',bH H Ha H' Ha'->vm K Ha' x C ox->E C ox H'
 |.stuck=>False
structure DO (X:Cx) (E:XK) (e:Option Expr) (f:Ev->au (Option Int)):Prop where
 o:PO X e (LM X.K E f)
def xE{eo:Option Expr}{t t':TO}(h:PO X eo t)(w:∀σ H Q,t' σ H Q->t σ H Q):PO X eo t':=λpins s σ H Q I q=>h pins s σ H Q I (w σ H Q q)
def cw:DO X E none cT:=⟨xE Du λσ H Q ⟨Ha,ρ,hs,hr,q⟩=>q H Ha (bH.refl hs)⟩
def bq(ha:DE X E a f):DO X E (some a) (bN f):=by
 refine⟨?_⟩;refine xE (Dt ha.o) λσ H Q z9=>?_;obtain⟨Ha,ρ,hs,hr,q⟩:=z9;refine⟨Ha,ρ,hs,hr,?_⟩
 unfold bN at q;cases e1:f ρ with
 |stuck|exn x=>rw[e1]at q;exact q
 |ok d=>
  rw[e1]at q;intro v H1 H01 g1 r1;cases d with|int i=>exact⟨i,aA.mp r1,q H1 H01 g1⟩| _=>exact q.elim
def gk(xs:ac)(lo hi:Option Int):ac:=(xs.drop (HT.sIx xs.length 0 lo)).take (HT.sIx xs.length xs.length hi-HT.sIx xs.length 0 lo)
def Reps.cut{K:W.Frag}{H:Hp}{ds:ac}{vs:al}(h:Reps K H ds vs)(lo hi:Option Int):Reps K H (gk ds lo hi) (uX vs lo hi):=by
 unfold gk uX;rw[←h.length];exact(h.drop _).take _
def mz{r:V->Option Int->Option Int->Hp->VK->Prop}{lo hi:Ev->au (Option Int)}{m:D->Option Int->Option Int->au D}
  (ho:∀x v l h H Ha Q,aE Ha H->Rep X.K Ha x v->post X.K E H Ha (m x l h) Q->r v l h H Q)(σ:L2.St)(H:Hp)(Q:VK)
  (h:tD X.K E (λρ=>(f ρ).bind λx=>(lo ρ).bind λl=>(hi ρ).bind λh=>m x l h) σ H Q):My r (tD X.K E f) (LM X.K E lo) (LM X.K E hi) σ H Q:=by
 obtain⟨Ha,ρ,hs,hr,q⟩:=h;refine⟨Ha,ρ,hs,hr,?_⟩;replace q:post X.K E H Ha ((f ρ).bind λx=>(lo ρ).bind λl=>(hi ρ).bind λh=>m x l h) Q:=q;cases e1:f ρ with
 |stuck|exn x=>rw[e1]at q;exact q
 |ok x=>
  rw[e1]at q;intro v H1 H01 g1 r1;refine⟨H01,ρ,g1.sub,hr.mono g1.z,?_⟩;replace q:post X.K E H Ha ((lo ρ).bind λl=>(hi ρ).bind λh=>m x l h) Q:=q;replace q:=q.grow g1;cases e2:lo ρ with
  |stuck|exn x=>rw[e2]at q;exact q
  |ok l=>
   rw[e2]at q;intro H2 H02 g2;refine⟨H02,ρ,g2.sub,(hr.mono g1.z).mono g2.z,?_⟩;replace q:post X.K E H1 H01 ((hi ρ).bind λh=>m x l h) Q:=q;replace q:=q.grow g2;cases e3:hi ρ with
   |stuck|exn x=>rw[e3]at q;exact q
   |ok h=>
    rw[e3]at q;intro H3 H03 g3;exact ho x v l h H3 H03 Q g3.sub ((r1.mono g2.z).mono g3.z) (post.grow (r:=m x l h) q g3)
def m1(m:D->au D)(ds:ac):au D:=match ds with
 |[x]=>m x
 |_=>.stuck
def m2(m:D->D->au D)(ds:ac):au D:=match ds with
 |[x,y]=>m x y
 |_=>.stuck
def u0{r:al->Hp->VK->Prop}{m:D->au D}(h:∀x v H Ha Q,aE Ha H->Rep X.K Ha x v->post X.K E H Ha (m x) Q->r [v] H Q):kL X E r (m1 m):=by
 intro ds vs H Ha Q hs hr q;unfold m1 at q
 match ds,hr,q with
 |[x],hr,q=>
  obtain⟨v,r',rfl,h1,h2⟩:=az.mp hr;rw[Reps.nil_iff.mp h2];exact h x v H Ha Q hs h1 q
 |[],_,q=>exact q.elim
 |_::_::_,_,q=>exact q.elim
def K1{r:al->Hp->VK->Prop}{m:D->D->au D}(h:∀x y v u H Ha Q,aE Ha H->Rep X.K Ha x v->Rep X.K Ha y u->post X.K E H Ha (m x y) Q->r [v,u] H Q):kL X E r (m2 m):=by
 intro ds vs H Ha Q hs hr q;unfold m2 at q
 match ds,hr,q with
 |[x,y],hr,q=>
  obtain⟨v,r',rfl,h1,h2⟩:=az.mp hr;obtain⟨u,r'',rfl,h3,h4⟩:=az.mp h2;rw[Reps.nil_iff.mp h4];exact h x y v u H Ha Q hs h1 h3 q
 |[],_,q=>exact q.elim
 |[_],_,q=>exact q.elim
 |_::_::_::_,_,q=>exact q.elim
def Fn(x:D):au D:=match x with
 |.int i=>.ok (.int (if i<0 then -i else i))
 |_=>.stuck
def KY(x y:D):au D:=match x,y with
 |.int i,.int j=>.ok (.int (if j > i then j else i))
 |_,_=>.stuck
def dH(x:D):au D:=match x with
 |.lst ds=>.ok (.int ds.length)
 |.tup ds=>.ok (.int ds.length)
 |.str z=>if z.length<=line then .ok (.int z.length) else .stuck
 |_=>.stuck
def gj(x:D):au D:=match x with
 |.int i=>.ok (.int i)
 |.bl b=>.ok (.int (if b then 1 else 0))
 |_=>.stuck
def eC(x:D):au D:=match x with
 |.lst ds=>.ok (.lst ds)
 |.tup ds=>.ok (.lst ds)
 |_=>.stuck
def wQ:kL X E (λxs H Q=>∃i,xs=[.int i]/\Q (.int (if i<0 then -i else i)) H) (m1 Fn):=u0 λx v H Ha Q hs r q=>by
 cases x with|int i=>exact⟨i,by rw[aA.mp r],cB hs q (ri _)⟩| _=>exact q.elim
def IQ:kL X E (λxs H Q=>∃i j,xs=[.int i,.int j]/\Q (.int (if j > i then j else i)) H) (m2 KY):=K1 λx y v u H Ha Q hs r r' q=>by
 cases x with
 |int i=>
  cases y with|int j=>exact⟨i,j,by rw[aA.mp r,aA.mp r'],cB hs q (ri _)⟩| _=>exact q.elim
 |_=>exact q.elim
def cD:kL X E (λxs H Q=>∃x n,xs=[x]/\Lb X.K x H n/\Q (.int n) H) (m1 dH):=u0 λx v H Ha Q hs r q=>by
 cases x with
 |lst ds=>
  obtain⟨p,vs,rfl,h1,h2⟩:=aC.mp r;refine⟨_,vs.length,rfl,.inl ⟨vs,aE.sqL hs h1,rfl⟩,?_⟩;rw[←h2.length];exact cB hs q (ri _)
 |tup ds=>
  obtain⟨p,vs,rfl,h1,h2⟩:=aB.mp r;refine⟨_,vs.length,rfl,.inr ⟨vs,aE.sqT hs h1,rfl⟩,?_⟩;rw[←h2.length];exact cB hs q (ri _)
 |str z=>
  unfold dH at q
  by_cases hz:z.length<=line
  .simp only[if_pos hz]at q
   rw[Rep.str_iff.mp r];exact⟨_,z.length,rfl,⟨dS hz,rfl⟩,cB hs q (ri _)⟩
  .simp only[if_neg hz]at q;exact q.elim
 |_=>exact q.elim
def wO:kL X E (λxs H Q=>(∃i,xs=[.int i]/\Q (.int i) H)∨∃k,xs=[.bl k]/\Q (.int (if k then 1 else 0)) H) (m1 gj):=u0 λx v H Ha Q hs r q=>by
 cases x with|int i=>exact .inl ⟨i,by rw[aA.mp r],cB hs q (ri _)⟩|bl i=>exact .inr ⟨i,by rw[aH.mp r],cB hs q (ri _)⟩| _=>exact q.elim
def nF:kL X E (λxs H Q=>∃p ys,xs=[.ref p]/\(fL X.K H p ys∨iZ X.K H p ys)/\∀l,H l=none->Q (.ref l) (upd H l (.lst ys))) (m1 eC):=u0 λx v H Ha Q hs r q=>by
 cases x with
 |lst ds=>
  obtain⟨p,vs,rfl,h1,h2⟩:=aC.mp r;exact⟨p,vs,rfl,.inl (aE.sqL hs h1),λn hn=>q _ _ _ (aO hs hn) (aC.mpr ⟨n,_,rfl,fL.of aF,h2.mono (aO hs hn).z⟩)⟩
 |tup ds=>
  obtain⟨p,vs,rfl,h1,h2⟩:=aB.mp r;exact⟨p,vs,rfl,.inr (aE.sqT hs h1),λn hn=>q _ _ _ (aO hs hn) (aC.mpr ⟨n,_,rfl,fL.of aF,h2.mono (aO hs hn).z⟩)⟩
 |_=>exact q.elim
def gO{T:String}{r:al->Hp->VK->Prop}{m:ac->au D}{x:Str}{p:Pos}(hc:jG X (.type T) r)(hd:kL X E r m)(hg:Gl X x)(hm:X.mg x=none)(hv:bootBuiltins x=some (.type T))(ha:DA X E (e::es) fa)(hn:x≠"__name__":=by decide)(hdb:(x==("__debug__":Str))=false:=by decide)
  (he:starEach (e::es) X.env=(false,eval e X.env)::starEach es X.env:=by exact aN rfl)(hpl:(backTo pos (starEach es X.env)).any (·.1)=false:=by exact bD rfl):DE X E (.Call (.Name x p) (e::es) [] pos) (ar fa m) :=
 ⟨bp (qr hc hg hm hv ha.o hn hdb he hpl) (kC hd)⟩
def nD{x:Expr}{p:Pos}(hg:Gl X "list")(hm:X.mg "list"=none)(ha:DA X E [x] fa)(he:starEach [x] X.env=(false,eval x X.env)::starEach [] X.env:=by exact aN rfl)(hpl:(backTo pos (starEach [] X.env)).any (·.1)=false:=by exact bD rfl) :
  DF X E (.Call (.Name "list" p) [x] [] pos) (ar fa (m1 eC)):=by
 refine⟨?_⟩;refine bp (qr fH hg hm PyProof.Rows.Boot.«list» ha.o (by decide) (by decide) he hpl) λσ H Q h=>?_;obtain⟨Ha,ρ,hs,hr,q⟩:=h;refine⟨Ha,ρ,hs,hr,?_⟩;unfold ar at q;cases e1:fa ρ with
 |stuck|exn x=>rw[e1]at q;exact q
 |ok ds=>
  rw[e1]at q;intro vs H1 H01 g1 r1;have fin:∀(es:ac) (us:al) (p:Addr),m1 eC ds=.ok (.lst es)->H1 p=none->Reps X.K H01 es us->Q (.ref p) (upd H1 p (.lst us)):=λes us p hm hp hu=>by
   have h0:H01 p=none:=g1.sub.free hp;have q':∀p vs H' Ha',bH H Ha H' Ha'->H p=none->Ha' p=none->H' p=some (.lst vs)->Reps X.K Ha' es vs->Q (.ref p) H':=by
    have q2:match m1 eC ds with
     |.ok (.lst ds)=>∀p vs H' Ha',bH H Ha H' Ha'->H p=none->Ha' p=none->H' p=some (.lst vs)->Reps X.K Ha' ds vs->Q (.ref p) H'
     |.ok _=>False
     |.exn x=>∀C ox H' Ha',bH H Ha H' Ha'->vm X.K Ha' x C ox->E C ox H'
     |.stuck=>False:=q
    rw[hm]at q2;exact q2
   refine q' p us _ H01 (g1.trans ⟨λb o q=>by rw[aD (aY q hp)];exact q,aE.refl _,λb o q=>?_,λa h1 h2=>absurd h2 h1⟩) (g1.s.free hp) h0 aF hu;rw[aD (by intro z;subst z;rw[h0]at q;cases q)];exact g1.sub _ _ q
  have q2:match m1 eC ds with
     |.ok (.lst ds)=>∀p vs H' Ha',bH H Ha H' Ha'->H p=none->Ha' p=none->H' p=some (.lst vs)->Reps X.K Ha' ds vs->Q (.ref p) H'
     |.ok _=>False
     |.exn x=>∀C ox H' Ha',bH H Ha H' Ha'->vm X.K Ha' x C ox->E C ox H'
     |.stuck=>False:=q
  match ds,r1,q2,fin with
  |[],_,q2,_=>exact q2.elim
  |_::_::_,_,q2,_=>exact q2.elim
  |[x],r1,q2,fin=>
   obtain⟨v,r',rfl,h1,h2⟩:=az.mp r1;rw[Reps.nil_iff.mp h2];cases x with
   |lst ds=>
    obtain⟨p,vs,rfl,k1,k2⟩:=aC.mp h1;exact⟨p,vs,rfl,.inl (aE.sqL g1.sub k1),λn hn=>fin ds vs n rfl hn k2⟩
   |tup ds=>
    obtain⟨p,vs,rfl,k1,k2⟩:=aB.mp h1;exact⟨p,vs,rfl,.inr (aE.sqT g1.sub k1),λn hn=>fin ds vs n rfl hn k2⟩
   |_=>exact q2.elim
def oQ:D->Bool
 |.non=>true
 |_=>false
def wK(x y:D):au D:=match y with
 |.non=>.ok (.bl (oQ x))
 |_=>.stuck
def Rep.is_non{K:W.Frag}{H:Hp}{x:D}{v:V}(r:Rep K H x v):decide (v=.non)=oQ x:=by
 cases x with|non=>rw[aS.mp r];rfl|bl b=>rw[aH.mp r];rfl|int b=>rw[aA.mp r];rfl|str b=>rw[Rep.str_iff.mp r];rfl|tup ds=>obtain⟨_,_,e,_⟩:=aB.mp r;rw[e];rfl|lst ds=>obtain⟨_,_,e,_⟩:=aC.mp r;rw[e];rfl|dic ks ds=>rw[Rep]at r;obtain⟨_,_,_,e,_⟩:=r;rw[e];rfl|exc x=>obtain⟨_,_,_,e,_⟩:=ff.mp r;rw[e];rfl|ob k x=>obtain⟨_,_,e,_⟩:=bX.mp r;rw[e];rfl
def vO:zM X.K E (λx y H Q=>y=.non/\Q (.bl (decide (x=.non))) H) wK:=by
 intro x y v u H Ha Q hs r1 r2 q;unfold wK at q;cases y with|non=>exact⟨aS.mp r2,by rw[r1.is_non];exact cB hs q (rb _)⟩| _=>exact q.elim
noncomputable def vi:D->String
 |.non=>"NoneType"
 |.bl _=>"bool"
 |.int _=>"int"
 |.str _=>"str"
 |.tup _=>"tuple"
 |.lst _=>"list"
 |.dic _ _=>"dict"
 |.exc _=>"<exc>"
 |.ob (.ins _ _) _=>"<exc>"
 |.ob (.dint _) _=>"dict"
 |.ob (.exf _ _) _=>"<exc>"
 |.ob .pl _=>"list"
def ez(T:String)(x:D):au D:=.ok (.bl (vi x==T||(vi x=="bool"&&T=="int")))
def pK(K:W.Frag)(T:String):Prop:=∀S,S∈["NoneType","bool","int","str","tuple","list","dict"]->W.kitOne K (.type S) (.type T)=some (S==T||(S=="bool"&&T=="int"))
def Bk{pins:List (Addr×Obj)}{σ:L2.St}{H:Hp}{s:Shared}{A:Around}{Q:Value->Shared->Prop}{x:D}{v:V}{u:Value}{T:String}(I:Inv X pins σ H s)(r:Rep X.K H x v)(q:bY v u)(hk:pK X.K T)(hT:T∈gp)(h:∀tk,Q (.bool (vi x==T||(vi x=="bool"&&T=="int"))) { s with toks:=tk }) :
  wpAny (model X.prog X.w) A (call (.builtin "isinstance") [u,.type T]) Q X.xe s:=by
 cases x with
 |non=>rw[aS.mp r]at q;exact iN I q .non (hk _ (by simp)) h|bl b=>rw[aH.mp r]at q;exact iN I q (.bl b) (hk _ (by simp)) h|int b=>rw[aA.mp r]at q;exact iN I q (.int b) (hk _ (by simp)) h|str b=>rw[Rep.str_iff.mp r]at q;exact iN I q (.str b) (hk _ (by simp)) h
 |tup ds=>
  obtain⟨a,vs,its,rfl,rfl,h1,h2,h3,h4,_⟩:=bE I r q;obtain⟨o,k1,k2,_⟩:=h4;exact W.kia_one W.kitx_tuple I.kIn ⟨o,k1,k2⟩ (hk _ (by simp)) (λz=>nomatch z) h
 |lst ds=>
  obtain⟨a,vs,its,rfl,rfl,h1,h2,h3,h4,_⟩:=br I r q;obtain⟨o,k1,k2,_⟩:=h4;exact W.kia_one W.kitx_list I.kIn ⟨o,k1,k2⟩ (hk _ (by simp)) (λz=>nomatch z) h
 |dic ks ds=>
  rw[Rep]at r;obtain⟨a,kvs,vs,rfl,h1,h2,_⟩:=r;cases (show u=Value.ref a from q);obtain⟨_,_,vs',_,p⟩:=h1.ok I.hok;obtain⟨o,es,ep,k1,k2,_⟩:=p;exact W.kia_one W.kitx_dict I.kIn ⟨o,k1,k2.1⟩ (hk _ (by simp)) (λz=>nomatch z) h
 |exc x=>
  obtain⟨a,C,dc,rfl,hc,h1⟩:=ff.mp r;cases (show u=Value.ref a from q);obtain⟨p,_,_⟩:=h1.ok I.hok;have e:(vi (.exc x)==T||(vi (.exc x)=="bool"&&T=="int"))=false:=by
   have:∀T∈gp,(vi (.exc x)==T||(vi (.exc x)=="bool"&&T=="int"))=false:=by show ∀T∈gp,("<exc>"==T||("<exc>"=="bool"&&T=="int"))=false;decide
   exact this T hT
  rw[e]at h;exact W.kia_one (lE hc.ek hc.ek.isCls) I.kIn p (hc.bt T hT) (λz=>nomatch z) h
 |ob k xs=>
  obtain⟨a,vs,rfl,h1,_⟩:=bX.mp r;cases (show u=Value.ref a from q);cases k with
  |exf c ks=>
   obtain⟨C,dx,fs,hc,h2,_⟩:=h1;obtain⟨p,_,_⟩:=h2.ok I.hok;have e:(vi (.ob (.exf c ks) xs)==T||(vi (.ob (.exf c ks) xs)=="bool"&&T=="int"))=false:=by
    have:∀T∈gp,("<exc>"==T||("<exc>"=="bool"&&T=="int"))=false:=by decide
    exact this T hT
   rw[e]at h;exact W.kia_one (lE hc.ek hc.ek.isCls) I.kIn p (hc.bt T hT) (λz=>nomatch z) h
  |ins c ks=>
   obtain⟨C,dx,_,hc,h2,_⟩:=h1;obtain⟨mA,O,_⟩:=x8 I.hok h2;obtain⟨od,O',_⟩:=O.look;have e:(vi (.ob (.ins c ks) xs)==T||(vi (.ob (.ins c ks) xs)=="bool"&&T=="int"))=false:=by
    have:∀T∈gp,(vi (.ob (.ins c ks) xs)==T||(vi (.ob (.ins c ks) xs)=="bool"&&T=="int"))=false:=by show ∀T∈gp,("<exc>"==T||("<exc>"=="bool"&&T=="int"))=false;decide
    exact this T hT
   rw[e]at h;exact W.kia_one (W.kitx_own (hc.cls.get _) hc.cls.hd hc.gc hc.gn hc.tk hc.mo) I.kIn O' (hc.bt T hT) (λz=>nomatch z) h
  |dint ks=>
   obtain⟨kvs,h2,_⟩:=h1;obtain⟨_,_,vs',_,p⟩:=h2.ok I.hok;obtain⟨o,es,ep,k1,k2,_⟩:=p;exact W.kia_one W.kitx_dict I.kIn ⟨o,k1,k2.1⟩ (hk _ (by simp)) (λz=>nomatch z) h
  |pl=>exact iN I (show bY (.ref a) (Value.ref a) from rfl) (.lst h1) (hk _ (by simp)) h
def bF{T:String}{x:Str}{p1 p2:Pos}(hk:pK X.K T)(hgi:Gl X "isinstance")(hmi:X.mg "isinstance"=none)(hg:Gl X x)(hm:X.mg x=none)(hv:bootBuiltins x=some (.type T))(ha:DE X E a f)
  (hn:x≠"__name__":=by decide)(hdb:(x==("__debug__":Str))=false:=by decide)(hT:T∈gp:=by decide)
  (he:starEach [a,.Name x p2] X.env=(false,eval a X.env)::starEach [.Name x p2] X.env:=by exact aN rfl)(he2:starEach [.Name x p2] X.env=(false,eval (.Name x p2) X.env)::starEach [] X.env:=by exact aN rfl)(hpl:(backTo pos (starEach [.Name x p2] X.env)).any (·.1)=false:=by exact bD rfl) :
  DE X E (.Call (.Name "isinstance" p1) [a,.Name x p2] [] pos) (bf f (ez T)):=by
 refine⟨?_⟩;refine bp (lr (r:=λvs H Q=>∃d v,vs=[v,.ty T]/\Rep X.K H d v/\Q (.bl (vi d==T||(vi d=="bool"&&T=="int"))) H) ?_ hgi hmi PyProof.Rows.Boot.«isinstance» (dP ha.o (dP (xH (v:=.ty T) hg hm hv rfl hn hdb) gi he2) he) (by decide) (by decide) he hpl) λσ H Q ⟨Ha,ρ,hs,hr,q⟩=>⟨Ha,ρ,hs,hr,?_⟩
 .intro pins s σ H xs us Q I r h
  obtain⟨d,v,rfl,h1,q⟩:=h;cases r with
  |cons r1 r2=>
   cases r2 with
   |cons r3 r4=>
    cases r4;rename_i u1 u2;obtain rfl:u2=Value.type T:=r3;exact Bk I h1 r1 hk hT λtk=>⟨.bl _,H,I.tok _,rfl,q⟩
 .unfold bf at q
  cases e1:f ρ with
  |stuck|exn x=>rw[e1]at q;exact q
  |ok d=>
   rw[e1]at q;intro v H1 H01 g1 r1;exact⟨d,v,rfl,r1.mono g1.sub,q _ H1 H01 g1 (rb _)⟩
end
theorem qJ{prog:Program}{w:World}{A:Around}{E:Value->Shared->Prop}{it t:Addr}{items:Array Value}(hne:t≠it):∀(n i:Nat) (s:Shared) (Q:List Value->Shared->Prop),s.heap.IsListIter it t i->s.heap.IsList t items->i+n<=items.size ->
  (∀h',h'.IsListIter it t (i+n)->Heap.SameBut it s.heap h'->Q ((items.toList.drop i).take n) { s with heap:=h' })->wpAny (model prog w) A (draw (.ref it) n) Q E s
 |0,i,s,Q,hit,_,_,hQ=>by
  show wpAny _ _ (pure []) Q E s;exact wpAny_pure (by simpa using hQ s.heap hit (Heap.SameBut.refl ..))
 |n+1,i,s,Q,hit,ht,hle,hQ=>by
  have hlt:i<items.size:=by omega
  show wpAny _ _ (pyNext (.ref it) >>= _) Q E s;refine wpAny_bind (wpAny_pyNext_list_item hit ht (x:=items[i]) (by simp[hlt]) λh₁ hit₁ hs₁=>?_);have ht₁:h₁.IsList t items:=by
   obtain⟨o,k1,k2⟩:=ht;exact⟨o,(hs₁.2 t hne).trans k1,k2⟩
  refine wpAny_bind (wpAny_holding (qJ hne n (i+1) _ _ hit₁ ht₁ (by omega) λhG hit₂ hs₂=>wpAny_pure ?_));have hd:items.toList.drop i=items[i]::items.toList.drop (i+1):=by simp[List.drop_eq_getElem_cons,hlt]
  have:=hQ hG (by rw[show i+(n+1)=i+1+n by omega];exact hit₂) (hs₁.trans hs₂);rw[hd,List.take_succ_cons]at this;exact this
def l3{prog:Program}{w:World}{A:Around}{E:Value->Shared->Prop}{s:Shared}{t:Addr}{items:Array Value}{Q:List Value->Shared->Prop}(hh:A.handled=none)(ht:s.heap.IsList t items)
  (hQ:∀h',Heap.ExtBut s.heap.objs.size s.heap h'->Q items.toList { s with heap:=h' }):wpAny (model prog w) A (unpackItems (.ref t) items.size none) Q E s:=by
 have hlt:t≠s.heap.objs.size:=by obtain⟨o,ho,_⟩:=ht;exact Nat.ne_of_lt (Heap.lt_size ho)
 unfold unpackItems;refine wpAny_bind ?_
 .unfold notIterableAtAll
  refine wpAny_bind (wpAny_specialOf ht.typeIs slot_list_iter.lookup ?_);refine wpAny_pure ?_;simp only[Bool.false_eq_true,if_false];refine wpAny_bind (wpAny_holding (wpAny_pyIter_list ht ?_));have ht0:(s.heap.push { cls:=.type "list_iterator",data:=.fields #[.ref t,.int 0 0] }).IsList t items:=by
   obtain⟨o,k1,k2⟩:=ht;exact⟨o,Heap.get?_push_of_some _ k1,k2⟩
  refine wpAny_bind (wpAny_holding (qJ hlt items.size 0 _ _ ⟨_,Heap.get?_push_size _ rfl,rfl,rfl⟩ ht0 (by omega) λh₁ hit₁ hs₁=>?_));have hall:List.take items.size (List.drop 0 items.toList)=items.toList:=by
   rw[List.drop_zero];exact List.take_of_length_le (by simp)
  rw[hall];rw[if_neg (by simp)];have ht₁:h₁.IsList t items:=by
   obtain⟨o,k1,k2⟩:=ht0;exact⟨o,(hs₁.2 t hlt).trans k1,k2⟩
  refine wpAny_bind (wpAny_holding (wpAny_pyNext_list_end hh hit₁ ht₁ (by simp) λhG he₂=>?_));simp only[Option.isSome_none,Bool.false_eq_true,if_false];refine wpAny_pure (hQ hG λb o hb e=>he₂ b o hb (hs₁.extBut b o hb (Heap.get?_push_of_some _ e)))
def tT(σ:L2.St):cr->al->L2.St
 |i::is,v::vs=>tT (σ.set i (some v)) is vs
 |_,_=>σ
def bP(ρ:Ev):cr->ac->Ev
 |i::is,d::ds=>bP (ρ.set i (.sh d)) is ds
 |_,_=>ρ
theorem eG.putAll{K:W.Frag}{He H0e Ha H:Hp}:∀{is:cr}{ds:ac}{vs:al}{σ:L2.St}{ρ:Ev},eG K He H0e Ha σ H ρ->Reps K Ha ds vs->eG K He H0e Ha (tT σ is vs) H (bP ρ is ds)
 |[],_,_,_,_,h,_=>by unfold tT bP;exact h
 |_::_,[],_,_,_,h,r=>by rw[Reps.nil_iff.mp r];unfold tT bP;exact h
 |i::is,d::ds,_,_,_,h,r=>by
  obtain⟨v,vs,rfl,h1,h2⟩:=az.mp r;unfold tT bP;exact eG.putAll (h.put h1) h2
section
variable {X:Cx}{E:XK}{He H0e:Hp}{e a b:Expr}{es:List Expr}{f g:am}{fa:Ev->au (ac)}{pos:Pos}{is:cr}
def GF(is:cr):CC:=λvs σ H Q=>vs.length=is.length/\Q (tT σ is vs) H
def ua{t t':CC}(h:yH X es t)(w:∀vs σ H Q,t' vs σ H Q->t vs σ H Q):yH X es t':=λpins s σ H vs us Q I r q=>h pins s σ H vs us Q I r (w vs σ H Q q)
def jq:yH X [] (GF []):=ua Dy λvs σ H Q z9=>by
 obtain⟨h,q⟩:=z9;have e:vs=[]:=List.length_eq_zero_iff.mp h;subst e;exact⟨rfl,q⟩
def cu{i:Nat}{x:Str}{p:Pos}(hN:X.N.Nodup)(hi:X.N[i]?=some x)(hx:zQ X.env.scope x)(h:yH X es (GF is))(hf:X.fn x=true∨X.env.scope.names.lookup x=some .local := by first|exact .inl rfl|exact .inr rfl|assumption)
  (hs:(assignEach (.Name x p::es) X.env).map (·.2)=assign (.Name x p) X.env::(assignEach es X.env).map (·.2):=by rfl):yH X (.Name x p::es) (GF (i::is)) :=
 ua (AO (xF hN hi hx hf) h hs) λvs σ H Q z9=>by
  obtain⟨h,q⟩:=z9;cases vs with|nil=>simp at h|cons v vs=>exact⟨v,vs,rfl,by simpa using h,q⟩
def Dz{k:Nat}{t:CC}{n:Nat}(hc:X.calm=true)(h:yH X es t)
  (hn:(assignEach es X.env).length=n:=by rfl)(hst:(assignEach es X.env).findIdx? (·.1)=none:=by rfl):PG X (.Tuple es k pos) (λv σ H Q=>∃a xs,v=.ref a/\fL X.K H a xs/\xs.length=n/\t xs σ H Q):=by
 intro pins s σ H v u Q I r hw;obtain⟨a,xs,e1,hq,hl,hw⟩:=hw;subst e1;cases r;obtain⟨its,rv,ht,hz⟩:=I.list hq;rw[assign_Tuple];refine wpAny_bind (wpAny_standAt ?_);unfold unpack;rw[hn,hst];have hsz:n=its.toArray.size:=by rw[List.size_toArray,←rv.length,hl]
 rw[hsz];refine wpAny_bind (wpAny_holding (l3 (I.ok.hd hc) ht.isList λh' hx=>?_));have I1:Inv X pins σ H { s with heap:=h' }:=I.kept (t':=s.toks) λb o e=>hx b o (Nat.ne_of_lt (Heap.lt_size e)) e;exact h pins _ σ H xs _ Q I1 (by simpa using rv) hw
def J0{tgt:Expr}{t t':TG}(h:PG X tgt t)(h':PG X tgt t'):PG X tgt (λv σ H Q=>t v σ H Q∨t' v σ H Q):=λpins s σ H v u Q I r q=>q.elim (h pins s σ H v u Q I r) (h' pins s σ H v u Q I r)
def vI{k:Nat}(hc:X.calm=true)(h:yH X es (GF is))(hn:(assignEach es X.env).length=is.length:=by rfl)(hst:(assignEach es X.env).findIdx? (·.1)=none:=by rfl) :
  PG X (.Tuple es k pos) (λv σ H Q=>∃a xs,v=.ref a/\(iZ X.K H a xs∨fL X.K H a xs)/\xs.length=is.length/\Q (tT σ is xs) H) :=
 rR (J0 (G1 hc h hn hst) (Dz hc h hn hst)) λv σ H Q ⟨a,xs,e,hq,hl,q⟩=>hq.elim (λz=>.inl ⟨a,xs,e,z,hl,hl,q⟩) λz=>.inr ⟨a,xs,e,z,hl,hl,q⟩
def fw(n:Nat)(d:D):Option (ac):=match d with
 |.tup ds=>if ds.length=n then some ds else none
 |.lst ds=>if ds.length=n then some ds else none
 |_=>none
def mE{K:W.Frag}{H:Hp}{n:Nat}{d:D}{ds:ac}{v:V}(h:fw n d=some ds)(r:Rep K H d v):∃a vs,v=.ref a/\(iZ K H a vs∨fL K H a vs)/\vs.length=n/\Reps K H ds vs:=by
 unfold fw at h;cases d with
 |tup es=>
  by_cases c:es.length=n
  .simp only[if_pos c]at h;cases h
   obtain⟨a,vs,rfl,h1,h2⟩:=aB.mp r;exact⟨a,vs,rfl,.inl h1,by rw[←h2.length];exact c,h2⟩
  .simp only[if_neg c]at h;cases h
 |lst es=>
  by_cases c:es.length=n
  .simp only[if_pos c]at h;cases h
   obtain⟨a,vs,rfl,h1,h2⟩:=aC.mp r;exact⟨a,vs,rfl,.inr h1,by rw[←h2.length];exact c,h2⟩
  .simp only[if_neg c]at h;cases h
 |_=>cases h
def tU{K:W.Frag}{H H':Hp}{a:Addr}{vs:al}(hs:aE H H')(h:iZ K H a vs∨fL K H a vs):iZ K H' a vs∨fL K H' a vs:=h.elim (λz=>.inl (aE.sqT hs z)) λz=>.inr (aE.sqL hs z)
def yU(is:cr)(f:am):bv:=λρ=>(f ρ).bind λd=>match fw is.length d with
 |some ds=>.ok (.nx (bP ρ is ds))
 |none=>.stuck
def sR{k:Nat}{tp:Pos}(hc:X.calm=true)(he:DE X E e f)(h:yH X es (GF is))(hs:swapsWithSole [.Tuple es k tp] e pos.line X.env=pure false:=by rfl)(hw:swappedStores [.Tuple es k tp] e X.env=pure none:=by rfl)
  (h1:(assignEach [.Tuple es k tp] X.env).map (·.2)=[assign (.Tuple es k tp) X.env]:=by rfl)(hn:(assignEach es X.env).length=is.length:=by rfl)(hst:(assignEach es X.env).findIdx? (·.1)=none:=by rfl) :
  DS X E He H0e (.Assign [.Tuple es k tp] e pos) (yU is f):=by
 refine⟨?_⟩;refine dA (rO he.o (vI hc h hn hst) hs hw h1) λD σ H z9=>?_;obtain⟨Ha,ρ,h,q⟩:=z9;refine⟨Ha,ρ,h.g.sub,h.rd,?_⟩
 refine plain (k:=λd=>match fw is.length d with
  |some ds=>.ok (.nx (bP ρ is ds))
  |none=>.stuck) h q λd v H' Ha' _ g rp q'=>?_
 cases e1:fw is.length d with
 |none=>rw[e1]at q';exact q'.elim
 |some ds=>
  rw[e1]at q';obtain⟨a,vs,rfl,k1,k2,k3⟩:=mE e1 rp;exact⟨a,vs,rfl,tU g.sub k1,k2,q' _ H' Ha' (aE.refl _) ((h.grow g).putAll k3)⟩
def nc(is:cr):Ev->D->au Ev:=λρ d=>match fw is.length d with
 |some ds=>.ok (bP ρ is ds)
 |none=>.stuck
def qf:yG (nc is):=λρ d=>by
 unfold nc;cases fw is.length d with|none=>exact .inl rfl|some ds=>exact .inr ⟨_,rfl⟩
def B1{k:Nat}(hc:X.calm=true)(h:yH X es (GF is))(hn:(assignEach es X.env).length=is.length:=by rfl)(hst:(assignEach es X.env).findIdx? (·.1)=none:=by rfl):DG X E He H0e (.Tuple es k pos) (nc is) :=
 ⟨rR (vI hc h hn hst) λv σ H Q z9=>by
  obtain⟨Ha,ρ,d,h,rp,q⟩:=z9;unfold nc at q;cases e1:fw is.length d with
  |none=>rw[e1]at q;exact q.elim
  |some ds=>
   rw[e1]at q;obtain⟨a,vs,rfl,k1,k2,k3⟩:=mE e1 rp;exact⟨a,vs,rfl,tU h.g.sub k1,k2,q _ H Ha (aE.refl _) (h.putAll k3)⟩⟩
def vA(i j:Nat)(fa:Ev->au (ac)):bv:=λρ=>(fa ρ).bind λds=>match ds with
 |[x,y]=>.ok (.nx ((ρ.set i (.sh x)).set j (.sh y)))
 |_=>.stuck
def IG{i j:Nat}{x y:Str}{px py pt pt2:Pos}{kt k2}(hc:X.calm=true)(hN:X.N.Nodup)(hi:X.N[i]?=some x)(hj:X.N[j]?=some y)(hij:i≠j)
  (hx:X.env.scope.names.lookup x=some .local)(hy:X.env.scope.names.lookup y=some .local)(ha:DA X E [a,b] fa)
  (hw:swappedStores [.Tuple [.Name x px,.Name y py] kt pt] (.Tuple [a,b] k2 pt2) X.env=pure (some [x,y]))
  (hs:swapsWithSole [.Tuple [.Name x px,.Name y py] kt pt] (.Tuple [a,b] k2 pt2) pos.line X.env=pure false:=by rfl) :
  DS X E He H0e (.Assign [.Tuple [.Name x px,.Name y py] kt pt] (.Tuple [a,b] k2 pt2) pos) (vA i j fa):=by
 refine⟨?_⟩;refine dA (GY hc hN hi hj hij hx hy ha.o hw hs) λD σ H z9=>?_;obtain⟨Ha,ρ,h,q⟩:=z9;refine⟨Ha,ρ,h.g.sub,h.rd,?_⟩
 unfold vA at q;cases e1:fa ρ with
 |stuck=>rw[e1]at q;exact q|exn x=>rw[e1]at q;exact λC ox H' Ha' g ex=>q C ox H' Ha' (h.g.trans g) ex
 |ok ds=>
  rw[e1]at q;intro vs H1 H01 g1 r1
  match ds,r1,q with
  |[x,y],r1,q=>
   obtain⟨v,r',rfl,h1,h2⟩:=az.mp r1;obtain⟨u,r'',rfl,h3,h4⟩:=az.mp h2;rw[Reps.nil_iff.mp h4];exact⟨v,u,rfl,q _ H1 H01 g1.z (((h.grow g1).put h1).put h3)⟩
  |[],_,q=>exact q.elim
  |[_],_,q=>exact q.elim
  |_::_::_::_,_,q=>exact q.elim
end
def oM{K:W.Frag}:pK K "int":=by
 intro S hS;simp only[List.mem_cons,List.mem_nil_iff,or_false]at hS;rcases hS with rfl|rfl|rfl|rfl|rfl|rfl|rfl<;>first|rfl|decide +kernel
def mJ{K:W.Frag}:pK K "bool":=by
 intro S hS;simp only[List.mem_cons,List.mem_nil_iff,or_false]at hS;rcases hS with rfl|rfl|rfl|rfl|rfl|rfl|rfl<;>first|rfl|decide +kernel
def eS{K:W.Frag}:pK K "str":=by
 intro S hS;simp only[List.mem_cons,List.mem_nil_iff,or_false]at hS;rcases hS with rfl|rfl|rfl|rfl|rfl|rfl|rfl<;>first|rfl|decide +kernel
def da{K:W.Frag}:pK K "tuple":=by
 intro S hS;simp only[List.mem_cons,List.mem_nil_iff,or_false]at hS;rcases hS with rfl|rfl|rfl|rfl|rfl|rfl|rfl<;>first|rfl|decide +kernel
def jX{K:W.Frag}:pK K "list":=by
 intro S hS;simp only[List.mem_cons,List.mem_nil_iff,or_false]at hS;rcases hS with rfl|rfl|rfl|rfl|rfl|rfl|rfl<;>first|rfl|decide +kernel
section
variable {X:Cx}{E:XK}{He H0e:Hp}{e a b c:Expr}{f g h:am}{pos:Pos}
def dv(i:Nat){x:Str}(hN:X.N[i]?=some x:=by rfl)(hv:vd X.env.scope x:=by first|exact Or.inl rfl|exact Or.inr (Or.inl rfl)|exact Or.inr (Or.inr rfl))(hd:(x==("__debug__":Str))=false:=by decide)
  (hcd:(x==("__classdict__":Str))=false:=by decide):DE X E (.Name x pos) (ah i):=IJ hN hv hd hcd
def tj(K:W.Frag)(mg:Str->Option Value)(x:Str)(d:D):Prop:=∃v u,mg x=some u/\bY v u/\∀H,Rep K H d v
def bU{x:Str}{d:D}(k:tj X.K X.mg x d)(hg:Gl X x)(hd:(x==("__debug__":Str))=false:=by decide):DE X E (.Name x pos) (dC d):=by
 obtain⟨v,u,h1,h2,h3⟩:=k;exact Fg hg h1 h2 h3 hd
def eK{K:W.Frag}{mg:Str->Option Value}{x:Str}{i:Int}{t:Tok}(h:mg x=some (.int i t)):tj K mg x (.int i):=⟨.int i,_,h,⟨t,rfl⟩,λ_=>ri _⟩
def D6{K:W.Frag}{mg:Str->Option Value}{x:Str}{i:Str}{t:Tok}(h:mg x=some (.str i t)):tj K mg x (.str i):=⟨.str i,_,h,⟨t,rfl⟩,λ_=>Rep.str_iff.mpr rfl⟩
def D5{K:W.Frag}{mg:Str->Option Value}{x:Str}{a:Addr}{od:Option Addr}{its:Array Value}{n:Nat}{sl:Array (Option Value)}{ds:ac}{vs:al}(h:mg x=some (.ref a))(l:K.lookup a=some ⟨.type "tuple",od,.seq its n,sl⟩)
  (hv:bu vs its.toList)(hz:its.size<=sizeLine)(hd:∀H,Reps K H ds vs):tj K mg x (.tup ds):=⟨.ref a,_,h,rfl,λH=>aB.mpr ⟨a,vs,rfl,.inr ⟨_,its,n,l,rfl,rfl,hz,hv⟩,hd H⟩⟩
def gQ(op op':D->D->au D)(f g h:am):am:=λρ=>(f ρ).bind λx=>(g ρ).bind λy=>(op x y).bind λz=>match z with
 |.bl true=>(h ρ).bind λw=>op' y w
 |.bl false=>.ok (.bl false)
 |_=>.stuck
def pH(r:R2)(o:D->D->au D):Prop:=∀(K:W.Frag) (x y:D) (v u:V) (H Ha:Hp) (Q:VK) (d:D),aE Ha H->Rep K Ha x v->Rep K Ha y u->o x y=.ok d->(∀w,Rep K Ha d w->Q w H)->r v u H Q
def gH{gv:Int->Int->V}{g:Int->Int->D}(hg:∀K H i j,Rep K H (g i j) (gv i j)):pH (CA gv) (uC (λ_ _=>true) g):=by
 intro K x y v u H Ha Q d hs r1 r2 e q;unfold uC at e;cases x with
 |int i=>
  cases y with|int j=>simp only[if_pos]at e;cases e;exact⟨i,j,aA.mp r1,aA.mp r2,q _ (hg _ _ i j)⟩| _=>cases e
 |_=>cases e
def pI(o:D->D->au D):Prop:=∀x y,∀z,o x y≠.exn z
def mU{r r':R2}{o o':D->D->au D}(p:pH r o)(p':pH r' o')(n:pI o)(n':pI o')(σ:L2.St)(H:Hp)(Q:VK)(q:tD X.K E (gQ o o' f g h) σ H Q) :
  vx r r' (tD X.K E f) (tD X.K E g) (tD X.K E h) σ H Q:=by
 obtain⟨Ha,ρ,hs,hr,q⟩:=q;refine⟨Ha,ρ,hs,hr,?_⟩;unfold gQ at q;cases e1:f ρ with
 |stuck|exn x=>rw[e1]at q;exact q
 |ok x=>
  rw[e1]at q;intro v H1 H01 g1 r1;refine⟨H01,ρ,g1.sub,hr.mono g1.z,?_⟩;replace q:=post.grow (r:=(g ρ).bind λy=>(o x y).bind λz=>match z with
   |.bl true=>(h ρ).bind λw=>o' y w
   |.bl false=>.ok (.bl false)
   |_=>.stuck) q g1
  cases e2:g ρ with
  |stuck|exn x=>rw[e2]at q;exact q
  |ok y=>
   rw[e2]at q;intro u H2 H02 g2 r2;replace q:=post.grow (r:=(o x y).bind λz=>match z with
    |.bl true=>(h ρ).bind λw=>o' y w
    |.bl false=>.ok (.bl false)
    |_=>.stuck) q g2
   cases e3:o x y with
   |stuck=>rw[e3]at q;exact q.elim|exn z=>exact absurd e3 (n x y z)
   |ok z=>
    rw[e3]at q;refine p X.K x y v u H2 H02 _ z g2.sub (r1.mono g2.z) r2 e3 λw rw'=>?_;cases z with
    |bl b=>
     rw[aH.mp rw'];refine⟨b,rfl,?_⟩;cases b with
     |false=>rw[if_neg Bool.false_ne_true];exact q _ H2 H02 (bH.refl g2.sub) (rb _)
     |true=>
      rw[if_pos rfl];refine⟨H02,ρ,g2.sub,(hr.mono g1.z).mono g2.z,?_⟩;replace q:post X.K E H2 H02 ((h ρ).bind λw=>o' y w) Q:=q;cases e4:h ρ with
      |stuck|exn x=>rw[e4]at q;exact q
      |ok w2=>
       rw[e4]at q;intro v3 H3 H03 g3 r3;replace q:=post.grow (r:=o' y w2) q g3;cases e5:o' y w2 with
       |stuck=>rw[e5]at q;exact q.elim|exn z=>exact absurd e5 (n' y w2 z)
       |ok d=>
        rw[e5]at q;exact p' X.K y w2 u v3 H3 H03 Q d g3.sub (r2.mono g3.z) r3 e5 λw3 r5=>q w3 H3 H03 (bH.refl g3.sub) r5
    |_=>exact q.elim
def B6{op op':CmpOp}{r r':R2}{o o':D->D->au D}(ho:gf X (compareOp op) r)(ho':gf X (compareOp op') r')(p:pH r o)(p':pH r' o')(n:pI o)(n':pI o')(ha:DE X E a f)(hb:DE X E b g)(hc:DE X E c h)
  (hm:lastMarks [op,op'] [b,c]=false:=by with_unfolding_all rfl):DE X E (.Compare a [op,op'] [b,c] pos) (gQ o o' f g h):=⟨bp (AW ho ho' ha.o hb.o hc.o hm) (mU p p' n n')⟩
def uQ{op op':CmpOp}{r r':R2}{o o':D->D->au D}(ho:gf X (compareOp op) r)(ho':gf X (compareOp op') r')(p:pH r o)(p':pH r' o')(n:pI o)(n':pI o')(ha:DE X E a f)(hb:DE X E b g)(hc:DE X E c h)
  (hm:lastMarks [op,op'] [b,c]=false:=by with_unfolding_all rfl):DT X E (.Compare a [op,op'] [b,c] pos) (gQ o o' f g h):=by
 refine⟨?_⟩;refine lp (AJ ho ho' ha.o hb.o hc.o hm) λσ H Q q=>?_;have w:tD X.K E (gQ o o' f g h) σ H λx H'=>∃k,x=.bl k/\Q k H':=by
  obtain⟨Ha,ρ,hs,hr,q⟩:=q;refine⟨Ha,ρ,hs,hr,?_⟩;cases e1:gQ o o' f g h ρ with
  |stuck|exn x=>rw[e1]at q;exact q
  |ok d=>
   rw[e1]at q;intro v H1 H01 g1 r1;cases d with|bl b=>rw[aH.mp r1];exact⟨b,rfl,q H1 H01 g1⟩| _=>exact q.elim
 exact mU p p' n n' σ H _ w
def gI{c:Int->Int->Bool}{g:Int->Int->D}:pI (uC c g):=by
 intro x y z;unfold uC;cases x<;>cases y<;>simp<;>split<;>simp
end
def ny(i:Nat):Ev->Nat:=λρ=>match ρ[i]? with
 |some (.sh (.int j))=>j.natAbs+1
 |_=>0
section
variable {X:Cx}{E:XK}{a b:Expr}{f g:am}{pos:Pos}
def dm(x y:D):au D:=match x,y with
 |.int i,.int j=>if ia i j=true then .ok (.int (i*j)) else .stuck
 |_,_=>.stuck
def iD(ha:DE X E a f)(hb:DE X E b g):DE X E (.BinOp a .Mult b pos) (ae f g dm):=pd DD (by
 intro x y v u H Ha Q hs r1 r2 q;unfold dm at q;cases x with
 |int i=>
  cases y with
  |int j=>
   by_cases h:ia i j=true
   .simp only[if_pos h]at q
    exact⟨i,j,aA.mp r1,aA.mp r2,ia.ok h,cB hs q (ri _)⟩
   .simp only[if_neg h]at q;exact q.elim
  |_=>exact q.elim
 |_=>exact q.elim) ha hb
end
def HD(K:W.Frag)(tg:Ev->D->au Ev):TG:=λv σ H Q=>∃He H0e,tG K He H0e tg v σ H Q
theorem Reps.rep{K:W.Frag}{H:Hp}{ds:ac}{vs:al}(h:Reps K H ds vs):∀k:Nat,Reps K H (List.replicate k ds).flatten (List.replicate k vs).flatten
 |0=>by simp;exact Reps.nil
 |k+1=>by
  rw[List.replicate_succ,List.replicate_succ,List.flatten_cons,List.flatten_cons];exact h.app (Reps.rep h k)
section
variable {X:Cx}{E:XK}{a b:Expr}{f g:am}{pos:Pos}
def uU(x y:D):au D:=match x,y with
 |.lst ds,.int k=>if ds.length*k.toNat<=line/\-9223372036854775808<=k/\k<9223372036854775808 then .ok (.lst (List.replicate k.toNat ds).flatten) else .stuck
 |_,_=>.stuck
def AF(f g:am):am:=λρ=>(f ρ).bind λx=>match x with
 |.lst ds=>(g ρ).bind λy=>uU (.lst ds) y
 |_=>.stuck
def B2(ha:DF X E a f)(hb:DE X E b g):DE X E (.BinOp a .Mult b pos) (AF f g):=by
 refine⟨?_⟩;refine bp (AS G8 ha.o hb.o) λσ H Q z9=>?_;obtain⟨Ha,ρ,hs,hr,q⟩:=z9;refine⟨Ha,ρ,hs,hr,?_⟩
 unfold AF at q;cases e1:f ρ with
 |stuck|exn x=>rw[e1]at q;exact q
 |ok x=>
  rw[e1]at q;cases x with
  |lst ds=>
   replace q:post X.K E H Ha ((g ρ).bind λy=>uU (.lst ds) y) Q:=q;intro p vs H1 H01 g1 hp h0 hv rp;refine⟨H01,ρ,g1.sub,hr.mono g1.z,?_⟩;replace q:=q.grow g1;cases e2:g ρ with
   |stuck|exn x=>rw[e2]at q;exact q
   |ok y=>
    rw[e2]at q;intro u H2 H02 g2 r2;replace q:=post.grow (r:=uU (.lst ds) y) q g2;cases y with
    |int k=>
     unfold uU at q
     by_cases c:ds.length*k.toNat<=line/\-9223372036854775808<=k/\k<9223372036854775808
     .simp only[if_pos c]at q
      refine⟨p,k,vs,rfl,aA.mp r2,g2.s _ _ hv,by omega,by omega,by rw[←rp.length];exact dS c.1,λn hn=>?_⟩;exact q _ _ _ (aO g2.sub hn) (aC.mpr ⟨n,_,rfl,fL.of aF,((rp.mono g2.z).rep _).mono (aO g2.sub hn).z⟩)
     .simp only[if_neg c]at q;exact q.elim
    |_=>exact q.elim
  |_=>exact q.elim
end
def iw:ac->Option (List Str)
 |[]=>some []
 |.str x::r=>(iw r).map (x::·)
 |_=>none
theorem tP{K:W.Frag}{H:Hp}:∀{ds:ac}{ys:List Str}{vs:al}{us:List Value},iw ds=some ys->Reps K H ds vs->bu vs us->StrsAre us ys
 |[],ys,vs,us,h,r,q=>by
  cases h;rw[Reps.nil_iff.mp r]at q;cases q;exact .nil
 |d::ds,ys,vs,us,h,r,q=>by
  obtain⟨v,r',rfl,h1,h2⟩:=az.mp r;cases q with
  |cons q1 q2=>
   cases d with
   |str x=>
    unfold iw at h;cases e:iw ds with
    |none=>rw[e]at h;cases h
    |some zs=>
     rw[e]at h;cases h;rw[Rep.str_iff.mp h1]at q1;obtain⟨t,rfl⟩:=q1;exact .cons _ _ (tP e h2 q2)
   |_=>cases h
section
variable {X:Cx}{E:XK}{o e:Expr}{fo:am}{fa:Ev->au (ac)}
def ib(z:Str)(ys:List Str):Bool:=decide (z.length<=16)&&decide ((ys.map (·.length)).sum+ys.length<=1048576)
def JM(K:W.Frag):V->al->Hp->VK->Prop:=λx xs H Q=>∃z p ds ys,x=.str z/\xs=[.ref p]/\Rep K H (.lst ds) (.ref p)/\iw ds=some ys/\ib z ys=true/\Q (.str (Txt.join z ys)) H
def DR:Mr X "str.join" (JM X.K):=by
 intro pins s σ H x xs v us Q I rx rs h;obtain⟨z,p,ds,ys,rfl,rfl,hr,hy,hf,q⟩:=h;obtain⟨t,rfl⟩:=rx;obtain⟨u,rfl,ru⟩:=rs.one;obtain⟨a,vs,its,ea,rfl,h1,h2,h3,h4,_⟩:=br I hr ru;unfold ib at hf;rw[Bool.and_eq_true]at hf;exact join_listW h4 (by simpa using tP hy h2 h3) (of_decide_eq_true hf.1) (of_decide_eq_true hf.2) λt' k=>⟨.str (Txt.join z ys),H,I.tok _,⟨_,rfl⟩,q⟩
def oO(z:Str)(xs:ac):au D:=match xs with
 |[.lst ds]=>match iw ds with
  |some ys=>if ib z ys=true then .ok (.str (Txt.join z ys)) else .stuck
  |none=>.stuck
 |_=>.stuck
def yA(fo:am)(fa:Ev->au (ac)):am:=λρ=>(fo ρ).bind λx=>match x with
 |.str z=>(fa ρ).bind λxs=>oO z xs
 |_=>.stuck
def Fe{apos cpos:Pos}(ho:DE X E o fo)(ha:DA X E [e] fa)
  (hbase:attributeBase o "join" X.env (eval o X.env)=eval o X.env:=by rfl)
  (hfew:((backTo cpos (starEach [e] X.env)).all (λx=>!x.1)&&(backToKw cpos (keywordEach [] X.env)).all (λx=>x.1.isSome)
  &&decide ([e].length+([]:List Keyword).length+(if([]:List Keyword).isEmpty then 0 else 1)<30))=true:=by exact j9 rfl)
  (hline:(apos.endLine==cpos.line)=true:=by rfl) (hs:starEach [e] X.env=(false,eval e X.env)::starEach [] X.env:=by exact aN rfl) (hplain:(backTo cpos (starEach [] X.env)).any (·.1)=false:=by exact bD rfl) :
  DE X E (.Call (.Attribute o "join" apos) [e] [] cpos) (yA fo fa):=by
 refine⟨?_⟩;refine bp (ud PySem.F.plainAttrs_str PySem.F.slot_str_join PySem.F.type_str_join DR ho.o ha.o hbase hfew hline hs hplain) λσ H Q z9=>?_;obtain⟨Ha,ρ,hs,hr,q⟩:=z9;refine⟨Ha,ρ,hs,hr,?_⟩
 unfold yA at q;cases e1:fo ρ with
 |stuck|exn x=>rw[e1]at q;exact q
 |ok x=>
  rw[e1]at q;intro v H1 H01 g1 r1;cases x with
  |str z=>
   rw[Rep.str_iff.mp r1];refine⟨rfl,H01,ρ,g1.sub,hr.mono g1.z,?_⟩;replace q:=post.grow (r:=(fa ρ).bind λxs=>oO z xs) q g1;cases e2:fa ρ with
   |stuck|exn x=>rw[e2]at q;exact q
   |ok xs=>
    rw[e2]at q;intro us H2 H02 g2 r2;replace q:=post.grow (r:=oO z xs) q g2;unfold oO at q
    match xs,r2,q with
    |[.lst ds],r2,q=>
     obtain⟨w,r',rfl,k1,k2⟩:=az.mp r2;rw[Reps.nil_iff.mp k2];obtain⟨p,vs,rfl,k3,k4⟩:=aC.mp k1;cases e3:iw ds with
     |none=>simp only[e3]at q;exact q.elim
     |some ys=>
      simp only[e3]at q
      by_cases c:ib z ys=true
      .rw[if_pos c]at q
       exact⟨z,p,ds,ys,rfl,rfl,k1.mono g2.sub,e3,c,cB g2.sub q (Rep.str_iff.mpr rfl)⟩
      .rw[if_neg c]at q;exact q.elim
    |[],_,q=>exact q.elim
    |d1::_::_,_,q=>cases d1<;>exact False.elim q
    |[.non],_,q=>exact q.elim
    |[.bl _],_,q=>exact q.elim
    |[.int _],_,q=>exact q.elim
    |[.str _],_,q=>exact q.elim
    |[.tup _],_,q=>exact q.elim
    |[.dic _ _],_,q=>exact q.elim
    |[.exc _],_,q=>exact q.elim
    |[.ob _ _],_,q=>exact q.elim
  |_=>exact q.elim
end
section
variable {X:Cx}{E:XK}{a:Expr}{f:am}{pos:Pos}
def LV:V->Option Int->Option Int->Hp->VK->Prop:=λx lo hi H Q=>∃z,x=.str z/\z.length<=sizeLine/\Q (.str (Txt.slice z lo hi)) H
def GH:zP X LV:=by
 intro pins s σ H x v vl vu lo hi sl Q I rx hs pl pu h;obtain⟨z,rfl,hz,q⟩:=h;obtain⟨t,rfl⟩:=rx;have fin:∀t' k,EP X pins σ Q (.str (Txt.slice z lo hi) t') { s with toks:=k }:=λt' k=>⟨.str (Txt.slice z lo hi),H,I.tok _,⟨_,rfl⟩,q⟩
 refine⟨"str",_,PySem.F.slot_str_getitem.lookup,typeIs_str s z t,?_⟩;cases pl with
 |none=>
  cases pu with|none=>exact wpAny_getItem_str_slice (l:=none) (u:=none) (st:=none) hs rfl (post_val_or_str ⟨Nat.le_trans (Txt.slice_le z _ _) hz,fin⟩)|int j uj=>exact wpAny_getItem_str_slice (l:=none) (u:=some (j,uj)) (st:=none) hs rfl (post_val_or_str ⟨Nat.le_trans (Txt.slice_le z _ _) hz,fin⟩)
 |int i ui=>
  cases pu with|none=>exact wpAny_getItem_str_slice (l:=some (i,ui)) (u:=none) (st:=none) hs rfl (post_val_or_str ⟨Nat.le_trans (Txt.slice_le z _ _) hz,fin⟩)|int j uj=>exact wpAny_getItem_str_slice (l:=some (i,ui)) (u:=some (j,uj)) (st:=none) hs rfl (post_val_or_str ⟨Nat.le_trans (Txt.slice_le z _ _) hz,fin⟩)
noncomputable def nT(x:D) (l h:Option Int):au D:=match x with
 |.lst ds=>.ok (.lst (gk ds l h))
 |.str z=>if z.length<=line then .ok (.str (Txt.slice z l h)) else .stuck
 |.tup ds=>if HT.sIx ds.length 0 l=0/\HT.sIx ds.length ds.length h=ds.length then .stuck else .ok (.tup (gk ds l h))
 |_=>.stuck
def dY(f:am)(lo hi:Ev->au (Option Int)):am:=λρ=>(f ρ).bind λx=>(lo ρ).bind λl=>(hi ρ).bind λh=>nT x l h
def aW{lo hi:Option Expr}{p2:Pos}{fl fh:Ev->au (Option Int)}(ha:DE X E a f)(hl:DO X E lo fl)(hh:DO X E hi fh):DE X E (.Subscript a (.Slice lo hi none p2) pos) (dY f fl fh) :=
 ⟨bp (ub (zP.or Dk (zP.or GH As)) ha.o hl.o hh.o) (mz (m:=nT) λx v l h H Ha Q hs r q=>by
  cases x with
  |lst ds=>
   obtain⟨p,vs,rfl,h1,h2⟩:=aC.mp r;exact .inl ⟨p,vs,rfl,aE.sqL hs h1,λn hn=>q _ _ _ (aO hs hn) (aC.mpr ⟨n,_,rfl,fL.of aF,(h2.cut l h).mono (aO hs hn).z⟩)⟩
  |str z=>
   unfold nT at q
   by_cases c:z.length<=line
   .simp only[if_pos c]at q
    exact .inr (.inl ⟨z,Rep.str_iff.mp r,dS c,cB hs q (Rep.str_iff.mpr rfl)⟩)
   .simp only[if_neg c]at q;exact q.elim
  |tup ds=>
   unfold nT at q
   by_cases c:HT.sIx ds.length 0 l=0/\HT.sIx ds.length ds.length h=ds.length
   .simp only[if_pos c]at q;exact q.elim
   .simp only[if_neg c]at q
    obtain⟨p,vs,rfl,h1,h2⟩:=aB.mp r;exact .inr (.inr ⟨p,vs,rfl,aE.sqT hs h1,by rw[←h2.length];exact c,λn hn=>q _ _ _ (aO hs hn) (aB.mpr ⟨n,_,rfl,iZ.of aF,(h2.cut l h).mono (aO hs hn).z⟩)⟩)
  |_=>exact q.elim)⟩
end
def Ms(z:Str):It:=⟨λi _=>i<z.cps.size,λi H x H'=>H'=H/\∃c,z.cps[i]?=some c/\x=.str ⟨#[c]⟩,λi _=>z.cps.size<=i⟩
def vq{P:Program}{w:World}{K:W.Frag}{tg:Expr}(z:Str)(t:Tok)(it:Addr):zK P w K tg (Ms z) [it] it (λi h=>h.IsStrIter it "str_ascii_iterator" z t i) where
 mem:=by simp
 obj:=λi h st b hb=>by
  have e:b=it:=by simpa using hb
  subst e;obtain⟨o,e,c,d⟩:=st;exact⟨o,e,λv z=>by rw[d]at z;cases z⟩
 keep:=λi h h' st k=>let ⟨o,ho,r⟩:=st;⟨o,k it (by simp) o ho,r⟩
 item:=by
  intro X hP hw hK hc i pins s σ H E I hf st hg;subst hP hw hK;have hg':i<z.cps.size:=hg;obtain⟨f0,f1,f2,f3,f4,f5⟩:=hf it (by simp);refine wpAny_pyNext_ascii_item st (c:=z.cps[i]) (by simp[hg']) λh' st' sb=>?_;have I1:Inv X pins σ H { s with heap:=h',toks:=s.toks+1 }:=I.turned (t':=s.toks+1) (λb o hb e=>(sb.2 b hb).trans e) f0 f1 f3 f4 f5;obtain⟨o,e,c,d⟩:=id st';exact⟨_,rfl,yb (s:={ s with heap:=h',toks:=s.toks+1 }) e c d (by decide) ⟨.str ⟨#[z.cps[i]]⟩,H,I1,⟨_,rfl⟩,⟨rfl,_,by simp[hg'],rfl⟩,st',λb hb=>(hf b hb).1⟩⟩
 done:=by
  intro X hP hw hK hc i pins s σ H E I hf st hg;subst hP hw hK;have hg':z.cps.size<=i:=hg;obtain⟨f0,f1,f2,f3,f4,f5⟩:=hf it (by simp);exact wpAny_pyNext_ascii_end (I.ok.hd hc) st (by simp[hg']) λh' eb=>⟨rfl,I.turned (t':=s.toks) (λb o hb e=>eb b o hb e) f0 f1 f3 f4 f5⟩
 self:=λ_ _ _ _ _ st h=>wpAny_pyIter_striter_ascii st h
def yM{P:Program}{w:World}{K:W.Frag}{tg:Expr}(z:Str)(t:Tok)(it:Addr):zK P w K tg (Ms z) [it] it (λi h=>h.IsStrIter it "str_iterator" z t i) where
 mem:=by simp
 obj:=λi h st b hb=>by
  have e:b=it:=by simpa using hb
  subst e;obtain⟨o,e,c,d⟩:=st;exact⟨o,e,λv z=>by rw[d]at z;cases z⟩
 keep:=λi h h' st k=>let ⟨o,ho,r⟩:=st;⟨o,k it (by simp) o ho,r⟩
 item:=by
  intro X hP hw hK hc i pins s σ H E I hf st hg;subst hP hw hK;have hg':i<z.cps.size:=hg;obtain⟨f0,f1,f2,f3,f4,f5⟩:=hf it (by simp);refine wpAny_pyNext_wide_item st (c:=z.cps[i]) (by simp[hg']) λh' st' sb=>?_;have I1:Inv X pins σ H { s with heap:=h',toks:=s.toks+1 }:=I.turned (t':=s.toks+1) (λb o hb e=>(sb.2 b hb).trans e) f0 f1 f3 f4 f5;obtain⟨o,e,c,d⟩:=id st';exact⟨_,rfl,yb (s:={ s with heap:=h',toks:=s.toks+1 }) e c d (by decide) ⟨.str ⟨#[z.cps[i]]⟩,H,I1,⟨_,rfl⟩,⟨rfl,_,by simp[hg'],rfl⟩,st',λb hb=>(hf b hb).1⟩⟩
 done:=by
  intro X hP hw hK hc i pins s σ H E I hf st hg;subst hP hw hK;have hg':z.cps.size<=i:=hg;obtain⟨f0,f1,f2,f3,f4,f5⟩:=hf it (by simp);exact wpAny_pyNext_wide_end (I.ok.hd hc) st (by simp[hg']) λh' eb=>⟨rfl,I.turned (t':=s.toks) (λb o hb e=>eb b o hb e) f0 f1 f3 f4 f5⟩
 self:=λ_ _ _ _ _ st h=>wpAny_pyIter_striter_wide st h
def Mc(tl:TE):TI:=λσ H R=>tl σ H λx H1=>∃z,x=.str z/\R (Ms z) H1
def G0{X:Cx}{tg l:Expr}{tl:TE}(hl:PE X l tl):PI X tg l (Mc tl):=by
 intro pins s σ H R I h;refine dy (hl pins s σ H _ I h) λv s1 ⟨x,H1,I1,r1,q1⟩=>?_;obtain⟨z,rfl,q⟩:=q1;obtain⟨t,rfl⟩:=r1;have fpo:∀b∈[s1.heap.objs.size],mx X pins H1 b:=λb hb=>by
  have e:b=s1.heap.objs.size:=by simpa using hb
  subst e;exact I1.fpOk (Nat.le_refl _) (I1.hok.fresh (Nat.le_refl _))
 cases ha:z.cps.all (· < 128) with|false=>exact wpAny_pyIter_wide ha ⟨s1.heap.objs.size,[s1.heap.objs.size],_,_,H1,rfl,I1.kept (t':=s1.toks) λb o e=>Heap.get?_push_of_some _ e,yM z t _,⟨_,Heap.get?_push_size _ rfl,rfl,rfl⟩,fpo,q⟩|true=>exact wpAny_pyIter_ascii ha ⟨s1.heap.objs.size,[s1.heap.objs.size],_,_,H1,rfl,I1.kept (t':=s1.toks) λb o e=>Heap.get?_push_of_some _ e,vq z t _,⟨_,Heap.get?_push_size _ rfl,rfl,rfl⟩,fpo,q⟩
def jN(z:Str):ac:=z.cps.toList.map λc=>.str ⟨#[c]⟩
def kP(z:Str):(jN z).length=z.cps.size:=by unfold jN;simp
section
variable {X:Cx}{E:XK}
def JT(K:W.Frag):al->Hp->VK->Prop:=λxs H Q=>∃(p:Addr) (bs:List Bool),xs=[.ref p]/\fL K H p (bs.map V.bl)/\Q (.bl (bs.all id)) H
theorem qX:∀bs:List Bool,(List.range bs.length).all (λi=>bs.getD i false)=bs.all id
 |[]=>rfl
 |b::r=>by
  rw[List.length_cons,List.range_succ_eq_map,List.all_cons,List.all_map,List.all_cons,←qX r];rfl
def Ce(hc:X.calm=true):jG X (.builtin "all") (JT X.K):=by
 intro pins s σ H xs us Q I r h;obtain⟨p,bs,rfl,hq,q⟩:=h;obtain⟨u,rfl,rx⟩:=qc r;cases rx;obtain⟨its,rv,pl,hz⟩:=I.list hq;have hlen:=rv.length;rw[List.length_map]at hlen;have hne:p≠s.heap.objs.size:=Nat.ne_of_lt pl.lt;refine call_all_walk (wpAny_pyIter_list pl.isList ?_);have pl2:(s.heap.push { cls:=.type "list_iterator",data:=.fields #[.ref p,.int 0 0] }).IsList p its.toArray:=by
  obtain⟨o,k1,k2⟩:=pl.isList;exact⟨o,Heap.get?_push_of_some _ k1,k2⟩
 refine⟨s.heap.objs.size,_,_,_,_,_,λi=>bs.getD i false,rfl,Walks.list (A:=X.A.in1) (I.ok.hd hc) s.heap.objs.size p hne its.toArray,⟨⟨_,Heap.get?_push_size _ rfl,rfl,rfl⟩,pl2⟩,?_,λh' tk hk=>?_⟩
 .intro i v s' Q' E' hv hQ
  have hv':its[i]?=some v:=by simpa using hv
  have hi:i<its.length:=(List.getElem?_eq_some_iff.mp hv').1;obtain⟨w,e1,e2⟩:=rv.get (show(bs.map V.bl)[i]?=some (V.bl (bs.getD i false)) by
   rw[List.getElem?_map,List.getElem?_eq_getElem (by omega)];simp[List.getD,List.getElem?_eq_getElem (show i<bs.length by omega)])
  rw[hv']at e1;cases e1;obtain rfl:v=Value.bool _:=e2;exact wpAny_truthy_bool hQ
 .have hall:(List.range its.toArray.size).all (λi=>bs.getD i false)=bs.all id:=by
   rw[List.size_toArray,←hlen];exact qX bs
  rw[hall];exact⟨.bl _,H,I.kept (t':=tk) (λb o e=>hk b o (by simp only[List.mem_singleton];exact Nat.ne_of_lt (Heap.lt_size e)) (Heap.get?_push_of_some _ e)),rfl,q⟩
def il:ac->Option (List Bool)
 |[]=>some []
 |.bl b::r=>(il r).map (b::·)
 |_=>none
theorem qR{K:W.Frag}{H:Hp}:∀{ds:ac}{bs:List Bool}{vs:al},il ds=some bs->Reps K H ds vs->vs=bs.map V.bl
 |[],bs,vs,h,r=>by cases h;exact Reps.nil_iff.mp r
 |d::ds,bs,vs,h,r=>by
  obtain⟨v,r',rfl,h1,h2⟩:=az.mp r;cases d with
  |bl x=>
   unfold il at h;cases e:il ds with
   |none=>rw[e]at h;cases h
   |some zs=>
    rw[e]at h;cases h;rw[aH.mp h1,qR e h2];rfl
  |_=>cases h
def Fm(x:D):au D:=match x with
 |.lst ds=>match il ds with
  |some bs=>.ok (.bl (bs.all id))
  |none=>.stuck
 |_=>.stuck
def IS:kL X E (JT X.K) (m1 Fm):=u0 λx v H Ha Q hs r q=>by
 cases x with
 |lst ds=>
  unfold Fm at q;obtain⟨p,vs,rfl,h1,h2⟩:=aC.mp r;cases e:il ds with
  |none=>simp only[e]at q;exact q.elim
  |some bs=>
   simp only[e]at q;exact⟨p,bs,rfl,by rw[←qR e h2];exact aE.sqL hs h1,cB hs q (rb _)⟩
 |_=>exact q.elim
end
end DL
namespace L2
open PySem PySem.Spec PyProof.Rows
def K9(i:Expr):Prop:=∀ov iv,subscripted i false ov iv=operate [ov,iv] (getItem ov iv)
def Df{prog:Program}{w:World}{A:Around}{E:Value->Shared->Prop}{s:Shared}{env:Env}{value slice:Expr}{pos:Pos}{T id:String}{Q:Value->Shared->Prop}
  (hl:typeLookup (.type T) "__getitem__"=pure (some (.builtin id)))(hs:K9 slice)
  (h:wpAny (model prog w) A (eval value env) (λo sg=>wpAny (model prog w) A (eval slice env) (λi si=>si.TypeIs o T/\wpAny (model prog w) A (getItem o i) Q E si) E sg) E s) :
  wpAny (model prog w) A (eval (.Subscript value slice pos) env) Q E s:=by
 refine Subscript_ (wpAny_mono h (λo sg h₁=>wpAny_mono h₁ (λi si hG=>?_) λ_ _ x=>x) λ_ _ x=>x);obtain⟨hT,hG⟩:=hG;unfold subscriptTail;refine wpAny_bind ?_;rw[getitemInPython_of_ne hT.not_modules];refine wpAny_bind (wpAny_specialOf hT hl ?_);have fin:wpAny (model prog w) A (subscripted slice false o i) (λr sj=>wpAny (model prog w) A (letTemporaryGo value o r >>= λ_=>pure r) Q E sj) E si:=by
  rw[hs o i];exact wpAny_operating (wpAny_mono hG (λr sj hU=>wpAny_bind (wpAny_letTemporaryGo (wpAny_pure hU))) λ_ _ x=>x)
 first
  |exact wpAny_pure (wpAny_bind fin)
  |exact wpAny_bind (wpAny_pure (wpAny_bind fin))
  |exact wpAny_bind fin
end L2
namespace DL
open PySem PySem.Spec PyProof.Rows L2
section
variable {X:Cx}{E:XK}{e:Expr}{f:am}{pos p1:Pos}
def dOne(x:Str)(d:D):au D:=.ok (.dic [x] [d])
end
def iE(cells:List (Str×Addr)):List (Str×NameKind)->List (Str×Addr)->List (Str×Addr)
 |[],acc=>acc
 |(n,k)::r,acc=>if(k==NameKind.free)=true then iE cells r ((n,(cells.lookup n).getD 0)::acc) else iE cells r acc
def pY{scope:Scope}{env:PySem.Env}(h:∀x∈scope.names,x.2=.free->∃c,env.cells.lookup x.1=some c):closureFor scope env=pure (iE env.cells scope.names []):=by
 simp only[closureFor];have key:∀(names:List (Str×NameKind)) (acc:List (Str×Addr)),(∀x∈names,x.2=.free->∃c,env.cells.lookup x.1=some c) ->
   (forIn names acc λ(x:Str×NameKind) (z:List (Str×Addr))=>
      if(x.snd==NameKind.free)=true then do
       let y ←cellOf env x.fst
       pure (ForInStep.yield ((x.fst,y)::z))
      else(pure (ForInStep.yield z):Sem _))=pure (iE env.cells names acc):=by
  intro names
  induction names with
  |nil=>intro acc _;rfl
  |cons x r ih=>
   intro acc hh;obtain⟨n,k⟩:=x;rw[List.forIn_cons]
   by_cases hk:(k==NameKind.free)=true
   .obtain⟨c,hc⟩:=hh (n,k) List.mem_cons_self (by simpa using hk)
    have hcell:cellOf env n=pure c:=by unfold cellOf;rw[show env.cells.lookup n=some c from hc]
    simp only[hk,if_true];rw[hcell];have:=ih ((n,c)::acc) (λy hy=>hh y (List.mem_cons_of_mem _ hy));rw[show iE env.cells ((n,k)::r) acc=iE env.cells r ((n,c)::acc) by
     show(if(k==NameKind.free)=true then _ else _)=_;rw[if_pos hk,show env.cells.lookup n=some c from hc];rfl]
    rw[←this];rfl
   .have:=ih acc (λy hy=>hh y (List.mem_cons_of_mem _ hy))
    rw[if_neg hk];rw[show iE env.cells ((n,k)::r) acc=iE env.cells r acc by
     show(if(k==NameKind.free)=true then _ else _)=_;rw[if_neg hk]]
    rw[←this];rfl
 rw[key _ _ h];rfl
theorem pv{cells:List (Str×Addr)}:∀{names:List (Str×NameKind)}{acc:List (Str×Addr)}{x:Str}{c:Addr},(∀y∈names,y.2=.free->∃c,cells.lookup y.1=some c) ->
  (iE cells names acc).lookup x=some c->acc.lookup x=some c∨cells.lookup x=some c
 |[],acc,x,c,_,h=>.inl h
 |(n,k)::r,acc,x,c,hh,h=>by
  unfold iE at h
  by_cases hk:(k==NameKind.free)=true
  .rw[if_pos hk]at h
   obtain⟨d,hd⟩:=hh (n,k) List.mem_cons_self (by simpa using hk);rcases pv (λy hy=>hh y (List.mem_cons_of_mem _ hy)) h with h|h
   .rw[List.lookup_cons]at h
    cases e:x==n with
    |true=>
     rw[e]at h;rw[show cells.lookup n=some d from hd]at h;cases h;rw[eq_of_beq e];exact .inr hd
    |false=>rw[e]at h;exact .inl h
   .exact .inr h
  .rw[if_neg hk]at h
   exact pv (λy hy=>hh y (List.mem_cons_of_mem _ hy)) h
theorem mI{α:Type}{x:Str}:∀{l:List (Str×α)},(∃v,(x,v)∈l)->∃v,l.lookup x=some v
 |[],⟨v,h⟩=>by cases h
 |(n,w)::r,⟨v,h⟩=>by
  rw[List.lookup_cons];cases e:x==n with
  |true=>exact⟨w,rfl⟩
  |false=>
   rcases List.mem_cons.mp h with h|h
   .cases h;simp at e
   .exact mI ⟨v,h⟩
theorem pz{cells:List (Str×Addr)}{x:Str}{c:Addr}:∀{names:List (Str×NameKind)}{acc:List (Str×Addr)},(x,c)∈acc->(x,c)∈iE cells names acc
 |[],acc,h=>h
 |(n,k)::r,acc,h=>by
  unfold iE
  by_cases hk:(k==NameKind.free)=true
  .rw[if_pos hk];exact pz (List.mem_cons_of_mem _ h)
  .rw[if_neg hk];exact pz h
def pw{cells:List (Str×Addr)}{x:Str}:∀{names:List (Str×NameKind)}{acc:List (Str×Addr)},(x,NameKind.free)∈names->∃c,(iE cells names acc).lookup x=some c:=by
 intro names
 induction names with
 |nil=>intro acc h;cases h
 |cons y r ih=>
  intro acc h;obtain⟨n,k⟩:=y;unfold iE;rcases List.mem_cons.mp h with h|h
  .cases h
   rw[if_pos (by rfl)];exact mI ⟨_,pz List.mem_cons_self⟩
  .by_cases hk:(k==NameKind.free)=true
   .rw[if_pos hk];exact ih h
   .rw[if_neg hk];exact ih h
noncomputable def e9(X:Cx) (N:List Str) (scope:Scope) (s:Shared) (H:Hp) (C:Addr) (fp:List Addr) (pn:List (Addr×Obj)):Cx :=
 { X with N:=N,sf:=s,Ha:=H,env:=compEnvC scope (iE X.env.cells scope.names []) C X.env,outer:=X.stack,stack:=X.stack,ex:=fp,fn:=λ_=>false,pn:=pn,xe:=λ_ _=>False }
def lS(n:Nat)(fr:cr)(σ:L2.St):L2.St:=List.replicate n none++fr.map λ(i:Nat)=>(σ[i]?).getD none
noncomputable def Cv(X:Cx) (N:List Str) (n:Nat) (fr:cr) (scope:Scope):Prop :=
 N.length=n+fr.length/\((N.drop n).zip fr).all (λp=>X.N[p.2]?==some p.1&&X.env.scope.names.lookup p.1==some .cell&&scope.names.lookup p.1==some .free&&(relabel scope X.env).names.lookup p.1==some .cell)=true
theorem Cv.at{X:Cx}{N:List Str}{n:Nat}{fr:cr}{scope:Scope}(h:Cv X N n fr scope){k:Nat}{x:Str}{v:V}{σ:L2.St}(hx:N[k]?=some x)(hv:(lS n fr σ)[k]?=some (some v)) :
  ∃i:Nat,X.N[i]?=some x/\σ[i]?=some (some v)/\X.env.scope.names.lookup x=some .cell/\scope.names.lookup x=some .free/\(relabel scope X.env).names.lookup x=some .cell:=by
 unfold lS at hv
 by_cases hk:k<n
 .rw[List.getElem?_append_left (by simpa using hk),List.getElem?_replicate,if_pos hk]at hv
  cases hv
 .rw[List.getElem?_append_right (by simpa using hk),List.length_replicate,List.getElem?_map]at hv
  cases hi:fr[k-n]? with
  |none=>rw[hi]at hv;cases hv
  |some i=>
   rw[hi]at hv;have hz:((N.drop n).zip fr)[k-n]?=some (x,i):=by
    rw[List.getElem?_zip_eq_some];exact⟨by rw[List.getElem?_drop,show n+(k-n)=k by omega];exact hx,hi⟩
   have:=List.all_eq_true.mp h.2 _ (List.mem_of_getElem? hz);simp only[Bool.and_eq_true,beq_iff_eq]at this;refine⟨i,this.1.1.1,?_,this.1.1.2,this.1.2,this.2⟩;simp only[Option.map_some,Option.some.injEq]at hv;cases hs:σ[i]? with|none=>rw[hs]at hv;cases hv|some u=>rw[hs]at hv;exact congrArg some hv
noncomputable def Lo(X:Cx) (ifs:List Expr) (t:TT):Prop :=
 ∀(pins:List (Addr×Obj)) (s:Shared) (σ:L2.St) (H:Hp) (Q:Bool->Hp->Prop),Inv X pins σ H s->t σ H Q ->
  wpAny (model X.prog X.w) X.A (forIn ifs true λc r=>if r=true then do let ok ←isTrue c X.env (eval c X.env);pure (ForInStep.yield ok) else pure (ForInStep.yield r)) (TP X pins σ Q) X.xe s
def Lx:TT:=λ_ H Q=>Q true H
def Dv{X:Cx}:Lo X [] Lx:=λ_ _ _ H _ I h=>wpAny_tests_nil ⟨H,I,h⟩
theorem ph{prog:Program}{w:World}{A:Around}{R:Result->Shared->Prop}{s:Shared}{elt target iter:Expr}{ifs:List Expr}{scope:Scope}{pos:Pos}{it acc:Value}{env:PySem.Env}(I:Nat->Shared->Prop)
  (turn:∀n s,I n s->wpAny (model prog w) A (pyNext it) (λr sg=>match r with
   |none=>R (.ok .next) sg
   |some v=>wpAny (model prog w) A (letOwnedTupleGo target it v) (λ_ sg'=>wpAny (model prog w) A (assign target env v) (λ_ si=>
     wpAny (model prog w) A (forIn ifs true λc r=>if r=true then do let ok ←isTrue c env (eval c env);pure (ForInStep.yield ok) else pure (ForInStep.yield r)) (λok sj=>
      if ok=true then wpAny (model prog w) A (eval elt env) (λx sk=>
       wpAny (model prog w) A (call (.builtin "list.append") [acc,x]) (λ_ sq=>∃m,m<n/\I m sq) (λ_ _=>False) sk) (λ_ _=>False) sj
      else ∃m,m<n/\I m sj) (λ_ _=>False) si) (λ_ _=>False) sg') (λ_ _=>False) sg) (λ_ _=>False) s)
  (n:Nat) (h:I n s) :
  codeAny (model prog w) A (.compLoop (.ListComp elt [⟨target,iter,ifs,0⟩] scope pos) 0 it acc env) R s:=by
 refine codeAny_loop rfl I (λn s hI=>?_) n h;show wpAny _ A ((compTurn (.ListComp elt [⟨target,iter,ifs,0⟩] scope pos) 0 it acc env).onRaise (λx=>do noteFrame x env;theTreesLotGoes x)) _ _ s;refine wpAny_noted ?_;rw[compTurn_list];refine wpAny_bind (wpAny_standAt (wpAny_bind (wpAny_mono (turn n s hI) (λr sg h₁=>?_) λ_ _ h'=>h'.elim)));cases r with
 |none=>exact wpAny_pure h₁
 |some v=>
  refine wpAny_bind (wpAny_mono h₁ (λ_ sg' h₁'=>?_) λ_ _ h'=>h'.elim);refine wpAny_bind (wpAny_mono h₁' (λ_ si hG=>wpAny_bind (wpAny_mono hG (λok sj hU=>?_) λ_ _ h'=>h'.elim)) λ_ _ h'=>h'.elim);cases ok with
  |false=>exact wpAny_pure ⟨rfl,hU⟩
  |true=>
   exact wpAny_bind (wpAny_bind (wpAny_mono hU (λx sk hV=>wpAny_bind (wpAny_mono hV (λ_ sq hW=>wpAny_pure (wpAny_pure ⟨rfl,hW⟩)) λ_ _ h'=>h'.elim)) λ_ _ h'=>h'.elim))
noncomputable def vv(n:Nat) (fr:cr) (g:TG) (tt:TT) (te:TE) (J:It) (σ:L2.St) (H1:Hp) (Q:VK):Prop:=∀D,H1 D=none->∃W:Nat->Nat->al->L2.St->Hp->Prop,(∃m,W 0 m [] (lS n fr σ) (upd H1 D (.lst []))) /\
 ∀i m ys σ' H',W i m ys σ' H'->H' D=some (.lst ys)/\((J.stop i H'/\Q (.ref D) H')∨(J.go i H'/\ys.length<sizeLine/\∀x H2,J.yld i H' x H2->g x σ' H2 λσ3 H3=>tt σ3 H3 λb H4=>
  if b=true then te σ3 H4 λy H5=>H5 D=some (.lst ys)/\∃m',m' < m/\W (i+1) m' (ys++[y]) σ3 (upd H5 D (.lst (ys++[y])))
  else ∃m',m' < m/\W (i+1) m' ys σ3 H4))
def zE{X:Cx}{tg iter elt:Expr}{ifs:List Expr}{scope:Scope}{pos:Pos}{N:List Str}{n:Nat}{fr:cr}{g:TG}{tt:TT}{te:TE}(hc:X.calm=true)(hfr:Cv X N n fr scope)
  (hcell:∀x∈scope.names,x.2≠.cell)(hfree:∀x∈scope.names,x.2=.free->X.env.scope.names.lookup x.1=some .cell)(hkind:scope.kind=.function)
  (blk:∀s H C fp pn,PG (e9 X N scope s H C fp pn) tg g/\Lo (e9 X N scope s H C fp pn) ifs tt/\PE (e9 X N scope s H C fp pn) elt te)
  {pins:List (Addr×Obj)}{σ:L2.St}{s2:Shared}{Q:VK}{itv:Value}{RR:Value->Addr->Result->Shared->Prop}
  (h2:Mp X pins σ tg (λJ H1=>vv n fr g tt te J σ H1 Q) itv s2)
  (fin:∀(Da C:Addr) (s6:Shared) (H5:Hp) (m:Str->Option Value),Inv X pins σ H5 s6->s6.heap.Ns C m->mx X pins H5 C->Q (.ref Da) H5->RR (.ref Da) C (.ok .next) s6) :
  wpAny (model X.prog X.w) X.A (newList []) (λacc sj=>wpAny (model X.prog X.w) X.A (newFunctionEnv scope X.env.globals (iE X.env.cells scope.names []) [] X.env.qual none .none (some X.env)) (λcenv sk=>
   codeAny (model X.prog X.w) X.A (.compStart (.ListComp elt [⟨tg,iter,ifs,0⟩] scope pos) 0 itv acc { cenv with scope:=relabel scope X.env }) (RR acc cenv.locals) sk) X.xe sj) X.xe s2:=by
 obtain⟨it,fp,tn,J,H2,e,I2,T,st2,f2,q⟩:=h2;subst e;have hD:H2 s2.heap.objs.size=none:=I2.fresh;refine wpAny_newObj_type ?_;have I3:Inv X pins σ (upd H2 s2.heap.objs.size (.lst [])) { s2 with heap:=s2.heap.push { cls:=.type "list",data:=.seq ([]:List Value).toArray } }:=I2.lnew (t':=s2.toks) (its:=[]) .nil (Nat.zero_le _);obtain⟨W,⟨m0,w0⟩,turn⟩:=q s2.heap.objs.size hD;generalize hs3:({ s2 with heap:=s2.heap.push { cls:=.type "list",data:=.seq ([]:List Value).toArray } }:Shared)=s3 at I3 ⊢;have hs3h:s3.heap=s2.heap.push { cls:=.type "list",data:=.seq ([]:List Value).toArray }:=by rw[←hs3]
 have hDs:s2.heap.objs.size<s3.heap.objs.size:=by rw[hs3h,Heap.size_push];exact Nat.lt_succ_self _
 have fpl:∀b∈fp,b<s2.heap.objs.size:=λb hb=>by
  obtain⟨o,ho,_⟩:=T.obj _ _ st2 b hb;exact Heap.lt_size ho
 have kept3:∀b o,s2.heap.get? b=some o->s3.heap.get? b=some o:=λb o e=>by rw[hs3h];exact Heap.get?_push_of_some _ e
 have st3:tn 0 s3.heap:=T.keep _ _ _ st2 λb _ o e=>kept3 b o e;generalize hDa:s2.heap.objs.size=Da at *;generalize hH3:upd H2 Da (.lst [])=H3 at *;have fr3:∀b∈fp,H3 b=none:=λb hb=>by rw[←hH3,aD (Nat.ne_of_lt (fpl b hb))];exact(f2 b hb).1
 have cls:∀x c,(iE X.env.cells scope.names []).lookup x=some c->X.env.cells.lookup x=some c:=λx c e=>by
  rcases pv (λy hy hf=>I3.ok.has y.1 (.inl (hfree y hy hf))) e with e|e
  .cases e
  .exact e
 refine wpAny_newFunctionEnv hcell (by intro y hy;simp at hy) (λh4 ns4 sb4=>?_) hkind;have k4:∀b o,s3.heap.get? b=some o->h4.get? b=some o:=λb o e=>(sb4.2 b (Nat.ne_of_lt (Heap.lt_size e))).trans (Heap.get?_push_of_some _ e);generalize hC:s3.heap.objs.size=C at *;have hCn:H3 C=none:=I3.hok.fresh (by rw[hC];exact Nat.le_refl _);have ltC:∀b o,s3.heap.get? b=some o->b≠C:=λb o e=>by rw[←hC];exact Nat.ne_of_lt (Heap.lt_size e)
 have cellC:∀x c,X.env.cells.lookup x=some c->c≠C:=λx c e=>by
  obtain⟨v,o,ho,_⟩:=I3.cell x c e;exact ltC c o ho
 have fpC:∀b∈fp,b≠C:=λb hb=>by
  have:=fpl b hb;exact Nat.ne_of_lt (Nat.lt_trans this hDs)
 show codeAny (model X.prog X.w) X.A (.compStart (.ListComp elt [⟨tg,iter,ifs,0⟩] scope pos) 0 (.ref it) (.ref Da) (compEnvC scope (iE X.env.cells scope.names []) C X.env)) _ _;generalize hs4:({ s3 with heap:=h4,toks:=s3.toks+([]:List (Str×Value)).length }:Shared)=s4;have hs4h:s4.heap=h4:=by rw[←hs4]
 have ok:(e9 X N scope s3 H3 C fp (X.pn++pins)).Ok:=by
  refine⟨I3.ok.mod,hkind,I3.ok.glob,I3.ok.blt,Nat.le_of_eq hC,λx y c e1 e2=>I3.ok.inj x y c (cls x c e1) (cls y c e2),λx e=>?_,λx c e=>?_,λ_=>I3.ok.hd hc,I3.ok.frames,.inl rfl,λb hb=>⟨fpC b hb,λx c e=>(f2 b hb).2.2.2.2.1 x c (cls x c e)⟩,I3.bs,Nat.le_trans I3.ok.bsz I3.sz,λb o e hb=>?_,λb hb z=>?_,I3.stack,I3.stkFree⟩
  .have mm:∀k:NameKind,(relabel scope X.env).names.lookup x=some k->(k=.cell∨k=.free)->(x,NameKind.free)∈scope.names:=λk hk hk2=>by
    have hm:=PySem.mem_of_lookup hk;obtain⟨⟨n',k'⟩,hm1,hm2⟩:=List.mem_map.mp hm;dsimp only at hm2;split at hm2
    .rename_i hcnd
     cases hm2;simp only[Bool.and_eq_true,beq_iff_eq]at hcnd;rw[hcnd.1.1]at hm1;exact hm1
    .cases hm2
     rcases hk2 with rfl|rfl
     .exact absurd rfl (hcell _ hm1)
     .exact hm1
   rcases e with e|e
   .exact pw (mm _ e (.inl rfl))
   .exact pw (mm _ e (.inr rfl))
  .cases e
  .rcases(f2 b hb).2.2.2.1 with z|z
   .exact I3.ok.noex b o e z
   .exact absurd (Nat.lt_of_lt_of_le (Heap.lt_size e) (Nat.le_trans I3.ok.bsz z)) (Nat.lt_irrefl _)
  .rcases List.mem_cons.mp (I3.stkSub b z) with z|z
   .exact(f2 b hb).2.1 z
   .exact(f2 b hb).2.2.1 z
 have I4:Inv (e9 X N scope s3 H3 C fp (X.pn++pins)) [] (lS n fr σ) H3 s4:=by
  refine⟨ok,by rw[←hs4];rfl,by rw[←hs4];exact I3.bare,by rw[hs4h];exact Un.kept k4,⟨_,by rw[hs4h];exact ns4,λi x v h1 h2 h3=>?_⟩,λx c e=>?_,hCn,λx c e=>I3.freeC x c (cls x c e),λp hp=>?_,by rw[hs4h];exact I3.hok.kept k4,?_⟩
  .obtain⟨j,j1,j2,j3,j4,j5⟩:=hfr.at h1 h2
   obtain⟨m,hn,hl⟩:=I3.loc;obtain⟨u,ru,l⟩:=hl j x v j1 j2 (.inr (.inl j3));refine⟨u,ru,.inr ⟨.inl j5,?_⟩⟩;rcases l with⟨z,_⟩|⟨_,c,z1,z2⟩
   .rw[show X.env.kindOf x=X.env.scope.names.lookup x from rfl,j3]at z;cases z
   .obtain⟨c',hc'⟩:=pw (cells:=X.env.cells) (names:=scope.names) (acc:=[]) (PySem.mem_of_lookup j4)
    have:=cls x c' hc';rw[z1]at this;cases this;obtain⟨oc,q1,q2⟩:=z2;exact⟨c,hc',oc,by rw[hs4h];exact k4 _ _ q1,q2⟩
  .obtain⟨v,oc,q1,q2⟩:=I3.cell x c (cls x c e)
   exact⟨v,oc,by rw[hs4h];exact k4 _ _ q1,q2⟩
  .rw[List.append_nil]at hp
   obtain⟨p1,p2,p3,p4,p5⟩:=I3.pin p hp;refine⟨by rw[hs4h];exact k4 _ _ p1,p2,ltC _ _ p1,λz=>?_,p5⟩;rcases List.mem_cons.mp (I3.stkSub _ z) with z|z
   .exact p3 z
   .exact p4 z
  .show(lS n fr σ).length=N.length
   unfold lS;rw[List.length_append,List.length_replicate,List.length_map,hfr.1]
 have st4:tn 0 s4.heap:=by rw[hs4h];exact T.keep _ _ _ st3 λb _ o e=>k4 b o e
 have stat:∀{H':Hp},(∀b∈fp,H' b=none)->∀b∈fp,mx (e9 X N scope s3 H3 C fp (X.pn++pins)) [] H' b:=λhn b hb=>by
  refine⟨hn b hb,fpC b hb,λz=>?_,.inl hb,λx c e=>(f2 b hb).2.2.2.2.1 x c (cls x c e),λp hp=>?_⟩
  .rcases List.mem_cons.mp (I3.stkSub b z) with z|z
   .exact(f2 b hb).2.1 z
   .exact(f2 b hb).2.2.1 z
  .rw[List.append_nil]at hp
   exact(f2 b hb).2.2.2.2.2 p hp
 have loop:codeAny (model X.prog X.w) X.A (.compLoop (.ListComp elt [⟨tg,iter,ifs,0⟩] scope pos) 0 (.ref it) (.ref Da) (compEnvC scope (iE X.env.cells scope.names []) C X.env)) (RR (.ref Da) C) s4:=by
  refine ph (λn s'=>∃i ys σ' H',Inv (e9 X N scope s3 H3 C fp (X.pn++pins)) [] σ' H' s'/\tn i s'.heap/\(∀b∈fp,H' b=none)/\W i n ys σ' H') ?_ m0 ⟨0,[],_,H3,I4,st4,fr3,w0⟩;rintro k s5 ⟨i,ys,σ5,H5,I5,st5,fr5,w5⟩;obtain⟨hDl,ways⟩:=turn i k ys σ5 H5 w5;rcases ways with⟨stop,fin'⟩|⟨go,hz,step⟩
  .refine dy (T.done (e9 X N scope s3 H3 C fp (X.pn++pins)) rfl rfl rfl hc i [] s5 σ5 H5 (λ_ _=>False) I5 (stat fr5) st5 stop) λr s6 ⟨hr,I6⟩=>?_
   subst hr;obtain⟨mm,nsm,_⟩:=I6.loc;have free6:H5 C=none:=I6.free;have hok:gh X.prog X.w H5 s6.heap:=I6.hok;have un:Un (f9 X.stack) fp H3 H5 s3.heap s6.heap:=I6.base;have IX:Inv X pins σ H5 s6:=I3.call' (s':=s6) (ch:=fp) I6.os un hok I6.bare (λb hb=>⟨(f2 b hb).2.2.2.1,(f2 b hb).2.1,(f2 b hb).2.2.2.2.1,(f2 b hb).2.2.2.2.2⟩);have fC:mx X pins H5 C:=I3.fpOk (b:=C) (H':=H5) (by rw[hC];exact Nat.le_refl _) free6;exact fin Da C s6 H5 mm IX nsm fC fin'
  .refine dy (T.item (e9 X N scope s3 H3 C fp (X.pn++pins)) rfl rfl rfl hc i [] s5 σ5 H5 (λ_ _=>False) I5 (stat fr5) st5 go) λr s6 ⟨u,hr,h6⟩=>?_
   subst hr;refine dy h6 λ_ s7 ⟨x,H7,I7,r7,y7,st7,fr7⟩=>?_;have I7':=I7.pinned (stat fr7) (T.obj _ _ st7);refine dy ((blk s3 H3 C fp (X.pn++pins)).1 _ s7 σ5 H7 x u _ I7' r7 (step x H7 y7)) λ_ s8 ⟨σ8,H8,I8,q8⟩=>?_;refine dy ((blk s3 H3 C fp (X.pn++pins)).2.1 _ s8 σ8 H8 _ I8 q8) λb s8b ⟨H8b,I8b,q8b⟩=>?_;have back:∀{σ':L2.St}{H':Hp}{s':Shared},L2.Inv (e9 X N scope s3 H3 C fp (X.pn++pins)) (([]:List (Addr×Obj))++oq fp s7.heap) σ' H' s'->tn (i+1) s'.heap/\∀b∈fp,H' b=none:=λ{σ' H' s'} I'=>by
    refine⟨T.keep _ _ _ st7 λb hb o e=>(I'.pin (b,o) (List.mem_append_right _ (List.mem_append_right _ (jf hb e)))).1,λb hb=>?_⟩;obtain⟨o,e,d⟩:=T.obj _ _ st7 b hb;exact(I'.pin (b,o) (List.mem_append_right _ (List.mem_append_right _ (jf hb e)))).2.1
   cases b with
   |false=>
    rw[if_neg Bool.false_ne_true]at q8b ⊢;obtain⟨m',hm,w9⟩:=q8b;exact⟨m',hm,i+1,ys,σ8,_,I8b.unpinned,(back I8b).1,(back I8b).2,w9⟩
   |true=>
    rw[if_pos rfl]at q8b ⊢;refine dy ((blk s3 H3 C fp (X.pn++pins)).2.2 _ s8b σ8 H8b _ I8b q8b) λy s9 ⟨yv,H9,I9,r9,hD9,m',hm,w9⟩=>?_;refine dy (kq (X:=e9 X N scope s3 H3 C fp (X.pn++pins)) _ s9 σ8 H9 (.ref Da) [yv] (.ref Da) [y] (λv H'=>H'=upd H9 Da (.lst (ys++[yv]))) I9 rfl (.cons r9 .nil) ⟨Da,ys,yv,rfl,rfl,hD9,hz,rfl⟩) λ_ s10 ⟨v10,H10,I10,_,e10⟩=>?_;subst e10;exact⟨m',hm,i+1,ys++[yv],σ8,_,I10.unpinned,(back I10).1,(back I10).2,w9⟩
 exact codeAny_compStart_list loop (T.self _ 0 _ _ _ st4 loop)
structure MK (K:W.Frag) (ds:ac) (J:It) (Ha:Hp):Prop where
 go:∀(i:Nat) (H' Ha':Hp),aE Ha Ha'->aE Ha' H'->i<ds.length->J.go i H'
 yld:∀(i:Nat) (H' Ha':Hp) (x:V) (H2:Hp) (d:D),aE Ha Ha'->aE Ha' H'->ds[i]?=some d->J.yld i H' x H2->∃H₀2,bH H' Ha' H2 H₀2/\Rep K H₀2 d x
 stop:∀(i:Nat) (H' Ha':Hp),aE Ha Ha'->aE Ha' H'->ds.length<=i->J.stop i H'
noncomputable def MX(K:W.Frag) (E:XK) (src:Ev->au (ac)):TI:=λσ H R=>∃Ha ρ,aE Ha H/\eu K Ha σ ρ/\match src ρ with
 |.ok ds=>∀J H' Ha',bH H Ha H' Ha'->MK K ds J Ha'->R J H'
 |.exn x=>∀C ox H' Ha',bH H Ha H' Ha'->vm K Ha' x C ox->E C ox H'
 |.stuck=>False
structure DI (X:Cx) (E:XK) (tg iter:Expr) (src:Ev->au (ac)):Prop where
 o:PI X tg iter (MX X.K E src)
def rQ{X:Cx}{tg iter:Expr}{t t':TI}(h:PI X tg iter t)(w:∀σ H R,t' σ H R->t σ H R):PI X tg iter t':=λpins s σ H R I q=>h pins s σ H R I (w σ H R q)
def Dh(f:am):Ev->au (ac):=λρ=>(f ρ).bind λd=>match d with
 |.lst ds=>.ok ds
 |_=>.stuck
def Dg(f:am):Ev->au (ac):=λρ=>(f ρ).bind λd=>match d with
 |.str z=>.ok (jN z)
 |_=>.stuck
section
variable {X:Cx}{E:XK}{tg e a b:Expr}{f g:am}
def Fc(h:DE X E e f):DI X E tg e (Dh f):=by
 refine⟨rQ (Dw h.o) λσ H R z9=>?_⟩;obtain⟨Ha,ρ,hs,hr,q⟩:=z9;refine⟨Ha,ρ,hs,hr,?_⟩;unfold Dh at q;cases e1:f ρ with
 |stuck|exn x=>rw[e1]at q;exact q
 |ok d=>
  rw[e1]at q;intro v H1 H01 g1 r1;cases d with
  |lst ds=>
   obtain⟨p,vs,rfl,hv,hrv⟩:=aC.mp r1;refine⟨p,rfl,⟨vs,aE.sqL g1.sub hv⟩,q _ H1 H01 g1 ⟨λi H' Ha' s1 s2 hi=>?_,λi H' Ha' x H2 d s1 s2 hd hy=>?_,λi H' Ha' s1 s2 hi=>?_⟩⟩
   .exact⟨vs,vs[i]'(by rw[←hrv.length];exact hi),aE.sqL (s1.trans s2) hv,by simp⟩
   .obtain⟨rfl,hy⟩:=hy
    obtain⟨u,k1,k2⟩:=hrv.get hd;have:=hy vs (aE.sqL (s1.trans s2) hv);rw[k1]at this;cases this;exact⟨Ha',bH.refl s2,k2.mono s1⟩
   .exact⟨vs,aE.sqL (s1.trans s2) hv,by rw[←hrv.length];exact hi⟩
  |_=>exact q.elim
def II(h:DE X E e f):DI X E tg e (Dg f):=by
 refine⟨rQ (G0 h.o) λσ H R z9=>?_⟩;obtain⟨Ha,ρ,hs,hr,q⟩:=z9;refine⟨Ha,ρ,hs,hr,?_⟩;unfold Dg at q;cases e1:f ρ with
 |stuck|exn x=>rw[e1]at q;exact q
 |ok d=>
  rw[e1]at q;intro v H1 H01 g1 r1;cases d with
  |str z=>
   refine⟨z,Rep.str_iff.mp r1,q _ H1 H01 g1 ⟨λi H' Ha' s1 s2 hi=>?_,λi H' Ha' x H2 d s1 s2 hd hy=>?_,λi H' Ha' s1 s2 hi=>?_⟩⟩
   .rw[kP]at hi;exact hi
   .obtain⟨rfl,c,hc,rfl⟩:=hy
    have:d=.str ⟨#[c]⟩:=by
     unfold jN at hd;rw[List.getElem?_map]at hd;have h2:z.cps.toList[i]?=some c:=by simpa using hc
     rw[h2]at hd;cases hd;rfl
    subst this;exact⟨Ha',bH.refl s2,Rep.str_iff.mpr rfl⟩
   .rw[kP]at hi;exact hi
  |_=>exact q.elim
end
def lj(src:Ev->au (ac))(tg:Ev->D->au Ev)(s:bv):bv:=λρ=>(src ρ).bind λds=>dw tg s ds ρ
section
variable {X:Cx}{E:XK}{He H0e:Hp}{st:Stmt}{s:bv}{pos:Pos}
def vf{K:W.Frag}{Hb Ha:Hp}{tg:Ev->D->au Ev}{ds:ac}{D':gW}{i:Nat}{σ:L2.St}{H:Hp}{d:D}{v:V}{ρ:Ev}(z:aE Hb Ha)(h:eG K He H0e Ha σ H ρ)(q:bZ K E He H0e Ha (dw tg s (ds.drop i) ρ) D')(hd:ds[i]?=some d)(rv:Rep K Ha d v)
  (he:∀ρ,tg ρ d=.stuck∨∃ρ',tg ρ d=.ok ρ') :
  tG K He H0e tg v σ H λσ2 H2=>tS K E He H0e s { D' with nx:=iY K E He H0e Hb tg s ds D' (i+1),ct:=iY K E He H0e Hb tg s ds D' (i+1),bk:=D'.nx } σ2 H2:=by
 have hi:i<ds.length:=(List.getElem?_eq_some_iff.mp hd).1;have hdr:ds.drop i=d::ds.drop (i+1):=by
  rw[List.drop_eq_getElem_cons hi];rw[List.getElem?_eq_getElem hi]at hd;cases hd;rfl
 rw[hdr]at q;refine⟨Ha,ρ,d,h,rv,?_⟩;unfold dw at q;rcases he ρ with e1|⟨ρ1,e1⟩
 .rw[e1]at q;exact q.elim
 .rw[e1]at q ⊢
  intro σ' H' Ha' z' h';refine⟨Ha',ρ1,h',?_⟩;replace q:=bZ.grow (r:=(s ρ1).bind λx=>match x with
   |.nx ρ2=>dw tg s (ds.drop (i+1)) ρ2
   |.ct ρ2=>dw tg s (ds.drop (i+1)) ρ2
   |.bk ρ2=>.ok (.nx ρ2)
   |.rt d=>.ok (.rt d)) q z'
  cases e2:s ρ1 with
  |stuck|exn x=>rw[e2]at q;exact q
  |ok r=>
   rw[e2]at q;cases r with|nx ρ2=>exact λσ3 H3 H03 z3 h3=>⟨H03,ρ2,(z.trans z').trans z3,h3,bZ.grow (r:=dw tg s (ds.drop (i+1)) ρ2) q z3⟩|ct ρ2=>exact λσ3 H3 H03 z3 h3=>⟨H03,ρ2,(z.trans z').trans z3,h3,bZ.grow (r:=dw tg s (ds.drop (i+1)) ρ2) q z3⟩|bk ρ2|rt d=>exact q
def yu{tgt iter:Expr}{body:List Stmt}{tg:Ev->D->au Ev}{src:Ev->au (ac)}(hp:PassesOwn (model X.prog X.w) X.A X.env X.xe)(hc:X.calm=true)(hi:DI X E tgt iter src)(hg:DG X E He H0e tgt tg)(ht:yG tg)(hb:tq X E He H0e body s)
  (hs:∀x,foldedSetIterable iter X.env x=pure x:=by intro _;rfl):DS X E He H0e (.For tgt iter body [] pos) (lj src tg s):=by
 refine⟨dA (AL hp hc hi.o hg.o hb.o hs) λD' σ H z9=>?_⟩;obtain⟨Ha,ρ,h,q⟩:=z9;refine⟨Ha,ρ,h.g.sub,h.rd,?_⟩;unfold lj at q;cases e1:src ρ with
 |stuck=>rw[e1]at q;exact q|exn x=>rw[e1]at q;exact λC ox H' Ha' g r=>q C ox H' Ha' (h.g.trans g) r
 |ok ds=>
  rw[e1]at q;intro J H1 H01 g it;have q1:bZ X.K E He H0e H01 (dw tg s ds ρ) D':=bZ.grow (r:=dw tg s ds ρ) q g.z;refine⟨λi m σ' H'=>m+i=ds.length/\iY X.K E He H0e H01 tg s ds D' i σ' H',⟨ds.length,rfl,H01,ρ,aE.refl _,h.grow g,q1⟩,?_⟩;rintro i m σ' H' ⟨hm,Ha',ρ',z,h',hq⟩
  by_cases hlt:i<ds.length
  .refine .inr ⟨it.go i H' Ha' z h'.g.sub hlt,λσ2 H2=>iY X.K E He H0e H01 tg s ds D' (i+1) σ2 H2,λσ2 H2 hl=>⟨m-1,by omega,by omega,hl⟩,λx H2 hy=>?_⟩
   obtain⟨H₀2,g2,rp⟩:=it.yld i H' Ha' x H2 ds[i] z h'.g.sub (List.getElem?_eq_getElem hlt) hy;exact vf (z.trans g2.z) (h'.grow g2) (bZ.grow (r:=dw tg s (ds.drop i) ρ') hq g2.z) (List.getElem?_eq_getElem hlt) rp λρ=>ht ρ _
  .have e:i=ds.length:=by omega
   refine .inl ⟨it.stop i H' Ha' z h'.g.sub (by omega),?_⟩;subst e;exact iY.done ⟨Ha',ρ',z,h',hq⟩
end
def pJ(f:am):Prop:=∀ρ d,f ρ=.ok d->∃ds,d=.lst ds
def Ap{K:W.Frag}{E:XK}{f:am}(hf:pJ f){σ:L2.St}{H:Hp}{Q:VK}(h:tD K E f σ H Q):tF K E f σ H Q:=by
 obtain⟨Ha,ρ,hs,hr,q⟩:=h;refine⟨Ha,ρ,hs,hr,?_⟩;cases e1:f ρ with
 |stuck|exn x=>rw[e1]at q;exact q
 |ok d=>
  obtain⟨ds,rfl⟩:=hf ρ d e1;rw[e1]at q;intro p vs H' Ha' g hp h0 hv rp;have n0:Ha p=none:=hs.free hp;refine q (.ref p) H' (upd Ha' p (.lst vs)) ⟨g.s,λb o e=>?_,λb o e=>?_,λb k1 k2=>?_⟩ (aC.mpr ⟨p,vs,rfl,fL.of aF,rp.mono λb o e=>?_⟩)
  .rw[aD (by intro z;subst z;rw[n0]at e;cases e)];exact g.z _ _ e
  .by_cases hb:b=p
   .subst hb;rw[aF]at e;cases e;exact hv
   .rw[aD hb]at e;exact g.sub _ _ e
  .by_cases hb:b=p
   .subst hb;exact hp
   .rw[aD hb]at k1;exact g.nw b k1 k2
  .rw[aD (by intro z;subst z;rw[h0]at e;cases e)];exact e
def B3{X:Cx}{E:XK}{e:Expr}{f:am}(hf:pJ f)(h:DF X E e f):DE X E e f:=⟨bp h.o λσ H Q q=>Ap hf q⟩
def et(n:Nat)(fr:cr)(ρ:Ev):Ev:=List.replicate n .no++fr.map λ(i:Nat)=>match ρ[i]? with
 |some (.sh d)=>.sh d
 |_=>.no
noncomputable def cR(b:Ev) (tg:Ev->D->au Ev) (tt fe:am):ac->au (ac)
 |[]=>.ok []
 |d::r=>(tg b d).bind λρ1=>(tt ρ1).bind λt=>match t with
  |.bl true=>(fe ρ1).bind λx=>(cR b tg tt fe r).bind λxs=>.ok (x::xs)
  |.bl false=>cR b tg tt fe r
  |_=>.stuck
def iT(n:Nat)(fr:cr)(src:Ev->au (ac))(tg:Ev->D->au Ev)(tt fe:am):am:=λρ=>(src ρ).bind λds=>
 if ds.length<=line then match cR (et n fr ρ) tg tt fe ds with
  |.ok es=>.ok (.lst es)
  |_=>.stuck
 else .stuck
def zD{n:Nat}{fr:cr}{src:Ev->au (ac)}{tg:Ev->D->au Ev}{tt fe:am}:pJ (iT n fr src tg tt fe):=λρ d h=>by
 unfold iT at h;cases e1:src ρ with
 |stuck|exn x=>rw[e1]at h;cases h
 |ok ds=>
  rw[e1]at h;replace h:(if ds.length<=line then match cR (et n fr ρ) tg tt fe ds with
   |.ok es=>au.ok (D.lst es)
   |_=>.stuck else .stuck)=.ok d:=h
  split at h
  .split at h
   .cases h;exact⟨_,rfl⟩
   .cases h
  .cases h
def ju{b:Ev}{tg:Ev->D->au Ev}{tt fe:am}{d:D}{r es:ac}(h:cR b tg tt fe (d::r)=.ok es) :
  ∃ρ1 t,tg b d=.ok ρ1/\tt ρ1=.ok (.bl t)/\((t=true/\∃x xs,fe ρ1=.ok x/\cR b tg tt fe r=.ok xs/\es=x::xs)∨(t=false/\cR b tg tt fe r=.ok es)):=by
 unfold cR at h;cases e1:tg b d with
 |stuck|exn z=>rw[e1]at h;cases h
 |ok ρ1=>
  rw[e1]at h;replace h:((tt ρ1).bind λt=>match t with
   |.bl true=>(fe ρ1).bind λx=>(cR b tg tt fe r).bind λxs=>au.ok (x::xs)
   |.bl false=>cR b tg tt fe r
   |_=>.stuck)=.ok es:=h
  cases e2:tt ρ1 with
  |stuck|exn z=>rw[e2]at h;cases h
  |ok t=>
   rw[e2]at h;cases t with
   |bl t=>
    cases t with
    |true=>
     replace h:((fe ρ1).bind λx=>(cR b tg tt fe r).bind λxs=>au.ok (x::xs))=.ok es:=h;cases e3:fe ρ1 with
     |stuck|exn z=>rw[e3]at h;cases h
     |ok x=>
      rw[e3]at h;replace h:((cR b tg tt fe r).bind λxs=>au.ok (x::xs))=.ok es:=h;cases e4:cR b tg tt fe r with|stuck|exn z=>rw[e4]at h;cases h|ok xs=>rw[e4]at h;cases h;exact⟨ρ1,true,rfl,e2,.inl ⟨rfl,x,xs,e3,rfl,rfl⟩⟩
    |false=>exact⟨ρ1,false,rfl,e2,.inr ⟨rfl,h⟩⟩
   |_=>cases h
def iU{b:Ev}{tg:Ev->D->au Ev}{tt fe:am}{d x:D}{r:ac}{ρ1:Ev}(h1:tg b d=.ok ρ1)(h2:tt ρ1=.ok (.bl true))(h3:fe ρ1=.ok x):cR b tg tt fe (d::r)=(cR b tg tt fe r).bind λxs=>.ok (x::xs):=by
 rw[cR,h1];simp only[au.bind,h2,h3]
def pk{b:Ev}{tg:Ev->D->au Ev}{tt fe:am}{d:D}{r:ac}{ρ1:Ev}(h1:tg b d=.ok ρ1)(h2:tt ρ1=.ok (.bl false)):cR b tg tt fe (d::r)=cR b tg tt fe r:=by
 rw[cR,h1];simp only[au.bind,h2]
theorem mq{b:Ev}{tg:Ev->D->au Ev}{tt fe:am}:∀{r q es:ac},cR b tg tt fe (r++q)=.ok es->∃e1 e2,cR b tg tt fe r=.ok e1/\cR b tg tt fe q=.ok e2/\es=e1++e2
 |[],q,es,h=>⟨[],es,rfl,h,rfl⟩
 |d::r,q,es,h=>by
  obtain⟨ρ1,t,h1,h2,h3⟩:=ju h;rcases h3 with⟨rfl,x,xs,h3,h4,rfl⟩|⟨rfl,h4⟩
  .obtain⟨e1,e2,k1,k2,rfl⟩:=mq h4
   refine⟨x::e1,e2,?_,k2,rfl⟩;rw[iU h1 h2 h3,k1];rfl
  .obtain⟨e1,e2,k1,k2,rfl⟩:=mq h4
   refine⟨e1,e2,?_,k2,rfl⟩;rw[pk h1 h2];exact k1
theorem jt{b:Ev}{tg:Ev->D->au Ev}{tt fe:am}:∀{r q e1 e2:ac},cR b tg tt fe r=.ok e1->cR b tg tt fe q=.ok e2->cR b tg tt fe (r++q)=.ok (e1++e2)
 |[],q,e1,e2,h,h'=>by cases h;exact h'
 |d::r,q,e1,e2,h,h'=>by
  obtain⟨ρ1,t,h1,h2,h3⟩:=ju h;show cR b tg tt fe (d::(r++q))=_;rcases h3 with⟨rfl,x,xs,h3,h4,rfl⟩|⟨rfl,h4⟩
  .rw[iU h1 h2 h3,jt h4 h'];rfl
  .rw[pk h1 h2];exact jt h4 h'
theorem pq{b:Ev}{tg:Ev->D->au Ev}{tt fe:am}:∀{r es:ac},cR b tg tt fe r=.ok es->es.length<=r.length
 |[],es,h=>by cases h;exact Nat.le_refl _
 |d::r,es,h=>by
  obtain⟨ρ1,t,h1,h2,h3⟩:=ju h;rcases h3 with⟨rfl,x,xs,h3,h4,rfl⟩|⟨rfl,h4⟩
  .exact Nat.succ_le_succ (pq h4)
  .exact Nat.le_succ_of_le (pq h4)
def Fz(n:Nat)(tg:Ev->D->au Ev):Prop:=∀ρ d ρ',tg ρ d=.ok ρ'->ρ'.length=ρ.length/\∀(k:Nat),n<=k->ρ'[k]?=ρ[k]?
def tN{i n:Nat}(h:i<n):Fz n (j7 i):=λρ d ρ' e=>by
 cases e;exact⟨by simp,λk hk=>by rw[List.getElem?_set_ne (by omega)]⟩
def wR{K:W.Frag}{Ha:Hp}{σ:L2.St}{ρ:Ev}{n:Nat}{fr:cr}(h:eu K Ha σ ρ):eu K Ha (lS n fr σ) (et n fr ρ):=λi d e=>by
 unfold et at e;unfold lS
 by_cases hi:i<n
 .rw[List.getElem?_append_left (by simpa using hi),List.getElem?_replicate,if_pos hi]at e
  cases e
 .rw[List.getElem?_append_right (by simpa using hi),List.length_replicate,List.getElem?_map]at e ⊢
  cases hf:fr[i-n]? with
  |none=>rw[hf]at e;cases e
  |some j=>
   rw[hf]at e;simp only[Option.map_some,Option.some.injEq]at e ⊢;cases hj:ρ[j]? with
   |none=>rw[hj]at e;cases e
   |some s=>
    rw[hj]at e;cases s with
    |sh d'=>
     cases e;obtain⟨v,h1,h2⟩:=h j d hj;exact⟨v,by rw[h1];rfl,h2⟩
    |_=>cases e
def Fv{n:Nat}{fr:cr}{ρ:Ev}{k:Nat}(h:k<n):(et n fr ρ)[k]?=some .no:=by
 unfold et;rw[List.getElem?_append_left (by simpa using h),List.getElem?_replicate,if_pos h]
def Cg{n:Nat}{fr:cr}{ρ:Ev}(i j:Nat)(es:ac):(et n fr ρ)[i]?≠some (.ox j es):=λe=>by
 unfold et at e
 by_cases hj:i<n
 .rw[List.getElem?_append_left (by simpa using hj),List.getElem?_replicate,if_pos hj]at e;cases e
 .rw[List.getElem?_append_right (by simpa using hj),List.getElem?_map]at e
  cases hf:fr[i-(List.replicate n Sl.no).length]? with
  |none=>rw[hf]at e;cases e
  |some z=>
   rw[hf]at e;simp only[Option.map_some,Option.some.injEq]at e;split at e<;>cases e
def zH{n:Nat}{fr:cr}{ρ:Ev}{σ:L2.St}(i:Nat)(a:Addr)(e:(et n fr ρ)[i]?=some (.pt a)):σ[i]?=some (some (.ref a)):=by
 unfold et at e
 by_cases hj:i<n
 .rw[List.getElem?_append_left (by simpa using hj),List.getElem?_replicate,if_pos hj]at e;cases e
 .rw[List.getElem?_append_right (by simpa using hj),List.getElem?_map]at e
  cases hf:fr[i-(List.replicate n Sl.no).length]? with
  |none=>rw[hf]at e;cases e
  |some z=>
   rw[hf]at e;simp only[Option.map_some,Option.some.injEq]at e;split at e<;>cases e
def u4{n:Nat}{fr:cr}{ρ:Ev}:(et n fr ρ).length=n+fr.length:=by unfold et;simp
def wN{K:W.Frag}{E:XK}{n:Nat}{fr:cr}{tg:Ev->D->au Ev}{tt fe:am}{σ:L2.St}{ρ:Ev}{H Ha H1 H01:Hp}{ds es:ac}{J:It}{Q:VK}(hsame:aE Ha H)(g1:bH H Ha H1 H01)(it:MK K ds J H01)(hl:ds.length<=line)
  (e2:cR (et n fr ρ) tg tt fe ds=.ok es)(hr:eu K H01 σ ρ)(hok:Fz n tg)
  (q:∀p vs H' Ha',bH H Ha H' Ha'->H p=none->Ha' p=none->H' p=some (.lst vs)->Reps K Ha' es vs->Q (.ref p) H') :
  vv n fr (HD K tg) (Jj K E tt) (tD K E fe) J σ H1 Q:=by
 intro Da hDa;have h0D:H01 Da=none:=g1.sub.free hDa;refine⟨λi m ys σ' H'=>m=ds.length-i/\i<=ds.length/\σ'.length=n+fr.length/\∃Ha',bH H1 H01 H' Ha'/\Ha' Da=none/\H' Da=some (.lst ys)/\eu K Ha' σ' (et n fr ρ)/\∃es1,cR (et n fr ρ) tg tt fe (ds.take i)=.ok es1/\Reps K Ha' es1 ys,
  ⟨ds.length,by simp,Nat.zero_le _,by unfold lS;simp,H01,?_,h0D,aF,wR hr,[],rfl,Reps.nil⟩,?_⟩
 .refine⟨λb o e=>by rw[aD (aY e hDa)];exact e,aE.refl _,λb o e=>?_,λb k1 k2=>absurd k2 k1⟩
  rw[aD (by intro z;subst z;rw[h0D]at e;cases e)];exact g1.sub _ _ e
 .rintro i m ys σ' H' ⟨rfl,hile,hsl,Ha',gg,hD0,hDl,hrd,es1,hes1,hys⟩
  refine⟨hDl,?_⟩
  by_cases hlt:i<ds.length
  .refine .inr ⟨it.go i H' Ha' gg.z gg.sub hlt,?_,?_⟩
   .rw[←hys.length]
    have:=pq hes1;rw[List.length_take]at this;have h2:line<sizeLine:=by decide
    omega
   .intro x H2 hy
    obtain⟨H₀2,g2,rp⟩:=it.yld i H' Ha' x H2 ds[i] gg.z gg.sub (List.getElem?_eq_getElem hlt) hy;have hsplit:ds=ds.take i++(ds[i]::ds.drop (i+1)):=by rw[←List.drop_eq_getElem_cons hlt,List.take_append_drop]
    rw[hsplit]at e2;obtain⟨a1,a2,k1,k2,k3⟩:=mq e2;rw[hes1]at k1;cases k1;obtain⟨ρ1,t,t1,t2,t3⟩:=ju k2;have hn2:H₀2 Da=none:=by
     cases qq:H₀2 Da with|none=>rfl|some o=>have:=g2.nw Da (by rw[qq];simp) hD0;rw[hDl]at this;cases this
    have hD2:H2 Da=some (.lst ys):=g2.s _ _ hDl;refine⟨H2,H₀2,H₀2,et n fr ρ,ds[i],⟨bH.refl g2.sub,hrd.mono g2.z,λj d' e=>?_,λj k d1 d2 _ e=>?_,by rw[u4,hsl],OX.none Cg zH⟩,rp,?_⟩
    .unfold et at e
     by_cases hj:j<n
     .rw[List.getElem?_append_left (by simpa using hj),List.getElem?_replicate,if_pos hj]at e;cases e
     .rw[List.getElem?_append_right (by simpa using hj),List.getElem?_map]at e
      cases hf:fr[j-(List.replicate n Sl.no).length]? with
      |none=>rw[hf]at e;cases e
      |some z=>
       rw[hf]at e;simp only[Option.map_some,Option.some.injEq]at e;split at e<;>cases e
    .unfold et at e
     by_cases hj:j<n
     .rw[List.getElem?_append_left (by simpa using hj),List.getElem?_replicate,if_pos hj]at e;cases e
     .rw[List.getElem?_append_right (by simpa using hj),List.getElem?_map]at e
      cases hf:fr[j-(List.replicate n Sl.no).length]? with
      |none=>rw[hf]at e;cases e
      |some z=>
       rw[hf]at e;simp only[Option.map_some,Option.some.injEq]at e;split at e<;>cases e
    .rw[t1]
     intro σ3 H3 H03 z3 s3;have hrl:=hok _ _ _ t1;have hσ3:σ3.length=n+fr.length:=by rw[←s3.ln,hrl.1,u4]
     have back:∀{Hx:Hp},aE H03 Hx->eu K Hx σ3 (et n fr ρ):=λ{Hx} sx k d e=>by
      by_cases hk:k<n
      .rw[Fv hk]at e;cases e
      .rw[←hrl.2 k (by omega)]at e
       obtain⟨v,h1,h2⟩:=s3.rd k d e;exact⟨v,h1,h2.mono sx⟩
     have n3:H03 Da=none:=by
      cases qq:H03 Da with|none=>rfl|some o=>have:=s3.g.nw Da (by rw[qq];simp) hn2;rw[hD2]at this;cases this
     have hD3:H3 Da=some (.lst ys):=s3.g.s _ _ hD2;refine⟨H03,ρ1,s3.g.sub,s3.rd,?_⟩;rw[t2];intro H4 H04 g4;have hD4:H4 Da=some (.lst ys):=g4.s _ _ hD3;have n4:H04 Da=none:=by
      cases qq:H04 Da with|none=>rfl|some o=>have:=g4.nw Da (by rw[qq];simp) n3;rw[hD3]at this;cases this
     have htake:ds.take (i+1)=ds.take i++[ds[i]]:=by rw[List.take_add_one,List.getElem?_eq_getElem hlt];rfl
     have g04:=(gg.trans g2).trans (s3.g.trans g4);rcases t3 with⟨rfl,y,xs,t3,t4,_⟩|⟨rfl,t4⟩
     .rw[if_pos rfl]
      refine⟨H04,ρ1,g4.sub,s3.rd.mono g4.z,?_⟩;rw[t3];intro yv H5 H05 g5 ry;have hD5:H5 Da=some (.lst ys):=g5.s _ _ hD4;have n5:H05 Da=none:=by
       cases qq:H05 Da with|none=>rfl|some o=>have:=g5.nw Da (by rw[qq];simp) n4;rw[hD4]at this;cases this
      have gall:=g04.trans g5;refine⟨hD5,ds.length-(i+1),by omega,rfl,hlt,hσ3,H05,⟨λb o e=>?_,gall.z,λb o e=>?_,gall.nw⟩,n5,aF,back (g4.z.trans g5.z),es1++[y],?_,?_⟩
      .rw[aD (aY e hDa)];exact gall.s _ _ e
      .rw[aD (by intro z;subst z;rw[n5]at e;cases e)];exact gall.sub _ _ e
      .rw[htake]
       refine jt hes1 ?_;rw[iU t1 t2 t3];rfl
      .exact(hys.mono ((g2.z.trans s3.g.z).trans (g4.z.trans g5.z))).app (Reps.cons ry Reps.nil)
     .rw[if_neg Bool.false_ne_true]
      refine⟨ds.length-(i+1),by omega,rfl,hlt,hσ3,H04,g04,n4,hD4,back g4.z,es1,?_,hys.mono ((g2.z.trans s3.g.z).trans g4.z)⟩;rw[htake];rw[show es1=es1++[] by simp];refine jt hes1 ?_;rw[pk t1 t2];rfl
  .have hi2:i=ds.length:=by omega
   refine .inl ⟨it.stop i H' Ha' gg.z gg.sub (by omega),?_⟩;rw[hi2,List.take_length]at hes1;rw[e2]at hes1;cases hes1;exact q Da ys H' Ha' (g1.trans gg) (g1.s.free hDa) hD0 hDl hys
structure Mv (X:Cx) (E:XK) (ifs:List Expr) (f:am):Prop where
 o:Lo X ifs (Jj X.K E f)
def mYes:am:=λ_=>.ok (.bl true)
def yx{X:Cx}{E:XK}:Mv X E [] mYes:=⟨λpins s σ H Q I ⟨Ha,ρ,hs,hr,q⟩=>Dv pins s σ H Q I (q H Ha (bH.refl hs))⟩
structure Lr (X:Cx) (E:XK) (e:Expr) (f:am):Prop where
 ev:PE X e (tF X.K E f)
 st:∀{i:Nat}{x:Str}{pos' spos:Pos},X.N.Nodup->X.N[i]?=some x->X.env.scope.names.lookup x=some .local -> swapsWith e (some (.Name x pos')) spos.line X.env=pure true->PS X (.Assign [.Name x pos'] e spos) (GG (tF X.K E f) (Bt i))
def M5{X:Cx}{E:XK}{tgt iter elt:Expr}{ifs:List Expr}{scope:Scope}{pos:Pos}(N:List Str)(n:Nat)(fr:cr){src:Ev->au (ac)}{tg:Ev->D->au Ev}{tt fe:am}(hc:X.calm=true)(hi:DI X E tgt iter src)(hok:Fz n tg)
  (blk:∀s H C fp pn,(∀He H0e,DG (e9 X N scope s H C fp pn) E He H0e tgt tg)/\Mv (e9 X N scope s H C fp pn) E ifs tt/\DE (e9 X N scope s H C fp pn) E elt fe)
  (hfr:Cv X N n fr scope)(hcell:∀x∈scope.names,x.2≠.cell)(hfree:∀x∈scope.names,x.2=.free->X.env.scope.names.lookup x.1=some .cell)(hkind:scope.kind=.function)(hnames:∀x∈scope.names,x.2=.local -> scope.names.lookup x.1=some .local)
  (hs:∀x,foldedSetIterable iter X.env x=pure x:=by intro _;rfl):Lr X E (.ListComp elt [⟨tgt,iter,ifs,0⟩] scope pos) (iT n fr src tg tt fe):=by
 have blk':∀s H C fp pn,PG (e9 X N scope s H C fp pn) tgt (HD X.K tg)/\Lo (e9 X N scope s H C fp pn) ifs (Jj X.K E tt)/\PE (e9 X N scope s H C fp pn) elt (tD X.K E fe):=λs H C fp pn=>
  ⟨λpins s' σ' H' v u Q' I r ⟨He,H0e,q'⟩=>((blk s H C fp pn).1 He H0e).o pins s' σ' H' v u Q' I r q',(blk s H C fp pn).2.1.o,(blk s H C fp pn).2.2.o⟩
 have first:∀{pins:List (Addr×Obj)}{s:Shared}{σ:L2.St}{H:Hp}{Q:VK}{RR:Value->Addr->Result->Shared->Prop},L2.Inv X pins σ H s->tF X.K E (iT n fr src tg tt fe) σ H Q ->
   (∀(Da C:Addr) (s6:Shared) (H5:Hp) (m:Str->Option Value),L2.Inv X pins σ H5 s6->s6.heap.Ns C m->mx X pins H5 C->Q (.ref Da) H5->RR (.ref Da) C (.ok .next) s6) ->
   wpAny (model X.prog X.w) X.A (eval iter X.env) (λx sg=>wpAny (model X.prog X.w) X.A (pyIter x) (λit si=>wpAny (model X.prog X.w) X.A (newList []) (λacc sj=>
    wpAny (model X.prog X.w) X.A (newFunctionEnv scope X.env.globals (iE X.env.cells scope.names []) [] X.env.qual none .none (some X.env)) (λcenv sk=>
     codeAny (model X.prog X.w) X.A (.compStart (.ListComp elt [⟨tgt,iter,ifs,0⟩] scope pos) 0 it acc { cenv with scope:=relabel scope X.env }) (RR acc cenv.locals) sk) X.xe sj) X.xe si) X.xe sg) X.xe s:=by
  intro pins s σ H Q RR I ⟨Ha,ρ,hsame,hr,q⟩ fin;refine dy (hi.o pins s σ H (λJ H1=>vv n fr (HD X.K tg) (Jj X.K E tt) (tD X.K E fe) J σ H1 Q) I ⟨Ha,ρ,hsame,hr,?_⟩) λv s1 h1=>dy h1 λitv s2 h2=>zE (N:=N) hc hfr hcell hfree hkind blk' h2 fin;unfold iT at q;cases e1:src ρ with
  |stuck|exn x=>rw[e1]at q;exact q
  |ok ds=>
   rw[e1]at q;intro J H1 H01 g1 it;replace q:match (if ds.length<=line then match cR (et n fr ρ) tg tt fe ds with
     |.ok es=>au.ok (D.lst es)
     |_=>.stuck else .stuck) with
    |.ok (.lst ds)=>∀p vs H' Ha',bH H Ha H' Ha'->H p=none->Ha' p=none->H' p=some (.lst vs)->Reps X.K Ha' ds vs->Q (.ref p) H'
    |.ok _=>False
    |.exn x=>∀C ox H' Ha',bH H Ha H' Ha'->vm X.K Ha' x C ox->E C ox H'
    |.stuck=>False:=q
   by_cases hl:ds.length<=line
   .rw[if_pos hl]at q
    cases e2:cR (et n fr ρ) tg tt fe ds with
    |stuck|exn x=>rw[e2]at q;exact q.elim
    |ok es=>
     rw[e2]at q;exact wN hsame g1 it hl e2 (hr.mono g1.z) hok q
   .rw[if_neg hl]at q;exact q.elim
 have hcl:∀{pins:List (Addr×Obj)}{s:Shared}{σ:L2.St}{H:Hp},L2.Inv X pins σ H s->closureFor scope X.env=pure (iE X.env.cells scope.names []):=λ{pins s σ H} I=>pY λy hy hf=>I.ok.has y.1 (.inl (hfree y hy hf));refine⟨λpins s σ H Q I h=>?_,λ{i x pos' spos} hN hi' hx hsw pins s σ H D' I h=>?_⟩
 .rw[eval_ListComp]
  refine wpAny_comprehension_free (use:=none) rfl hs (hcl I) hkind hnames (first (RR:=λacc C=>compPost (model X.prog X.w) X.A X.xe none (EP X pins σ Q) acc C) I h λDa C s6 H5 m I6 ns fC q=>?_);refine⟨m,ns,λh' sb=>⟨.ref Da,H5,?_,rfl,q⟩⟩;exact I6.turned (t':=s6.toks) (it:=C) (λb o hb e=>(sb.2 b hb).trans e) fC.1 fC.2.1 fC.2.2.2.1 fC.2.2.2.2.1 fC.2.2.2.2.2
 .rw[exec_Assign_Name_used _ _ _ _ hsw]
  refine wpAny_bind (wpAny_standAt (wpAny_bind ?_));show wpAny _ X.A (do let _ ←comprehension (.ListComp elt [⟨tgt,iter,ifs,0⟩] scope pos) scope X.env _ (newList []) false (eval iter X.env) (some (assign (.Name x pos') X.env))) _ _ s;refine wpAny_bind (wpAny_mono (wpAny_comprehension_free (use:=some (assign (.Name x pos') X.env)) (Q:=λ_ s'=>SP X pins D' .next s') rfl hs (hcl I) hkind hnames
   (first (RR:=λacc C=>compPost (model X.prog X.w) X.A X.xe (some (assign (.Name x pos') X.env)) (λ_ s'=>SP X pins D' .next s') acc C) I h λDa C s6 H5 m I6 ns fC q=>?_)) (λ_ s' hq=>wpAny_pure (wpAny_pure hq)) λ_ _ e=>e)
  show wpAny _ X.A (assign (.Name x pos') X.env (.ref Da)) _ _ _;refine wpAny_assign_Name (qh (v:=.ref Da) I6 hN hi' (.inl hx) rfl (λs' I' z9=>?_) (.inr hx));obtain⟨a,sb,ha⟩:=z9;have hCa:C≠a:=by
   rcases ha with rfl|ha
   .exact fC.2.1
   .exact λz=>fC.2.2.2.2.1 x a ha z.symm
  refine⟨m,ns.sameBut sb hCa,λh' sb'=>⟨_,H5,?_,q⟩⟩;exact I'.turned (t':=s'.toks) (it:=C) (λb o hb e=>(sb'.2 b hb).trans e) fC.1 fC.2.1 fC.2.2.2.1 fC.2.2.2.2.1 fC.2.2.2.2.2
def KR{X:Cx}{E:XK}{e:Expr}{f:am}(h:Lr X E e f):DF X E e f:=⟨h.ev⟩
def F4{X:Cx}{E:XK}{e:Expr}{n:Nat}{fr:cr}{src:Ev->au (ac)}{tg:Ev->D->au Ev}{tt fe:am}(h:Lr X E e (iT n fr src tg tt fe)):DE X E e (iT n fr src tg tt fe):=B3 zD (KR h)
section
variable {X:Cx}{E:XK}{He H0e:Hp}{e:Expr}{f:am}{s:bv}{pos:Pos}{st:Stmt}
def unown(i:Nat)(ρ:Ev):Ev:=match ρ[i]? with
 |some (.ow d)=>ρ.set i (.sh d)
 |_=>ρ
def GK(i:Nat)(s:bv):bv:=λρ=>s (unown i ρ)
def eG.unown{K:W.Frag}{Ha H:Hp}{σ:L2.St}{ρ:Ev}(h:eG K He H0e Ha σ H ρ)(i:Nat):∃Ha',aE Ha Ha'/\eG K He H0e Ha' σ H (DL.unown i ρ):=by
 unfold DL.unown;cases e:ρ[i]? with
 |none=>exact⟨Ha,aE.refl _,h⟩
 |some s=>
  cases s with
  |no|sh d|ox j ds|pt a=>exact⟨Ha,aE.refl _,h⟩
  |ow d=>
   obtain⟨a,k1,k2,k3,k4⟩:=h.ow i d e;obtain⟨o,h5,hrep⟩:∃o,H a=some o/\∀Hb,aE Ha Hb->Hb a=some o->Rep K Hb d (.ref a):=by
    cases d with
    |lst ds=>obtain⟨vs,h5,h6⟩:=k4;exact⟨_,h5,λHb z e=>aC.mpr ⟨a,vs,rfl,fL.of e,h6.mono z⟩⟩
    |dic ks ds=>obtain⟨vs,h5,hl,h6⟩:=k4;exact⟨_,h5,λHb z e=>by rw[Rep];exact⟨a,_,vs,rfl,.inl e,rfl,hl,h6.mono z⟩⟩
    |ob kk ds=>
     cases kk with|dint ks=>obtain⟨vs,h5,hl,h6⟩:=k4;exact⟨_,h5,λHb z e=>by exact bX.mpr ⟨a,vs,rfl,⟨_,.inl e,rfl,hl⟩,h6.mono z⟩⟩| _=>exact k4.elim
    |_=>exact k4.elim
   have z:aE Ha (upd Ha a o):=λb o' q=>by rw[aD (by intro z;subst z;rw[k3]at q;cases q)];exact q
   have h':eG K He H0e (upd Ha a o) σ H (ρ.set i .no):=by
    have nset:∀(j:Nat) (s:Sl),(ρ.set i .no)[j]?=some s->s≠.no->j≠i/\ρ[j]?=some s:=λj s q hs=>by
     by_cases hj:i=j
     .subst hj
      rw[List.getElem?_set_self']at q;rw[e]at q;cases q;exact absurd rfl hs
     .rw[List.getElem?_set_ne hj]at q;exact⟨λz=>hj z.symm,q⟩
    refine⟨⟨h.g.s,h.g.z.trans z,λb o' q=>?_,λb q1 q2=>?_⟩,λj d' q=>?_,λj d' q=>?_,λj k d1 d2 hn q1 q2=>?_,by simp[h.ln],h.ex.upd (λj s q=>?_) z (λb us _ eb=>eb) λq us _ q0 hq hd=>?_⟩
    rotate_left 5
    .by_cases hs:s=.no
     .exact .inr (.inr (.inl hs))
     .exact .inl ⟨(nset j s q hs).2,rfl⟩
    .have hq':q≠a:=by
      intro zz;subst zz;exact hd i _ e k1
     exact⟨hq,by rw[aD hq'];exact q0⟩
    .by_cases hb:b=a
     .subst hb;rw[aF]at q;cases q;exact h5
     .rw[aD hb]at q;exact h.g.sub _ _ q
    .by_cases hb:b=a
     .subst hb;exact k2
     .rw[aD hb]at q1;exact h.g.nw b q1 q2
    .obtain⟨hj,q⟩:=nset j _ q (λz=>nomatch z)
     obtain⟨v,q1,q2⟩:=h.rd j d' q;exact⟨v,q1,q2.mono z⟩
    .obtain⟨hj,q⟩:=nset j _ q (λz=>nomatch z)
     obtain⟨b,q1,q2,q3,q4⟩:=h.ow j d' q;have hb:b≠a:=by
      intro zz;subst zz;exact h.ap j i d' d hj q e (by rw[q1,k1])
     refine⟨b,q1,q2,by rw[aD hb];exact q3,?_⟩;cases d' with
     |lst ds'=>obtain⟨vs',h7,h8⟩:=q4;exact⟨vs',h7,h8.mono z⟩|dic ks' ds'=>obtain⟨vs',h7,hl,h8⟩:=q4;exact⟨vs',h7,hl,h8.mono z⟩
     |ob kk ds'=>
      cases kk with|dint ks'=>obtain⟨vs',h7,hl,h8⟩:=q4;exact⟨vs',h7,hl,h8.mono z⟩| _=>exact q4.elim
     |_=>exact q4.elim
    .obtain⟨_,q1⟩:=nset j _ q1 (λz=>nomatch z)
     obtain⟨_,q2⟩:=nset k _ q2 (λz=>nomatch z);exact h.ap j k d1 d2 hn q1 q2
   refine⟨_,z,?_⟩;have hp:=h'.put (i:=i) (d:=d) (v:=.ref a) (hrep _ z aF);rw[List.set_set]at hp;have hσ:σ.set i (some (V.ref a))=σ:=by
    apply List.ext_getElem?;intro k
    by_cases hk:i=k
    .subst hk
     obtain⟨hil,_⟩:=List.getElem?_eq_some_iff.mp k1;rw[List.getElem?_set_self hil,k1]
    .rw[List.getElem?_set_ne hk]
   rw[hσ]at hp;exact hp
def IH(i:Nat)(h:DS X E He H0e st s):DS X E He H0e st (GK i s):=⟨dA h.o λD' σ H z9=>by
 obtain⟨Ha,ρ,hr,q⟩:=z9;obtain⟨Ha',z,hr'⟩:=hr.unown i;exact⟨Ha',DL.unown i ρ,hr',bZ.grow (r:=s (DL.unown i ρ)) q z⟩⟩
end
def KW{X:Cx}{E:XK}{tgt iter elt:Expr}{ifs:List Expr}{scope:Scope}{pos:Pos}(N:List Str)(n:Nat)(fr:cr){src:Ev->au (ac)}{tg:Ev->D->au Ev}{tt fe:am}(hc:X.calm=true)(hi:DI X E tgt iter src)(hok:Fz n tg)
  (blk:∀s H C fp pn,(∀He H0e,DG (e9 X N scope s H C fp pn) E He H0e tgt tg)/\Mv (e9 X N scope s H C fp pn) E ifs tt/\DE (e9 X N scope s H C fp pn) E elt fe)
  (hfr:Cv X N n fr scope)(hcell:(scope.names.all λx=>!(x.2==.cell))=true)(hfree:(scope.names.all λx=>!(x.2==.free)||(X.env.scope.names.lookup x.1==some .cell))=true)(hkind:scope.kind=.function)
  (hnames:(scope.names.all λx=>!(x.2==.local)||(scope.names.lookup x.1==some .local))=true)
  (hs:∀x,foldedSetIterable iter X.env x=pure x:=by intro _;rfl):Lr X E (.ListComp elt [⟨tgt,iter,ifs,0⟩] scope pos) (iT n fr src tg tt fe):=by
 refine M5 N n fr hc hi hok blk hfr (λx hx z=>?_) (λx hx z=>?_) hkind (λx hx z=>?_) hs
 .have:=List.all_eq_true.mp hcell x hx
  rw[z]at this;simp at this
 .have:=List.all_eq_true.mp hfree x hx
  rw[z]at this;simpa using this
 .have:=List.all_eq_true.mp hnames x hx
  rw[z]at this;simpa using this
end DL
namespace Com
open PySem L2 DL
noncomputable def jy:bv :=
 (aw (bb 2 (ar (ag (ah 0) (ag (ae (bf (dC (.int 1)) uV) (ah 0) lP) ay)) (m2 KY)))
 (aw (bb 3 (ah 2))
 (aw (rG 4 (ar ay cY))
 (aw (mD (ar (ag (ah 1) ay) (m1 dH)) (j7 5)
 (aw (dJ (ef (ae (ah 2) (ae (dC (.int 10)) (dC (.int 18)) gP) F5) (ae (ah 3) (dC (.int 0)) sV))
 (aw (er 4 (ae (ah 3) (ae (ah 1) (ah 5) aP) cp))
 (aw (bb 3 (ae (ah 3) (ae (ah 1) (ah 5) aP) mn))
 av))
 (aw (bb 6 (ae (ae (ae (ae (ae (ae (ah 2) (dC (.int 2147483647)) cp) (ae (ae (dC (.int 1009)) (ah 5) dm) (ah 5) dm) bC) (ae (dC (.int 31)) (ah 5) dm) bC) (dC (.int 7)) bC) (dC (.int 48271)) dm) (dC (.int 2147483629)) cp))
 (aw (bb 6 (ae (ae (ae (ae (ae (ah 6) (ah 6) dm) (dC (.int 2147483647)) cp) (ah 5) bC) (dC (.int 39373)) dm) (dC (.int 2147483587)) cp))
 (aw (er 4 (ae (ae (ah 6) (dC (.int 8)) mn) (ae (ah 1) (ah 5) aP) cp))
 av))))
 av))
 (aw (bG (ah 4))
 av)))))
def bO:ac->au D:=cM 7 jy
def fJ:bv :=
 (aw (nV (ny 1) (ae (ah 1) (dC (.int 0)) kH)
 (aw (vA 0 1 (ag (ah 1) (ag (ae (ah 0) (ah 1) cp) ay)))
 av))
 (aw (bG (ar (ag (ah 0) ay) (m1 Fn)))
 av))
def dF:ac->au D:=cM 2 fJ
def fW:bv :=
 (aw (bb 2 (ar (ag (ah 0) (ag (ah 1) ay)) dF))
 (aw (bG (ar (ag (ae (ah 0) (ah 2) mn) (ag (ae (ah 1) (ah 2) mn) ay)) dZ))
 av))
def cU:ac->au D:=cM 3 fW
def sZ:bv :=
 (aw (bG (ef (bf (ah 0) (ez "int")) (cC (bf (ah 0) (ez "bool")))))
 av)
def dQ:ac->au D:=cM 1 sZ
noncomputable def cI:bv :=
 (aw (dJ (fq (cC (bf (ah 0) (ez "tuple"))) (ae (ar (ag (ah 0) ay) (m1 dH)) (dC (.int 2)) kH))
 (aw (bG (dC (.bl false)))
 av)
 av)
 (aw (dJ (fq (cC (ar (ag (ae (ah 0) (dC (.int 0)) aP) ay) dQ)) (fq (cC (ar (ag (ae (ah 0) (dC (.int 1)) aP) ay) dQ)) (ae (ae (ah 0) (dC (.int 1)) aP) (dC (.int 1)) uW)))
 (aw (bG (dC (.bl false)))
 av)
 av)
 (aw (bG (ae (ar (ag (ae (ah 0) (dC (.int 0)) aP) (ag (ae (ah 0) (dC (.int 1)) aP) ay)) dF) (dC (.int 1)) fM))
 av)))
def cH:ac->au D:=cM 1 cI
def wU:bv :=
 (aw (bG (ef (bf (ah 0) (ez "int")) (cC (bf (ah 0) (ez "bool")))))
 av)
def m_is_whole:ac->au D:=cM 1 wU
noncomputable def eM:bv :=
 (aw (bb 2 (ar (ag (ah 0) ay) (m1 Fn)))
 (aw (bb 3 (ar (ag (ah 1) ay) (m1 Fn)))
 (aw (nV (ny 3) (ae (ah 3) (dC (.int 0)) kH)
 (aw (bb 4 (ae (ah 2) (ah 3) cp))
 (aw (bb 2 (ah 3))
 (aw (bb 3 (ah 4))
 av))))
 (aw (bG (ah 2))
 av))))
def m_common_divisor:ac->au D:=cM 5 eM
def IU{α β:Type}{a:α}{f:α->au β}:(au.ok a).bind f=f a:=rfl
def fO{s t:bv}{ρ ρ':Ev}(h:s ρ=.ok (.nx ρ')):aw s t ρ=t ρ':=by unfold aw;rw[h];rfl
def rB{s t:bv}{ρ:Ev}{d:D}(h:s ρ=.ok (.rt d)):aw s t ρ=.ok (.rt d):=by unfold aw;rw[h];rfl
def jP{s:bv}{ρ ρ':Ev}(h:s ρ=.ok (.nx ρ')):aw s av ρ=.ok (.nx ρ'):=by unfold aw;rw[h];rfl
def jO{i:Nat}{f:am}{ρ:Ev}{d:D}(h:f ρ=.ok d):bb i f ρ=.ok (.nx (ρ.set i (.sh d))):=by unfold bb;rw[h];rfl
def rH{f:am}{ρ:Ev}{d:D}(h:f (gz ρ)=.ok d):bG f ρ=.ok (.rt d):=by unfold bG;rw[h];rfl
def L9{c:am}{s t:bv}{ρ:Ev}(h:c (gz ρ)=.ok (.bl true)):dJ c s t ρ=s ρ:=by unfold dJ;rw[h];rfl
def Ma{c:am}{s t:bv}{ρ:Ev}(h:c (gz ρ)=.ok (.bl false)):dJ c s t ρ=t ρ:=by unfold dJ;rw[h];rfl
def rY{i j:Int}:kH (.int i) (.int j)=.ok (.bl (!(i==j))):=by unfold kH;rw[if_pos ⟨rfl,rfl⟩,dB]
def IB{i j:Int}:fM (.int i) (.int j)=.ok (.bl (i==j)):=by unfold fM;rw[if_pos ⟨rfl,rfl⟩,dB]
def GL{n:Nat}{s:bv}{ds:ac}{d:D}(h:s (ds.map Sl.sh++List.replicate (n-ds.length) .no)=.ok (.rt d)):cM n s ds=.ok d:=by unfold cM;rw[h];rfl
def lW{f:am}{fa:Ev->au (ac)}{ρ:Ev}{x:D}{xs:ac}(h:f ρ=.ok x)(h':fa ρ=.ok xs):ag f fa ρ=.ok (x::xs):=by unfold ag;rw[h,IU,h'];rfl
def bJ{f g:am}{op:D->D->au D}{ρ:Ev}{x y:D}(h:f ρ=.ok x)(h':g ρ=.ok y):ae f g op ρ=op x y:=by unfold ae;rw[h,IU,h'];rfl
def u3{fa:Ev->au (ac)}{m:ac->au D}{ρ:Ev}{xs:ac}(h:fa ρ=.ok xs):ar fa m ρ=m xs:=by unfold ar;rw[h];rfl
def iB{a b:Int}(h:b≠0):cp (.int a) (.int b)=.ok (.int (a.fmod b)):=by
 show(if decide (b≠0)=true then au.ok (D.int (a.fmod b)) else .stuck)=_;rw[if_pos (decide_eq_true h)]
def sU{a b:Int}(h:jF a b=true):mn (.int a) (.int b)=.ok (.int (a.fdiv b)):=by
 show(if jF a b=true then au.ok (D.int (a.fdiv b)) else .stuck)=_;rw[if_pos h]
def l9{a b:Int}(h:ia a b=true):dm (.int a) (.int b)=.ok (.int (a*b)):=by
 show(if ia a b=true then au.ok (D.int (a*b)) else .stuck)=_;rw[if_pos h]
def uF(a b:Int):Int.gcd b (a.fmod b)=Int.gcd a b:=by
 rw[Int.fmod_def,Int.gcd_sub_mul_left_right,Int.gcd_comm]
def ye{a b:Int}(h:b≠0):(a.fmod b).natAbs<b.natAbs:=by
 rcases Int.lt_or_gt_of_ne h with hb|hb
 .have h1:=Int.fmod_lt_of_pos (-a) (show 0 < -b by omega)
  have h2:=Int.fmod_nonneg_of_pos (-a) (show 0 < -b by omega);rw[Int.neg_fmod_neg]at h1 h2;omega
 .have h1:=Int.fmod_lt_of_pos a hb
  have h2:=Int.fmod_nonneg_of_pos a hb;omega
theorem lO:∀(n:Nat) (a b:Int),b.natAbs<n->∃g:Int,g.natAbs=Int.gcd a b /\
  ft (ae (ah 1) (dC (.int 0)) kH) (aw (vA 0 1 (ag (ah 1) (ag (ae (ah 0) (ah 1) cp) ay))) av) n [.sh (.int a),.sh (.int b)]=.ok (.nx [.sh (.int g),.sh (.int 0)])
 |0,a,b,h=>absurd h (Nat.not_lt_zero _)
 |n+1,a,b,h=>by
  unfold ft;have c:(ae (ah 1) (dC (.int 0)) kH) (gz [.sh (.int a),.sh (.int b)])=.ok (.bl (!(b==0))):=rY;rw[c]
  by_cases hb:b=0
  .subst hb
   exact⟨a,by simp,rfl⟩
  .have e:(!(b==0))=true:=by simp[hb]
   obtain⟨g,h1,h2⟩:=lO n b (a.fmod b) (by have:=ye (a:=a) hb;omega);refine⟨g,by rw[h1,uF],?_⟩;rw[←h2];rw[e];have st:(aw (vA 0 1 (ag (ah 1) (ag (ae (ah 0) (ah 1) cp) ay))) av) [.sh (.int a),.sh (.int b)]=.ok (.nx [.sh (.int b),.sh (.int (a.fmod b))]):=by
    refine jP ?_;unfold vA;have:(ag (ah 1) (ag (ae (ah 0) (ah 1) cp) ay)) [.sh (.int a),.sh (.int b)]=.ok [.int b,.int (a.fmod b)]:=by
     exact lW rfl (lW (iB hb) rfl)
    rw[this];rfl
   show(au.bind _ _)=_;rw[st];rfl
def o9(a b:Int):dF [.int a,.int b]=.ok (.int (Int.gcd a b)):=by
 obtain⟨g,h1,h2⟩:=lO (b.natAbs+1) a b (Nat.lt_succ_self _);have w:nV (ny 1) (ae (ah 1) (dC (.int 0)) kH) (aw (vA 0 1 (ag (ah 1) (ag (ae (ah 0) (ah 1) cp) ay))) av) [.sh (.int a),.sh (.int b)]=.ok (.nx [.sh (.int g),.sh (.int 0)]):=h2;have r:fJ [.sh (.int a),.sh (.int b)]=.ok (.rt (.int (if g<0 then -g else g))):=by
  unfold fJ;rw[fO w];exact rB (rH rfl)
 show(fJ [.sh (.int a),.sh (.int b)]).bind _=_;rw[r];show au.ok (D.int (if g<0 then -g else g))=_
 congr 2
 rw[←h1];split<;>omega
theorem mT:∀(n:Nat) (x y:D) (a b:Int) (r:Sl),0<=a->0<=b->b.natAbs<n->∃r',
  ft (ae (ah 3) (dC (.int 0)) kH) (aw (bb 4 (ae (ah 2) (ah 3) cp)) (aw (bb 2 (ah 3)) (aw (bb 3 (ah 4)) av))) n [.sh x,.sh y,.sh (.int a),.sh (.int b),r]=.ok (.nx [.sh x,.sh y,.sh (.int (Int.gcd a b)),.sh (.int 0),r'])
 |0,_,_,a,b,_,_,_,h=>absurd h (Nat.not_lt_zero _)
 |n+1,x,y,a,b,r,ha,hb0,h=>by
  unfold ft;have c:∀r,(ae (ah 3) (dC (.int 0)) kH) (gz [.sh x,.sh y,.sh (.int a),.sh (.int b),r])=.ok (.bl (!(b==0))):=λr=>rY;rw[c]
  by_cases hb:b=0
  .subst hb
   refine⟨r,?_⟩;have e:((Int.gcd a 0:Nat):Int)=a:=by simp;omega
   rw[e];rfl
  .have e:(!(b==0))=true:=by simp[hb]
   have hp:0<b:=by omega
   obtain⟨r',h2⟩:=mT n x y b (a.fmod b) (.sh (.int (a.fmod b))) hb0 (Int.fmod_nonneg_of_pos a hp) (by have:=ye (a:=a) hb;omega);refine⟨r',?_⟩;rw[uF]at h2;rw[←h2,e];have st:(aw (bb 4 (ae (ah 2) (ah 3) cp)) (aw (bb 2 (ah 3)) (aw (bb 3 (ah 4)) av))) [.sh x,.sh y,.sh (.int a),.sh (.int b),r]=.ok (.nx [.sh x,.sh y,.sh (.int b),.sh (.int (a.fmod b)),.sh (.int (a.fmod b))]):=by
    have m:(ae (ah 2) (ah 3) cp) [.sh x,.sh y,.sh (.int a),.sh (.int b),r]=.ok (.int (a.fmod b)):=by
     exact iB hb
    rw[fO (jO m)];rfl
   show(au.bind _ _)=_;rw[st];rfl
def qO(a b:Int):m_common_divisor [.int a,.int b]=.ok (.int (Int.gcd a b)):=by
 have e:∀i:Int,(if i<0 then -i else i)=(i.natAbs:Int):=λi=>by split<;>omega
 obtain⟨r',h⟩:=mT ((b.natAbs:Int).natAbs+1) (.int a) (.int b) a.natAbs b.natAbs .no (Int.natCast_nonneg _) (Int.natCast_nonneg _) (Nat.lt_succ_self _);have hg:Int.gcd (a.natAbs:Int) (b.natAbs:Int)=Int.gcd a b:=by simp[Int.gcd]
 rw[hg]at h;have r:eM [.sh (.int a),.sh (.int b),.no,.no,.no]=.ok (.rt (.int (Int.gcd a b))):=by
  unfold eM;rw[fO (ρ':=[.sh (.int a),.sh (.int b),.sh (.int (a.natAbs:Int)),.no,.no]) (by rw[←e a];rfl)];rw[fO (ρ':=[.sh (.int a),.sh (.int b),.sh (.int (a.natAbs:Int)),.sh (.int (b.natAbs:Int)),.no]) (by rw[←e b];rfl)];have w:nV (ny 3) (ae (ah 3) (dC (.int 0)) kH) (aw (bb 4 (ae (ah 2) (ah 3) cp)) (aw (bb 2 (ah 3)) (aw (bb 3 (ah 4)) av))) [.sh (.int a),.sh (.int b),.sh (.int (a.natAbs:Int)),.sh (.int (b.natAbs:Int)),.no]=.ok (.nx [.sh (.int a),.sh (.int b),.sh (.int (Int.gcd a b)),.sh (.int 0),r']):=h;rw[fO w];exact rB (rH rfl)
 show(eM [.sh (.int a),.sh (.int b),.no,.no,.no]).bind _=_;rw[r];rfl
def Jb{f g:am}{ρ:Ev}{b c:Bool}(h:f ρ=.ok (.bl b))(h':g ρ=.ok (.bl c)):ef f g ρ=.ok (.bl (b&&c)):=by
 unfold ef;rw[h,IU];cases b
 .rfl
 .exact h'
def vG:(2:Nat) ^ 64<=CG:=by rw[wZ];exact Nat.pow_le_pow_right (by decide) (by decide)
def Ki{i:Int}(h:i.natAbs<18446744073709551616):i.natAbs<CG:=Nat.lt_of_lt_of_le h vG
def fB{i j:Int}(h:i.natAbs<18446744073709551616)(h':j.natAbs<18446744073709551616):ia i j=true:=by
 unfold ia;rw[Bool.and_eq_true];exact⟨decide_eq_true (Ki h),decide_eq_true (Ki h')⟩
def A9{i j:Int}(h:i.natAbs<CG)(h':j.natAbs<CG):ia i j=true:=by
 unfold ia;rw[Bool.and_eq_true];exact⟨decide_eq_true h,decide_eq_true h'⟩
def yw{i j:Int}(h0:j≠0)(h:j.natAbs<B9):jF i j=true:=by
 unfold jF;rw[Bool.and_eq_true,Bool.or_eq_true];exact⟨decide_eq_true h0,.inl (decide_eq_true h)⟩
def BZ{i j:Int}(h0:j≠0)(h:i.natAbs<Cz):jF i j=true:=by
 unfold jF;rw[Bool.and_eq_true,Bool.or_eq_true];exact⟨decide_eq_true h0,.inr (decide_eq_true h)⟩
def yX:(2:Nat) ^ 64<=B9:=by rw[yI];exact Nat.pow_le_pow_right (by decide) (by decide)
def M3{i:Int}(h:i.natAbs<18446744073709551616):i.natAbs<B9:=Nat.lt_of_lt_of_le h yX
def kU{ds:ac}{k:Nat}{d:D}(h:ds[k]?=some d):aP (.lst ds) (.int (k:Int))=.ok d:=by
 unfold aP;simp only[dD h]
def kT{ds:ac}{k:Nat}{d:D}(h:ds[k]?=some d):aP (.tup ds) (.int (k:Int))=.ok d:=by
 unfold aP;simp only[dD h]
noncomputable def ij:bv :=
 (aw (dJ (ef (ae (ah 2) (ae (dC (.int 10)) (dC (.int 18)) gP) F5) (ae (ah 3) (dC (.int 0)) sV))
 (aw (er 4 (ae (ah 3) (ae (ah 1) (ah 5) aP) cp))
 (aw (bb 3 (ae (ah 3) (ae (ah 1) (ah 5) aP) mn))
 av))
 (aw (bb 6 (ae (ae (ae (ae (ae (ae (ah 2) (dC (.int 2147483647)) cp) (ae (ae (dC (.int 1009)) (ah 5) dm) (ah 5) dm) bC) (ae (dC (.int 31)) (ah 5) dm) bC) (dC (.int 7)) bC) (dC (.int 48271)) dm) (dC (.int 2147483629)) cp))
 (aw (bb 6 (ae (ae (ae (ae (ae (ah 6) (ah 6) dm) (dC (.int 2147483647)) cp) (ah 5) bC) (dC (.int 39373)) dm) (dC (.int 2147483587)) cp))
 (aw (er 4 (ae (ae (ah 6) (dC (.int 8)) mn) (ae (ah 1) (ah 5) aP) cp))
 av))))
 av)
def Ci{i:Nat}{f:am}{ρ:Ev}{d:D}{ds:ac}(hi:ρ[i]?=some (.ow (.lst ds)))(h:f ρ=.ok d)(hl:ds.length<line):er i f ρ=.ok (.nx (ρ.set i (.ow (.lst (ds++[d]))))):=by
 unfold er ou;rw[hi];show(f ρ).bind _=_;rw[h,IU,if_pos hl]
def gq{a b:Int}(hb:0<b):0<=a.fmod b/\a.fmod b<b:=⟨Int.fmod_nonneg_of_pos a hb,Int.fmod_lt_of_pos a hb⟩
def wI{c:D}{sz:List Int}{num left:Int}{F:ac}{k:Nat}{one:Sl}{s:Int}(hk:sz[k]?=some s)(hs:0<s)(h9:s.natAbs<B9)(hk2:k<1000)(hl:F.length<line)(h0:0<=left) :
  ∃v left' one',0<=v/\v<s/\0<=left'/\ij [.sh c,.sh (.lst (sz.map D.int)),.sh (.int num),.sh (.int left),.ow (.lst F),.sh (.int (k:Int)),one] =
   .ok (.nx [.sh c,.sh (.lst (sz.map D.int)),.sh (.int num),.sh (.int left'),.ow (.lst (F++[.int v])),.sh (.int (k:Int)),one']):=by
 have hix:aP (.lst (sz.map D.int)) (.int (k:Int))=.ok (.int s):=kU (by rw[List.getElem?_map,hk];rfl);have hc:(ef (ae (ah 2) (ae (dC (.int 10)) (dC (.int 18)) gP) F5) (ae (ah 3) (dC (.int 0)) sV)) (gz [.sh c,.sh (.lst (sz.map D.int)),.sh (.int num),.sh (.int left),.ow (.lst F),.sh (.int (k:Int)),one])=.ok (.bl (decide ((10:Int) ^ (18:Int).toNat<=num)&&decide (0<left))):=by
  refine Jb ?_ ?_
  .exact(bJ (x:=.int num) (y:=.int ((10:Int) ^ (18:Int).toNat)) rfl rfl).trans rfl
  .exact(bJ (x:=.int left) (y:=.int 0) rfl rfl).trans rfl
 have hm:=gq (a:=left) hs;unfold ij;cases hb:(decide ((10:Int) ^ (18:Int).toNat<=num)&&decide (0<left)) with
 |true=>
  rw[hb]at hc;refine⟨left.fmod s,left.fdiv s,one,hm.1,hm.2,Int.fdiv_nonneg h0 (by omega),?_⟩;refine jP ?_;rw[L9 hc];rw[fO (Ci (ds:=F) (d:=.int (left.fmod s)) rfl ((bJ (x:=.int left) (y:=.int s) rfl ((bJ (x:=.lst (sz.map D.int)) (y:=.int (k:Int)) rfl rfl).trans hix)).trans (iB (by omega))) hl)];exact jP (jO (d:=.int (left.fdiv s)) ((bJ (x:=.int left) (y:=.int s) rfl ((bJ (x:=.lst (sz.map D.int)) (y:=.int (k:Int)) rfl rfl).trans hix)).trans (sU (yw (by omega) h9))))
 |false=>
  rw[hb]at hc;have hkk:(k:Int)*(k:Int)<1000000:=by
   have:k*k<1000*1000:=Nat.mul_lt_mul'' hk2 hk2;omega
  have hkn:(0:Int)<=(k:Int)*(k:Int):=Int.mul_nonneg (by omega) (by omega);have a1:=gq (a:=num) (b:=2147483647) (by decide);have hone1:((num.fmod 2147483647+1009*(k:Int)*(k:Int)+31*(k:Int)+7)*48271).fmod 2147483629=((num.fmod 2147483647+1009*(k:Int)*(k:Int)+31*(k:Int)+7)*48271).fmod 2147483629:=rfl;generalize ho:((num.fmod 2147483647+1009*(k:Int)*(k:Int)+31*(k:Int)+7)*48271).fmod 2147483629=o1;have a2:0<=o1/\o1<2147483629:=by rw[←ho];exact gq (by decide)
  have hoo:o1*o1<4611686018427387904:=by
   have h1:o1*o1<=2147483628*2147483628:=Int.mul_le_mul (by omega) (by omega) a2.1 (by decide);omega
  have hoo0:0<=o1*o1:=Int.mul_nonneg a2.1 a2.1;generalize ho2:(((o1*o1).fmod 2147483647+(k:Int))*39373).fmod 2147483587=o2;have a3:0<=o2/\o2<2147483587:=by rw[←ho2];exact gq (by decide)
  have hm2:=gq (a:=o2.fdiv 8) hs;refine⟨(o2.fdiv 8).fmod s,left,.sh (.int o2),hm2.1,hm2.2,h0,?_⟩;refine jP ?_;rw[Ma hc];have ea:(1009:Int)*(k:Int)*(k:Int)=1009*((k:Int)*(k:Int)):=Int.mul_assoc _ _ _;have e1:(ae (ae (ae (ae (ae (ae (ah 2) (dC (.int 2147483647)) cp) (ae (ae (dC (.int 1009)) (ah 5) dm) (ah 5) dm) bC) (ae (dC (.int 31)) (ah 5) dm) bC) (dC (.int 7)) bC) (dC (.int 48271)) dm) (dC (.int 2147483629)) cp)
    [.sh c,.sh (.lst (sz.map D.int)),.sh (.int num),.sh (.int left),.ow (.lst F),.sh (.int (k:Int)),one]=.ok (.int o1):=by
   rw[←ho];refine(bJ (x:=.int ((num.fmod 2147483647+1009*(k:Int)*(k:Int)+31*(k:Int)+7)*48271)) (y:=.int 2147483629) ?_ rfl).trans (iB (by decide));refine(bJ (x:=.int (num.fmod 2147483647+1009*(k:Int)*(k:Int)+31*(k:Int)+7)) (y:=.int 48271) ?_ rfl).trans (l9 (fB (by omega) (by decide)));refine(bJ (x:=.int (num.fmod 2147483647+1009*(k:Int)*(k:Int)+31*(k:Int))) (y:=.int 7) ?_ rfl).trans rfl;refine(bJ (x:=.int (num.fmod 2147483647+1009*(k:Int)*(k:Int))) (y:=.int (31*(k:Int))) ?_ ?_).trans rfl
   .refine(bJ (x:=.int (num.fmod 2147483647)) (y:=.int (1009*(k:Int)*(k:Int))) ?_ ?_).trans rfl
    .exact(bJ (x:=.int num) (y:=.int 2147483647) rfl rfl).trans (iB (by decide))
    .refine(bJ (x:=.int (1009*(k:Int))) (y:=.int (k:Int)) ?_ rfl).trans (l9 (fB (by omega) (by omega)))
     exact(bJ (x:=.int 1009) (y:=.int (k:Int)) rfl rfl).trans (l9 (fB (by decide) (by omega)))
   .exact(bJ (x:=.int 31) (y:=.int (k:Int)) rfl rfl).trans (l9 (fB (by decide) (by omega)))
  rw[fO (jO e1)];have a4:=gq (a:=o1*o1) (b:=2147483647) (by decide);have e2:(ae (ae (ae (ae (ae (ah 6) (ah 6) dm) (dC (.int 2147483647)) cp) (ah 5) bC) (dC (.int 39373)) dm) (dC (.int 2147483587)) cp)
    [.sh c,.sh (.lst (sz.map D.int)),.sh (.int num),.sh (.int left),.ow (.lst F),.sh (.int (k:Int)),.sh (.int o1)]=.ok (.int o2):=by
   rw[←ho2];refine(bJ (x:=.int (((o1*o1).fmod 2147483647+(k:Int))*39373)) (y:=.int 2147483587) ?_ rfl).trans (iB (by decide));refine(bJ (x:=.int ((o1*o1).fmod 2147483647+(k:Int))) (y:=.int 39373) ?_ rfl).trans (l9 (fB (by omega) (by decide)));refine(bJ (x:=.int ((o1*o1).fmod 2147483647)) (y:=.int (k:Int)) ?_ rfl).trans rfl;refine(bJ (x:=.int (o1*o1)) (y:=.int 2147483647) ?_ rfl).trans (iB (by decide));exact(bJ (x:=.int o1) (y:=.int o1) rfl rfl).trans (l9 (fB (by omega) (by omega)))
  refine(fO (jO e2)).trans ?_;refine jP (Ci (ds:=F) (d:=.int ((o2.fdiv 8).fmod s)) rfl ?_ hl);refine(bJ (x:=.int (o2.fdiv 8)) (y:=.int s) ?_ ((bJ (x:=.lst (sz.map D.int)) (y:=.int (k:Int)) rfl rfl).trans hix)).trans (iB (by omega));exact(bJ (x:=.int o2) (y:=.int 8) rfl rfl).trans (sU (yw (by decide) (M3 (by decide))))
def qA{n k:Nat}(h:k<n):(DL.intsFrom 0 n).drop k=.int (k:Int)::(DL.intsFrom 0 n).drop (k+1):=by
 have hl:(DL.intsFrom 0 n).length=n:=by unfold DL.intsFrom;simp
 rw[List.drop_eq_getElem_cons (by rw[hl];exact h)]
 congr 1
 unfold DL.intsFrom;simp
def uD{n:Nat}:(DL.intsFrom 0 n).drop n=[]:=by
 have hl:(DL.intsFrom 0 n).length=n:=by unfold DL.intsFrom;simp
 exact List.drop_eq_nil_of_le (by omega)
def nz{tg:Ev->D->au Ev}{s:bv}{d:D}{r:ac}{ρ ρ1 ρ2:Ev}(h1:tg ρ d=.ok ρ1)(h2:s ρ1=.ok (.nx ρ2)):dw tg s (d::r) ρ=dw tg s r ρ2:=by
 rw[dw,h1,IU,h2,IU]
theorem mR{c:D}{sz:List Int}{num:Int}(hz:∀s∈sz,0<s/\s.natAbs<B9)(hn:sz.length<=1000):∀(j k:Nat),k+j=sz.length->∀(left:Int) (F:List Int) (x one:Sl),0<=left->F.length=k->(∀(i:Nat) (v s:Int),F[i]?=some v->sz[i]?=some s->0<=v/\v<s) ->
  ∃(left':Int) (F':List Int) (x' one':Sl),F'.length=sz.length/\(∀(i:Nat) (v s:Int),F'[i]?=some v->sz[i]?=some s->0<=v/\v<s) /\
   dw (j7 5) ij ((DL.intsFrom 0 sz.length).drop k) [.sh c,.sh (.lst (sz.map D.int)),.sh (.int num),.sh (.int left),.ow (.lst (F.map D.int)),x,one] =
    .ok (.nx [.sh c,.sh (.lst (sz.map D.int)),.sh (.int num),.sh (.int left'),.ow (.lst (F'.map D.int)),x',one'])
 |0,k,hk,left,F,x,one,h0,hF,hb=>by
  refine⟨left,F,x,one,by omega,hb,?_⟩;have:k=sz.length:=by omega
  rw[this,uD];rfl
 |j+1,k,hk,left,F,x,one,h0,hF,hb=>by
  have hlt:k<sz.length:=by omega
  have hs:=hz _ (List.getElem_mem hlt);obtain⟨v,left',one',v0,v1,l0,e⟩:=wI (c:=c) (num:=num) (F:=F.map D.int) (one:=one) (List.getElem?_eq_getElem hlt) hs.1 hs.2 (by omega) (by rw[List.length_map,hF];exact Nat.lt_of_lt_of_le hlt (Nat.le_trans hn (by decide))) h0;have hb':∀(i:Nat) (v' s:Int),(F++[v])[i]?=some v'->sz[i]?=some s->0<=v'/\v' < s:=by
   intro i v' s h1 h2
   by_cases hi:i<F.length
   .rw[List.getElem?_append_left hi]at h1
    exact hb i v' s h1 h2
   .rw[List.getElem?_append_right (by omega)]at h1
    have hi2:i-F.length=0:=by
     cases hq:i-F.length with|zero=>rfl|succ m=>rw[hq]at h1;simp at h1
    rw[hi2]at h1;have hik:i=k:=by omega
    subst hik;rw[List.getElem?_eq_getElem hlt]at h2;cases h1;cases h2;exact⟨v0,v1⟩
  obtain⟨left2,F2,x2,one2,p1,p2,p3⟩:=mR hz hn j (k+1) (by omega) left' (F++[v]) (.sh (.int (k:Int))) one' l0 (by simp[hF]) hb';refine⟨left2,F2,x2,one2,p1,p2,?_⟩;rw[qA hlt,nz (ρ1:=[.sh c,.sh (.lst (sz.map D.int)),.sh (.int num),.sh (.int left),.ow (.lst (F.map D.int)),.sh (.int (k:Int)),one]) rfl e];rw[←p3,List.map_append];rfl
def BY(c:Int)(sz:List Int)(hz:∀s∈sz,0<s/\s.natAbs<B9)(hn:sz.length<=1000) :
  ∃vs:List Int,vs.length=sz.length/\(∀(i:Nat) (v s:Int),vs[i]?=some v->sz[i]?=some s->0<=v/\v<s)/\bO [.int c,.lst (sz.map D.int)]=.ok (.lst (vs.map D.int)):=by
 generalize hnum:(if -1-c > c then -1-c else c)=num;have hn0:0<=num:=by rw[←hnum];split<;>omega
 obtain⟨left',F',x',one',p1,p2,p3⟩:=mR (c:=.int c) (num:=num) hz hn sz.length 0 (by omega) num [] .no .no hn0 rfl (λi v s h=>by simp at h);refine⟨F',p1,p2,?_⟩;have r:jy [.sh (.int c),.sh (.lst (sz.map D.int)),.no,.no,.no,.no,.no]=.ok (.rt (.lst (F'.map D.int))):=by
  unfold jy;rw[fO (ρ':=[.sh (.int c),.sh (.lst (sz.map D.int)),.sh (.int num),.no,.no,.no,.no]) (by rw[←hnum];rfl)];rw[fO (ρ':=[.sh (.int c),.sh (.lst (sz.map D.int)),.sh (.int num),.sh (.int num),.no,.no,.no]) rfl];rw[fO (ρ':=[.sh (.int c),.sh (.lst (sz.map D.int)),.sh (.int num),.sh (.int num),.ow (.lst []),.no,.no]) rfl];have w:(mD (ar (ag (ah 1) ay) (m1 dH)) (j7 5) ij) [.sh (.int c),.sh (.lst (sz.map D.int)),.sh (.int num),.sh (.int num),.ow (.lst []),.no,.no] =
    .ok (.nx [.sh (.int c),.sh (.lst (sz.map D.int)),.sh (.int num),.sh (.int left'),.ow (.lst (F'.map D.int)),x',one']):=by
   unfold mD;have hlen:(ar (ag (ah 1) ay) (m1 dH)) (gz [.sh (.int c),.sh (.lst (sz.map D.int)),.sh (.int num),.sh (.int num),.ow (.lst []),.no,.no])=.ok (.int (sz.length:Int)):=by
    show au.ok (D.int ((sz.map D.int).length:Int))=_;rw[List.length_map]
   rw[hlen,IU];show(if _ then _ else _)=_;rw[if_pos (by omega)];rw[←p3];rfl
  exact(fO w).trans (rB (rH rfl))
 exact GL (n:=7) (ds:=[.int c,.lst (sz.map D.int)]) r
def oR:D->Bool
 |.int _=>true
 |_=>false
def cX(d:D):dQ [d]=.ok (.bl (oR d)):=by cases d<;>first|rfl|(rename_i k _;cases k<;>rfl)
def dN(d:D):m_is_whole [d]=.ok (.bl (oR d)):=by cases d<;>first|rfl|(rename_i k _;cases k<;>rfl)
def uI{a g:Int}(hg:0<g):a.fdiv g=a / g:=Int.fdiv_eq_ediv_of_nonneg a (by omega)
def sD{a b:Int}(h:b≠0):0<(Int.gcd a b:Int):=by
 have:=Int.gcd_pos_of_ne_zero_right a h;omega
def zh{a b:Int}(hb:0<b)(h1:a.natAbs<Cz)(h2:b.natAbs<Cz):cU [.int a,.int b]=.ok (.tup [.int (a / Int.gcd a b),.int (b / Int.gcd a b)]):=by
 have hg:=sD (a:=a) (b:=b) (by omega);have r:fW [.sh (.int a),.sh (.int b),.no]=.ok (.rt (.tup [.int (a / Int.gcd a b),.int (b / Int.gcd a b)])):=by
  unfold fW;rw[fO (ρ':=[.sh (.int a),.sh (.int b),.sh (.int (Int.gcd a b))]) (jO ((u3 (xs:=[.int a,.int b]) rfl).trans (o9 a b)))];refine rB (rH ?_);refine(u3 (xs:=[.int (a / Int.gcd a b),.int (b / Int.gcd a b)]) (lW ?_ (lW ?_ rfl))).trans rfl
  .rw[←uI hg]
   exact(bJ (x:=.int a) (y:=.int (Int.gcd a b)) rfl rfl).trans (sU (BZ (by omega) h1))
  .rw[←uI hg]
   exact(bJ (x:=.int b) (y:=.int (Int.gcd a b)) rfl rfl).trans (sU (BZ (by omega) h2))
 show(fW [.sh (.int a),.sh (.int b),.no]).bind _=_;rw[r];rfl
def Mg(p q:Int):D:=.tup [.int p,.int q]
end Com
open Com
namespace Com
open PySem L2 DL
abbrev nj:=Int×Int
def fr(x:nj):D:=Mg x.1 x.2
def eI:Nat:=1000000000000000000000000000000000000000000000000000000000000
def Ct:eI<=B9:=by rw[yI];exact Nat.le_trans (show eI<=2 ^ 200 by decide) (Nat.pow_le_pow_right (by decide) (by decide))
def FE:eI<=Cz:=by rw[Cy];exact Nat.le_trans (show eI<=2 ^ 200 by decide) (Nat.pow_le_pow_right (by decide) (by decide))
def FD:eI<=CG:=by rw[wZ];exact Nat.le_trans (show eI<=2 ^ 200 by decide) (Nat.pow_le_pow_right (by decide) (by decide))
structure Low (x:nj):Prop where
 q1:1<=x.2
 g1:Int.gcd x.1 x.2=1
structure gw (x:nj):Prop extends Low x where
 pN:x.1.natAbs<eI
 qN:x.2.natAbs<eI
def FU(a b:Int):nj:=(a / Int.gcd a b,b / Int.gcd a b)
def DX{a b:Int}(hb:0<b):Low (FU a b):=by
 have hg:=sD (a:=a) (b:=b) (by omega);refine⟨?_,Int.gcd_ediv_gcd_ediv_gcd (by omega)⟩;have:=Int.ediv_gcd_ne_zero_if_ne_zero_right a (show b≠0 by omega);have h2:0<=b / (Int.gcd a b:Int):=Int.ediv_nonneg (by omega) (by omega);show 1<=b / (Int.gcd a b:Int);omega
def DZ{a b:Int}:(FU a b).1.natAbs<=a.natAbs:=Int.natAbs_ediv_le_natAbs _ _
def DY{a b:Int}:(FU a b).2.natAbs<=b.natAbs:=Int.natAbs_ediv_le_natAbs _ _
def zg{a b:Int}(hb:0<b)(h1:a.natAbs<Cz)(h2:b.natAbs<Cz):cU [.int a,.int b]=.ok (fr (FU a b)):=zh hb h1 h2
def Kk{a b:Int}(hb:0<b)(h1:a.natAbs<eI)(h2:b.natAbs<eI):gw (FU a b):=⟨DX hb,Nat.lt_of_le_of_lt DZ h1,Nat.lt_of_le_of_lt DY h2⟩
def Ja{α:Type}{xs:List α}{k:Int}(h0:0<=k)(h1:k<xs.length):∃x∈xs,atI xs k=some x:=by
 obtain⟨n,rfl⟩:=Int.eq_ofNat_of_zero_le h0;have hn:n<xs.length:=by omega
 exact⟨xs[n],List.getElem_mem hn,dD (List.getElem?_eq_getElem hn)⟩
def Hy{ds:ac}{k:Int}(h0:0<=k)(h1:k<ds.length):∃d∈ds,aP (.lst ds) (.int k)=.ok d:=by
 obtain⟨d,hd,e⟩:=Ja h0 h1;exact⟨d,hd,by unfold aP;simp only[e]⟩
def aR{α:Type}{a b:α}(h:a=b):a=b:=h
def Ax(t:bv)(r:Fl):au Fl:=match r with
 |.nx ρ'=>t ρ'
 |r=>.ok r
def Dm(i:Nat)(ρ:Ev)(d:D):au Fl:=.ok (.nx (ρ.set i (.sh d)))
def JJ(d:D):au Fl:=.ok (.rt d)
def F3(ρ:Ev)(_:D):au Fl:=.ok (.nx ρ)
def Mb(s t:bv)(ρ:Ev)(x:D):au Fl:=match x with
 |.bl b=>if b=true then s ρ else t ρ
 |_=>.stuck
def J7(i:Nat)(ρ:Ev)(d:D):au Fl:=match d with
 |.lst ds=>.ok (.nx (ρ.set i (.ow (.lst ds))))
 |_=>.stuck
def AY(s:Option Sl)(k:ac->au Fl):au Fl:=match s with
 |some (.ow (.lst ds))=>k ds
 |_=>.stuck
def K2(i:Nat)(ρ:Ev)(ds:ac)(d:D):au Fl:=if ds.length<line then .ok (.nx (ρ.set i (.ow (.lst (ds++[d]))))) else .stuck
def JV(i:Nat)(ρ:Ev)(k:am)(ds:ac)(d:D):au Fl:=(k ρ).bind (DL.putAt ρ i ds d)
def vD(i:Nat)(ρ:Ev)(ds:ac)(d j:D):au Fl:=if eW d=true then DL.putAt ρ i ds d j else .stuck
def FO(i:Nat)(ρ:Ev)(k:am)(ds:ac)(d:D):au Fl:=(k (gz ρ)).bind (vD i ρ ds d)
def z9(is:cr)(ρ:Ev)(d:D):au Fl:=match fw is.length d with
 |some ds=>.ok (.nx (bP ρ is ds))
 |none=>.stuck
def k2(g:am)(op:D->D->au D)(ρ:Ev)(x:D):au D:=(g ρ).bind (op x)
def wM(x:D)(xs:ac):au (ac):=.ok (x::xs)
def F7(fa:Ev->au (ac))(ρ:Ev)(x:D):au (ac):=(fa ρ).bind (wM x)
def Jc(g:am)(ρ:Ev)(x:D):au D:=match x with
 |.bl true=>g ρ
 |.bl false=>.ok (.bl false)
 |_=>.stuck
def L4(g:am)(ρ:Ev)(x:D):au D:=match x with
 |.bl true=>.ok (.bl true)
 |.bl false=>g ρ
 |_=>.stuck
def Kf(x:D):au D:=match x with
 |.bl b=>.ok (.bl (!b))
 |_=>.stuck
def HC(f g:am)(ρ:Ev)(x:D):au D:=match x with
 |.bl true=>f ρ
 |.bl false=>g ρ
 |_=>.stuck
def Js(s:Option Sl):au D:=match s with
 |some (.sh d)=>.ok d
 |_=>.stuck
def Dl(s:Sl):Sl:=match s with
 |.ow d=>.sh d
 |.ox _ ds=>.sh (.tup ds)
 |x=>x
def Az(r:Fl):au D:=match r with
 |.nx _=>.ok .non
 |.rt d=>.ok d
 |_=>.stuck
def MC(x:D):au (Option Int):=match x with
 |.int i=>.ok (some i)
 |_=>.stuck
def kO(x:D)(l:Option Int)(h:Option Int):au D:=nT x l h
def LP(hi:Ev->au (Option Int))(ρ:Ev)(x:D)(l:Option Int):au D:=(hi ρ).bind (kO x l)
def JH(lo hi:Ev->au (Option Int))(ρ:Ev)(x:D):au D:=(lo ρ).bind (LP hi ρ x)
def Fo(op':D->D->au D)(h:am)(ρ:Ev)(y z:D):au D:=match z with
 |.bl true=>(h ρ).bind (op' y)
 |.bl false=>.ok (.bl false)
 |_=>.stuck
def IP(op op':D->D->au D)(h:am)(ρ:Ev)(x y:D):au D:=(op x y).bind (Fo op' h ρ y)
def MF(op op':D->D->au D)(g h:am)(ρ:Ev)(x:D):au D:=(g ρ).bind (IP op op' h ρ x)
section
variable {s t:bv}{f g h:am}{fa:Ev->au (ac)}{ρ r:Ev}{i j:Nat}{d x y:D}{ds xs:ac}{op op':D->D->au D}{a b:Int}
def BI{α β:Type}{a:α}{k:α->au β}:(au.ok a).bind k=k a:=aR rfl
def wB:aw s t ρ=(s ρ).bind (Ax t):=aR rfl
def yk:Ax t (.nx ρ)=t ρ:=aR rfl
def Ez:Ax t (.rt d)=.ok (.rt d):=aR rfl
def EL:av ρ=.ok (.nx ρ):=aR rfl
def BE:bb i f ρ=(f ρ).bind (Dm i ρ):=aR rfl
def Ey:Dm i ρ d=.ok (.nx (ρ.set i (.sh d))):=aR rfl
def HV:bG f ρ=(f (gz ρ)).bind JJ:=aR rfl
def EC:JJ d=.ok (.rt d):=aR rfl
def E2:ll f ρ=(f (gz ρ)).bind (F3 ρ):=aR rfl
def BL:F3 ρ d=.ok (.nx ρ):=aR rfl
def KC:dJ f s t ρ=(f (gz ρ)).bind (Mb s t ρ):=aR rfl
def Io:Mb s t ρ (.bl true)=s ρ:=aR rfl
def Im:Mb s t ρ (.bl false)=t ρ:=aR rfl
def Ia:rG i f ρ=(f ρ).bind (J7 i ρ):=aR rfl
def EJ:J7 i ρ (.lst ds)=.ok (.nx (ρ.set i (.ow (.lst ds)))):=aR rfl
def Iw:er i f ρ=AY ρ[i]? λds=>(f ρ).bind (K2 i ρ ds):=aR rfl
def EI{k:ac->au Fl}:AY (some (.ow (.lst ds))) k=k ds:=aR rfl
def kv(h:decide (ds.length<=999)=true):K2 i ρ ds d=.ok (.nx (ρ.set i (.ow (.lst (ds++[d]))))):=if_pos (Nat.lt_of_le_of_lt (of_decide_eq_true h) (by decide))
def HX:GI i f g ρ=AY ρ[i]? λds=>(f ρ).bind (JV i ρ g ds):=aR rfl
def EG:JV i ρ g ds d=(g ρ).bind (DL.putAt ρ i ds d):=aR rfl
def EF:xw i f g ρ=AY ρ[i]? λds=>(f (gz ρ)).bind (FO i ρ g ds):=aR rfl
def BG:FO i ρ g ds d=(g (gz ρ)).bind (vD i ρ ds d):=aR rfl
def uP(hf:eW d=true):vD i ρ ds d x=DL.putAt ρ i ds d x:=if_pos hf
def Ip:GK i s ρ=s (unown i ρ):=aR rfl
def HJ{is:cr}:yU is f ρ=(f ρ).bind (z9 is ρ):=aR rfl
def KQ{o:D->au D}:bf f o ρ=(f ρ).bind o:=aR rfl
def KP:ae f g op ρ=(f ρ).bind (k2 g op ρ):=aR rfl
def Iv:k2 g op ρ x=(g ρ).bind (op x):=aR rfl
def KO{m:ac->au D}:ar fa m ρ=(fa ρ).bind m:=aR rfl
def Ih:ay ρ=.ok []:=aR rfl
def E3:ag f fa ρ=(f ρ).bind (F7 fa ρ):=aR rfl
def BO:F7 fa ρ x=(fa ρ).bind (wM x):=aR rfl
def BN:wM x xs=.ok (x::xs):=aR rfl
def Iy:ef f g ρ=(f ρ).bind (Jc g ρ):=aR rfl
def E6:Jc g ρ (.bl true)=g ρ:=aR rfl
def E5:Jc g ρ (.bl false)=.ok (.bl false):=aR rfl
def Kx:fq f g ρ=(f ρ).bind (L4 g ρ):=aR rfl
def Ie:L4 g ρ (.bl true)=.ok (.bl true):=aR rfl
def Ic:L4 g ρ (.bl false)=g ρ:=aR rfl
def Ig:cC f ρ=(f ρ).bind Kf:=aR rfl
def EK{c:Bool}:Kf (.bl c)=.ok (.bl (!c)):=aR rfl
def Il:KZ h f g ρ=(h ρ).bind (HC f g ρ):=aR rfl
def EZ:HC f g ρ (.bl true)=f ρ:=aR rfl
def EY:HC f g ρ (.bl false)=g ρ:=aR rfl
def HI:ah i ρ=Js ρ[i]?:=aR rfl
def Ek:Js (some (.sh d))=.ok d:=aR rfl
def Mj:dC d ρ=.ok d:=aR rfl
def Ew:gz []=[]:=aR rfl
def HR{c:Sl}:gz (c::r)=Dl c::gz r:=aR rfl
def Eu:Dl (.ow d)=.sh d:=aR rfl
def Et:Dl (.sh d)=.sh d:=aR rfl
def Es:Dl .no=.no:=aR rfl
def HU{n:Nat}:cM n s ds=(s (ds.map Sl.sh++List.replicate (n-ds.length) .no)).bind Az:=aR rfl
def EB:Az (.rt d)=.ok d:=aR rfl
def EA:Az (.nx ρ)=.ok .non:=aR rfl
def Kw:bN f ρ=(f ρ).bind MC:=aR rfl
def Ib:MC (.int a)=.ok (some a):=aR rfl
def Ky:cT ρ=.ok none:=aR rfl
def Ku{lo hi:Ev->au (Option Int)}:dY f lo hi ρ=(f ρ).bind (JH lo hi ρ):=aR rfl
def HQ{lo hi:Ev->au (Option Int)}:JH lo hi ρ x=(lo ρ).bind (LP hi ρ x):=aR rfl
def HP{hi:Ev->au (Option Int)}{l:Option Int}:LP hi ρ x l=(hi ρ).bind (kO x l):=aR rfl
def HN{l l':Option Int}:kO (.lst ds) l l'=.ok (.lst (gk ds l l')):=aR rfl
def BP:gQ op op' f g h ρ=(f ρ).bind (MF op op' g h ρ):=aR rfl
def KD:MF op op' g h ρ x=(g ρ).bind (IP op op' h ρ x):=aR rfl
def Iu:IP op op' h ρ x y=(op x y).bind (Fo op' h ρ y):=aR rfl
def Ir:Fo op' h ρ y (.bl true)=(h ρ).bind (op' y):=aR rfl
def Iq:Fo op' h ρ y (.bl false)=.ok (.bl false):=aR rfl
def Ik{o:Int->Int->D}:uC (λ_ _=>true) o (.int a) (.int b)=.ok (o a b):=aR rfl
def Iz:bC (.int a) (.int b)=.ok (.int (a+b)):=aR rfl
def ic{es:ac}(h:decide (ds.length+es.length<=1000)=true):bC (.lst ds) (.lst es)=.ok (.lst (ds++es)):=if_pos (Nat.le_trans (of_decide_eq_true h) (by decide))
def Kz{m:D->au D}:m1 m [x]=m x:=aR rfl
def EO:dH (.lst ds)=.ok (.int ds.length):=aR rfl
def EN:dH (.tup ds)=.ok (.int ds.length):=aR rfl
def HL(h:decide (ds.length<=1000)=true):dZ ds=.ok (.tup ds):=if_pos (Nat.le_trans (of_decide_eq_true h) (by decide))
def Ij(h:decide (ds.length<=1000)=true):cY ds=.ok (.lst ds):=if_pos (Nat.le_trans (of_decide_eq_true h) (by decide))
def pU{z:Str}:ez "str" (.str z)=.ok (.bl true):=aR rfl
def ng:ez "tuple" (.tup ds)=.ok (.bl true):=aR rfl
def o5:ez "list" (.lst ds)=.ok (.bl true):=aR rfl
def wD:wK (.tup ds) .non=.ok (.bl false):=aR rfl
def jm:wK x .non=.ok (.bl (oQ x)):=aR rfl
def mi(h:ia a b=true):dm (.int a) (.int b)=.ok (.int (a*b)):=if_pos h
def Ii(h:(b==0)=false):cp (.int a) (.int b)=.ok (.int (a.fmod b)):=iB (λz=>by rw[z]at h;cases h)
def BM(h:jF a b=true):mn (.int a) (.int b)=.ok (.int (a.fdiv b)):=if_pos h
def dk{is:cr}(h:(ds.length==is.length)=true):z9 is ρ (.lst ds)=.ok (.nx (bP ρ is ds)):=by
 unfold z9 fw;simp only[if_pos (eq_of_beq h)]
def lK{is:cr}(h:(ds.length==is.length)=true):z9 is ρ (.tup ds)=.ok (.nx (bP ρ is ds)):=by
 unfold z9 fw;simp only[if_pos (eq_of_beq h)]
def Kv{is:cr}:bP ρ (i::is) (d::ds)=bP (ρ.set i (.sh d)) is ds:=aR rfl
def HS:bP ρ [] ds=ρ:=aR rfl
def Mx(i:Nat)(ρ:Ev)(s:Option Sl):Ev:=match s with
 |some (.ow d)=>ρ.set i (.sh d)
 |_=>ρ
def Kt:unown i ρ=Mx i ρ ρ[i]?:=aR rfl
def HK:Mx i ρ (some (.ow d))=ρ.set i (.sh d):=aR rfl
def lL{n:Nat}{j:Int}(h:uA ds.length j=some n):DL.putAt ρ i ds d (.int j)=.ok (.nx (ρ.set i (.ow (.lst (ds.set n d))))):=by
 unfold DL.putAt;simp only[h]
def ym{x0:D}:aP (.lst (x0::xs)) (.int 0)=.ok x0:=by
 unfold aP;simp only[show atI (x0::xs) 0=some x0 from dD (j:=0) rfl]
def EW{x0:D}:aP (.tup (x0::xs)) (.int 0)=.ok x0:=by
 unfold aP;simp only[show atI (x0::xs) 0=some x0 from dD (j:=0) rfl]
def yl{x0 x1:D}:aP (.lst (x0::x1::xs)) (.int 1)=.ok x1:=by
 unfold aP;simp only[show atI (x0::x1::xs) 1=some x1 from dD (j:=1) rfl]
def EV{x0 x1:D}:aP (.tup (x0::x1::xs)) (.int 1)=.ok x1:=by
 unfold aP;simp only[show atI (x0::x1::xs) 1=some x1 from dD (j:=1) rfl]
def EX{x0 x1 x2:D}:aP (.lst (x0::x1::x2::xs)) (.int 2)=.ok x2:=by
 unfold aP;simp only[show atI (x0::x1::x2::xs) 2=some x2 from dD (j:=2) rfl]
def EU{x0 x1 x2:D}:aP (.tup (x0::x1::x2::xs)) (.int 2)=.ok x2:=by
 unfold aP;simp only[show atI (x0::x1::x2::xs) 2=some x2 from dD (j:=2) rfl]
def ET{x0 x1 x2 x3:D}:aP (.tup (x0::x1::x2::x3::xs)) (.int 3)=.ok x3:=by
 unfold aP;simp only[show atI (x0::x1::x2::x3::xs) 3=some x3 from dD (j:=3) rfl]
def ES{x0 x1 x2 x3 x4:D}:aP (.tup (x0::x1::x2::x3::x4::xs)) (.int 4)=.ok x4:=by
 unfold aP;simp only[show atI (x0::x1::x2::x3::x4::xs) 4=some x4 from dD (j:=4) rfl]
def KN:((0:Nat):Int)=0:=aR rfl
def KL:((1:Nat):Int)=1:=aR rfl
def KJ:((2:Nat):Int)=2:=aR rfl
def KI:((3:Nat):Int)=3:=aR rfl
def KH:((4:Nat):Int)=4:=aR rfl
def KG:((5:Nat):Int)=5:=aR rfl
def HZ:gP (.int 10) (.int 60)=.ok (.int (eI:Int)):=by
 have e:(10:Int) ^ (60:Int).toNat=(eI:Int):=by decide
 rw[←e];rfl
end
def FX(fa:Ev->au (ac))(ρ:Ev)(x:D):au D:=match x with
 |.str z=>(fa ρ).bind (oO z)
 |_=>.stuck
def ER{f:am}{fa:Ev->au (ac)}{ρ:Ev}:yA f fa ρ=(f ρ).bind (FX fa ρ):=aR rfl
def BJ{fa:Ev->au (ac)}{ρ:Ev}{z:Str}:FX fa ρ (.str z)=(fa ρ).bind (oO z):=aR rfl
def JK(g:am)(ρ:Ev)(x:D):au D:=match x with
 |.lst ds=>(g ρ).bind (uU (.lst ds))
 |_=>.stuck
def HW{f g:am}{ρ:Ev}:AF f g ρ=(f ρ).bind (JK g ρ):=aR rfl
def EE{g:am}{ρ:Ev}{ds:ac}:JK g ρ (.lst ds)=(g ρ).bind (uU (.lst ds)):=aR rfl
theorem uH{α:Type}{x:α}:∀{n:Nat},(List.replicate n [x]).flatten=List.replicate n x
 |0=>rfl
 |n+1=>by rw[List.replicate_succ,List.flatten_cons,uH,List.replicate_succ];rfl
def ED{x:D}{k:Int}(h:(decide (0<=k)&&decide (k<=1000))=true):uU (.lst [x]) (.int k)=.ok (.lst (List.replicate k.toNat x)):=by
 simp only[Bool.and_eq_true,decide_eq_true_eq]at h;unfold uU;have:([x]:ac).length*k.toNat<=line/\-9223372036854775808<=k/\k<9223372036854775808:=⟨by
  have h2:k.toNat<=1000:=by omega
  show 1*k.toNat<=line;have:(1000:Nat)<=line:=by decide
  omega,by omega,by omega⟩
 simp only[if_pos this,uH]
end Com
def cF{a b:Prop}(x:a)(y:b):a/\b:=⟨x,y⟩
def Le:=(cF (cF (cF (cF (cF (cF @BI (cF @wB @yk)) (cF @Ez (cF @EL @BE))) (cF (cF @Ey (cF @HV @EC)) (cF (cF @E2 @BL) (cF @KC @Io)))) (cF (cF (cF @Im (cF @Ia @EJ)) (cF (cF @Iw @EI) (cF @HX @EG))) (cF (cF @EF (cF @BG @Ip)) (cF (cF @HJ @KQ) (cF @KP @Iv))))) (cF (cF (cF (cF @KO (cF @Ih @E3)) (cF @BO (cF @BN @Iy))) (cF (cF @E6 (cF @E5 @Kx)) (cF (cF @Ie @Ic) (cF @Ig @EK)))) (cF (cF (cF @Il (cF @EZ @EY)) (cF (cF @HI @Ek) (cF @Mj @Ew))) (cF (cF @HR (cF @Eu @Et)) (cF (cF @Es @HU) (cF @EB @EA)))))) (cF (cF (cF (cF (cF @Kw (cF @Ib @Ky)) (cF @Ku (cF @HQ @HP))) (cF (cF @HN (cF @BP @KD)) (cF (cF @Iu @Ir) (cF @Iq @Ik)))) (cF (cF (cF @Iz (cF @Kz @EO)) (cF (cF @EN @HZ) (cF @IB @rY))) (cF (cF @HL (cF @Ij @ic)) (cF (cF @kv @Ii) (cF @dk @lK))))) (cF (cF (cF (cF @Kv (cF @HS @Kt)) (cF @HK (cF @ym @yl))) (cF (cF @EX (cF @EW @EV)) (cF (cF @EU @ET) (cF @ES @pU)))) (cF (cF (cF @ng (cF @o5 @wD)) (cF (cF @KN @KL) (cF @KJ @KI))) (cF (cF @KH (cF @KG @ER)) (cF (cF @BJ @HW) (cF @EE @ED)))))))
local macro_rules|`(tactic|open_line with[$xs,*])=>`(tactic|simp only[Le,List.map_cons,List.map_nil,List.length_cons,List.length_nil,List.replicate_succ,List.replicate_zero,List.nil_append,List.cons_append,List.getElem?_cons_zero,List.getElem?_cons_succ,List.set_cons_zero,List.set_cons_succ,Nat.sub_zero,Nat.reduceSub,Nat.reduceAdd,Nat.add_zero,Nat.zero_add,Bool.not_true,Bool.not_false,decide_true,decide_false,Nat.reduceLeDiff,Nat.reduceBEq,Int.reduceBEq,beq_self_eq_true,DL.dOne,DL.mYes,Int.reduceLT,Int.reduceLE,Int.reduceSub,Int.reduceAdd,Int.reduceMul,Int.reduceNeg,Int.reduceToNat,Bool.and_self,$[$xs:term],*])
namespace Com
open PySem L2 DL
noncomputable def iW:bv :=
 (aw (dJ (fq (cC (bf (ah 0) (ez "str"))) (cC (gQ IL IL (dC (.int 1)) (ar (ag (ah 0) ay) (m1 dH)) (dC (.int 8)))))
 (aw (bG (dC (.bl false)))
 av)
 av)
 (aw (bG (ar (ag (iT 1 [] (Dg (ah 0)) (j7 0) mYes (ae (ah 0) (dC (.str "abcdefghijklmnopqrstuvwxyz")) B7)) ay) (m1 Fm)))
 av))
def m_is_name:ac->au D:=cM 1 iW
noncomputable def eE:bv :=
 (aw (dJ (fq (cC (bf (ah 0) (ez "tuple"))) (ae (ar (ag (ah 0) ay) (m1 dH)) (dC (.int 2)) kH))
 (aw (bG (dC (.bl false)))
 av)
 av)
 (aw (dJ (fq (cC (ar (ag (ae (ah 0) (dC (.int 0)) aP) ay) m_is_whole)) (cC (ar (ag (ae (ah 0) (dC (.int 1)) aP) ay) m_is_whole)))
 (aw (bG (dC (.bl false)))
 av)
 av)
 (aw (bG (ef (ae (ae (ah 0) (dC (.int 1)) aP) (dC (.int 1)) F5) (ae (ar (ag (ae (ah 0) (dC (.int 0)) aP) (ag (ae (ah 0) (dC (.int 1)) aP) ay)) m_common_divisor) (dC (.int 1)) fM)))
 av)))
def m_is_ratio:ac->au D:=cM 1 eE
def Na:Str:="abcdefghijklmnopqrstuvwxyz"
def qB(c:Nat):Bool:=Li ⟨#[c]⟩ Na
def kK(z:Str):Bool:=decide (1<=z.length)&&(decide (z.length<=8)&&z.cps.toList.all qB)
def qt:D->Bool
 |.str z=>kK z
 |_=>false
def vj:D->Bool
 |.str z=>decide (z.length<=line)
 |_=>true
theorem qP{b:Ev}{tg:Ev->D->au Ev}{tt fe:am}{F:D->D}:∀{ds:ac},(∀d∈ds,∃ρ1,tg b d=.ok ρ1/\tt ρ1=.ok (.bl true)/\fe ρ1=.ok (F d))->cR b tg tt fe ds=.ok (ds.map F)
 |[],_=>rfl
 |d::r,h=>by
  obtain⟨ρ1,h1,h2,h3⟩:=h d List.mem_cons_self;rw[iU h1 h2 h3,qP (λe he=>h e (List.mem_cons_of_mem _ he))];rfl
theorem mV{α:Type}(F:α->Bool):∀(cs:List α),il (cs.map λc=>D.bl (F c))=some (cs.map F)
 |[]=>rfl
 |c::r=>by
  show(il (r.map λc=>D.bl (F c))).map (F c::·)=_;rw[mV F r];rfl
def vS{z:Str}(hz:z.length<=line):iT 1 [] (Dg (ah 0)) (j7 0) mYes (ae (ah 0) (dC (.str "abcdefghijklmnopqrstuvwxyz")) B7) [.sh (.str z)]=.ok (.lst (z.cps.toList.map λc=>.bl (qB c))):=by
 have hl:(jN z).length<=line:=by rw[kP];exact hz
 unfold iT;show(if(jN z).length<=line then _ else _)=_;rw[if_pos hl];have:cR (et 1 [] [.sh (.str z)]) (j7 0) mYes (ae (ah 0) (dC (.str "abcdefghijklmnopqrstuvwxyz")) B7) (jN z)=.ok (z.cps.toList.map λc=>D.bl (qB c)):=by
  unfold jN
  induction z.cps.toList with
  |nil=>rfl
  |cons c r ih=>
   rw[List.map_cons,iU (x:=.bl (qB c)) rfl rfl rfl,ih];rfl
 rw[this]
def cA{d:D}(h:vj d=true):m_is_name [d]=.ok (.bl (qt d)):=by
 cases d with
 |str z=>
  have hz:z.length<=line:=of_decide_eq_true h;have hlen:dH (.str z)=.ok (.int z.length):=if_pos hz;show cM 1 iW _=.ok (.bl (kK z));unfold kK
  by_cases h1:1<=z.length
  .by_cases h8:z.length<=8
   .have e1:decide ((1:Int)<=(z.length:Int))=true:=decide_eq_true (by omega)
    have e2:decide ((z.length:Int)<=8)=true:=decide_eq_true (by omega);open_line with[iW,hlen,e1,e2,vS hz,Fm,mV,decide_eq_true h1,decide_eq_true h8,Bool.true_and]
    simp[List.all_map,Function.comp_def]
   .have e1:decide ((1:Int)<=(z.length:Int))=true:=decide_eq_true (by omega)
    have e2:decide ((z.length:Int)<=8)=false:=decide_eq_false (by omega);open_line with[iW,hlen,e1,e2,decide_eq_true h1,decide_eq_false h8,Bool.false_and,Bool.and_false]
  .have e1:decide ((1:Int)<=(z.length:Int))=false:=decide_eq_false (by omega)
   open_line with[iW,hlen,e1,decide_eq_false h1,Bool.false_and]
 |ob k _=>cases k<;>rfl
 |_=>rfl
def eA:D->Bool
 |.tup [.int p,.int q]=>decide (1<=q)&&(Int.gcd p q==1)
 |_=>false
def BQ{g:Nat}:((g:Int)==1)=(g==1):=by
 cases h:(g==1) with
 |true=>rw[eq_of_beq h];rfl
 |false=>
  have:g≠1:=λz=>by rw[z]at h;cases h
  exact beq_eq_false_iff_ne.mpr (by omega)
def vo{xs:ac}:(∃x y,xs=[x,y])∨xs.length≠2:=by
 match xs with
 |[]=>exact .inr (by decide)
 |[x]=>exact .inr (by simp)
 |[x,y]=>exact .inl ⟨x,y,rfl⟩
 |x::y::z::r=>exact .inr (by simp)
theorem n6:∀{xs:ac},xs.length≠2->eA (.tup xs)=false
 |[],_=>rfl
 |[x],_=>by cases x<;>rfl
 |[x,y],h=>absurd rfl h
 |x::y::z::r,_=>by cases x<;>cases y<;>rfl
def kR{x y:D}:eA (.tup [x,y])=(oR x&&(oR y&&eA (.tup [x,y]))):=by
 cases x<;>cases y<;>rfl
def fE(d:D):m_is_ratio [d]=.ok (.bl (eA d)):=by
 cases d with
 |tup xs=>
  rcases vo (xs:=xs) with⟨x,y,rfl⟩|h
  .rw[kR]
   show cM 1 eE _=_;cases hx:oR x with
   |false=>open_line with[eE,dN,hx,Bool.false_and]
   |true=>
    cases hy:oR y with
    |false=>open_line with[eE,dN,hx,hy,Bool.false_and,Bool.true_and]
    |true=>
     cases x<;>first|(cases hx;done)|skip
     cases y<;>first|(cases hy;done)|skip
     rename_i p q;show _=au.ok (D.bl (decide (1<=q)&&(Int.gcd p q==1)))
     by_cases hq:1<=q
     .open_line with[eE,dN,hx,hy,qO,Bool.true_and,decide_eq_true hq,BQ]
     .open_line with[eE,dN,hx,hy,qO,Bool.true_and,decide_eq_false hq,Bool.false_and]
  .have e2:((xs.length:Int)==2)=false:=beq_eq_false_iff_ne.mpr (by omega)
   rw[n6 h];show cM 1 eE _=_;open_line with[eE,e2]
 |ob k _=>cases k<;>rfl
 |_=>rfl
def bV(d:D):cH [d]=.ok (.bl (eA d)):=by
 cases d with
 |tup xs=>
  rcases vo (xs:=xs) with⟨x,y,rfl⟩|h
  .rw[kR]
   show cM 1 cI _=_;cases hx:oR x with
   |false=>open_line with[cI,cX,hx,Bool.false_and]
   |true=>
    cases hy:oR y with
    |false=>open_line with[cI,cX,hx,hy,Bool.false_and,Bool.true_and]
    |true=>
     cases x<;>first|(cases hx;done)|skip
     cases y<;>first|(cases hy;done)|skip
     rename_i p q;show _=au.ok (D.bl (decide (1<=q)&&(Int.gcd p q==1)))
     by_cases hq:1<=q
     .have e:decide (q<1)=false:=decide_eq_false (by omega)
      open_line with[cI,cX,hx,hy,o9,e,Bool.true_and,decide_eq_true hq,BQ]
     .have e:decide (q<1)=true:=decide_eq_true (by omega)
      open_line with[cI,cX,hx,hy,e,Bool.true_and,decide_eq_false hq,Bool.false_and]
  .have e2:((xs.length:Int)==2)=false:=beq_eq_false_iff_ne.mpr (by omega)
   rw[n6 h];show cM 1 cI _=_;open_line with[cI,e2]
 |ob k _=>cases k<;>rfl
 |_=>rfl
def JD{sz:List Int}(h:(sz.all λs=>decide (0<s)&&decide (s<=(eI:Int)))=true):∀s∈sz,0<s/\s.natAbs<B9:=λs hs=>by
 have:=List.all_eq_true.mp h s hs;simp only[Bool.and_eq_true,decide_eq_true_eq]at this;refine⟨this.1,Nat.lt_of_le_of_lt (show s.natAbs<=eI by omega) ?_⟩;exact Nat.lt_of_lt_of_le (show eI<2 ^ 200 by decide) (by rw[yI];exact Nat.pow_le_pow_right (by decide) (by decide))
def nE{α:Type}{F:α->D}{xs:List α}{lo hi:Option Int}:gk (xs.map F) lo hi=((xs.drop (HT.sIx xs.length 0 lo)).take (HT.sIx xs.length xs.length hi-HT.sIx xs.length 0 lo)).map F:=by
 unfold gk;rw[List.length_map,←List.map_drop,←List.map_take]
end Com
namespace DL
open PySem PySem.Spec PyProof.Rows L2
def cm.there{P:Program}{w:World}{H:Hp}{h:Heap}{a:Addr}{o:HO}(x:cm P w H h a o):∃u,h.get? a=some u:=by
 cases o with|lst xs=>obtain⟨_,_,_,_,e⟩:=x;exact⟨_,e⟩|tup xs=>obtain⟨_,_,_,ob,e,_⟩:=x;exact⟨_,e⟩|dK kvs|dT kvs=>obtain⟨_,_,_,_,o,_,_,e,_⟩:=x;exact⟨_,e⟩|set S n=>obtain⟨o,_,_,_,e,_⟩:=x;exact⟨_,e⟩|ins C dx fs=>obtain⟨_,_,_,e,_⟩:=x;exact⟨_,e⟩|own y=>obtain⟨_,e⟩:=x;exact⟨_,e⟩|xd fs=>obtain⟨_,⟨_,_,_,e,_⟩,_⟩:=x;exact⟨_,e⟩|rng lo hi=>obtain⟨_,_,_,e⟩:=x;exact⟨_,e⟩|frz ob u=>obtain⟨e,_⟩:=x;exact⟨_,e⟩|tbl ps|met f y=>exact⟨_,show h.get? a=some _ from x⟩|ext φ=>obtain⟨_,⟨_,e⟩,_⟩:=x;exact⟨_,e⟩
noncomputable def fj(P:Program) (w:World):q9:=λouter H s E e s'=>∃(ea C:Addr) (a0:Value) (B:Heap) (H':Hp),e=.ref ea/\s'.os=s.os/\AllBare s'.gens/\Un (f9 outer) [] H H' s.heap s'.heap/\gh P w H' s'.heap/\H' ea=none /\
 Heap.FlyingW B outer ea (.ref C) a0 s'.heap/\(∀b,b∉f9 outer->(H' b≠none∨∃o,s.heap.get? b=some o)->∃o,B.get? b=some o)/\∃ox,K8 s'.heap ea ox/\E (.ref C) ox H'
def sE{l:List PySem.Env}:∀env∈l,∀a,env.frame=some a->a∈f9 l:=λenv he a hf=>List.mem_filterMap.mpr ⟨env,he,hf⟩
section
variable {P:Program}{w:World}{K:W.Frag}{mg:Str->Option Value}{base:Heap}{N:List Str}{qual:Str}{scope:Scope}{f:Addr}{cd:Value}{A:Around}{outer:List PySem.Env}{s0:Shared}{H0:Hp}{E:XK}
 {pins:List (Addr×Obj)}{σ:L2.St}{H:Hp}{s:Shared}
def gG{B h h':Heap}(k:B.StaysIn h)(k':B.StaysIn h'){b:Addr}{o:Obj}(hb:∃u,B.get? b=some u)(e:h.get? b=some o):h'.get? b=some o:=by
 obtain⟨u,q⟩:=hb;have:=k b u q;rw[e]at this;cases this;exact k' b o q
def yh{X:Cx}(hX:X=cL (fj P w) P w K mg base N qual scope f cd A outer s0 H0 E)(I:Inv X pins σ H s){s1:Shared}{H1:Hp}{ea C:Addr}{a0:Value}{B h':Heap}(os:s1.os=s.os)(bare:AllBare s1.gens)
  (un:Un (f9 X.stack) [] H H1 s.heap s1.heap)(hok:gh P w H1 s1.heap)(hne:H1 ea=none)(hst:B.StaysIn s1.heap)(hfr:s1.heap.FunFrames B X.stack)
  (hB:∀b,b∉f9 X.stack->(H1 b≠none∨∃o,s.heap.get? b=some o)->∃o,B.get? b=some o)(fl:Heap.FlyingW B outer ea (.ref C) a0 h')(up:s1.heap.UpToSlots h')(hE:∃ox,K8 h' ea ox/\E (.ref C) ox H1) :
  fj P w outer H0 s0 E (.ref ea) { s1 with heap:=h' }:=by
 subst hX;have hL:(envOfC qual scope s0.heap.objs.size f cd).frame=some (envOfC qual scope s0.heap.objs.size f cd).locals:=rfl;have hstk:∀b,b∈f9 (envOfC qual scope s0.heap.objs.size f cd::outer)->b=(envOfC qual scope s0.heap.objs.size f cd).locals∨b∈f9 outer:=λb hb=>by
  unfold f9 at hb;rw[List.filterMap_cons,hL]at hb;exact List.mem_cons.mp hb
 have hsub:∀b,b∈f9 outer->b∈f9 (envOfC qual scope s0.heap.objs.size f cd::outer):=λb hb=>by
  unfold f9;rw[List.filterMap_cons,hL];exact List.mem_cons_of_mem _ hb
 have old:∀b o,s0.heap.get? b=some o->b≠(envOfC qual scope s0.heap.objs.size f cd).locals:=λb o e=>Nat.ne_of_lt (Nat.lt_of_lt_of_le (Heap.lt_size e) I.ok.above);have nofr:∀b o,s0.heap.get? b=some o->b∉f9 outer->b∉f9 (envOfC qual scope s0.heap.objs.size f cd::outer):=λb o e hb hm=>(hstk b hm).elim (old b o e) hb;have thr:∀b o,s0.heap.get? b=some o->∃o',s.heap.get? b=some o':=λb o e=>I.base.there b o e (by intro z;exact nomatch z);have fst:∀b,b∈f9 outer->∀o,s1.heap.get? b=some o->∃sl,h'.get? b=some { o with slots:=sl }:=λb hb o e=>by
  obtain⟨_,o',ho',hd⟩:=hfr.mem (hsub b hb);rw[e]at ho';cases ho';exact up b o e hd
 have free1:∀b∈f9 (envOfC qual scope s0.heap.objs.size f cd::outer),H1 b=none:=λb hb=>by
  obtain⟨_,o,ho,_⟩:=I.stack.mem hb;exact un.free b o ho (I.stkFree b hb) (by simp)
 have B0:∀b o,s0.heap.get? b=some o->b∉f9 outer->∃u,B.get? b=some u:=λb o e hb=>hB b (nofr b o e hb) (.inr (thr b o e));refine⟨ea,C,a0,B,H1,rfl,os.trans I.os,bare,⟨λb o e n hb hx=>?_,λb o e n hb hx=>?_,λb o e n hx=>?_,λb o e hx=>?_,λb xs e=>un.tups b xs (I.base.tups b xs e),λb o u e=>un.frzs b o u (I.base.frzs b o u e),λb ps e=>?_⟩,λa o e=>?_,hne,fl,λb hb h=>?_,hE⟩
 .have e1:=I.base.keep b o e n hb (by intro z;exact nomatch z)
  have n1:=I.base.free b o e n (by intro z;exact nomatch z);have e2:=un.keep b o e1 n1 (nofr b o e hb) (by simp);exact gG hst fl.1 (B0 b o e hb) e2
 .obtain⟨sl,e1⟩:=I.base.slot b o e n hb (by intro z;exact nomatch z)
  have n1:=I.base.free b o e n (by intro z;exact nomatch z);obtain⟨sl2,e2⟩:=un.any e1 n1 (by simp);obtain⟨sl3,e3⟩:=fst b hb _ e2;exact⟨sl3,e3⟩
 .obtain⟨o',e1⟩:=thr b o e
  exact un.free b o' e1 (I.base.free b o e n (by intro z;exact nomatch z)) (by simp)
 .obtain⟨o',e1⟩:=thr b o e
  obtain⟨o2,e2⟩:=un.there b o' e1 (by simp)
  by_cases hb:b∈f9 outer
  .obtain⟨sl,e3⟩:=fst b hb _ e2
   exact⟨_,e3⟩
  .exact⟨_,gG hst fl.1 (B0 b o e hb) e2⟩
 .obtain⟨m1,e1⟩:=I.base.tbls b ps e
  obtain⟨m2,e2⟩:=un.tbls b _ e1;exact⟨m1++m2,by rw[e2,Array.append_assoc]⟩
 .refine(hok a o e).stay (λb u hb q=>?_) (λ_ q=>q) λ_ _ q=>q
  have hn:H1 b≠none:=by
   rcases hb with rfl|hb
   .rw[e];simp
   .rw[hb];simp
  exact gG hst fl.1 (hB b (λhm=>hn (free1 b hm)) (.inl hn)) q
 .by_cases hm:b∈f9 (envOfC qual scope s0.heap.objs.size f cd::outer)
  .rcases hstk b hm with z|z
   .rcases h with h|⟨o,h⟩
    .exact absurd (free1 b hm) h
    .exact absurd z (old b o h)
   .exact absurd z hb
  .exact hB b hm (h.elim .inl λ⟨o,h⟩=>.inr (thr b o h))
def rJ(I:Inv (cL (fj P w) P w K mg base N qual scope f cd A outer s0 H0 E) pins σ H s){h1:Heap}{e C:Addr}{vs:List Value}(hx:Heap.MadeExcOf s.heap h1 e (.ref C) vs)(hE:E (.ref C) none H) :
  (cL (fj P w) P w K mg base N qual scope f cd A outer s0 H0 E).xe (.ref e) { s with heap:=h1 }:=by
 have hin:=sE (l:=envOfC qual scope s0.heap.objs.size f cd::outer);have hl:s.heap.FunFrames (W.hideAll s.heap (f9 (envOfC qual scope s0.heap.objs.size f cd::outer))) (envOfC qual scope s0.heap.objs.size f cd::outer):=W.funFrames_hide I.stack hin;have hn:H e=none:=by
  cases q:H e with|none=>rfl|some o=>obtain⟨u,hu⟩:=cm.there (I.hok e o q);rw[hx.new]at hu;cases hu
 obtain⟨t,he,_,_⟩:=hx.there;have hen:(W.hideAll s.heap (f9 (envOfC qual scope s0.heap.objs.size f cd::outer))).get? e=none:=by
  cases q:(W.hideAll s.heap (f9 (envOfC qual scope s0.heap.objs.size f cd::outer))).get? e with|none=>rfl|some o=>have:=W.of_hideAll _ q;rw[hx.new]at this;cases this
 refine oW (s:={ s with heap:=h1 }) (a0:=.ref t) I.ok.frames (hl.of_keeps λb o hb _=>⟨o,hx.keeps b o hb,rfl⟩) rfl he (λb o q=>hx.keeps b o (W.of_hideAll _ q)) hen rfl rfl rfl (λz=>absurd rfl z) λh' fl up dch=>?_;refine yh rfl I (s1:={ s with heap:=h1 }) (H1:=H) rfl I.bare (Un.kept hx.keeps) (I.hok.kept hx.keeps) hn (λb o q=>hx.keeps b o (W.of_hideAll _ q)) (hl.of_keeps λb o hb _=>⟨o,hx.keeps b o hb,rfl⟩) (λb hb h=>?_) fl up ⟨none,⟨none,dch,.inl rfl⟩,hE⟩;have:∃o,s.heap.get? b=some o:=by
  rcases h with h|h
  .cases q:H b with
   |none=>exact absurd q h
   |some o=>exact cm.there (I.hok b o q)
  .exact h
 obtain⟨o,q⟩:=this;exact⟨o,W.hideAll_get _ q hb⟩
def xI:kj (fj P w) (cL (fj P w) P w K mg base N qual scope f cd A outer s0 H0 E) E:=by
 intro pins σ H s e s' I h;obtain⟨ea,C,a0,B,H',rfl,os,bare,un,hok,hne,fl,hB,ox,⟨dc,hdc,hox⟩,hE⟩:=h;refine zr I.ok.frames rfl fl hdc λh' fl' up hd'=>?_;exact yh rfl I os bare un hok hne fl.1 fl.2.2.1 hB fl' up ⟨ox,⟨dc,hd',hox⟩,hE⟩
end
def wx{P:Program}{w:World}{K:W.Frag}{mg:Str->Option Value}{base:Heap}{x qual:Str}{st:Stmt}{f:Addr}{fd:FuncData}{N ps:List Str}{k:Nat}{s:bv}(F:zR K x qual st f fd)(S:fX N ps (defScope st))
  (hbody:∀(cdv:Value) (A:Around) (outer:List PySem.Env) (s0:Shared) (H Ha:Hp) (E:XK),dI k (A.deeper (envOfC qual (defScope st) s0.heap.objs.size f cdv)) ->
   tq (cL (fj P w) P w K mg base N qual (defScope st) f cdv A outer s0 H E) E H Ha (defBody st) s):FnOk P w K mg base (fj P w) (k+1) f fd ps (spD K ps.length (cM N.length s)):=by
 have hpl:ps.length<=N.length:=by have:=congrArg List.length S.pre;rw[List.length_take]at this;omega
 obtain⟨oc,od,kV,doc,pm,an,cdv,ct,osl,rfl,lk,hcd⟩:=F.ex;refine FZ lk hcd S (λvs H Q E h=>h.1) λA outer s0 H vs Q E hr h=>?_;obtain⟨hn,Ha,ds,hs,hv,q⟩:=h;refine⟨_,(hbody cdv A outer s0 H Ha E hr).o,Ha,ds.map Sl.sh++List.replicate (N.length-ds.length) .no,?_,?_⟩
 .refine⟨bH.refl hs,jL hv,λi d e=>?_,λi j d d' hij e=>?_,?_,OX.none l5 kN⟩
  .by_cases hi:i<ds.length
   .rw[List.getElem?_append_left (by simpa using hi),List.getElem?_map]at e
    cases q:ds[i]? with|none|some d'=>rw[q]at e;cases e
   .rw[List.getElem?_append_right (by simpa using hi),List.getElem?_replicate]at e
    split at e<;>cases e
  .by_cases hi:i<ds.length
   .rw[List.getElem?_append_left (by simpa using hi),List.getElem?_map]at e
    cases q:ds[i]? with|none|some d'=>rw[q]at e;cases e
   .rw[List.getElem?_append_right (by simpa using hi),List.getElem?_replicate]at e
    split at e<;>cases e
  .unfold L2.start
   have:=hv.length;simp only[List.length_append,List.length_map,List.length_replicate];omega
 .unfold cM at q
  cases e1:s (ds.map Sl.sh++List.replicate (N.length-ds.length) .no) with
  |stuck|exn x=>rw[e1]at q;exact q
  |ok r=>
   rw[e1]at q;cases r with|nx ρ'=>exact λσ' H' Ha' _ h'=>q .non H' Ha' h'.g (aS.mpr rfl)|rt d=>exact λv H' Ha' g rp=>q v H' Ha' g rp|bk ρ'|ct ρ'=>exact q.elim
def noX(m:ac->au D)(ds:ac):au D:=match m ds with
 |.exn _=>.stuck
 |r=>r
def Hi{m:ac->au D}{ds:ac}{d:D}(h:m ds=.ok d):noX m ds=.ok d:=by unfold noX;rw[h]
def xr{K:W.Frag}{n:Nat}{m:ac->au D}{vs:al}{H:Hp}{Q:VK}{E E':XK}(h:spD K n (noX m) vs H Q E):spD K n m vs H Q E':=by
 obtain⟨hn,Ha,ds,hs,hv,q⟩:=h;refine⟨hn,Ha,ds,hs,hv,?_⟩;unfold noX at q;cases e:m ds with|stuck=>rw[e]at q;exact q|exn x=>rw[e]at q;exact q.elim|ok d=>rw[e]at q;exact q
theorem FnOk.noX{P:Program}{w:World}{K:W.Frag}{mg:Str->Option Value}{base:Heap}{k n:Nat}{f:Addr}{fd:FuncData}{ps:List Str}{m:ac->au D}(F:FnOk P w K mg base (fj P w) k f fd ps (spD K n m)) :
  FnOk P w K mg base CX0 k f fd ps (spD K n (DL.noX m)) :=
 ⟨λvs H Q E h=>F.len vs H Q E0 (xr h),λA outer s H args us vs Q E hr he hb hv h=>codeAny_mono (F.run A outer s H args us vs Q E0 hr he hb hv (xr h)) λr s' q=>by
  cases r with
  |ok fl=>cases fl<;>exact q
  |error e=>obtain⟨_,_,_,_,_,_,_,_,_,_,_,_,_,_,_,hE⟩:=q;exact hE.elim⟩
structure Cp (K:W.Frag) (x:Str) (C:Addr):Prop where
 xc:XC K x C
 ex:W.excIn K C [.type "ValueError",.type "Exception",.type "BaseException",.type "object"] "ValueError.__new__"=true
def Cp.obj{K:W.Frag}{x:Str}{C:Addr}(c:Cp K x C){h:Heap}(X:K.In h):∃bm N nm q bs hdct sn sub ab col dd k0 k1 k2 k3 k5 mN,h.get? C=some (excClassObj nm q C N bs bm hdct sn sub ab col dd k0 k1 k2 k3 k5 "ValueError.__new__")/\h.Ns N mN/\mN "__init__"=none /\
  OwnTail h [.type "ValueError",.type "Exception",.type "BaseException",.type "object"] bm:=by
 have q:=c.ex;unfold W.excIn at q;split at q
 .rename_i dd cd sl ho
  split at q
  .rename_i C' bm k0 k1 k2 k3 n k5 hm hs
   simp only[Bool.and_eq_true,beq_iff_eq,Bool.not_eq_true']at q;obtain⟨⟨⟨⟨⟨rfl,rfl⟩,hdel⟩,ht⟩,hok⟩,hni⟩:=q;obtain⟨nm,bs,mro,ns,qn,hd,sn,sub,ab,col,del⟩:=cd;dsimp only at hm hdel hok hni;subst hm hdel;have hsl:sl=#[k0,k1,k2,k3,some (.builtin "ValueError.__new__"),k5]:=by
    obtain⟨l⟩:=sl;simp only at hs;rw[hs]
   subst hsl;exact⟨bm,ns,nm,qn,bs,hd,sn,sub,ab,col,dd,k0,k1,k2,k3,k5,_,X _ _ ho,.of_isNs (W.isNs_of_in X hok),W.nsMap_none_of_in X hok hni,W.tail_of_in X ht⟩
  .cases q
 .cases q
def rE(x:Str)(fa:Ev->au (ac)):bv:=λρ=>(fa (gz ρ)).bind λds=>if ds.length<=line then .exn ⟨x,[]⟩ else .stuck
section
variable {P:Program}{w:World}{K:W.Frag}{mg:Str->Option Value}{base:Heap}{N:List Str}{qual:Str}{scope:Scope}{f:Addr}{cd:Value}{A:Around}{outer:List PySem.Env}{s0:Shared}{H0:Hp}{E:XK}{He H0e:Hp}
def BW{x:Str}{C:Addr}{np cpos pos:Pos}{e:Expr}{es:List Expr}{fa:Ev->au (ac)}(c:Cp K x C)(hm:mg x=some (.ref C))(hh:A.handled=none)
  (hg:Gl (cL (fj P w) P w K mg base N qual scope f cd A outer s0 H0 E) x)(ha:DA (cL (fj P w) P w K mg base N qual scope f cd A outer s0 H0 E) E (e::es) fa)
  (hdb:(x==("__debug__":Str))=false:=by decide)(he:starEach (e::es) (cL (fj P w) P w K mg base N qual scope f cd A outer s0 H0 E).env=(false,eval e (cL (fj P w) P w K mg base N qual scope f cd A outer s0 H0 E).env)::starEach es (cL (fj P w) P w K mg base N qual scope f cd A outer s0 H0 E).env:=by exact aN rfl)
  (hpl:(backTo cpos (starEach es (cL (fj P w) P w K mg base N qual scope f cd A outer s0 H0 E).env)).any (·.1)=false:=by exact bD rfl) :
  DS (cL (fj P w) P w K mg base N qual scope f cd A outer s0 H0 E) E He H0e (.Raise (some (.Call (.Name x np) (e::es) [] cpos)) none pos) (rE x fa):=by
 refine⟨?_⟩;intro pins s σ H D I ⟨Ha,ρ,hr,q⟩;obtain⟨bm,Nn,nm,qn,bs,hdct,sn,sub,ab,col,dd,k0,k1,k2,k3,k5,mN,hC,hN,hni,T⟩:=c.obj I.ok.mod.kin;refine wpAny_Raise_call_subT (C:=C) (nm:=nm) (q:=qn) (N:=Nn) (bs:=bs) (bm:=bm) (hdct:=hdct) (sn:=sn) (sub:=sub) (ab:=ab) (col:=col) (dd:=dd) (k0:=k0) (k1:=k1) (k2:=k2) (k3:=k3) (k5:=k5)
  PySem.F.excBase_ValueError (mN:=mN) (T.hasType PySem.F.excBase_ValueError.hasBase) hh (by rw[he];show(false||(backTo cpos (starEach es (cL (fj P w) P w K mg base N qual scope f cd A outer s0 H0 E).env)).any (·.1))=false;rw[hpl];rfl) hni (gA I hg hm ⟨rfl,?_⟩ hdb)
 have hq:og K E H (frz He Ha H) (fa (gz ρ)) (λvs H1=>vs.length<=sizeLine/\E (.ref C) none H1):=by
  unfold rE at q;cases e1:fa (gz ρ) with
  |stuck=>rw[e1]at q;exact q|exn z=>rw[e1]at q;exact λC ox H' Ha' g ex=>q C ox H' Ha' (hr.frz_grow.trans g) ex
  |ok ds=>
   rw[e1]at q;intro vs H1 H01 g rp;have q:bZ K E He H0e Ha (if ds.length<=line then au.exn ⟨x,[]⟩ else .stuck) D:=q
   by_cases hl:ds.length<=line
   .rw[if_pos hl]at q
    exact⟨by rw[←rp.length];exact dS hl,q (.ref C) none H1 H01 (hr.frz_grow.trans g) ⟨⟨C,rfl,c.xc⟩,rfl⟩⟩
   .rw[if_neg hl]at q;exact q.elim
 have h1:=ha.o cpos pins s σ H _ I ⟨frz He Ha H,gz ρ,hr.frz_le,hr.looks,hq⟩;rw[he]at h1 ⊢;refine Calls.evalArgs_plain (wpAny_mono h1 (λvs s2 h2=>?_) λ_ _ y=>y);obtain⟨vs',H1,I1,rv,hl,hE⟩:=h2;exact⟨rfl,by rw[←rv.length];exact hl,I1.bk _ _ hC,hN.keeps I1.bk,T.keeps I1.bk,λh' ee hx=>rJ I1 hx hE⟩
end
section
variable {P:Program}{w:World}{st:List PySem.Env}{H H':Hp}{h g g' B:Heap}
def Un.fly(un:Un (f9 st) [] H H' h g)(k:B.StaysIn g)(hfr:g.FunFrames B st)(hB:∀b,b∉f9 st->(H' b≠none∨∃o,h.get? b=some o)->∃o,B.get? b=some o)(k':B.StaysIn g')(up:g.UpToSlots g'):Un (f9 st) [] H H' h g':=by
 have fst:∀b,b∈f9 st->∀o,g.get? b=some o->∃sl,g'.get? b=some { o with slots:=sl }:=λb hb o e=>by
  obtain⟨_,o',ho',hd⟩:=hfr.mem hb;rw[e]at ho';cases ho';exact up b o e hd
 refine⟨λb o e n hb hx=>?_,λb o e n hb hx=>?_,un.free,λb o e hx=>?_,un.tups,un.frzs,un.tbls⟩
 .exact gG k k' (hB b hb (.inr ⟨o,e⟩)) (un.keep b o e n hb hx)
 .obtain⟨sl,e1⟩:=un.slot b o e n hb hx
  obtain⟨sl2,e2⟩:=fst b hb _ e1;exact⟨sl2,e2⟩
 .obtain⟨o',e1⟩:=un.there b o e hx
  by_cases hb:b∈f9 st
  .obtain⟨sl,e2⟩:=fst b hb _ e1
   exact⟨_,e2⟩
  .exact⟨_,gG k k' (hB b hb (.inr ⟨o,e⟩)) e1⟩
def gh.fly(ok:gh P w H' g)(hf:∀b∈f9 st,H' b=none)(k:B.StaysIn g)(hB:∀b,b∉f9 st->(H' b≠none∨∃o,h.get? b=some o)->∃o,B.get? b=some o)(k':B.StaysIn g'):gh P w H' g':=λa o e=>by
 refine(ok a o e).stay (λb u hb q=>?_) (λ_ q=>q) λ_ _ q=>q;have hn:H' b≠none:=by
  rcases hb with rfl|hb
  .rw[e];simp
  .rw[hb];simp
 exact gG k k' (hB b (λhm=>hn (hf b hm)) (.inl hn)) q
def gh.ext(ok:gh P w H g){a:Addr}{φ:Heap->Prop}(hn:H a=none)(p:φ g)(ht:∃o,g.get? a=some o)(hm:∀h1 h2:Heap,φ h1->(∀o,h1.get? a=some o->h2.get? a=some o)->φ h2):gh P w (upd H a (.ext φ)) g:=λb u e=>by
 by_cases hb:b=a
 .subst hb;rw[aF]at e;cases e;exact⟨p,ht,hm⟩
 .rw[aD hb]at e
  exact(ok b u e).stay (λc v _ q=>q) (λc q=>by rw[aD (aY q hn)];exact q) λc xs q=>by rw[aD (aY q hn)];exact q
def Un.ext{fs:List Addr}(un:Un fs [] H H' h g){a:Addr}{o:HO}(hn:H' a=none)(ha:h.get? a=none):Un fs [] H (upd H' a o) h g :=
 ⟨un.keep,un.slot,λb ob e n hx=>by rw[aD (λz=>by subst z;rw[ha]at e;cases e)];exact un.free b ob e n hx,un.there,λb xs q=>by rw[aD (aY (un.tups b xs q) hn)];exact un.tups b xs q,
  λb ob u q=>by rw[aD (aY (un.frzs b ob u q) hn)];exact un.frzs b ob u q,λb ps q=>by
   obtain⟨m,e⟩:=un.tbls b ps q;exact⟨m,by rw[aD (aY e hn)];exact e⟩⟩
def zt{a C:Addr}{dc:Option Addr}:∀h1 h2:Heap,wX a C dc h1->(∀o,h1.get? a=some o->h2.get? a=some o)->wX a C dc h2:=λh1 h2 ⟨o,vs,e,c,d⟩ k=>⟨o,vs,k o e,c,d⟩
end
def hand(X:Cx)(e:Addr):Cx:={ X with A:=X.A.mark (some (.ref e)),calm:=false,xe:=λ_ _=>False }
section
variable {X:Cx}{pins:List (Addr×Obj)}{σ:L2.St}{H:Hp}{s:Shared}{e:Addr}
def Ed(ok:X.Ok):(hand X e).Ok :=
 ⟨ok.mod,ok.kind,ok.glob,ok.blt,ok.above,ok.inj,ok.has,ok.cab,λz=>Bool.noConfusion z,ok.frames,ok.stk,ok.exf,ok.bs,ok.bsz,ok.noex,ok.exfs,ok.funs,ok.frf⟩
def Inv.hand(I:Inv X pins σ H s):Inv (DL.hand X e) pins σ H s:=⟨Ed I.ok,I.os,I.bare,I.base,I.loc,I.cell,I.free,I.freeC,I.pin,I.hok,I.len⟩
def fU(ok:X.Ok)(I:Inv (DL.hand X e) pins σ H s):Inv X pins σ H s:=⟨ok,I.os,I.bare,I.base,I.loc,I.cell,I.free,I.freeC,I.pin,I.hok,I.len⟩
def Cu{i:Nat}{x:Str}{m:Str->Option Value}{v:Option Value}{h':Heap}{t':Nat}(I:Inv X pins σ H s)(hN:X.N.Nodup)(hi:X.N[i]?=some x)
  (hm:∀(j:Nat) (y:Str) (v:V),X.N[j]?=some y->σ[j]?=some (some v)->vd X.env.scope y->∃u,bY v u/\La X.env s.heap m y u)(hn:h'.Ns X.env.locals (λy=>if y=x then v else m y))(hs:Heap.SameBut X.env.locals s.heap h') :
  Inv X pins (σ.set i none) H { s with heap:=h',toks:=t' }:=by
 have cne:=I.cne;obtain⟨m0,⟨oL,_,_,hoL,_⟩,_⟩:=id I.loc;have tracked:gh X.prog X.w H h':=λb ob e=>by
  refine(I.hok b ob e).stay (λc w' hc q=>(hs.2 c ?_).trans q) (λ_ q=>q) λ_ _ q=>q;rintro rfl;have hfree:=I.free;rcases hc with rfl|hc
  .rw[hfree]at e;cases e
  .rw[hfree]at hc;cases hc
 refine⟨I.ok,I.os,I.bare,⟨λb o e n hb hx=>?_,λb o e n hb hx=>?_,I.base.free,λb o e hx=>?_,I.base.tups,I.base.frzs,I.base.tbls⟩,⟨_,hn,λj y v' e1 e2 e3=>?_⟩,λy c e=>?_,I.free,I.freeC,λp hp=>?_,tracked,by simpa using I.len⟩
 .exact(hs.2 b (Nat.ne_of_lt (Nat.lt_of_lt_of_le (Heap.lt_size e) I.ok.above))).trans (I.base.keep b o e n hb hx)
 .obtain⟨sl,e1⟩:=I.base.slot b o e n hb hx
  exact⟨sl,(hs.2 b (Nat.ne_of_lt (Nat.lt_of_lt_of_le (Heap.lt_size e) I.ok.above))).trans e1⟩
 .obtain⟨o',e1⟩:=I.base.there b o e hx
  exact⟨o',(hs.2 b (Nat.ne_of_lt (Nat.lt_of_lt_of_le (Heap.lt_size e) I.ok.above))).trans e1⟩
 .by_cases hj:j=i
  .subst hj
   have hiσ:j<σ.length:=by rw[I.len];exact(List.getElem?_eq_some_iff.mp hi).1
   rw[List.getElem?_set_self hiσ]at e2;cases e2
  .rw[List.getElem?_set_ne (Ne.symm hj)]at e2
   obtain⟨u',r',q⟩:=hm j y v' e1 e2 e3;refine⟨u',r',?_⟩;rcases q with⟨k,e⟩|⟨k,c,e,z⟩
   .refine .inl ⟨k,?_⟩
    have:y≠x:=λe=>hj (oC hN e1 (e▸hi));simp[this,e]
   .exact .inr ⟨k,c,e,z.sameBut hs (cne y c e)⟩
 .obtain⟨w',z⟩:=I.cell y c e
  exact⟨w',z.sameBut hs (cne y c e)⟩
 .obtain⟨e,n,ne,nf,d⟩:=I.pin p hp
  exact⟨(hs.2 p.1 ne).trans e,n,ne,nf,d⟩
def IT{H1:Hp}{s1 s':Shared}{Ex:XK}{ev:Value}{c n:Str}{np hpos:Pos}{ba:Stmt}{suite:List Stmt}{rest:List ExceptHandler}{cv:Value}{ni:Nat}{D:gW}(hstk:X.stack=X.env::X.outer/\X.env.frame=some X.env.locals)(I:Inv X pins σ H1 s1)
  (h:fj X.prog X.w X.stack H1 s1 Ex ev s')(hg:Gl X c)(hm:X.mg c=some cv)(hx:∀C ox H',Ex (.ref C) ox H'->W.exmOne X.K (.ref C) cv=some true)
  (hN:X.N.Nodup)(hi:X.N[ni]?=some n)(hlo:X.env.scope.names.lookup n=some .local)
  (hs:∀ea C dc ox H' s2,Ex (.ref C) ox H'->(ox=none∨ox=dc)->H' ea=none->Inv (DL.hand X ea) pins (σ.set ni (some (.ref ea))) (upd H' ea (.ext (wX ea C dc))) s2 ->
   wpAny (model X.prog X.w) (X.A.mark (some (.ref ea))) (execs (ba::suite) X.env) (SP (DL.hand X ea) pins { nx:=λσ' H=>D.nx (σ'.set ni none) H,rt:=D.rt,bk:=λσ' H=>D.bk (σ'.set ni none) H,ct:=λσ' H=>D.ct (σ'.set ni none) H }) (λ_ _=>False) s2)
  (hdb:(c==("__debug__":Str))=false:=by decide) :
  wpAny (model X.prog X.w) X.A (noteFrame ev X.env) (λ_ si=>wpAny (model X.prog X.w) X.A (setFlight ev none) (λ_ sj=>
   wpAny (model X.prog X.w) X.A (handleBy ev X.env (.ExceptHandler (some (.Name c np)) (some n) (ba::suite) hpos::rest)) (SP X pins D) X.xe sj) X.xe si) X.xe s':=by
 obtain⟨ea,C,a0,B,H',rfl,os,bare,un,hok,hne,fl,hB,ox,⟨dc,hdc,hox⟩,hE⟩:=h;have hA:X.A.frames=some (X.env::X.outer):=by rw[←hstk.1];exact I.ok.frames
 have fl0:=fl;rw[hstk.1]at fl;have hf1:∀b∈f9 X.stack,H' b=none:=λb hb=>by
  obtain⟨_,o,ho,_⟩:=I.stack.mem hb;exact un.free b o ho (I.stkFree b hb) (by simp)
 have hnew:s1.heap.get? ea=none:=by
  cases q:s1.heap.get? ea with
  |none=>rfl
  |some o=>
   by_cases hb:ea∈f9 X.stack
   .obtain⟨_,o',ho',hd⟩:=fl0.2.2.1.mem hb
    obtain⟨oe,vs,he,_,hd',_⟩:=fl0.first
    rw[ho']at he;cases he;exact absurd hd' (hd vs)
   .obtain⟨u,hu⟩:=hB ea hb (.inr ⟨o,q⟩)
    rw[fl.2.1]at hu;cases hu
 have inv:∀g,B.StaysIn g->s'.heap.UpToSlots g->Inv X pins σ H' { s' with heap:=g }:=λg k up=>
  I.call' (ch:=[]) os (Un.fly un fl0.1 fl0.2.2.1 hB k up) (gh.fly hok hf1 fl0.1 hB k) bare (λ_ z=>nomatch z)
 have invx:∀g,B.StaysIn g->s'.heap.UpToSlots g->wX ea C dc g->Inv X pins σ (upd H' ea (.ext (wX ea C dc))) { s' with heap:=g }:=λg k up p=>
  I.call' (ch:=[]) os (Un.ext (Un.fly un fl0.1 fl0.2.2.1 hB k up) hne hnew) (gh.ext (gh.fly hok hf1 fl0.1 hB k) hne p (let ⟨o,_,e,_⟩:=p;⟨o,e⟩) zt) bare (λ_ z=>nomatch z)
 refine uK hA hstk.2 fl hdc λh4 held4 up4 dc4=>?_;refine uL held4 dc4 λh5 fl5 up5 dc5=>?_;have I5:Inv (DL.hand X ea) pins σ H' { s' with heap:=h5 }:=Inv.hand (inv h5 fl5.1 (up4.trans up5));refine wpAny_handleBy_cons (codeAny_handlers_test ?_) (by intro q;cases q);refine gA I5 hg hm ?_ hdb;obtain⟨ob,hob,hoc⟩:=fl5.there;have LT:W.Looks (model X.prog X.w) h5 (typeOf (.ref ea)) (.ref C):=hoc▸(W.Looks.ld hob).andThen .now;refine(W.exm_one I5.kIn LT (hx C ox H' hE)).here ?_;refine codeAny_handlers_suite_as ?_;refine uN fl5 dc5 λh6 fl6 up6 dc6=>?_;obtain⟨oe,vs,he,hc,hd,_⟩:=fl6.first
 have I6:Inv (DL.hand X ea) pins σ (upd H' ea (.ext (wX ea C dc))) { s' with heap:=h6 }:=Inv.hand (invx h6 fl6.1 ((up4.trans up5).trans up6) ⟨oe,vs,he,hc,hd,(by obtain⟨o6,e6,d6,_⟩:=dc6;rw[he]at e6;cases e6;exact d6)⟩);refine iI (X:=DL.hand X ea) (v:=.ref ea) I6 hN hi (.inl hlo) rfl (λs7 I7=>?_) (.inr hlo);refine wpAny_mono (hs ea C dc ox H' s7 hE hox hne I7) (λf s8 h8=>?_) λ_ _ z=>z.elim;have hcls:(X.env.scope.kind==.class||(X.env.scope.kind==.module&&X.env.locals != X.env.globals))=false:=by rw[I.ok.kind];rfl
 have fin:∀{σ':L2.St}{H2:Hp}{Q:Unit->Shared->Prop},Inv (DL.hand X ea) pins σ' H2 s8->(∀s9,Inv X pins (σ'.set ni none) H2 s9->Q () s9) ->
   wpAny (model X.prog X.w) X.A (do bindName X.env n .none;unbindBehindTheSuite X.env n hpos) Q X.xe s8:=λ{σ' H2 Q} J q=>by
  have J':=fU I.ok J;obtain⟨m,hn,hl⟩:=id J'.loc;exact wpAny_nameGoes_keeps hlo hn hcls λh' v hn' hs'=>q _ (Cu J' hN hi hl hn' hs')
 cases f with|next=>obtain⟨σ',H2,J,q⟩:=h8;exact fin J λs9 J9=>⟨_,H2,J9,q⟩|brk=>obtain⟨σ',H2,J,q⟩:=h8;exact fin J λs9 J9=>⟨_,H2,J9,q⟩|cont=>obtain⟨σ',H2,J,q⟩:=h8;exact fin J λs9 J9=>⟨_,H2,J9,q⟩|ret u=>obtain⟨v,σ',H2,J,r,q⟩:=h8;exact fin J λs9 J9=>⟨v,_,H2,J9,r,q⟩
end
def PA.nox{X:Cx}{es:List Expr}{t:TA}(h:PA X.nox es t):PA X es t:=λpos pins s σ H Q I hw=>
 wpAny_mono (h pos pins s σ H Q (I.wish _) hw) (λ_ _ ⟨v,H',I',r,q⟩=>⟨v,H',I'.unwish,r,q⟩) λ_ _ z=>False.elim z
section
variable {X:Cx}{pins:List (Addr×Obj)}{σ:L2.St}{H:Hp}{s:Shared}{CX:q9}{k:Nat}{f:Addr}{fd:FuncData}{ps:List Str}{sp:Sp}{Ex:XK}{x:Str}{p pos:Pos}{e:Expr}{es:List Expr}{t:TA}
def yE{Q:VK}{XE:Value->Shared->Prop}(F:FnOk X.prog X.w X.K X.mg X.base CX k f fd ps sp)(hr:dI k X.A)(hg:Gl X x)(hm:X.mg x=some (.ref f))(hk:W.keepIn X.K (.ref f)=true)(hb:iu X.K fd ps [])(ha:PA X.nox (e::es) t)
  (I:Inv X pins σ H s)(h:t σ H λvs H1=>sp vs H1 Q Ex)(hx:∀H1 s1 e s',Inv X pins σ H1 s1->CX X.stack H1 s1 Ex e s'->XE e s')
  (hdb:(x==("__debug__":Str))=false:=by decide)(he:starEach (e::es) X.env=(false,eval e X.env)::starEach es X.env:=by exact aN rfl)(hpl:(backTo pos (starEach es X.env)).any (·.1)=false:=by exact bD rfl) :
  wpAny (model X.prog X.w) X.A (eval (.Call (.Name x p) (e::es) [] pos) X.env) (EP X pins σ Q) XE s:=by
 refine wpAny_Call_Name_kw (gA I hg hm ?_ hdb);have ha':PA (X.wish XE) (e::es) t:=PA.nox (X:=X.wish XE) ha;refine W.callWith_K (h₀:=X.base) I.ok.mod.kin hk (dy (ha' pos pins s σ H _ (I.wish XE) h) λus s1 z9=>?_) he hpl;obtain⟨vs,H1,I1,r,q⟩:=z9;refine⟨I1.unwish.kIn,?_⟩;have I1:=I1.unwish;have hl:us.length=ps.length:=by rw[←r.length];exact F.len _ _ _ _ q
 have hb1:=hb s1 us I1.kIn (by simpa using hl);rw[List.append_nil]at hb1;refine wpAny_call (codeAny_mono (F.run X.A X.stack s1 H1 ⟨us,[]⟩ us vs Q Ex hr I1.env0 hb1 r q) λr s' hq=>?_);cases r with
 |error e=>exact hx H1 s1 e s' I1 hq
 |ok fl=>
  cases fl with|ret u=>exact I1.after hq|next|brk|cont=>exact False.elim hq
end
def vt(K:W.Frag)(He H0e Ha:Hp)(r:au Fl)(D:gW):Prop:=match r with
 |.exn _=>True
 |r=>bZ K E0 He H0e Ha r D
def Lw(K:W.Frag)(He H0e Ha:Hp)(σ:L2.St)(ρ:Ev)(r:au Fl):XK:=λC ox H'=>∃x Ha',r=.exn x/\aE Ha Ha'/\eG K He H0e Ha' σ H' ρ/\vm K Ha' x C ox
structure TB (X:Cx) (st:Stmt) (g:bv):Prop where
 o:∀(pins:List (Addr×Obj)) (s:Shared) (σ:L2.St) (H He H0e Ha:Hp) (ρ:Ev) (D:gW) (XE:Value->Shared->Prop),Inv X pins σ H s->eG X.K He H0e Ha σ H ρ->vt X.K He H0e Ha (g ρ) D ->
  (∀H1 s1 e s',Inv X pins σ H1 s1->fj X.prog X.w X.stack H1 s1 (Lw X.K He H0e Ha σ ρ (g ρ)) e s'->XE e s')->wpAny (model X.prog X.w) X.A (exec st X.env) (SP X pins D) XE s
def tV(i:Nat)(fa:Ev->au (ac))(m:ac->au D):bv:=λρ=>match fa ρ with
 |.ok ds=>(m ds).bind λd=>.ok (.nx (ρ.set i (.sh d)))
 |_=>.stuck
section
variable {X:Cx}{E:XK}{e:Expr}{es:List Expr}{fa:Ev->au (ac)}{pos:Pos}
def Gx{i:Nat}{y:Str}{pos':Pos}{k n:Nat}{fn:Addr}{fd:FuncData}{ps:List Str}{m:ac->au D}{x:Str}{p cpos:Pos}(hN:X.N.Nodup)(hi:X.N[i]?=some y)(hy:zQ X.env.scope y)
  (F:FnOk X.prog X.w X.K X.mg X.base (fj X.prog X.w) k fn fd ps (spD X.K n m))(hr:dI k X.A)(hg:Gl X x)(hm:X.mg x=some (.ref fn))
  (hk:W.keepIn X.K (.ref fn)=true)(hb:iu X.K fd ps [])(ha:DA X.nox E0 (e::es) fa)(hn:(e::es).length=n:=by rfl)(hl:∀ρ ds,fa ρ=.ok ds->ds.length=(e::es).length)
  (hdb:(x==("__debug__":Str))=false:=by decide)(he:starEach (e::es) X.env=(false,eval e X.env)::starEach es X.env:=by exact aN rfl)(hpl:(backTo cpos (starEach es X.env)).any (·.1)=false:=by exact bD rfl)
  (hs:swapsWith (.Call (.Name x p) (e::es) [] cpos) (some (.Name y pos')) pos.line X.env=pure false:=by rfl)
  (hf:X.fn y=true∨X.env.scope.names.lookup y=some .local := by first|exact .inl rfl|exact .inr rfl|assumption):TB X (.Assign [.Name y pos'] (.Call (.Name x p) (e::es) [] cpos) pos) (tV i fa m):=by
 refine⟨λpins s σ H He H0e Ha ρ D XE I h q hx=>?_⟩;refine wpAny_Assign_Name (dy (yE (Q:=λv H1=>D.nx (σ.set i (some v)) H1) F hr hg hm hk hb ha.o I ?_ hx hdb he hpl) λv s1 ⟨y,H1,I1,r1,q1⟩=>?_) hs
 .refine⟨Ha,ρ,h.g.sub,h.rd,?_⟩
  unfold tV at q ⊢;cases e1:fa ρ with
  |stuck=>rw[e1]at q;exact q|exn x=>rw[e1]at q;exact q.elim
  |ok ds=>
   rw[e1]at q;intro vs H1 H01 g1 r1;refine⟨?_,H01,ds,g1.sub,r1,?_⟩
   .have:=r1.length
    have:=hl ρ ds e1;omega
   .show post _ _ _ _ (m ds) _
    cases e2:m ds with
    |stuck=>simp only[e2]at q;exact q
    |exn x=>exact λC ox H' Ha' g ex=>⟨x,Ha',by simp only[e2];rfl,g1.z.trans g.z,h.grow (g1.trans g),ex⟩
    |ok d=>
     simp only[e2]at q;exact λv H' Ha' g rp=>q _ H' Ha' (g1.z.trans g.z) ((h.grow (g1.trans g)).put rp)
 .exact iI I1 hN hi hy r1 (λs2 I2=>⟨_,H1,I2,q1⟩) hf
def eG.drop{K:W.Frag}{He H0e Ha H:Hp}{σ:L2.St}{ρ:Ev}(h:eG K He H0e Ha σ H ρ){i:Nat}:eG K He H0e Ha (σ.set i none) H (ρ.set i .no):=by
 have key:∀(j:Nat) (s:Sl),(ρ.set i .no)[j]?=some s->s≠.no->j≠i/\ρ[j]?=some s:=λj s e hs=>by
  by_cases hj:i=j
  .subst hj
   rw[List.getElem?_set_self']at e;cases q:ρ[i]? with|none=>rw[q]at e;cases e|some s'=>rw[q]at e;cases e;exact absurd rfl hs
  .rw[List.getElem?_set_ne hj]at e
   exact⟨λz=>hj z.symm,e⟩
 refine⟨h.g,λj d' e=>?_,λj d' e=>?_,λj k d1 d2 hn e1 e2=>?_,by simp[h.ln],h.ex.upd (λj s e=>?_) (aE.refl _) (λa vs _ e=>e) λp us _ h0 hp _=>⟨hp,h0⟩⟩
 rotate_left 3
 .by_cases hs:s=.no
  .exact .inr (.inr (.inl hs))
  .obtain⟨hj,e'⟩:=key j s e hs
   exact .inl ⟨e',by rw[List.getElem?_set_ne (Ne.symm hj)]⟩
 .obtain⟨hj,e'⟩:=key j _ e (by simp)
  obtain⟨v',h1,h2⟩:=h.rd j d' e';exact⟨v',by rw[List.getElem?_set_ne (Ne.symm hj)];exact h1,h2⟩
 .obtain⟨hj,e'⟩:=key j _ e (by simp)
  obtain⟨a,h1,h2⟩:=h.ow j d' e';exact⟨a,by rw[List.getElem?_set_ne (Ne.symm hj)];exact h1,h2⟩
 .obtain⟨hj,e1'⟩:=key j _ e1 (by simp)
  obtain⟨hk,e2'⟩:=key k _ e2 (by simp);rw[List.getElem?_set_ne (Ne.symm hj),List.getElem?_set_ne (Ne.symm hk)];exact h.ap j k d1 d2 hn e1' e2'
def y9(ni:Nat)(r:Fl):au Fl:=match r with
 |.nx ρ=>.ok (.nx (ρ.set ni .no))
 |.rt d=>.ok (.rt d)
 |.bk ρ=>.ok (.bk (ρ.set ni .no))
 |.ct ρ=>.ok (.ct (ρ.set ni .no))
def sL(x:CF):D:=match x.flds with
 |[]=>.exc x.cls
 |f::fs=>if((f::fs).map (·.1)).Nodup then .ob (.exf x.cls ((f::fs).map (·.1))) ((f::fs).map (·.2)) else .exc x.cls
theorem qu{β:Type}:∀{l:List (Str×β)}{f:Str}{d:β},(l.map (·.1)).Nodup->(f,d)∈l->l.lookup f=some d
 |(g,e)::l,f,d,nd,h=>by
  rw[List.map_cons,List.nodup_cons]at nd;rcases List.mem_cons.mp h with h|h
  .cases h;rw[List.lookup_cons,beq_self_eq_true]
  .have:f≠g:=λz=>nd.1 (z▸List.mem_map.mpr ⟨(f,d),h,rfl⟩)
   rw[List.lookup_cons,beq_eq_false_iff_ne.mpr this];exact qu nd.2 h
theorem uG{K:W.Frag}{H:Hp}{fs:List (Str×V)}:∀(l:List (Str×D)),(∀n d,(n,d)∈l->∃v,fs.lookup n=some v/\Rep K H d v)->∃vs,Reps K H (l.map (·.2)) vs/\l.length=vs.length/\∀(i:Nat) (f:Str) (v:V),(l.map (·.1))[i]?=some f->vs[i]?=some v->fs.lookup f=some v
 |[],_=>⟨[],Reps.nil_iff.mpr rfl,rfl,λi f v e=>by simp at e⟩
 |(n,d)::l,h=>by
  obtain⟨v,h1,h2⟩:=h n d List.mem_cons_self;obtain⟨vs,h3,h4,h5⟩:=uG l λn d hm=>h n d (List.mem_cons_of_mem _ hm);refine⟨v::vs,az.mpr ⟨v,vs,rfl,h2,h3⟩,by simp[h4],λi f w e1 e2=>?_⟩;cases i with|zero=>simp at e1 e2;rw[←e1,←e2];exact h1|succ i=>exact h5 i f w (by simpa using e1) (by simpa using e2)
def BA{K:W.Frag}{H:Hp}{x:CF}{C ea:Addr}{ox dc:Option Addr}(xc:XC K x.cls C)(ex:vm K H x (.ref C) ox)(hox:ox=none∨ox=dc)(hne:H ea=none):Rep K (upd H ea (.ext (wX ea C dc))) (sL x) (.ref ea):=by
 have plain:Rep K (upd H ea (.ext (wX ea C dc))) (.exc x.cls) (.ref ea):=ff.mpr ⟨ea,C,dc,rfl,xc,.inl aF⟩;have sm:aE H (upd H ea (.ext (wX ea C dc))):=λb o q=>by rw[aD (aY q hne)];exact q
 obtain⟨cls,flds⟩:=x;unfold sL;cases flds with
 |nil=>exact plain
 |cons f fs=>
  show Rep _ _ (if((f::fs).map (·.1)).Nodup then D.ob (.exf cls ((f::fs).map (·.1))) ((f::fs).map (·.2)) else .exc cls) _
  by_cases nd:((f::fs).map (·.1)).Nodup
  .rw[if_pos nd]
   obtain⟨_,hm⟩:=ex;cases ox with
   |none=>cases hm
   |some a=>
    obtain⟨gs,h1,h2⟩:=hm;have hdc:dc=some a:=by
     rcases hox with z|z
     .cases z
     .exact z.symm
    obtain⟨vs,k1,k2,k3⟩:=uG (K:=K) (H:=H) (fs:=gs) (f::fs) λn d hmm=>h2 n d (qu nd hmm);exact bX.mpr ⟨ea,vs,rfl,⟨C,a,gs,xc,hdc▸.inl aF,sm _ _ h1,by rw[List.length_map];exact k2,k3⟩,k1.mono sm⟩
  .rw[if_neg nd];exact plain
def yV(g:bv)(hit:Str->Bool)(ni:Nat)(sh:bv):bv:=λρ=>match g ρ with
 |.exn x=>if hit x.cls=true then(sh (ρ.set ni (.sh (sL x)))).bind (y9 ni) else .stuck
 |r=>r
def IE{He H0e:Hp}{st ba:Stmt}{suite:List Stmt}{g sh:bv}{hit:Str->Bool}{ni:Nat}{c n:Str}{np hpos:Pos}{cv:Value}(hstk:X.stack=X.env::X.outer/\X.env.frame=some X.env.locals)(hb:TB X st g)
  (hg:Gl X c)(hm:X.mg c=some cv)(hhit:∀x C,hit x=true->XC X.K x C->W.exmOne X.K (.ref C) cv=some true)(hN:X.N.Nodup)(hi:X.N[ni]?=some n)(hlo:X.env.scope.names.lookup n=some .local)
  (hh:∀ea,tq (DL.hand X ea) E He H0e (ba::suite) sh)(hdb:(c==("__debug__":Str))=false:=by decide) :
  DS X E He H0e (.Try [st] [.ExceptHandler (some (.Name c np)) (some n) (ba::suite) hpos] [] [] pos) (yV g hit ni sh):=by
 refine⟨?_⟩;intro pins s σ H D I ⟨Ha,ρ,h,q⟩;have hq:vt X.K He H0e Ha (g ρ) D:=by
  unfold yV at q;cases e1:g ρ with
  |exn x=>trivial|stuck=>rw[e1]at q;exact q
  |ok r=>rw[e1]at q;cases r<;>exact q
 refine wpAny_Try_except (wpAny_execs_cons (dy (hb.o pins s σ H He H0e Ha ρ D _ I h hq λH1 s1 e s' I1 hc=>?_) λf s1 hf=>?_))
 .have hit1:∀x,g ρ=.exn x->hit x.cls=true:=λx e1=>by
   unfold yV at q;rw[e1]at q
   by_cases z:hit x.cls=true
   .exact z
   .simp only[if_neg z]at q;exact q.elim
  refine IT hstk I1 hc hg hm (λC ox H' ⟨x,Ha',e1,_,_,⟨⟨c',ec,xc⟩,_⟩⟩=>?_) hN hi hlo (λea C dc ox H' s2 ⟨x,Ha',e1,sm,srx,⟨⟨c',ec,xc⟩,hm2⟩⟩ hox hne I2=>?_) hdb
  .cases ec;exact hhit _ _ (hit1 x e1) xc
  .cases ec
   refine(hh ea).o pins s2 _ _ _ I2 ⟨upd Ha' ea (.ext (wX ea C dc)),ρ.set ni (.sh (sL x)),(srx.grow (aO srx.g.sub hne)).put (BA xc ⟨⟨C,rfl,xc⟩,hm2⟩ hox (srx.g.sub.free hne)),?_⟩;have sm2:aE Ha (upd Ha' ea (.ext (wX ea C dc))):=sm.trans (aO srx.g.sub hne).z;unfold yV at q;rw[e1]at q;simp only[if_pos (hit1 x e1)]at q;cases e2:sh (ρ.set ni (.sh (sL x))) with
   |stuck|exn z=>rw[e2]at q;exact q
   |ok r=>
    rw[e2]at q;cases r with|nx ρ'=>exact λσ' H2 H02 s2 h2=>q _ H2 H02 (sm2.trans s2) (eG.drop h2)|rt d=>exact q|bk ρ'=>exact λσ' H2 H02 s2 h2=>q _ H2 H02 (sm2.trans s2) (eG.drop h2)|ct ρ'=>exact λσ' H2 H02 s2 h2=>q _ H2 H02 (sm2.trans s2) (eG.drop h2)
 .cases f with
  |next=>exact wpAny_execs_nil (wpAny_execs_nil hf)
  |brk=>exact hf
  |cont=>exact hf
  |ret u=>exact hf
end
structure Ga (k:Nat) (A:Around):Prop where
 dp:A.depth+3*k+5<recursionLimit
 un:A.units+16*k+200<cLine
def dI.h{k:Nat}{A:Around}(r:dI k A):Ga k A:=⟨r.dp,r.un⟩
structure ML (P:Program) (w:World) (K:W.Frag) (mg:Str->Option Value) (base:Heap) (k:Nat) (f:Addr) (fd:FuncData) (ps:List Str) (sp:Sp):Prop where
 len:∀vs H Q E,sp vs H Q E->vs.length=ps.length
 run:∀(A:Around) (outer:List PySem.Env) (s:Shared) (H:Hp) (args:Args) (us:List Value) (vs:al) (Q:VK) (E:XK),Ga k A->vh P w K mg base A outer s H->BindsTo s fd args (ps.zip us)->bu vs us->sp vs H Q E ->
  codeAny (model P w) A (.call (.ref f) args) (CR CX0 outer P w H s Q E) s
def ML.ok{P:Program}{w:World}{K:W.Frag}{mg:Str->Option Value}{base:Heap}{k:Nat}{f:Addr}{fd:FuncData}{ps:List Str}{sp:Sp}(F:ML P w K mg base k f fd ps sp):FnOk P w K mg base CX0 k f fd ps sp :=
 ⟨F.len,λA outer s H args us vs Q E hr=>F.run A outer s H args us vs Q E (dI.h hr)⟩
def fT(tab:Str->Option Bool)(x:D):au D:=match x with
 |.exc c=>(match tab c with
  |some b=>.ok (.bl b)
  |none=>.stuck)
 |.ob (.exf c _) _=>(match tab c with
  |some b=>.ok (.bl b)
  |none=>.stuck)
 |_=>.stuck
def lX(K:W.Frag)(tab:Str->Option Bool)(cv:Value):Prop:=∀c C b,tab c=some b->XC K c C->W.kitOne K (.ref C) cv=some b
def tf(K:W.Frag)(tab:Str->Option Bool)(cs:List Addr):Prop:=∀c C b,tab c=some b->XC K c C->W.kitAny K (.ref C) (cs.map Value.ref)=some b
section
variable {X:Cx}{E:XK}{e a:Expr}{es:List Expr}{f:am}{pos:Pos}{tab:Str->Option Bool}
def Ea{cV:V}{cv:Value}(hrel:∀u,bY cV u->u=cv)(ht:lX X.K tab cv):jG X (.builtin "isinstance") (λvs H Q=>∃c v b,vs=[v,cV]/\Rep X.K H (.exc c) v/\tab c=some b/\Q (.bl b) H):=by
 intro pins s σ H xs us Q I r h;obtain⟨c,v,b,rfl,h1,h2,q⟩:=h;cases r with
 |cons r1 r2=>
  cases r2 with
  |cons r3 r4=>
   cases r4;rename_i u1 u2;obtain rfl:=hrel _ r3;obtain⟨ad,C,dc,rfl,hc,hr⟩:=ff.mp h1;cases (show u1=Value.ref ad from r1);obtain⟨p,_,_⟩:=hr.ok I.hok;exact W.kia_one (lE hc.ek hc.ek.isCls) I.kIn p (ht c C b h2 hc) (λz=>nomatch z) λtk=>⟨.bl b,H,I.tok _,rfl,q⟩
def Bl{cV:V}{σ:L2.St}{H:Hp}{Q:VK}(h:tD X.K E (bf f (fT tab)) σ H Q):tD X.K E f σ H λv H1=>∃c v' b,[v,cV]=[v',cV]/\Rep X.K H1 (.exc c) v'/\tab c=some b/\Q (.bl b) H1:=by
 obtain⟨Ha,ρ,hs,hr,q⟩:=h;refine⟨Ha,ρ,hs,hr,?_⟩;unfold bf at q;cases e1:f ρ with
 |stuck|exn x=>rw[e1]at q;exact q
 |ok d=>
  rw[e1]at q;intro v H1 H01 g1 r1;have q:post X.K E H Ha (fT tab d) Q:=q;cases d with
  |exc c=>
   unfold fT at q;cases e2:tab c with|none=>simp only[e2]at q;exact q.elim|some b=>simp only[e2]at q;exact⟨c,v,b,rfl,r1.mono g1.sub,e2,q _ H1 H01 g1 (rb _)⟩
  |ob k ds=>
   cases k with
   |exf c ks=>
    replace r1:=r1.exf_exc;unfold fT at q;cases e2:tab c with|none=>simp only[e2]at q;exact q.elim|some b=>simp only[e2]at q;exact⟨c,v,b,rfl,r1.mono g1.sub,e2,q _ H1 H01 g1 (rb _)⟩
   |_=>exact q.elim
  |_=>exact q.elim
def B5{x:Str}{p1 p2:Pos}{cV:V}{cv:Value}(hrel:∀u,bY cV u->u=cv)(ht:lX X.K tab cv)(hc:PE X (.Name x p2) (tC cV))(hgi:Gl X "isinstance")(hmi:X.mg "isinstance"=none)(ha:DE X E a f)
  (he:starEach [a,.Name x p2] X.env=(false,eval a X.env)::starEach [.Name x p2] X.env:=by exact aN rfl)(he2:starEach [.Name x p2] X.env=(false,eval (.Name x p2) X.env)::starEach [] X.env:=by exact aN rfl)(hpl:(backTo pos (starEach [.Name x p2] X.env)).any (·.1)=false:=by exact bD rfl) :
  DE X E (.Call (.Name "isinstance" p1) [a,.Name x p2] [] pos) (bf f (fT tab)):=by
 refine⟨?_⟩;exact bp (lr (Ea hrel ht) hgi hmi PyProof.Rows.Boot.«isinstance» (dP ha.o (dP hc gi he2) he) (by decide) (by decide) he hpl) λσ H Q h=>Bl h
def qK{x:Str}{p1 p2:Pos}{C:Addr}(hg:Gl X x)(hm:X.mg x=some (.ref C))(ht:lX X.K tab (.ref C))(hgi:Gl X "isinstance")(hmi:X.mg "isinstance"=none)(ha:DE X E a f)(hdb:(x==("__debug__":Str))=false:=by decide)
  (he:starEach [a,.Name x p2] X.env=(false,eval a X.env)::starEach [.Name x p2] X.env:=by exact aN rfl):DE X E (.Call (.Name "isinstance" p1) [a,.Name x p2] [] pos) (bf f (fT tab)) :=
 B5 (cV:=.ref C) (λu h=>h) ht (lq hg hm rfl hdb) hgi hmi ha he
def zB{x:Str}{p1 p2:Pos}{T:String}(hg:Gl X x)(hm:X.mg x=none)(hv:bootBuiltins x=some (.type T))(ht:lX X.K tab (.type T))(hgi:Gl X "isinstance")(hmi:X.mg "isinstance"=none)(ha:DE X E a f)(hn:x≠"__name__":=by decide)(hdb:(x==("__debug__":Str))=false:=by decide)
  (he:starEach [a,.Name x p2] X.env=(false,eval a X.env)::starEach [.Name x p2] X.env:=by exact aN rfl):DE X E (.Call (.Name "isinstance" p1) [a,.Name x p2] [] pos) (bf f (fT tab)) :=
 B5 (cV:=.ty T) (λu h=>h) ht (xH hg hm hv rfl hn hdb) hgi hmi ha he
structure CN (X:Cx) (es:List Expr) (cs:List Addr):Prop where
 o:PA X es (λσ H Q=>Q (cs.map V.ref) H)
def IM:CN X [] []:=⟨gi⟩
def sW{x:Str}{p:Pos}{C:Addr}{cs:List Addr}(hg:Gl X x)(hm:X.mg x=some (.ref C))(h:CN X es cs)(hdb:(x==("__debug__":Str))=false:=by decide):CN X (.Name x p::es) (C::cs) :=
 ⟨dP (lq (v:=.ref C) hg hm rfl hdb) h.o (aN rfl)⟩
theorem p8:∀{cs:List Addr}{us:List Value},bu (cs.map V.ref) us->us=cs.map Value.ref
 |[],_,.nil=>rfl
 |c::cs,_,.cons r t=>by rw[p8 t];obtain rfl:_=Value.ref c:=r;rfl
def D9{cs:List Addr}(ht:tf X.K tab cs):jG X (.builtin "isinstance") (λvs H Q=>∃c v b p,vs=[v,.ref p]/\H p=some (.tup (cs.map V.ref))/\Rep X.K H (.exc c) v/\tab c=some b/\Q (.bl b) H):=by
 intro pins s σ H xs us Q I r h;obtain⟨c,v,b,p,rfl,hp,h1,h2,q⟩:=h;cases r with
 |cons r1 r2=>
  cases r2 with
  |cons r3 r4=>
   cases r4;rename_i u1 u2;obtain rfl:u2=Value.ref p:=r3;obtain⟨ad,C,dc,rfl,hc,hr⟩:=ff.mp h1;cases (show u1=Value.ref ad from r1);obtain⟨pe,_,_⟩:=hr.ok I.hok;obtain⟨_,its,rv,ob,k1,k2,n,k3⟩:=I.hok p _ hp;obtain rfl:=p8 rv;obtain⟨oc,od,odt,osl⟩:=ob;cases k2;cases k3;exact W.kia_tup (lE hc.ek hc.ek.isCls) I.kIn pe k1 (ht c C b h2 hc) (λz=>nomatch z) λtk=>⟨.bl b,H,I.tok _,rfl,q⟩
def Ff{p1 p2:Pos}{k2}{cs:List Addr}(ht:tf X.K tab cs)(hc:CN X es cs)(hl:cs.length<=30)(hgi:Gl X "isinstance")(hmi:X.mg "isinstance"=none)(ha:DE X E a f)
  (he:starEach [a,.Tuple es k2 p2] X.env=(false,eval a X.env)::starEach [.Tuple es k2 p2] X.env:=by exact aN rfl)(he2:starEach [.Tuple es k2 p2] X.env=(false,eval (.Tuple es k2 p2) X.env)::starEach [] X.env:=by exact aN rfl)(hpl:(backTo pos (starEach [.Tuple es k2 p2] X.env)).any (·.1)=false:=by exact bD rfl) :
  DE X E (.Call (.Name "isinstance" p1) [a,.Tuple es k2 p2] [] pos) (bf f (fT tab)):=by
 refine⟨?_⟩;refine bp (lr (D9 ht) hgi hmi PyProof.Rows.Boot.«isinstance» (dP ha.o (dP (AR hc.o) gi he2) he) (by decide) (by decide) he hpl) λσ H Q z9=>?_;obtain⟨Ha,ρ,hs,hr,q⟩:=z9;refine⟨Ha,ρ,hs,hr,?_⟩
 unfold bf at q;cases e1:f ρ with
 |stuck|exn x=>rw[e1]at q;exact q
 |ok d=>
  rw[e1]at q;intro v H1 H01 g1 r1;have q:post X.K E H Ha (fT tab d) Q:=q;cases d with
  |exc c=>
   unfold fT at q;cases e2:tab c with
   |none=>simp only[e2]at q;exact q.elim
   |some b=>
    simp only[e2]at q;refine⟨?_,λp hp=>?_⟩
    .rw[List.length_map];exact Nat.le_trans hl (by decide)
    .have ga:=aO (o:=.tup (cs.map V.ref)) g1.sub hp
     exact⟨c,v,b,p,rfl,aF,(r1.mono g1.sub).mono ga.s,e2,q _ _ _ (g1.trans ga) (rb _)⟩
  |ob k ds=>
   cases k with
   |exf c ks=>
    replace r1:=r1.exf_exc;unfold fT at q;cases e2:tab c with
    |none=>simp only[e2]at q;exact q.elim
    |some b=>
     simp only[e2]at q;refine⟨?_,λp hp=>?_⟩
     .rw[List.length_map];exact Nat.le_trans hl (by decide)
     .have ga:=aO (o:=.tup (cs.map V.ref)) g1.sub hp
      exact⟨c,v,b,p,rfl,aF,(r1.mono g1.sub).mono ga.s,e2,q _ _ _ (g1.trans ga) (rb _)⟩
   |_=>exact q.elim
  |_=>exact q.elim
end
end DL
namespace DL
open PySem PySem.Spec PyProof.Rows L2 PySem.W
structure gF (K:Frag) (x:Str) (C:Addr):Prop where
 ns:nsIn K mainGlobals x=some (some (.ref C))
 ty:typeIn K (.ref C)=some (.type "type")
 ob:mroIn K C (.type "object")=some true
 be:subIn K (.ref C) (.type "BaseException")=some true
def gF.isCls{K:Frag}{x:Str}{C:Addr}(Z:gF K x C):(clsIn K C).isSome=true:=by
 obtain⟨cd,a,b⟩:=Option.bind_eq_some_iff.mp Z.ob;rw[a];rfl
def gF.kitCls{K:Frag}{x:Str}{C:Addr}(Z:gF K x C){t:Value}:W.kitCls K t (.ref C)=subIn K t (.ref C):=by
 show(if((clsIn K C).isSome&&typeIn K (.ref C)==some (.type "type"))=true then subIn K t (.ref C) else none)=_;rw[Z.isCls,Z.ty];rfl
def gF.exm{K:Frag}{x:Str}{C:Addr}(Z:gF K x C){t:Value}{b:Bool}(h:subIn K t (.ref C)=some b):exmOne K t (.ref C)=some b:=by
 unfold exmOne;rw[Z.be,if_pos (by decide),Z.kitCls,h]
def gF.kit{K:Frag}{x:Str}{C R:Addr}(Z:gF K x C){b:Bool}(hR:subIn K (.ref R) (.ref R)=some true)(h:subIn K (.ref R) (.ref C)=some b):kitOne K (.ref R) (.ref C)=some b:=by
 unfold kitOne
 by_cases e:(Value.ref R==Value.ref C)=true
 .rw[if_pos e]
  cases (Value.ref.inj (beq_iff_eq.mp e));rw[←hR,h]
 .rw[if_neg e,Z.kitCls,h]
def v9{K:Frag}{C:Addr}{T:String}{b:Bool}(hm:kitMeta T=true)(h:subIn K (.ref C) (.type T)=some b):kitOne K (.ref C) (.type T)=some b:=by
 unfold kitOne;rw[if_neg (by intro z;cases beq_iff_eq.mp z)];show(if kitMeta T=true then subIn K (.ref C) (.type T) else none)=_;rw[if_pos hm,h]
def wb{K:Frag}{t:Value}:kitAny K t []=some false:=rfl
def Bj{K:Frag}{t c:Value}{r:List Value}{b:Bool}(h:kitOne K t c=some false)(h':kitAny K t r=some b):kitAny K t (c::r)=some b:=by unfold kitAny;rw[h];exact h'
def Bi{K:Frag}{t c:Value}{r:List Value}(h:kitOne K t c=some true):kitAny K t (c::r)=some true:=by unfold kitAny;rw[h]
def mK:∀T∈gp,kitMeta T=true:=by decide +kernel
def wa:kitMeta "ValueError"=true:=by decide +kernel
structure vc (K:Frag) (x:Str) (C:Addr):Prop where
 i:gF K x C
 cls:findIn K (.ref C) "__class__"=some (some (.builtin "object.__class__"))
 ga:findIn K (.ref C) "__getattribute__"=some (some (.builtin "BaseException.__getattribute__"))
 gt:findIn K (.ref C) "__getattr__"=some none
 t1:subIn K (.ref C) (.type "NoneType")=some false
 t2:subIn K (.ref C) (.type "bool")=some false
 t3:subIn K (.ref C) (.type "int")=some false
 t4:subIn K (.ref C) (.type "str")=some false
 t5:subIn K (.ref C) (.type "tuple")=some false
 t6:subIn K (.ref C) (.type "list")=some false
 t7:subIn K (.ref C) (.type "dict")=some false
 ve:subIn K (.ref C) (.type "ValueError")=some true
 self:subIn K (.ref C) (.ref C)=some true
 ex:excIn K C [.type "ValueError",.type "Exception",.type "BaseException",.type "object"] "ValueError.__new__"=true
def vc.xcls{K:Frag}{x:Str}{C:Addr}(Z:vc K x C):Cp K x C where
 xc:=⟨Z.i.ns,⟨Z.cls,Z.ga,Z.gt,Z.i.ob,Z.i.be⟩,λT hT=>by
  refine v9 (mK T hT) ?_;simp only[gp,List.mem_cons,List.not_mem_nil,or_false]at hT;rcases hT with rfl|rfl|rfl|rfl|rfl|rfl|rfl
  .exact Z.t1
  .exact Z.t2
  .exact Z.t3
  .exact Z.t4
  .exact Z.t5
  .exact Z.t6
  .exact Z.t7⟩
 ex:=Z.ex
def XC.inj{K:Frag}{x:Str}{C C':Addr}(a:XC K x C)(b:XC K x C'):C=C':=by
 have:=a.ns.symm.trans b.ns;simpa using this
def jK:List (Str×Bool)->Str->Option Bool
 |[],_=>none
 |(x,b)::r,c=>if x=c then some b else jK r c
theorem iH{K:Frag}{p:Str->Addr->Bool->Prop}:∀{l:List (Str×Bool)},(∀q∈l,∃C,XC K q.1 C/\p q.1 C q.2)->∀c C b,jK l c=some b->XC K c C->p c C b
 |[],_,c,C,b,h,_=>by cases h
 |(x,v)::r,H,c,C,b,h,xc=>by
  unfold jK at h
  by_cases e:x=c
  .subst e
   rw[if_pos rfl]at h;cases h;obtain⟨C',xc',q⟩:=H _ List.mem_cons_self;obtain rfl:=XC.inj xc xc';exact q
  .rw[if_neg e]at h
   exact iH (λq hq=>H q (List.mem_cons_of_mem _ hq)) c C b h xc
def j0(l:List (Str×Bool))(c:Str):Bool:=jK l c==some true
def Bp{K:Frag}{l:List (Str×Bool)}{cv:Value}(H:∀q∈l,∃C,XC K q.1 C/\exmOne K (.ref C) cv=some q.2):∀x C,j0 l x=true->XC K x C->exmOne K (.ref C) cv=some true:=λx C h xc=>
 iH (p:=λ_ C b=>exmOne K (.ref C) cv=some b) H x C true (by unfold j0 at h;exact beq_iff_eq.mp h) xc
end DL
namespace Com
open PySem L2 DL
section
variable {α β:Type}
def fG{x:CF}{f:α->au β}:(au.exn x:au α).bind f=.exn x:=aR rfl
end
def Ac(hit:Str->Bool)(ni:Nat)(sh:bv)(ρ:Ev)(r:au Fl):au Fl:=match r with
 |.exn x=>if hit x.cls=true then(sh (ρ.set ni (.sh (sL x)))).bind (y9 ni) else .stuck
 |r=>r
def wA{g:bv}{hit:Str->Bool}{ni:Nat}{sh:bv}{ρ:Ev}:yV g hit ni sh ρ=Ac hit ni sh ρ (g ρ):=aR rfl
def Eo{hit:Str->Bool}{ni:Nat}{sh:bv}{ρ:Ev}{r:Fl}:Ac hit ni sh ρ (.ok r)=.ok r:=aR rfl
def En{hit:Str->Bool}{ni:Nat}{sh:bv}{ρ:Ev}{c:Str}(h:hit c=true):Ac hit ni sh ρ (.exn ⟨c,[]⟩)=(sh (ρ.set ni (.sh (.exc c)))).bind (y9 ni):=if_pos h
def BH{ni:Nat}{ρ:Ev}:y9 ni (.nx ρ)=.ok (.nx (ρ.set ni .no)):=aR rfl
def FK(i:Nat)(m:ac->au D)(ρ:Ev)(r:au (ac)):au Fl:=match r with
 |.ok ds=>(m ds).bind (Dm i ρ)
 |_=>.stuck
def sO{i:Nat}{fa:Ev->au (ac)}{m:ac->au D}{ρ:Ev}:tV i fa m ρ=FK i m ρ (fa ρ):=aR rfl
def o4{i:Nat}{m:ac->au D}{ρ:Ev}{ds:ac}:FK i m ρ (.ok ds)=(m ds).bind (Dm i ρ):=aR rfl
def AH(x:Str)(ds:ac):au Fl:=if ds.length<=line then .exn ⟨x,[]⟩ else .stuck
def BF{x:Str}{fa:Ev->au (ac)}{ρ:Ev}:rE x fa ρ=(fa (gz ρ)).bind (AH x):=aR rfl
def zw{x:Str}{d:D}:AH x [d]=.exn ⟨x,[]⟩:=if_pos (show 1<=line by decide)
def sP{tab:Str->Option Bool}{c:Str}{b:Bool}(h:tab c=some b):fT tab (.exc c)=.ok (.bl b):=by unfold fT;simp only[h]
end Com
namespace DL
open PySem PySem.Spec PyProof.Rows L2
section
variable {X:Cx}{pins:List (Addr×Obj)}{σ:L2.St}{H:Hp}{s:Shared}{h':Heap}
def yL{t':Nat}{fp:List Addr}{T:Addr}{xs:al}(I:Inv X pins σ H s)(k:∀b o,b∉fp->s.heap.get? b=some o->h'.get? b=some o)(hf:∀b∈fp,mx X pins H b)(hT:s.heap.objs.size<=T)
  (new:cm X.prog X.w (upd H T (.tup xs)) h' T (.tup xs)):Inv X pins σ (upd H T (.tup xs)) { s with heap:=h',toks:=t' }:=by
 have hn:H T=none:=I.hok.fresh hT;have nit:∀b u,H b=some u->b∉fp:=λb u e z=>by rw[(hf b z).1]at e;cases e
 refine I.step (g':=s.gens) (d':=s.drawn) (ch:=fp) (λb hb=>?_) (λb o _ _ hc e _=>k b o hc e) (λb o _ _ hc e _=>⟨o.slots,k b o hc e⟩) (λb o _ e n=>?_)
  (λb o hc e=>⟨o,k b o hc e⟩) (λb xs e=>by rw[aD (aY e hn)];exact e) (λb o u e=>by rw[aD (aY e hn)];exact e) (λb ps e=>⟨#[],by rw[aD (aY e hn),e];simp⟩) (λm hm=>?_) (λb u e=>?_) I.bare
 .obtain⟨_,f1,_,f3,f4,f5⟩:=hf b hb
  exact⟨f3,f1,f4,f5⟩
 .rw[aD (Nat.ne_of_lt (Nat.lt_of_lt_of_le (Heap.lt_size e) hT))];exact n
 .obtain⟨o,es,ep,ho,r⟩:=hm
  exact⟨o,es,ep,k _ o (λz=>(hf _ z).2.1 rfl) ho,r⟩
 .by_cases hb:b=T
  .subst hb;rw[aF]at e;cases e;exact new
  .rw[aD hb]at e
   refine(I.hok b u e).stay (λc v hc q=>k c v ?_ q) (λc q=>by rw[aD (aY q hn)];exact q) λc xs q=>by rw[aD (aY q hn)];exact q
   rcases hc with z|z
   .rw[z];exact nit b u e
   .exact nit c _ z
def C2{t':Nat}{fp:List Addr}(I:Inv X pins σ H s)(k:∀b o,b∉fp->s.heap.get? b=some o->h'.get? b=some o)(hf:∀b∈fp,mx X pins H b):Inv X pins σ H { s with heap:=h',toks:=t' }:=by
 have nit:∀b u,H b=some u->b∉fp:=λb u e z=>by rw[(hf b z).1]at e;cases e
 refine I.step (g':=s.gens) (d':=s.drawn) (ch:=fp) (λb hb=>?_) (λb o _ _ hc e _=>k b o hc e) (λb o _ _ hc e _=>⟨o.slots,k b o hc e⟩) (λb o _ e n=>n)
  (λb o hc e=>⟨o,k b o hc e⟩) (λb xs e=>e) (λb o u e=>e) (λb ps e=>⟨#[],by rw[e];simp⟩) (λm hm=>?_) (λb u e=>?_) I.bare
 .obtain⟨_,f1,_,f3,f4,f5⟩:=hf b hb
  exact⟨f3,f1,f4,f5⟩
 .obtain⟨o,es,ep,ho,r⟩:=hm
  exact⟨o,es,ep,k _ o (λz=>(hf _ z).2.1 rfl) ho,r⟩
 .refine(I.hok b u e).stay (λc v hc q=>k c v ?_ q) (λ_ q=>q) λ_ _ q=>q
  rcases hc with z|z
  .rw[z];exact nit b u e
  .exact nit c _ z
end
def MJ(K:W.Frag)(a:Addr):It :=
 ⟨λi H=>∃xs x,fL K H a xs/\xs[i]?=some x,λi H x H'=>∃p y,H p=none/\x=.ref p/\(∀xs,fL K H a xs->xs[i]?=some y)/\H'=upd H p (.tup [.int i,y]),λi H=>∃xs,fL K H a xs/\xs.length<=i⟩
def yO{P:Program}{w:World}{K:W.Frag}{elts:List Expr}{k:Nat}{pos:Pos}(a it e:Addr)(hne:e≠it)(hae:a≠e)(hai:a≠it) :
  zK P w K (.Tuple elts k pos) (MJ K a) [e,it] e (λi h=>(∃old,IsEnum h e it i old)/\h.IsListIter it a i) where
 mem:=by simp
 obj:=λi h st b hb=>by
  obtain⟨⟨old,he⟩,o,h1,h2,h3⟩:=st;rcases List.mem_cons.mp hb with rfl|hb
  .exact⟨_,he,λv z=>by cases z⟩
  .rcases List.mem_cons.mp hb with rfl|hb
   .exact⟨o,h1,λv z=>by rw[h3]at z;cases z⟩
   .cases hb
 keep:=λi h h' st k=>by
  obtain⟨⟨old,he⟩,hi⟩:=st;exact⟨⟨old,k e (by simp) _ he⟩,hi.at λo y=>k it (by simp) o y⟩
 item:=by
  intro X hP hw hK hc i pins s σ H E I hf st hg;subst hP hw hK;obtain⟨xs,x,hq,hx⟩:=hg;obtain⟨its,rv,p,hz⟩:=I.list hq;obtain⟨u,hu,ru⟩:=rv.get hx;have W:=WalksT.enumerate (prog:=X.prog) (w:=X.w) (I.ok.hd hc) e it a hne hae hai its.toArray;have hil:i<its.toArray.size:=by simpa using (List.getElem?_eq_some_iff.mp hu).1
  refine W.item i s _ _ hil ⟨st.1,st.2,p.isList⟩ λT vals h' tk hPt hT hTup hMid hk=>?_;refine⟨_,rfl,W.go elts k pos i T _ _ _ hMid λh'' st'' hk''=>?_⟩;obtain⟨t,y,hy,rfl⟩:=hPt;have hyu:y=u:=by
   have:its[i]?=some y:=by simpa using hy
   rw[hu]at this;cases this;rfl
  subst hyu;obtain⟨o,ho,hr⟩:=hTup;have ho':=hk'' T o (W.apart i T _ hMid) ho;refine⟨.ref T,upd H T (.tup [.int i,x]),yL (s:=s) (h':=h'') (t':=tk) I (λb o hb e=>hk'' b o hb (hk b o hb e)) hf hT ⟨by show 2<=sizeLine;decide,[.int i t,y],.cons ⟨t,rfl⟩ (.cons ru .nil),o,ho',hr⟩,rfl,⟨T,x,I.hok.fresh hT,rfl,λys hy=>by rw[I.list_inj hy hq];exact hx,rfl⟩,⟨st''.1,st''.2.1⟩,λb hb=>?_⟩;have hb0:=(hf b hb).1;obtain⟨ob,hob,_⟩:∃o,s.heap.get? b=some o/\∀v,o.data≠.cell v:=by
   obtain⟨⟨old,he⟩,o,h1,h2,h3⟩:=st;rcases List.mem_cons.mp hb with rfl|hb
   .exact⟨_,he,λv z=>by cases z⟩
   .rcases List.mem_cons.mp hb with rfl|hb
    .exact⟨o,h1,λv z=>by rw[h3]at z;cases z⟩
    .cases hb
  rw[aD (Nat.ne_of_lt (Nat.lt_of_lt_of_le (Heap.lt_size hob) hT))];exact hb0
 done:=by
  intro X hP hw hK hc i pins s σ H E I hf st hg;subst hP hw hK;obtain⟨xs,hq,hx⟩:=hg;obtain⟨its,rv,p,hz⟩:=I.list hq;have hl:=rv.length;obtain⟨⟨old,he⟩,hi⟩:=st;exact wpAny_pyNext_enum_end (I.ok.hd hc) he hi p.isList (by simp;omega) λh' hx=>⟨rfl,C2 (t':=s.toks) I (λb o hb e=>hx b o (λz=>hb (by simp[z])) e) hf⟩
 self:=λ_ _ _ _ _ st h=>by
  obtain⟨⟨old,he⟩,_⟩:=st;exact wpAny_pyIter_enum he h
section
variable {X:Cx}{E:XK}{elts:List Expr}{k:Nat}{tp:Pos}{e a b:Expr}{f g:am}
def Ko(K:W.Frag)(ta:TA):TI:=λσ H R=>ta σ H λvs H1=>∃a,vs=[.ref a]/\(∃xs,fL K H1 a xs)/\R (MJ K a) H1
def Dx{ta:TA}{p pos:Pos}(hg:Gl X "enumerate")(hm:X.mg "enumerate"=none)(ha:PA X [a] ta)(hs:starEach [a] X.env=[(false,eval a X.env)]:=by rfl):PI X (.Tuple elts k tp) (.Call (.Name "enumerate" p) [a] [] pos) (Ko X.K ta):=by
 intro pins s σ H R I h;refine Call_ (oJ I hg hm PyProof.Rows.Boot.«enumerate» (PyProof.Rows.callWith_type1 (dy (ha pos pins s σ H _ I h) λus s1 z9=>?_) hs rfl));obtain⟨vs,H1,I1,r1,q1⟩:=z9;obtain⟨l,e,⟨xs,hq⟩,q⟩:=q1;subst e;cases r1 with
 |cons r rr=>
  cases rr;cases r;obtain⟨its,rv,p,hz⟩:=I1.list hq;have hlt:l<s1.heap.objs.size:=by obtain⟨o,n,e,_⟩:=p;exact Heap.lt_size e
  refine call_enumerate_list p.isList λh' he hi hsz hk=>?_;refine wpAny_pyIter_enum he ?_;refine⟨s1.heap.objs.size+1,[s1.heap.objs.size+1,s1.heap.objs.size],_,_,H1,rfl,I1.kept (t':=s1.toks) hk,yO l s1.heap.objs.size (s1.heap.objs.size+1) (Nat.succ_ne_self _) (Nat.ne_of_lt (Nat.lt_succ_of_lt hlt)) (Nat.ne_of_lt hlt),⟨⟨_,he⟩,hi⟩,λb hb=>?_,q⟩;have hb':s1.heap.objs.size<=b:=by
   rcases List.mem_cons.mp hb with rfl|hb
   .omega
   .rcases List.mem_cons.mp hb with rfl|hb
    .exact Nat.le_refl _
    .cases hb
  exact I1.fpOk hb' (I1.hok.fresh hb')
def numbered(n:Nat):ac->ac
 |[]=>[]
 |d::ds=>.tup [.int n,d]::numbered (n+1) ds
theorem fA:∀(ds:ac) (n:Nat),(numbered n ds).length=ds.length
 |[],_=>rfl
 |d::ds,n=>by simp[numbered,fA ds]
theorem je:∀(ds:ac) (n i:Nat),(numbered n ds)[i]?=(ds[i]?).map λd=>D.tup [.int (n+i:Nat),d]
 |[],_,_=>by simp[numbered]
 |d::ds,n,0=>by simp[numbered]
 |d::ds,n,i+1=>by simp only[numbered,List.getElem?_cons_succ];rw[je ds (n+1) i,show n+1+i=n+(i+1) by omega]
def vy(f:am):Ev->au (ac):=λρ=>(f ρ).bind λd=>match d with
 |.lst ds=>.ok (numbered 0 ds)
 |_=>.stuck
def C4{K:W.Frag}{H Ha:Hp}{p:Addr}{vs:al}{ds:ac}(hs:aE Ha H)(hp:H p=none)(r:Reps K Ha ds vs):∃H₀2,bH H Ha (upd H p (.tup vs)) H₀2/\Rep K H₀2 (.tup ds) (.ref p) :=
 ⟨upd Ha p (.tup vs),aO hs hp,aB.mpr ⟨p,vs,rfl,iZ.of aF,r.mono (aO (o:=.tup vs) hs hp).z⟩⟩
def yy{p pos:Pos}(hg:Gl X "enumerate")(hm:X.mg "enumerate"=none)(h:DE X E a f)(hn:Ke a=true:=by exact rfl):DI X E (.Tuple elts k tp) (.Call (.Name "enumerate" p) [a] [] pos) (vy f):=by
 refine⟨rQ (Dx hg hm (dP h.o gi (lh hn)) (lh hn)) λσ H R z9=>?_⟩;obtain⟨Ha,ρ,hs,hr,q⟩:=z9;refine⟨Ha,ρ,hs,hr,?_⟩;unfold vy at q;cases e1:f ρ with
 |stuck|exn x=>rw[e1]at q;exact q
 |ok d=>
  rw[e1]at q;intro v H1 H01 g1 r1;cases d with
  |lst ds=>
   obtain⟨l,vs,rfl,hv,hrv⟩:=aC.mp r1;refine⟨l,rfl,⟨vs,aE.sqL g1.sub hv⟩,q _ H1 H01 g1 ⟨λi H' Ha' s1 s2 hi=>?_,λi H' Ha' x H2 d s1 s2 hd hy=>?_,λi H' Ha' s1 s2 hi=>?_⟩⟩
   .rw[fA]at hi
    exact⟨vs,vs[i]'(by rw[←hrv.length];exact hi),aE.sqL (s1.trans s2) hv,by simp⟩
   .obtain⟨p,y,hp,rfl,hy,rfl⟩:=hy
    rw[je]at hd;cases ei:ds[i]? with
    |none=>rw[ei]at hd;cases hd
    |some d'=>
     rw[ei]at hd;cases hd;obtain⟨u,k1,k2⟩:=hrv.get ei;have:=hy vs (aE.sqL (s1.trans s2) hv);rw[k1]at this;cases this;exact C4 s2 hp (Reps.cons (aA.mpr (by simp)) (Reps.cons (k2.mono s1) Reps.nil))
   .rw[fA]at hi
    exact⟨vs,aE.sqL (s1.trans s2) hv,by rw[←hrv.length];exact hi⟩
  |_=>exact q.elim
end
def Mh(f:Str):List Str->ac->Option D
 |k::ks,d::ds=>if f=k then some d else Mh f ks ds
 |_,_=>none
section
variable {X:Cx}{E:XK}{e a b o:Expr}{es:List Expr}{fe fo:am}{fa:Ev->au (ac)}{pos:Pos}
def putAll:List Str->al->List (Str×V)->List (Str×V)
 |f::fs,v::vs,l=>putAll fs vs (jH f v l)
 |_,_,l=>l
theorem tY{f:Str}{v:V}:∀{l:List (Str×V)},f∉l.map (·.1)->jH f v l=l++[(f,v)]
 |[],_=>rfl
 |(k,x)::l,h=>by
  simp only[List.map_cons,List.mem_cons,not_or]at h;unfold jH;rw[if_neg (λz=>h.1 z.symm),tY h.2];rfl
theorem oa:∀{fs:List Str}{vs:al}{l:List (Str×V)},fs.Nodup->(∀f∈fs,f∉l.map (·.1))->fs.length=vs.length->putAll fs vs l=l++fs.zip vs
 |[],[],l,_,_,_=>by simp[putAll]
 |[],v::vs,l,_,_,h=>by simp at h
 |f::fs,[],l,_,_,h=>by simp at h
 |f::fs,v::vs,l,nd,hn,h=>by
  rw[List.nodup_cons]at nd;unfold putAll;rw[tY (hn f List.mem_cons_self),oa nd.2 (λg hg=>?_) (by simpa using h),List.zip_cons_cons,List.append_assoc]
  .rfl
  .simp only[List.map_append,List.map_cons,List.map_nil,List.mem_append,List.mem_singleton,not_or]
   exact⟨hn g (List.mem_cons_of_mem _ hg),λz=>nd.1 (z▸hg)⟩
def tL{H:Hp}{a:Addr}{o:HO}(h:H a=some o):upd H a o=H:=by
 funext b
 by_cases hb:b=a
 .subst hb;rw[aF,h]
 .rw[aD hb]
def lZ{H:Hp}{a:Addr}{o u:HO}:upd (upd H a o) a u=upd H a u:=by
 funext b
 by_cases hb:b=a
 .subst hb;rw[aF,aF]
 .rw[aD hb,aD hb,aD hb]
theorem tZ{f:Str}{v:V}:∀{l:List (Str×V)},(jH f v l).length<=l.length+1
 |[]=>by simp[jH]
 |(k,x)::l=>by
  unfold jH;split
  .simp
  .have:=tZ (f:=f) (v:=v) (l:=l)
   simp;omega
end
def noL_nil{K:W.Frag}{C:Addr}:∀f∈([]:List Str),k8 K C f:=λ_ h=>nomatch h
def noL_cons{K:W.Frag}{C:Addr}{f:Str}{ks:List Str}(h:W.findIn K (.ref C) f=some none)(r:∀f∈ks,k8 K C f):∀g∈f::ks,k8 K C g:=λg hg=>by
 rcases List.mem_cons.mp hg with rfl|hg
 .exact h
 .exact r g hg
section
variable {X:Cx}{E:XK}{He H0e:Hp}{e:Expr}{es:List Expr}{f:am}{fa:Ev->au (ac)}{pos:Pos}
def bH.keeps{H Ha H1 H01:Hp}(g:bH H Ha H1 H01){p:Addr}{o:HO}(h:H p=some o)(h0:Ha p=none):H01 p=none:=by
 cases q:H01 p with|none=>rfl|some u=>have:=g.nw p (by rw[q];simp) h0;rw[h]at this;cases this
end
end DL
namespace Com
open PySem L2 DL
def FY(tg:Ev->D->au Ev)(s:bv)(ρ:Ev)(ds:ac):au Fl:=dw tg s ds ρ
def FJ(d:D):au (ac):=match d with
 |.lst ds=>.ok (numbered 0 ds)
 |_=>.stuck
def FI(d:D):au (ac):=match d with
 |.lst ds=>.ok ds
 |_=>.stuck
def yB(n:Nat)(fr:cr)(tg:Ev->D->au Ev)(tt fe:am)(ρ:Ev)(ds:ac):au D:=if ds.length<=line then match cR (et n fr ρ) tg tt fe ds with
  |.ok es=>.ok (.lst es)
  |_=>.stuck
 else .stuck
def Bv(tg:Ev->D->au Ev)(s:bv)(ρ:Ev)(d:D):au Fl:=match d with
 |.int j=>if -4611686018427387904<=j/\j<4611686018427387904 then dw tg s (intsFrom 0 j.toNat) ρ else .stuck
 |_=>.stuck
section
variable {s t:bv}{f g h:am}{src:Ev->au (ac)}{fa:Ev->au (ac)}{ρ r:Ev}{i j n:Nat}{d x y:D}{ds es xs:ac}{a b:Int}{tg:Ev->D->au Ev}{tt fe:am}{fr:cr}
def E1:lj src tg s ρ=(src ρ).bind (FY tg s ρ):=aR rfl
def BK:FY tg s ρ ds=dw tg s ds ρ:=aR rfl
def Er:vy f ρ=(f ρ).bind FJ:=aR rfl
def BC:FJ (.lst ds)=.ok (numbered 0 ds):=aR rfl
def Ep:Dh f ρ=(f ρ).bind FI:=aR rfl
def BB:FI (.lst ds)=.ok ds:=aR rfl
def E4:iT n fr src tg tt fe ρ=(src ρ).bind (yB n fr tg tt fe ρ):=aR rfl
def yo{is:cr}(h:(ds.length==is.length)=true):nc is ρ (.tup ds)=.ok (bP ρ is ds):=by
 show(match (if ds.length=is.length then some ds else none) with|some ds=>au.ok (bP ρ is ds)|none=>.stuck)=_;rw[if_pos (eq_of_beq h)]
def nB:mD f tg s ρ=(f (gz ρ)).bind (Bv tg s ρ):=aR rfl
def lH{k:Nat}(h:k<=1000000):Bv tg s ρ (.int (k:Int))=dw tg s (intsFrom 0 k) ρ:=by
 unfold Bv;dsimp only;rw[if_pos ⟨by omega,by omega⟩,Int.toNat_natCast]
def ji{l h:Option Int}(c:(HT.sIx ds.length 0 l==0&&HT.sIx ds.length ds.length h==ds.length)=false):kO (.tup ds) l h=.ok (.tup (gk ds l h)):=by
 show(if _ then _ else _)=_;rw[if_neg (λz=>by rw[z.1,z.2]at c;simp at c)]
def yp{x:D}(h:decide (ds.length+es.length<=1000)=true):bC (.tup (x::ds)) (.tup es)=.ok (.tup (x::ds++es)):=by
 refine if_pos ⟨rfl,?_⟩;have:=of_decide_eq_true h;show ds.length+1+es.length<=line;have:(1001:Nat)<=line:=by decide
 omega
def KA:eC (.lst ds)=.ok (.lst ds):=aR rfl
def Cd{F:D->D}(hl:ds.length<=1000000)(h:∀d∈ds,∃ρ1,tg (et n fr ρ) d=.ok ρ1/\tt ρ1=.ok (.bl true)/\fe ρ1=.ok (F d)):yB n fr tg tt fe ρ ds=.ok (.lst (ds.map F)):=by
 unfold yB;rw[if_pos (show ds.length<=line from hl),qP h]
end
end Com
def Mu:=(cF (cF (cF @E1 (cF @BK @Er)) (cF @BC (cF @Ep @BB))) (cF (cF @E4 (cF @yo @nB)) (cF @ji (cF @yp @KA))))
local macro_rules|`(tactic|open_line with[$xs,*])=>`(tactic|simp only[Le,Mu,List.map_cons,List.map_nil,List.length_cons,List.length_nil,List.replicate_succ,List.replicate_zero,List.nil_append,List.cons_append,List.getElem?_cons_zero,List.getElem?_cons_succ,List.set_cons_zero,List.set_cons_succ,Nat.sub_zero,Nat.reduceSub,Nat.reduceAdd,Nat.add_zero,Nat.zero_add,Bool.not_true,Bool.not_false,decide_true,decide_false,Nat.reduceLeDiff,Nat.reduceBEq,Int.reduceBEq,beq_self_eq_true,DL.dOne,DL.mYes,Int.reduceLT,Int.reduceLE,Int.reduceSub,Int.reduceAdd,Int.reduceMul,Int.reduceNeg,Int.reduceToNat,Bool.and_self,$[$xs:term],*])
namespace Com
open PySem L2 DL
noncomputable def lV:bv :=
 (aw (bb 2 (dC (.str "abcdefghijklmnopqrstuvwxyz")))
 (aw (bb 3 (ar (ag (ah 0) (ag (ae (ae (ar (ag (dC (.int 8)) (ag (dC (.int 8)) (ag (dC (.int 12)) (ag (dC (.int 26)) (ag (dC (.int 2)) ay))))) cY) (AF (ar (ag (dC (.int 26)) ay) cY) (dC (.int 8))) bC) (AF (ar (ag (dC (.int 8)) ay) cY) (dC (.int 8))) bC) ay)) bO))
 (aw (bb 4 (ae (ar (ag (dC (.int 1)) (ag (dC (.int 3)) (ag (dC (.int 5)) (ag (dC (.int 7)) (ag (dC (.int 9)) (ag (dC (.int 11)) (ag (dC (.int 15)) (ag (dC (.int 17)) (ag (dC (.int 19)) (ag (dC (.int 21)) (ag (dC (.int 23)) (ag (dC (.int 25)) ay)))))))))))) cY) (ae (ah 3) (dC (.int 2)) aP) aP))
 (aw (bb 5 (yA (dC (.str "")) (ag (iT 1 [2] (Dh (dY (ah 3) (bN (dC (.int 5))) (bN (dC (.int 13))))) (j7 0) mYes (ae (ah 1) (ah 0) aP)) ay)))
 (aw (rG 6 (ar ay cY))
 (aw (mD (ah 1) (j7 7)
 (aw (bb 8 (ae (dC (.int 1)) (ae (ah 3) (dC (.int 0)) aP) bC))
 (aw (dJ (ae (ae (ah 3) (dC (.int 4)) aP) (dC (.int 1)) fM)
 (aw (bb 8 (ae (dC (.int 1)) (ae (ah 3) (ae (dC (.int 13)) (ah 7) bC) aP) bC))
 av)
 av)
 (aw (bb 9 (ae (ae (ah 3) (dC (.int 1)) aP) (ah 8) cp))
 (aw (bb 10 (ae (ah 2) (ae (ae (ae (ah 3) (dC (.int 3)) aP) (ae (ah 7) (ah 4) dm) bC) (dC (.int 26)) cp) aP))
 (aw (er 6 (ae (ae (dY (ah 5) cT (bN (ah 9))) (ah 10) bC) (dY (ah 5) (bN (ae (ah 9) (dC (.int 1)) bC)) (bN (ah 8))) bC))
 av))))))
 (aw (bG (ah 6))
 av)))))))
def dR:ac->au D:=cM 11 lV
noncomputable def eQ:bv :=
 (aw (yU [2,3,4] (ah 0))
 (aw (dJ (ae (ah 2) (dC (.int 3)) uW)
 (aw (bG (ar (ag (ae (ah 1) (ae (ah 3) (dC (.int 10)) cp) bC) (ag (dC (.int 1)) ay)) dZ))
 av)
 av)
 (aw (dJ (ae (ah 2) (dC (.int 7)) uW)
 (aw (bG (ar (ag (ae (ah 1) (ae (ah 3) (dC (.int 24)) cp) bC) (ag (ae (dC (.int 1)) (ae (ah 4) (dC (.int 6)) cp) bC) ay)) cU))
 av)
 av)
 (aw (bG (ar (ag (ae (ah 1) (ah 3) bC) (ag (ae (dC (.int 1)) (ah 4) bC) ay)) cU))
 av))))
def aV:ac->au D:=cM 5 eQ
def vX{a b:Int}(ha:0<=a)(hb:0<b):0<=(FU a b).1:=Int.ediv_nonneg ha (by omega)
def DV{a b:Int}(ha:0<a)(hb:0<b):0<(FU a b).1:=by
 have hg:0<(Int.gcd a b:Int):=sD (by omega);have hd:(Int.gcd a b:Int)∣a:=Int.gcd_dvd_left ..;exact Int.ediv_pos_of_pos_of_dvd ha (by omega) hd
def zp{a:Int}(h0:0<=a)(h1:a<(eI:Int)):gw (a,1):=⟨⟨by show(1:Int)<=1;decide,by show Int.gcd a 1=1;exact Int.gcd_one_right ..⟩,by show a.natAbs<eI;omega,by show(1:Int).natAbs<eI;decide⟩
def Kj{a:Int}(h0:0<=a)(h1:a<(eI:Int)):a.natAbs<Cz:=Nat.lt_of_lt_of_le (show a.natAbs<eI by omega) FE
def gb{w a b l:Int}(ha:0<=a/\a<(eI:Int)-1)(hb:0<=b/\b<(eI:Int)-1)(hl:0<=l/\l<=1):∃x:nj,aV [.lst [.int w,.int a,.int b],.int l]=.ok (fr x)/\gw x/\l<=x.1:=by
 have hN:(100:Int)<(eI:Int):=by decide
 have key:∀p q:Int,0<=p->p+l<(eI:Int)->1<=q->q<(eI:Int)->∃x:nj,cU [.int (l+p),.int q]=.ok (fr x)/\gw x/\l<=x.1:=λp q p0 p1 q0 q1=>by
  refine⟨FU (l+p) q,zg (by omega) (Kj (by omega) (by omega)) (Kj (by omega) (by omega)),Kk (by omega) (by omega) (by omega),?_⟩
  by_cases h:l+p=0
  .have:l=0:=by omega
   rw[this];exact vX (by omega) (by omega)
  .have:=DV (a:=l+p) (b:=q) (by omega) (by omega)
   omega
 by_cases h3:w<3
 .have x:=gq (a:=a) (b:=10) (by decide)
  refine⟨(l+a.fmod 10,1),?_,zp (by omega) (by omega),by show l<=l+a.fmod 10;omega⟩;open_line with[aV,eQ,decide_eq_true h3]
  rfl
 .by_cases h7:w<7
  .have x:=gq (a:=a) (b:=24) (by decide)
   have y:=gq (a:=b) (b:=6) (by decide);obtain⟨z,hz,r⟩:=key (a.fmod 24) (1+b.fmod 6) x.1 (by omega) (by omega) (by omega);refine⟨z,?_,r⟩;open_line with[aV,eQ,decide_eq_false h3,decide_eq_true h7,hz]
  .obtain⟨z,hz,r⟩:=key a (1+b) ha.1 (by omega) (by omega) (by omega)
   refine⟨z,?_,r⟩;open_line with[aV,eQ,decide_eq_false h3,decide_eq_false h7,hz]
def sG{i:Nat}{body:bv}(P:Nat->Ev->Prop){n:Nat}(h:∀k,k<n->∀ρ,P k ρ->∃ρ2,body (ρ.set i (.sh (.int (k:Int))))=.ok (.nx ρ2)/\P (k+1) ρ2){ρ:Ev}(h0:P 0 ρ):∃ρ',dw (j7 i) body (intsFrom 0 n) ρ=.ok (.nx ρ')/\P n ρ':=by
 have key:∀(m k:Nat) (ρ:Ev),k+m=n->P k ρ->∃ρ',dw (j7 i) body ((intsFrom 0 n).drop k) ρ=.ok (.nx ρ')/\P n ρ':=by
  intro m
  induction m with
  |zero=>
   intro k ρ hk hp;have:k=n:=by omega
   subst this;rw[uD];exact⟨ρ,rfl,hp⟩
  |succ m ih=>
   intro k ρ hk hp;obtain⟨ρ2,h1,h2⟩:=h k (by omega) ρ hp;rw[qA (by omega),nz (tg:=j7 i) rfl h1];exact ih (k+1) ρ2 (by omega) h2
 exact key n 0 ρ (by omega) h0
def yd{tg:Ev->D->au Ev}{body:bv}{ds:ac}(P:Nat->Ev->Prop)(h:∀k d,ds[k]?=some d->∀ρ,P k ρ->∃ρ1 ρ2,tg ρ d=.ok ρ1/\body ρ1=.ok (.nx ρ2)/\P (k+1) ρ2){ρ:Ev}(h0:P 0 ρ):∃ρ',dw tg body ds ρ=.ok (.nx ρ')/\P ds.length ρ':=by
 have key:∀(m k:Nat) (ρ:Ev),k+m=ds.length->P k ρ->∃ρ',dw tg body (ds.drop k) ρ=.ok (.nx ρ')/\P ds.length ρ':=by
  intro m
  induction m with
  |zero=>
   intro k ρ hk hp;have:k=ds.length:=by omega
   subst this;rw[List.drop_length];exact⟨ρ,rfl,hp⟩
  |succ m ih=>
   intro k ρ hk hp;have hlt:k<ds.length:=by omega
   obtain⟨ρ1,ρ2,h1,h2,h3⟩:=h k ds[k] (List.getElem?_eq_getElem hlt) ρ hp;rw[List.drop_eq_getElem_cons hlt,nz h1 h2];exact ih (k+1) ρ2 (by omega) h3
 exact key ds.length 0 ρ (by omega) h0
structure Drawn (sz vs:List Int):Prop where
 len:vs.length=sz.length
 bnd:∀(i:Nat) (v s:Int),vs[i]?=some v->sz[i]?=some s->0<=v/\v<s
def Drawn.at{sz vs:List Int}(W:Drawn sz vs)(i:Nat){s:Int}(h:sz[i]?=some s):∃v,vs[i]?=some v/\(0<=v/\v<s)/\aP (.lst (vs.map D.int)) (.int (i:Int))=.ok (.int v):=by
 have hi:i<vs.length:=by rw[W.len];exact(List.getElem?_eq_some_iff.mp h).1
 refine⟨vs[i],List.getElem?_eq_getElem hi,W.bnd i _ _ (List.getElem?_eq_getElem hi) h,kU ?_⟩;rw[List.getElem?_map,List.getElem?_eq_getElem hi];rfl
def Drawn.ix{sz vs:List Int}(W:Drawn sz vs)(k:Int)(i:Nat){s:Int}(hk:k=(i:Int))(h:sz[i]?=some s):∃v,vs[i]?=some v/\(0<=v/\v<s)/\aP (.lst (vs.map D.int)) (.int k)=.ok (.int v):=by
 subst hk;exact W.at i h
def lN(c:Int)(sz:List Int)(h:(sz.all λs=>decide (0<s)&&decide (s<=(eI:Int)))=true)(hn:sz.length<=1000):∃vs,bO [.int c,.lst (sz.map D.int)]=.ok (.lst (vs.map D.int))/\Drawn sz vs:=by
 obtain⟨vs,h1,h2,h3⟩:=BY c sz (JD h) hn;exact⟨vs,h3,h1,h2⟩
def Fy:("abcdefghijklmnopqrstuvwxyz":Str).cps.toList=(List.range 26).map (97 + ·):=by decide +kernel
def Cm:∀n,n<26->qB (97+n)=true:=by decide +kernel
def Ck{v:Int}(h0:0<=v)(h1:v<26):aP (.str "abcdefghijklmnopqrstuvwxyz") (.int v)=.ok (.str ⟨#[97+v.toNat]⟩):=by
 obtain⟨n,rfl⟩:=Int.eq_ofNat_of_zero_le h0;have hn:n<26:=by omega
 have e:atI ("abcdefghijklmnopqrstuvwxyz":Str).cps.toList ((n:Nat):Int)=some (97+n):=dD (by rw[Fy];simp[hn]);show(if("abcdefghijklmnopqrstuvwxyz":Str).length<=line then(match atI ("abcdefghijklmnopqrstuvwxyz":Str).cps.toList ((n:Nat):Int) with|some c=>au.ok (D.str ⟨#[c]⟩)|none=>.stuck) else .stuck)=_;rw[if_pos (by decide),e];rfl
theorem xZ:∀cs:cr,Str.join "" (cs.map λc=>(⟨#[c]⟩:Str))=⟨cs.toArray⟩
 |[]=>rfl
 |[c]=>rfl
 |c::d::cs=>by
  show(⟨#[c]⟩:Str)++""++Str.join "" ((d::cs).map λc=>(⟨#[c]⟩:Str))=_;rw[xZ (d::cs)];apply Str.ext';show(#[c]++("":Str).cps)++(d::cs).toArray=_;have:("":Str).cps=#[]:=rfl;rw[this];simp
theorem xq:∀cs:cr,iw (cs.map λc=>D.str ⟨#[c]⟩)=some (cs.map λc=>(⟨#[c]⟩:Str))
 |[]=>rfl
 |c::cs=>by
  show(iw (cs.map λc=>D.str ⟨#[c]⟩)).map _=_;rw[xq cs];rfl
def wc{cs:cr}(h:cs.length<=1000):oO "" [.lst (cs.map λc=>D.str ⟨#[c]⟩)]=.ok (.str ⟨cs.toArray⟩):=by
 have vj:ib "" (cs.map λc=>(⟨#[c]⟩:Str))=true:=by
  unfold ib;have e:((cs.map λc=>(⟨#[c]⟩:Str)).map (·.length)).sum=cs.length:=by
   clear h
   induction cs with
   |nil=>rfl
   |cons c cs ih=>
    simp only[List.map_cons,List.sum_cons,List.length_cons,ih];show 1+cs.length=_;omega
  rw[e,Bool.and_eq_true];exact⟨by decide,decide_eq_true (by rw[List.length_map];omega)⟩
 show(match iw (cs.map λc=>D.str ⟨#[c]⟩) with|some ys=>if ib "" ys=true then au.ok (D.str (Txt.join "" ys)) else .stuck|none=>.stuck)=_;rw[xq];show(if ib "" _=true then au.ok (D.str (Txt.join "" _)) else .stuck)=_;rw[if_pos vj];show au.ok (D.str (Builtin.Str.glued "" _))=_;rw[StrLaws.glued_eq_join,xZ]
def Ar{cs:cr}{a b:Nat}(hab:a<=b)(hb:b<=cs.length):Txt.slice ⟨cs.toArray⟩ (some (a:Int)) (some (b:Int))=⟨((cs.drop a).take (b-a)).toArray⟩ :=
 StrLaws.sliceText_nat ⟨cs.toArray⟩ hab (by show b<=cs.toArray.size;simpa using hb)
def Aq{cs:cr}{b:Nat}(hb:b<=cs.length):Txt.slice ⟨cs.toArray⟩ none (some (b:Int))=⟨(cs.take b).toArray⟩:=by
 have:=StrLaws.sliceText_to (x:=⟨cs.toArray⟩) (j:=(b:Int)) ⟨by omega,by simpa using hb⟩;refine Eq.trans this ?_;simp
def nu(vs:List Int)(k:Nat):Nat:=if vs[4]?=some 1 then 1+((vs[13+k]?).getD 0).toNat else 1+((vs[0]?).getD 0).toNat
def fZ(vs:List Int)(k:Nat):Nat:=((vs[1]?).getD 0).toNat % nu vs k
def xQ(vs:List Int)(by_:Int)(k:Nat):Nat:=(((vs[3]?).getD 0).toNat+k*by_.toNat) % 26
def vR(vs:List Int)(by_:Int)(B:cr)(k:Nat):cr:=B.take (fZ vs k)++(97+xQ vs by_ k)::(B.drop (fZ vs k+1)).take (nu vs k-(fZ vs k+1))
def oB:List Int:=[8,8,12,26,2,26,26,26,26,26,26,26,26,8,8,8,8,8,8,8,8]
def Kh:List Int:=[1,3,5,7,9,11,15,17,19,21,23,25]
def zf:∀b∈Kh,∀k,k<8->∀j,j<8->∀d,d<26->(d+k*b.toNat) % 26=(d+j*b.toNat) % 26->k=j:=by
 have key:∀b∈Kh,∀k,k<8->∀j,j<8->(k*b.toNat) % 26=(j*b.toNat) % 26->k=j:=by decide +kernel
 intro b hb k hk j hj d hd h;refine key b hb k hk j hj ?_;omega
structure gD (zs:List Str):Prop where
 nd:zs.Nodup
 nm:∀z∈zs,kK z=true
def rZ{vs:List Int}{by_:Int}{B:cr}{k:Nat}(hB:B.length=8)(hs:nu vs k<=8)(h1:1<=nu vs k):(vR vs by_ B k).length=nu vs k:=by
 have:fZ vs k<nu vs k:=Nat.mod_lt _ (by omega);unfold vR;simp only[List.length_append,List.length_take,List.length_cons,List.length_drop];omega
def A7{vs:List Int}{by_:Int}{B:cr}{k:Nat}(hB:B.length=8)(hs:nu vs k<=8)(h1:1<=nu vs k):(vR vs by_ B k)[fZ vs k]?=some (97+xQ vs by_ k):=by
 have:fZ vs k<nu vs k:=Nat.mod_lt _ (by omega);unfold vR;rw[List.getElem?_append_right (by simp;omega)];have e:fZ vs k-(B.take (fZ vs k)).length=0:=by simp;omega
 rw[e];rfl
def u6{x y:Str}(h:x.length+y.length<=1000):bC (.str x) (.str y)=.ok (.str (x++y)):=if_pos (Nat.le_trans h (by decide))
def qM(a b:cr):(⟨a.toArray⟩:Str)++⟨b.toArray⟩=⟨(a++b).toArray⟩:=by
 apply Str.ext';show a.toArray++b.toArray=_;simp
def kZ(a:cr):(⟨a.toArray⟩:Str).length=a.length:=by show a.toArray.size=_;simp
def xt{z:Str}{l h:Option Int}(hz:z.length<=1000):kO (.str z) l h=.ok (.str (Txt.slice z l h)):=by
 show(if z.length<=line then _ else _)=_;rw[if_pos (Nat.le_trans hz (by decide))]
set_option maxHeartbeats 1000000 in
def A8(c:Int)(n:Nat)(hn:n<=8):∃zs:List Str,dR [.int c,.int (n:Int)]=.ok (.lst (zs.map D.str))/\zs.length=n/\gD zs:=by
 obtain⟨vs,hd,W⟩:=lN c oB (by decide) (by decide);obtain⟨d0,g0,b0,i0⟩:=W.ix 0 0 rfl rfl;obtain⟨d1,g1,b1,i1⟩:=W.ix 1 1 rfl rfl;obtain⟨d2,g2,b2,i2⟩:=W.ix 2 2 rfl rfl;obtain⟨d3,g3,b3,i3⟩:=W.ix 3 3 rfl rfl;obtain⟨d4,g4,b4,i4⟩:=W.ix 4 4 rfl rfl;obtain⟨byD,hby1,hby2⟩:=Hy (ds:=Kh.map D.int) (k:=d2) b2.1 (by simpa[Kh] using b2.2);obtain⟨by_,hbm,rfl⟩:=List.mem_map.mp hby1;have hby0:0<=by_/\by_<=25:=by
  have:∀b∈Kh,0<=b/\b<=25:=by decide
  exact this by_ hbm
 have hlen:vs.length=21:=W.len;have hL:(vs.map D.int).length=21:=by rw[List.length_map,hlen]
 have hcut:gk (vs.map D.int) (some 5) (some 13)=((vs.drop 5).take 8).map D.int:=by
  rw[nE,hlen];rfl
 have hdig:∀v∈(vs.drop 5).take 8,0<=v/\v<26:=λv hv=>by
  obtain⟨j,hj2⟩:=List.mem_iff_getElem?.mp hv;have hj:j<8:=by
   have:=(List.getElem?_eq_some_iff.mp hj2).1;simp at this;omega
  rw[List.getElem?_take_of_lt hj,List.getElem?_drop]at hj2;have hs:oB[5+j]?=some 26:=by
   have:∀j,j<8->oB[5+j]?=some 26:=by decide
   exact this j hj
  exact W.bnd _ _ _ hj2 hs
 generalize hBd:((vs.drop 5).take 8).map (λv=>97+v.toNat)=B;have hB:B.length=8:=by rw[←hBd];simp;omega
 have hBin:∀x∈B,qB x=true:=λx hx=>by
  rw[←hBd]at hx;obtain⟨v,hv,rfl⟩:=List.mem_map.mp hx;have:=hdig v hv;exact Cm _ (by omega)
 have hcomp:yB 1 [2] (j7 0) mYes (ae (ah 1) (ah 0) aP) [.sh (.int c),.sh (.int (n:Int)),.sh (.str "abcdefghijklmnopqrstuvwxyz"),.sh (.lst (vs.map D.int)),.sh (.int by_),.no,.no,.no,.no,.no,.no] (((vs.drop 5).take 8).map D.int)=.ok (.lst (B.map λc=>D.str ⟨#[c]⟩)):=by
  rw[Cd (F:=λd=>match d with|.int v=>.str ⟨#[97+v.toNat]⟩|d=>d) (by simp;omega)]
  .rw[←hBd,List.map_map,List.map_map];rfl
  .intro d hd'
   obtain⟨v,hv,rfl⟩:=List.mem_map.mp hd';have hv2:=hdig v hv;exact⟨[.sh (.int v),.sh (.str "abcdefghijklmnopqrstuvwxyz")],rfl,rfl,Ck hv2.1 hv2.2⟩
 have hsz:∀k,k<n->1<=nu vs k/\nu vs k<=8:=λk hk=>by
  unfold nu;have h13:∀j,j<8->oB[13+j]?=some 8:=by decide
  obtain⟨e,ge,be,_⟩:=W.at (13+k) (h13 k (by omega));rw[ge,g0];simp only[Option.getD_some];split<;>omega
 obtain⟨ρ',hloop,a1,a2,a3,a4,hρ⟩:=sG (i:=7) (n:=n) (ρ:=[.sh (.int c),.sh (.int (n:Int)),.sh (.str "abcdefghijklmnopqrstuvwxyz"),.sh (.lst (vs.map D.int)),.sh (.int by_),.sh (.str ⟨B.toArray⟩),.ow (.lst []),.no,.no,.no,.no])
  (body:=(aw (bb 8 (ae (dC (.int 1)) (ae (ah 3) (dC (.int 0)) aP) bC))
   (aw (dJ (ae (ae (ah 3) (dC (.int 4)) aP) (dC (.int 1)) fM)
   (aw (bb 8 (ae (dC (.int 1)) (ae (ah 3) (ae (dC (.int 13)) (ah 7) bC) aP) bC))
   av)
   av)
   (aw (bb 9 (ae (ae (ah 3) (dC (.int 1)) aP) (ah 8) cp))
   (aw (bb 10 (ae (ah 2) (ae (ae (ae (ah 3) (dC (.int 3)) aP) (ae (ah 7) (ah 4) dm) bC) (dC (.int 26)) cp) aP))
   (aw (er 6 (ae (ae (dY (ah 5) cT (bN (ah 9))) (ah 10) bC) (dY (ah 5) (bN (ae (ah 9) (dC (.int 1)) bC)) (bN (ah 8))) bC))
   av))))))
  (λk ρ=>∃a1 a2 a3 a4,ρ=[.sh (.int c),.sh (.int (n:Int)),.sh (.str "abcdefghijklmnopqrstuvwxyz"),.sh (.lst (vs.map D.int)),.sh (.int by_),.sh (.str ⟨B.toArray⟩),.ow (.lst ((List.range k).map λj=>D.str ⟨(vR vs by_ B j).toArray⟩)),a1,a2,a3,a4])
  (by
   rintro k hk ρ ⟨a1,a2,a3,a4,rfl⟩;have h13:∀j,j<8->oB[13+j]?=some 8:=by decide
   obtain⟨e,ge,be,ie⟩:=W.at (13+k) (h13 k (by omega));have ie':aP (.lst (vs.map D.int)) (.int (13+(k:Int)))=.ok (.int e):=by
    have:(13+(k:Int))=((13+k:Nat):Int):=by omega
    rw[this];exact ie
   have hs:=hsz k hk;have hat:fZ vs k<nu vs k:=Nat.mod_lt _ (by omega);have hmul:ia (k:Int) by_=true:=fB (by omega) (by omega);have hsg:xQ vs by_ k<26:=Nat.mod_lt _ (by decide);have hsgI:(d3+(k:Int)*by_).fmod 26=(xQ vs by_ k:Int):=by
    unfold xQ;rw[g3,Option.getD_some,Int.fmod_eq_emod_of_nonneg _ (by decide)];obtain⟨x,rfl⟩:=Int.eq_ofNat_of_zero_le b3.1;obtain⟨y,rfl⟩:=Int.eq_ofNat_of_zero_le hby0.1;simp only[Int.toNat_natCast];omega
   have hsig:=Ck (v:=(xQ vs by_ k:Int)) (by omega) (by omega);rw[Int.toNat_natCast]at hsig;have hz0:((nu vs k:Int)==0)=false:=beq_eq_false_iff_ne.mpr (by omega);have hatI:d1.fmod (nu vs k:Int)=(fZ vs k:Int):=by
    unfold fZ;rw[g1,Option.getD_some,Int.fmod_eq_emod_of_nonneg _ (by omega)];obtain⟨x,rfl⟩:=Int.eq_ofNat_of_zero_le b1.1;simp only[Int.toNat_natCast];omega
   have s1:kO (.str ⟨B.toArray⟩) none (some (fZ vs k:Int))=.ok (.str ⟨(B.take (fZ vs k)).toArray⟩):=by
    rw[xt (by rw[kZ];omega),Aq (by omega)]
   have s2:kO (.str ⟨B.toArray⟩) (some ((fZ vs k:Int)+1)) (some (nu vs k:Int))=.ok (.str ⟨((B.drop (fZ vs k+1)).take (nu vs k-(fZ vs k+1))).toArray⟩):=by
    have:((fZ vs k:Int)+1)=((fZ vs k+1:Nat):Int):=by omega
    rw[xt (by rw[kZ];omega),this,Ar (by omega) (by omega)]
   have t1:bC (.str ⟨(B.take (fZ vs k)).toArray⟩) (.str ⟨#[97+xQ vs by_ k]⟩)=.ok (.str ⟨(B.take (fZ vs k)++[97+xQ vs by_ k]).toArray⟩):=by
    have e1:(⟨#[97+xQ vs by_ k]⟩:Str)=⟨([97+xQ vs by_ k]:cr).toArray⟩:=rfl;rw[e1,u6 (by rw[kZ,kZ];simp;omega),qM]
   have t2:bC (.str ⟨(B.take (fZ vs k)++[97+xQ vs by_ k]).toArray⟩) (.str ⟨((B.drop (fZ vs k+1)).take (nu vs k-(fZ vs k+1))).toArray⟩)=.ok (.str ⟨(vR vs by_ B k).toArray⟩):=by
    rw[u6 (by rw[kZ,kZ];simp;omega),qM];unfold vR;rw[List.append_assoc];rfl
   have happ:((List.range k).map λj=>D.str ⟨(vR vs by_ B j).toArray⟩)++[D.str ⟨(vR vs by_ B k).toArray⟩]=(List.range (k+1)).map λj=>D.str ⟨(vR vs by_ B j).toArray⟩:=by
    rw[List.range_succ,List.map_append];rfl
   have hlt:decide (((List.range k).map λj=>D.str ⟨(vR vs by_ B j).toArray⟩).length<=999)=true:=decide_eq_true (by simp;omega);cases h4:(d4==1) with
   |true=>
    have hz:1+e=(nu vs k:Int):=by unfold nu;rw[g4,eq_of_beq h4,if_pos rfl,ge];simp only[Option.getD_some];omega
    open_line with[i0,i1,i3,i4,h4,ie',hz,hz0,hatI,mi hmul,hsgI,hsig,s1,s2,t1,t2,kv hlt,happ]
    exact⟨_,rfl,_,_,_,_,rfl⟩
   |false=>
    have hz:1+d0=(nu vs k:Int):=by unfold nu;rw[g4,if_neg (by intro z;cases z;simp at h4),g0];simp only[Option.getD_some];omega
    open_line with[i0,i1,i3,i4,h4,hz,hz0,hatI,mi hmul,hsgI,hsig,s1,s2,t1,t2,kv hlt,happ]
    exact⟨_,rfl,_,_,_,_,rfl⟩)
  ⟨.no,.no,.no,.no,rfl⟩
 subst hρ;have hby3:aP (.lst [.int 1,.int 3,.int 5,.int 7,.int 9,.int 11,.int 15,.int 17,.int 19,.int 21,.int 23,.int 25]) (.int d2)=.ok (.int by_):=hby2;have hd':bO [.int c,.lst [D.int 8,D.int 8,D.int 12,D.int 26,D.int 2,D.int 26,D.int 26,D.int 26,D.int 26,D.int 26,D.int 26,D.int 26,D.int 26,D.int 8,D.int 8,D.int 8,D.int 8,D.int 8,D.int 8,D.int 8,D.int 8]]=.ok (.lst (vs.map D.int)):=hd;refine⟨(List.range n).map λj=>⟨(vR vs by_ B j).toArray⟩,?_,by simp,?_⟩
 .rw[dR,lV]
  open_line with[List.length_append,List.length_replicate]
  rw[hd'];open_line with[i2,hby3,hcut]
  rw[hcomp];open_line with[wc (show B.length<=1000 by omega),lH (show n<=1000000 by omega)]
  rw[hloop];open_line with[List.map_map]
  rfl
 .refine⟨?_,λz hz=>?_⟩
  .rw[List.nodup_iff_pairwise_ne,List.pairwise_map]
   refine List.Pairwise.imp_of_mem ?_ List.pairwise_lt_range;intro k j hk hj hlt heq;rw[List.mem_range]at hk hj;have hs:=hsz k hk;have hs':=hsz j hj;have e:vR vs by_ B k=vR vs by_ B j:=by
    have:=congrArg (λs:Str=>s.cps.toList) heq;simpa using this
   have el:nu vs k=nu vs j:=by rw[←rZ (by_:=by_) hB hs.2 hs.1,e,rZ hB hs'.2 hs'.1]
   have ea:fZ vs k=fZ vs j:=by unfold fZ;rw[el]
   have h1:=A7 (by_:=by_) hB hs.2 hs.1;have h2:=A7 (by_:=by_) hB hs'.2 hs'.1;rw[e,ea,h2]at h1;have h3:xQ vs by_ k=xQ vs by_ j:=by have:=Option.some.inj h1;omega
   unfold xQ at h3;have hd3:((vs[3]?).getD 0).toNat<26:=by rw[g3,Option.getD_some];omega
   have:=zf by_ hbm k (by omega) j (by omega) _ hd3 h3;omega
  .obtain⟨k,hk,rfl⟩:=List.mem_map.mp hz
   rw[List.mem_range]at hk;have hs:=hsz k hk;unfold kK;rw[kZ,rZ hB hs.2 hs.1];simp only[Bool.and_eq_true,decide_eq_true_eq];refine⟨hs.1,hs.2,List.all_eq_true.mpr λx hx=>?_⟩;simp only[vR,List.mem_append,List.mem_cons]at hx;rcases hx with hx|rfl|hx
   .exact hBin x (List.mem_of_mem_take hx)
   .exact Cm _ (Nat.mod_lt _ (by decide))
   .exact hBin x (List.mem_of_mem_drop (List.mem_of_mem_take hx))
structure ki where
 a:Str
 b:Str
 w:Str
 l:nj
 o:Option nj
def bw:Option nj->D
 |none=>.non
 |some x=>fr x
def aI(t:ki):D:=.tup [.str t.a,.str t.b,.str t.w,fr t.l,bw t.o]
structure gu (zs:List Str) (t:ki):Prop where
 a:t.a∈zs
 b:t.b∈zs
 ne:t.a≠t.b
 w:t.w="one"∨t.w="both"
 l:gw t.l
 l0:0<=t.l.1
 o:∀x,t.o=some x->gw x/\0<x.1
def kM{zs:List Str}{k:Int}(h0:0<=k)(h1:k<zs.length):∃z,zs[k.toNat]?=some z/\aP (.lst (zs.map D.str)) (.int k)=.ok (.str z):=by
 obtain⟨n,rfl⟩:=Int.eq_ofNat_of_zero_le h0;have hn:n<zs.length:=by omega
 refine⟨zs[n],by simp[hn],kU ?_⟩;rw[List.getElem?_map,List.getElem?_eq_getElem hn];rfl
def w8{k:Int}(h0:0<=k)(h1:k<2):∃z:Str,(z="one"∨z="both")/\aP (.lst [.str "one",.str "both"]) (.int k)=.ok (.str z):=by
 have:k=0∨k=1:=by omega
 rcases this with rfl|rfl
 .exact⟨_,.inl rfl,ym⟩
 .exact⟨_,.inr rfl,yl⟩
def qW{n d e:Int}(h2:2<=n)(d0:0<=d)(d1:d<n)(e0:0<=e)(e1:e<n-1):(0<=(d+1+e).fmod n/\(d+1+e).fmod n<n)/\(d+1+e).fmod n≠d:=by
 refine⟨gq (by omega),?_⟩;rw[Int.fmod_eq_emod_of_nonneg _ (by omega)]
 by_cases h:d+1+e<n
 .rw[Int.emod_eq_of_lt (by omega) h];omega
 .have:(d+1+e) % n=d+1+e-n:=by
   rw[←Int.sub_emod_right (d+1+e) n,Int.emod_eq_of_lt (by omega) (by omega)]
  rw[this];omega
def jV{α:Type}{zs:List α}(nd:zs.Nodup){i j:Nat}{x y:α}(hi:zs[i]?=some x)(hj:zs[j]?=some y)(hij:i≠j):x≠y:=by
 intro e;subst e;obtain⟨h1,e1⟩:=List.getElem?_eq_some_iff.mp hi;obtain⟨h2,e2⟩:=List.getElem?_eq_some_iff.mp hj;exact hij ((List.getElem_inj nd).mp (e1.trans e2.symm))
def ip:bv :=
 (aw (bG (ef (ar (ag (ah 0) ay) m_is_ratio) (ae (ae (ah 0) (dC (.int 0)) aP) (dC (.int 0)) F5)))
 av)
def m_is_length:ac->au D:=cM 1 ip
def gT:bv :=
 (aw (bG (fq (ae (ah 0) (dC (.non)) wK) (ef (ar (ag (ah 0) ay) m_is_ratio) (ae (ae (ah 0) (dC (.int 0)) aP) (dC (.int 0)) sV))))
 av)
def m_is_worth:ac->au D:=cM 1 gT
noncomputable def eP:bv :=
 (aw (dJ (fq (cC (bf (ah 0) (ez "tuple"))) (ae (ar (ag (ah 0) ay) (m1 dH)) (dC (.int 5)) kH))
 (aw (bG (dC (.bl false)))
 av)
 av)
 (aw (dJ (fq (cC (ar (ag (ae (ah 0) (dC (.int 0)) aP) ay) m_is_name)) (fq (cC (ar (ag (ae (ah 0) (dC (.int 1)) aP) ay) m_is_name)) (ae (ae (ah 0) (dC (.int 0)) aP) (ae (ah 0) (dC (.int 1)) aP) fM)))
 (aw (bG (dC (.bl false)))
 av)
 av)
 (aw (dJ (fq (cC (bf (ae (ah 0) (dC (.int 2)) aP) (ez "str"))) (ae (ae (ah 0) (dC (.int 2)) aP) (dC (.tup [(.str "one"),(.str "both")])) du))
 (aw (bG (dC (.bl false)))
 av)
 av)
 (aw (bG (ef (ar (ag (ae (ah 0) (dC (.int 3)) aP) ay) m_is_length) (ar (ag (ae (ah 0) (dC (.int 4)) aP) ay) m_is_worth)))
 av))))
def m_is_tie:ac->au D:=cM 1 eP
noncomputable def b_look_at_places:bv :=
 (aw (dJ (fq (cC (bf (ah 0) (ez "list"))) (cC (gQ IL IL (dC (.int 2)) (ar (ag (ah 0) ay) (m1 dH)) (dC (.int 7)))))
 (aw iy
 av)
 av)
 (aw (lj (vy (ah 0)) (nc [1,2])
 (aw (dJ (fq (cC (ar (ag (ah 2) ay) m_is_name)) (ae (ah 2) (dY (ah 0) cT (bN (ah 1))) B7))
 (aw iy
 av)
 av)
 av))
 av))
def m_look_at_places:ac->au D:=cM 3 b_look_at_places
noncomputable def b_look_at_ties:bv :=
 (aw (dJ (fq (cC (bf (ah 0) (ez "list"))) (ae (ar (ag (ah 0) ay) (m1 dH)) (dC (.int 14)) sV))
 (aw iy
 av)
 av)
 (aw (lj (vy (ah 0)) (nc [2,3])
 (aw (dJ (fq (cC (ar (ag (ah 3) ay) m_is_tie)) (fq (ae (ae (ah 3) (dC (.int 0)) aP) (ah 1) du) (ae (ae (ah 3) (dC (.int 1)) aP) (ah 1) du)))
 (aw iy
 av)
 av)
 av))
 av))
def m_look_at_ties:ac->au D:=cM 4 b_look_at_ties
def pE:bv :=
 (aw (bG (ef (ar (ag (ah 0) ay) m_is_name) (ae (ah 0) (ah 1) B7)))
 av)
def m_is_place:ac->au D:=cM 2 pE
noncomputable def b_look_at_web:bv :=
 (aw (dJ (fq (cC (bf (ah 0) (ez "tuple"))) (ae (ar (ag (ah 0) ay) (m1 dH)) (dC (.int 4)) kH))
 (aw iy
 av)
 av)
 (aw (ll (ar (ag (ae (ah 0) (dC (.int 0)) aP) ay) m_look_at_places))
 (aw (ll (ar (ag (ae (ah 0) (dC (.int 1)) aP) (ag (ae (ah 0) (dC (.int 0)) aP) ay)) m_look_at_ties))
 (aw (dJ (cC (ar (ag (ae (ah 0) (dC (.int 2)) aP) (ag (ae (ah 0) (dC (.int 0)) aP) ay)) m_is_place))
 (aw iy
 av)
 av)
 (aw (dJ (fq (cC (ar (ag (ae (ah 0) (dC (.int 3)) aP) (ag (ae (ah 0) (dC (.int 0)) aP) ay)) m_is_place)) (ae (ae (ah 0) (dC (.int 3)) aP) (ae (ah 0) (dC (.int 2)) aP) fM))
 (aw iy
 av)
 av)
 av)))))
def m_look_at_web:ac->au D:=cM 1 b_look_at_web
def eg:bv :=
 (aw (bG (ef (ar (ag (ah 1) ay) m_is_whole) (gQ IL uW (dC (.int 0)) (ah 1) (ar (ag (ae (ah 0) (dC (.int 1)) aP) ay) (m1 dH)))))
 av)
def m_is_tie_number:ac->au D:=cM 2 eg
structure eH where
 ps:List Str
 ts:List ki
 fi:Str
 la:Str
def bx(w:eH):D:=.tup [.lst (w.ps.map D.str),.lst (w.ts.map aI),.str w.fi,.str w.la]
structure cE (w:eH):Prop where
 n2:2<=w.ps.length
 n7:w.ps.length<=7
 nm:gD w.ps
 t14:w.ts.length<=14
 ts:∀t∈w.ts,gu w.ps t
 fi:w.fi∈w.ps
 la:w.la∈w.ps
 ne:w.fi≠w.la
def kn{z:Str}(h:kK z=true):m_is_name [.str z]=.ok (.bl true):=by
 have hl:z.length<=8:=by
  unfold kK at h;simp only[Bool.and_eq_true,decide_eq_true_eq]at h;exact h.2.1
 rw[cA (show vj (.str z)=true from decide_eq_true (Nat.le_trans hl (by decide)))];show au.ok (D.bl (kK z))=_;rw[h]
def nZ{x:nj}(h:Low x):m_is_ratio [fr x]=.ok (.bl true):=by
 rw[fE];show au.ok (D.bl (eA (.tup [.int x.1,.int x.2])))=_;have h1:=h.q1;have h2:=h.g1;show au.ok (D.bl (decide (1<=x.2)&&(Int.gcd x.1 x.2==1)))=_;rw[decide_eq_true h1,h2];rfl
def uv{x:nj}(h:Low x)(h0:0<=x.1):m_is_length [fr x]=.ok (.bl true):=by
 have e:fr x=.tup [.int x.1,.int x.2]:=rfl;have h1:=nZ h;rw[e]at h1 ⊢;open_line with[m_is_length,ip,h1,decide_eq_true h0,decide_eq_true (show x.1≥0 from h0)]
def vn{o:Option nj}(h:∀x,o=some x->Low x/\0<x.1):m_is_worth [bw o]=.ok (.bl true):=by
 cases o with
 |none=>rfl
 |some x=>
  obtain⟨hx,h0⟩:=h x rfl;have e:bw (some x)=.tup [.int x.1,.int x.2]:=rfl;have h1:=nZ hx;rw[show fr x=.tup [.int x.1,.int x.2] from rfl]at h1;rw[e];open_line with[m_is_worth,gT,h1,decide_eq_true h0]
def aZ{x y:Str}:fM (.str x) (.str y)=.ok (.bl (x==y)):=by unfold fM;rw[if_pos ⟨rfl,rfl⟩,dB]
def nO{zs:List Str}{t:ki}(nm:gD zs)(h:gu zs t):m_is_tie [aI t]=.ok (.bl true):=by
 obtain⟨a,b,w,l,o⟩:=t;obtain⟨ha,hb,hne,hw,hl,hl0,ho⟩:=h;have h1:=kn (nm.nm a ha);have h2:=kn (nm.nm b hb);have h3:=uv hl.toLow hl0;have h4:=vn (o:=o) λx hx=>⟨(ho x hx).1.toLow,(ho x hx).2⟩
 have h5:(a==b)=false:=beq_eq_false_iff_ne.mpr hne;have h6:du (.str w) (.tup [.str "one",.str "both"])=.ok (.bl false):=by
  rcases hw with rfl|rfl<;>rfl
 have e:aI ⟨a,b,w,l,o⟩=.tup [.str a,.str b,.str w,fr l,bw o]:=rfl;rw[e];open_line with[m_is_tie,eP,h1,h2,aZ,h5,h6,h3,h4]
def yF{zs:List Str}{z:Str}:(zs.map D.str).any (λd=>dB d (.str z))=decide (z∈zs):=by
 induction zs with
 |nil=>rfl
 |cons y zs ih=>
  rw[List.map_cons,List.any_cons,ih];show((y==z)||decide (z∈zs))=_
  by_cases h:y=z
  .subst h;simp
  .have:(y==z)=false:=beq_eq_false_iff_ne.mpr h
   rw[this,Bool.false_or];have:z∈y::zs↔z∈zs:=by simp[Ne.symm h]
   exact decide_eq_decide.mpr this.symm
def l6{n:Nat}{zs:List Str}:(zs.map D.str).all (bg n)=true:=List.all_eq_true.mpr λd hd=>by
 obtain⟨z,_,rfl⟩:=List.mem_map.mp hd;cases n<;>rfl
def x9{zs:List Str}{z:Str}:B7 (.str z) (.lst (zs.map D.str))=.ok (.bl (decide (z∈zs))):=by
 have e:Bm (.str z) (.lst (zs.map D.str))=some (decide (z∈zs)):=(if_pos ⟨rfl,l6⟩).trans (congrArg some yF);unfold B7;rw[e]
def cz{zs:List Str}{z:Str}:du (.str z) (.lst (zs.map D.str))=.ok (.bl (!(decide (z∈zs)))):=by
 have e:Bm (.str z) (.lst (zs.map D.str))=some (decide (z∈zs)):=(if_pos ⟨rfl,l6⟩).trans (congrArg some yF);unfold du;rw[e]
def oo{zs:List Str}{z:Str}(h:kK z=true)(hz:z∈zs):m_is_place [.str z,.lst (zs.map D.str)]=.ok (.bl true):=by
 open_line with[m_is_place,pE,kn h,x9,decide_eq_true hz]
def jd{α:Type}{F:α->D}{xs:List α}{k:Nat}{d:D}(h:(numbered 0 (xs.map F))[k]?=some d):∃x,xs[k]?=some x/\d=.tup [.int (k:Int),F x]:=by
 rw[je,List.getElem?_map]at h;cases e:xs[k]? with
 |none=>rw[e]at h;cases h
 |some x=>
  rw[e]at h;cases h;exact⟨x,rfl,by simp⟩
def wL{α:Type}{F:α->D}{xs:List α}{k:Nat}(h:k<=xs.length):gk (xs.map F) none (some (k:Int))=(xs.take k).map F:=by
 rw[nE,HT.sIx_none,HT.sIx_nat,Nat.min_eq_left h,List.drop_zero,Nat.sub_zero]
def qp{zs:List Str}(h2:2<=zs.length)(h7:zs.length<=7)(nm:gD zs):m_look_at_places [.lst (zs.map D.str)]=.ok .non:=by
 obtain⟨ρ',hl,_⟩:=yd (ds:=numbered 0 (zs.map D.str)) (tg:=nc [1,2]) (ρ:=[.sh (.lst (zs.map D.str)),.no,.no])
  (body:=(aw (dJ (fq (cC (ar (ag (ah 2) ay) m_is_name)) (ae (ah 2) (dY (ah 0) cT (bN (ah 1))) B7)) (aw iy av) av) av))
  (λk ρ=>∃a b,ρ=[.sh (.lst (zs.map D.str)),a,b]) (by
   rintro k d hd ρ ⟨a,b,rfl⟩;obtain⟨z,hz,rfl⟩:=jd hd;refine⟨_,[.sh (.lst (zs.map D.str)),.sh (.int (k:Int)),.sh (.str z)],yo rfl,?_,_,_,rfl⟩;have hk:k<zs.length:=(List.getElem?_eq_some_iff.mp hz).1;have hnot:decide (z∈zs.take k)=false:=decide_eq_false λhm=>by
    obtain⟨j,hj⟩:=List.mem_iff_getElem?.mp hm;have hjk:j<k:=by have:=(List.getElem?_eq_some_iff.mp hj).1;simp at this;omega
    rw[List.getElem?_take_of_lt hjk]at hj;exact jV nm.nd hj hz (by omega) rfl
   open_line with[kn (nm.nm z (List.mem_of_getElem? hz)),wL (Nat.le_of_lt hk),x9,hnot]) ⟨.no,.no,rfl⟩
 have e1:decide ((2:Int)<=(zs.length:Int))=true:=decide_eq_true (by omega);have e2:decide ((zs.length:Int)<=7)=true:=decide_eq_true (by omega);open_line with[m_look_at_places,b_look_at_places,List.length_map,e1,e2,hl]
def C6{zs:List Str}{ts:List ki}(h14:ts.length<=14)(nm:gD zs)(ht:∀t∈ts,gu zs t):m_look_at_ties [.lst (ts.map aI),.lst (zs.map D.str)]=.ok .non:=by
 obtain⟨ρ',hl,_⟩:=yd (ds:=numbered 0 (ts.map aI)) (tg:=nc [2,3]) (ρ:=[.sh (.lst (ts.map aI)),.sh (.lst (zs.map D.str)),.no,.no])
  (body:=(aw (dJ (fq (cC (ar (ag (ah 3) ay) m_is_tie)) (fq (ae (ae (ah 3) (dC (.int 0)) aP) (ah 1) du) (ae (ae (ah 3) (dC (.int 1)) aP) (ah 1) du))) (aw iy av) av) av))
  (λk ρ=>∃a b,ρ=[.sh (.lst (ts.map aI)),.sh (.lst (zs.map D.str)),a,b]) (by
   rintro k d hd ρ ⟨a,b,rfl⟩;obtain⟨t,ht',rfl⟩:=jd hd;refine⟨_,[.sh (.lst (ts.map aI)),.sh (.lst (zs.map D.str)),.sh (.int (k:Int)),.sh (aI t)],yo rfl,?_,_,_,rfl⟩;have hT:=ht t (List.mem_of_getElem? ht');have h1:=nO nm hT;rw[show aI t=.tup [.str t.a,.str t.b,.str t.w,fr t.l,bw t.o] from rfl]at h1 ⊢;open_line with[h1,cz,decide_eq_true hT.a,decide_eq_true hT.b]) ⟨.no,.no,rfl⟩
 have e1:decide ((14:Int)<(ts.length:Int))=false:=decide_eq_false (by omega);open_line with[m_look_at_ties,b_look_at_ties,List.length_map,e1,decide_eq_false (show ¬(ts.length:Int) > 14 by omega),hl]
def Gu{w:eH}(h:cE w):m_look_at_web [bx w]=.ok .non:=by
 obtain⟨ps,ts,fi,la⟩:=w;have h1:=qp h.n2 h.n7 h.nm;have h2:=C6 h.t14 h.nm h.ts;have h3:=oo (h.nm.nm fi h.fi) h.fi;have h4:=oo (h.nm.nm la h.la) h.la;have h5:(la==fi)=false:=beq_eq_false_iff_ne.mpr (Ne.symm h.ne);rw[show bx ⟨ps,ts,fi,la⟩=.tup [.lst (ps.map D.str),.lst (ts.map aI),.str fi,.str la] from rfl];open_line with[m_look_at_web,b_look_at_web,h1,h2,h3,h4,aZ,h5]
def rn{w:eH}{k:Nat}{t:ki}(h:w.ts[k]?=some t):aP (.lst (w.ts.map aI)) (.int (k:Int))=.ok (aI t):=kU (by rw[List.getElem?_map,h];rfl)
noncomputable def gU:bv :=
 (aw (dJ (ae (ah 1) (ar (ag (ah 0) ay) (m1 dH)) uW)
 (aw (bG (ae (ah 0) (ah 1) aP))
 av)
 av)
 (aw (bG (ae (ae (dC (.int 7919)) (ah 1) dm) (ae (dC (.int 31)) (ar (ag (ah 0) ay) (m1 dH)) dm) bC))
 av))
def ck:ac->au D:=cM 2 gU
def yD{ns:List Int}(hn:ns.length<=1000){k:Int}(h0:0<=k)(h1:k<=1000):∃c:Int,ck [.lst (ns.map D.int),.int k]=.ok (.int c):=by
 obtain⟨n,rfl⟩:=Int.eq_ofNat_of_zero_le h0
 by_cases h:n<ns.length
 .refine⟨ns[n],?_⟩
  have hix:aP (.lst (ns.map D.int)) (.int (n:Int))=.ok (.int ns[n]):=kU (by rw[List.getElem?_map,List.getElem?_eq_getElem h];rfl);open_line with[ck,gU,List.length_map,decide_eq_true (show(n:Int)<(ns.length:Int) by omega),hix]
 .refine⟨7919*(n:Int)+31*(ns.length:Int),?_⟩
  open_line with[ck,gU,List.length_map,decide_eq_false (show ¬(n:Int)<(ns.length:Int) by omega),mi (fB (i:=7919) (j:=(n:Int)) (by decide) (by omega)),mi (fB (i:=31) (j:=(ns.length:Int)) (by decide) (by omega))]
def Au{n:Nat}{t:ki}:bg (n+3) (aI t)=true:=by
 obtain⟨a,b,w,l,o⟩:=t;cases o<;>cases n<;>rfl
end Com
namespace DL
open PySem PySem.Spec PyProof.Rows L2
noncomputable def JZ(K:W.Frag) (E:XK) (He H0e Ha:Hp) (r:au Fl) (D:gW):Prop:=match r with
 |.ok (.rt (.lst es))=>∀p us H Ha',bH He H0e H Ha'->He p=none->Ha' p=none->H p=some (.lst us)->Reps K Ha' es us->D.rt (.ref p) H
 |.exn x=>∀C ox H Ha',bH He H0e H Ha'->vm K Ha' x C ox->E C ox H
 |_=>False
def MU(K:W.Frag)(E:XK)(He H0e:Hp)(g:bv):TS:=λD σ H=>∃Ha ρ,eG K He H0e Ha σ H ρ/\JZ K E He H0e Ha (g ρ) D
structure Cw (X:Cx) (E:XK) (He H0e:Hp) (st:List Stmt) (g:bv):Prop where
 o:nI X st (MU X.K E He H0e g)
section
variable {X:Cx}{E:XK}{He H0e:Hp}{st:Stmt}{rest:List Stmt}{e:Expr}{es:List Expr}{f:am}{fa:Ev->au (ac)}{s t:bv}{pos:Pos}
def Ay(t:bv)(r:Fl):au Fl:=match r with
 |.nx ρ=>t ρ
 |_=>.stuck
def mC(s t:bv):bv:=λρ=>(s ρ).bind (Ay t)
def qI(h1:DS X E He H0e st s)(h2:Cw X E He H0e rest t):Cw X E He H0e (st::rest) (mC s t):=by
 refine⟨?_⟩;refine dE (c8 h1.o h2.o) λD σ H z9=>?_;obtain⟨Ha,ρ,h,q⟩:=z9;refine⟨Ha,ρ,h,?_⟩
 unfold mC at q;cases e1:s ρ with
 |stuck|exn x=>rw[e1]at q;exact q
 |ok r=>
  rw[e1]at q;cases r with|nx ρ'=>exact λσ' H' Ha' s' h'=>⟨Ha',ρ',h',q⟩|rt d|bk ρ'|ct ρ'=>exact q.elim
def AE(s:Option Sl):au Fl:=match s with
 |some (.ow (.lst ds))=>.ok (.rt (.lst ds))
 |_=>.stuck
def nX(i:Nat):bv:=λρ=>AE ρ[i]?
def BV{i:Nat}{x:Str}{p1:Pos}(hN:X.N[i]?=some x)(hv:vd X.env.scope x)(hd:(x==("__debug__":Str))=false:=by decide)(hcd:(x==("__classdict__":Str))=false:=by decide) :
  Cw X E He H0e [.Return (some (.Name x p1)) pos] (nX i):=by
 refine⟨?_⟩;refine dE (c8 (vF (eR hN hv hd hcd)) nt) λD σ H ⟨Ha,ρ,h,q⟩=>?_;unfold nX at q;cases e1:ρ[i]? with
 |none=>rw[e1]at q;exact q.elim
 |some s=>
  rw[e1]at q;cases s with
  |ow d=>
   cases d with
   |lst ds=>
    obtain⟨p,h1,h2,h3,vs,h4,h5⟩:=h.ow i _ e1;exact⟨.ref p,h1,q p vs H Ha h.g h2 h3 h4 h5⟩
   |_=>exact q.elim
  |_=>exact q.elim
end
def AZ(r:Fl):au D:=match r with
 |.rt (.lst es)=>.ok (.lst es)
 |_=>.stuck
def tW(n:Nat)(s:bv)(ds:ac):au D:=(s (ds.map Sl.sh++List.replicate (n-ds.length) .no)).bind AZ
noncomputable def JY(K:W.Frag) (E:XK) (H Ha:Hp) (r:au D) (Q:VK):Prop:=match r with
 |.ok (.lst es)=>∀p us H' Ha',bH H Ha H' Ha'->H p=none->Ha' p=none->H' p=some (.lst us)->Reps K Ha' es us->Q (.ref p) H'
 |.exn x=>∀C ox H' Ha',bH H Ha H' Ha'->vm K Ha' x C ox->E C ox H'
 |_=>False
def JE(K:W.Frag)(n:Nat)(m:ac->au D):Sp:=λvs H Q E=>vs.length=n/\∃Ha ds,aE Ha H/\Reps K Ha ds vs/\JY K E H Ha (m ds) Q
def wu{P:Program}{w:World}{K:W.Frag}{mg:Str->Option Value}{base:Heap}{x qual:Str}{st:Stmt}{f:Addr}{fd:FuncData}{N ps:List Str}{k:Nat}{s:bv}(F:zR K x qual st f fd)(S:fX N ps (defScope st))
  (hbody:∀(cdv:Value) (A:Around) (outer:List PySem.Env) (s0:Shared) (H Ha:Hp) (E:XK),dI k (A.deeper (envOfC qual (defScope st) s0.heap.objs.size f cdv)) ->
   Cw (cL CX0 P w K mg base N qual (defScope st) f cdv A outer s0 H E).nox E H Ha (defBody st) s):FnOk P w K mg base CX0 (k+1) f fd ps (JE K ps.length (tW N.length s)):=by
 have hpl:ps.length<=N.length:=by have:=congrArg List.length S.pre;rw[List.length_take]at this;omega
 refine F.ok S (λvs H Q E h=>h.1) λcdv A outer s0 H vs Q E hr h=>?_;obtain⟨hn,Ha,ds,hs,hv,q⟩:=h;refine⟨_,(hbody cdv A outer s0 H Ha E hr).o,Ha,ds.map Sl.sh++List.replicate (N.length-ds.length) .no,?_,?_⟩
 .refine⟨bH.refl hs,jL hv,λi d e=>?_,λi j d d' hij e=>?_,?_,OX.none l5 kN⟩
  .by_cases hi:i<ds.length
   .rw[List.getElem?_append_left (by simpa using hi),List.getElem?_map]at e
    cases q:ds[i]? with|none|some d'=>rw[q]at e;cases e
   .rw[List.getElem?_append_right (by simpa using hi),List.getElem?_replicate]at e
    split at e<;>cases e
  .by_cases hi:i<ds.length
   .rw[List.getElem?_append_left (by simpa using hi),List.getElem?_map]at e
    cases q:ds[i]? with|none|some d'=>rw[q]at e;cases e
   .rw[List.getElem?_append_right (by simpa using hi),List.getElem?_replicate]at e
    split at e<;>cases e
  .unfold L2.start
   have:=hv.length;simp only[List.length_append,List.length_map,List.length_replicate];omega
 .unfold tW at q
  cases e1:s (ds.map Sl.sh++List.replicate (N.length-ds.length) .no) with
  |stuck|exn x=>rw[e1]at q;exact q
  |ok r=>
   rw[e1]at q;cases r with
   |rt d=>
    cases d with|lst es=>exact λp us H' Ha' g hp h0 hv' rr=>q p us H' Ha' g hp h0 hv' rr| _=>exact q.elim
   |_=>exact q.elim
section
variable {X:Cx}{E:XK}{He H0e:Hp}{e:Expr}{es:List Expr}{f:am}{fa:Ev->au (ac)}{pos:Pos}
def Fd{CX:q9}{k n:Nat}{fn:Addr}{fd:FuncData}{ps:List Str}{m:ac->au D}{x:Str}{p:Pos}(F:FnOk X.prog X.w X.K X.mg X.base CX k fn fd ps (JE X.K n m))(hr:dI k X.A)(hg:Gl X x)(hm:X.mg x=some (.ref fn))
  (hk:W.keepIn X.K (.ref fn)=true)(hb:iu X.K fd ps [])(hx:kj CX X E)(ha:DA X E (e::es) fa)(hn:(e::es).length=n:=by rfl)(hl:∀ρ ds,fa ρ=.ok ds->ds.length=(e::es).length)
  (hdb:(x==("__debug__":Str))=false:=by decide)(he:starEach (e::es) X.env=(false,eval e X.env)::starEach es X.env:=by exact aN rfl)(hpl:(backTo pos (starEach es X.env)).any (·.1)=false:=by exact bD rfl) :
  DF X E (.Call (.Name x p) (e::es) [] pos) (ar fa m):=by
 refine⟨?_⟩;refine bp (xG F hr hg hm hk hb .nil hx ha.o hdb he hpl) λσ H Q h=>?_;obtain⟨Ha,ρ,hs,hr,q⟩:=h;refine⟨Ha,ρ,hs,hr,?_⟩;unfold ar at q;cases e1:fa ρ with
 |stuck|exn x=>rw[e1]at q;exact q
 |ok ds=>
  rw[e1]at q;intro v H1 H01 g1 r1;refine⟨?_,H01,ds,g1.sub,by simpa using r1,?_⟩
  .have:=r1.length
   have:=hl ρ ds e1;simp only[List.append_nil];omega
  .replace q:match m ds with
    |.ok (.lst ds)=>∀p vs H' Ha',bH H Ha H' Ha'->H p=none->Ha' p=none->H' p=some (.lst vs)->Reps X.K Ha' ds vs->Q (.ref p) H'
    |.ok _=>False
    |.exn x=>∀C ox H' Ha',bH H Ha H' Ha'->vm X.K Ha' x C ox->E C ox H'
    |.stuck=>False:=q
   cases e2:m ds with
   |stuck=>rw[e2]at q;exact q|exn x=>rw[e2]at q;exact λC ox H' Ha' g ex=>q C ox H' Ha' (g1.trans g) ex
   |ok d=>
    rw[e2]at q;cases d with|lst es=>exact λp us H' Ha' g hp h0 hv rr=>q p us H' Ha' (g1.trans g) (g1.s.free hp) h0 hv rr| _=>exact q.elim
end
section
variable {X:Cx}{E:XK}{He H0e:Hp}{e a b:Expr}{es:List Expr}{f g:am}{fa:Ev->au (ac)}{pos:Pos}
def pW(x y:D):au D:=match x,y with
 |.lst ds,.lst es=>if ds.length+es.length<=line then .ok (.lst (ds++es)) else .stuck
 |_,_=>.stuck
def wJ(ha:DE X E a f)(hb:DE X E b g):DF X E (.BinOp a .Add b pos) (ae f g pW):=by
 refine⟨?_⟩;refine bp (AS xN ha.o hb.o) λσ H Q z9=>?_;obtain⟨Ha,ρ,hs,hr,q⟩:=z9;refine⟨Ha,ρ,hs,hr,?_⟩
 unfold ae at q;cases e1:f ρ with
 |stuck|exn x=>rw[e1]at q;exact q
 |ok x=>
  rw[e1]at q;intro v H1 H01 g1 r1;refine⟨H01,ρ,g1.sub,hr.mono g1.z,?_⟩;cases e2:g ρ with
  |stuck=>simp only[au.bind,e2]at q|exn y=>simp only[au.bind,e2]at q;exact λC ox H' Ha' g' ex=>q C ox H' Ha' (g1.trans g') ex
  |ok y=>
   simp only[au.bind,e2]at q;intro u H2 H02 g2 r2;cases x with
   |lst ds=>
    cases y with
    |lst es=>
     by_cases h:ds.length+es.length<=line
     .simp only[pW,if_pos h]at q
      obtain⟨l,vs,rfl,h1,h2⟩:=aC.mp (r1.mono g2.z);obtain⟨m,us,rfl,k1,k2⟩:=aC.mp r2;refine⟨l,m,vs,us,rfl,rfl,aE.sqL g2.sub h1,aE.sqL g2.sub k1,by rw[←h2.length,←k2.length];exact dS h,λp hp=>?_⟩;have sm:aE H2 (upd H2 p (.lst (vs++us))):=λb o eb=>by rw[aD (by intro z;subst z;rw[hp]at eb;cases eb)];exact eb
      refine q p (vs++us) _ H02 ⟨(g1.s.trans g2.s).trans sm,g1.z.trans g2.z,g2.sub.trans sm,(g1.trans g2).nw⟩ ((g1.s.trans g2.s).free hp) ?_ aF (h2.app k2);cases qq:H02 p with|none=>rfl|some o=>have:=g2.sub _ _ qq;rw[hp]at this;cases this
     .simp only[pW,if_neg h]at q
    |_=>simp only[pW]at q
   |_=>simp only[pW]at q
end
section
variable {prog:Program}{w:World}{A:Around}{E:Value->Shared->Prop}{h:Heap}{g:Array GenState}{d:Drawn}{t:Nat}{os:OsState}
variable {nm q:Str}{C N:Addr}{bs bm bmB:List Value}{hdct:Bool}{sn:List Str}{sub:List Value}{ab:Bool}{col:Option Bool}{dd:Option Addr}{k0 k1 k2 k3 k5:Option Value}{B newId initId:String}{mN:Str->Option Value}{rest:List Value}{fI:Addr}{oI:Obj}
def CO{Q:Fin->Shared->Prop}(F:ExcBaseFacts B newId initId bmB)(T:OwnTail h bmB bm)(hC:h.get? C=some (excClassObj nm q C N bs bm hdct sn sub ab col dd k0 k1 k2 k3 k5 newId))(hn:h.Ns N mN)(hi:mN "__init__"=some (.ref fI))(hfI:h.get? fI=some oI)(hfc:oI.cls=.type "function")(hrest:rest.length<=sizeLine)
  (hq:∀h' e,Heap.MadeExcOf h h' e (.ref C) rest->wpAny (model prog w) A (call (.ref fI) (.ref e::rest)) (λr s'=>r=.none/\Q (.done (.ret (.ref e))) s') E ⟨h',g,d,t,os⟩):wpAny (model prog w) A (Builtin.«type.__call__» ⟨.ref C::rest,[]⟩) Q E ⟨h,g,d,t,os⟩:=by
 repeat (first|with_reducible refine wpAny_loadPart_at hC ?_|with_reducible refine wpAny_madeBy_exc hC ?_|wp_step)
 refine codeAny_call_builtin_code (Code.quiet_builtin _ F.quiet) (wpAny_check_new_subT F T hC (codeAny_exc_new_subT F T hC ?_ hrest));generalize hT0:({ cls:=.type "tuple",data:=.seq rest.toArray }:Obj)=o0;generalize hX0:({ cls:=.ref C,data:=.fields #[.ref h.objs.size,.none,.none,.none,.bool false,.none] }:Obj)=o1;have kp:∀b o,h.get? b=some o->((h.push o0).push o1).get? b=some o:=λb o hb=>Heap.get?_push_of_some o1 (Heap.get?_push_of_some o0 hb);have hget:((h.push o0).push o1).get? (h.objs.size+1)=some o1:=by subst hX0 hT0;heap_get
 have hc1:o1.cls=.ref C:=by subst hX0;rfl
 have hcC:(Value.ref C::bm).contains (.ref C)=true:=by simp
 show wpAny _ _ _ _ _ _;unfold isInstance
 repeat (first|(with_reducible refine wpAny_loadPart_at hget ?_;try rw[hc1])|(with_reducible refine wpAny_isSubtype_exc (kp _ _ hC) ?_;rw[hcC])|wp_step)
 show wpAny _ _ (typeLookup (.ref C) _) _ _ _;refine wpAny_typeLookup_tail (kp _ _ hC) (hn.keeps kp) (T.keeps kp) F.mroIs F.init.lookup ?_;rw[hi];refine wpAny_holding (wpAny_bind (show wpAny _ _ (bindSpecial _ _) _ _ _ from ?_));unfold bindSpecial;refine wpAny_bind (wpAny_typeOf (T:="function") ⟨_,kp _ _ hfI,hfc⟩ ?_);rw[if_pos (by decide)];refine wpAny_pure (wpAny_bind (wpAny_mono (hq _ (h.objs.size+1) ⟨kp,Heap.get?_none_of_le (Nat.le_succ _),h.objs.size,by rw[hX0];exact hget,Heap.get?_none_of_le (Nat.le_refl _),?_⟩) (λr s' hr=>?_) λ_ _ x=>x))
 .subst hT0;exact Heap.get?_push_of_some _ (Heap.get?_push_at rfl rfl)
 .obtain⟨rfl,hQ⟩:=hr
  wp_walk
  exact hQ
def CS{Q:Value->Shared->Prop}(F:ExcBaseFacts B newId initId bmB)(T:OwnTail h bmB bm)(hC:h.get? C=some (excClassObj nm q C N bs bm hdct sn sub ab col dd k0 k1 k2 k3 k5 newId))(hn:h.Ns N mN)(hi:mN "__init__"=some (.ref fI))(hfI:h.get? fI=some oI)(hfc:oI.cls=.type "function")(hrest:rest.length<=sizeLine)
  (hq:∀h' e,Heap.MadeExcOf h h' e (.ref C) rest->wpAny (model prog w) (A.under (.builtin "type.__call__" ⟨.ref C::rest,[]⟩)) (call (.ref fI) (.ref e::rest)) (λr s'=>r=.none/\Q (.ref e) s') E ⟨h',g,d,t,os⟩):wpAny (model prog w) A (call (.ref C) rest) Q E ⟨h,g,d,t,os⟩:=by
 have f1:=tc_lookup;have f2:=tc_bind (.ref C);have hT:(⟨h,g,d,t,os⟩:Shared).TypeIs (.ref C) "type":=⟨_,hC,rfl⟩
 refine wpAny_call (codeAny_of_tree (show wpAny _ _ (callAny (.ref C) _) _ _ _ from ?_))
 repeat (any_goals (first|assumption|with_reducible refine wpAny_loadPart_at hC ?_|wp_step))
 exact⟨rfl,codeAny_call_builtin_at (Code.quiet_builtin _ (by decide +kernel)) entry_typeCall (wpAny_check_type_call_sub hC (CO F T hC hn hi hfI hfc hrest λh' e hm=>hq h' e hm))⟩
end
section
variable {M:Model}{A:Around}{E:Value->Shared->Prop}{env:PySem.Env}
variable {nm q:Str}{C N:Addr}{bs bm:List Value}{hdct:Bool}{sn:List Str}{sub:List Value}{ab:Bool}{col:Option Bool}{dd:Option Addr}{k0 k1 k2 k3 k5:Option Value}{newId:String}
def zV{s:Shared}{x:Sem Value}{Q:Flow->Shared->Prop}(hbase:bm.contains (.type "BaseException")=true)(hh:A.handled=none)
  (h:wpAny M A x (λv sg=>∃e dc t,v=.ref e/\sg.heap.get? C=some (excClassObj nm q C N bs bm hdct sn sub ab col dd k0 k1 k2 k3 k5 newId)/\sg.heap.get? e=some ⟨.ref C,dc,.fields #[.ref t,.none,.none,.none,.bool false,.none],#[]⟩/\E (.ref e) sg) E s):wpAny M A (raiseStmt env (some x) none) Q E s:=by
 have hcB:(Value.ref C::bm).contains (.type "BaseException")=true:=by rw[List.contains_cons,hbase,Bool.or_true]
 unfold raiseStmt;refine wpAny_bind (wpAny_mono h (λv sg ⟨e,dc,t,hv,hC,he,hE⟩=>?_) λ_ _ x=>x);subst hv;obtain⟨hp,g,d,tk,os⟩:=sg
 repeat (first|with_reducible refine wpAny_loadPart_at he ?_|with_reducible refine wpAny_loadPart_at hC ?_|(with_reducible refine wpAny_isSubtype_exc hC ?_;rw[hcB])|wp_step)
 exact wpAny_raiseNew_none hh hE
end
def jJ:List Value->Bool
 |.ref _::r=>jJ r
 |l=>l==[.type "ValueError",.type "Exception",.type "BaseException",.type "object"]
theorem qm(self:Value):∀{l:List Value},jJ l=true->refuseLoop self "__setattr__" l=pure ()
 |[],e=>by cases e
 |x::r,e=>by
  cases x with|ref c=>rw[refuseLoop_ref];exact qm self (l:=r) (by unfold jJ at e;exact e)| _=>unfold jJ at e;rw[beq_iff_eq.mp e];exact PySem.F.store_ValueError.passes self
theorem z8:∀{l:List Value},jJ l=true->l.contains (.type "object")=true
 |[],e=>by cases e
 |x::r,e=>by
  cases x with|ref c=>rw[List.contains_cons,z8 (l:=r) (by unfold jJ at e;exact e),Bool.or_true]| _=>unfold jJ at e;rw[beq_iff_eq.mp e];decide
structure Co (K:W.Frag) (C:Addr) (ks:List Str):Prop where
 sa:W.findIn K (.ref C) "__setattr__"=some (some (.builtin "object.__setattr__"))
 hd:W.hasDictIn K C=true
 mr:(W.clsIn K C).any (λcd=>jJ cd.mro)=true
 no:∀f∈ks,k8 K C f
section
variable {prog:Program}{w:World}{A:Around}{K:W.Frag}{C x:Addr}{s:Shared}{R:Result->Shared->Prop}
def w6{ox:Obj}{od:Option Obj}{name:Str}{tk:Tok}{v:Value}{ks:List Str}(X:K.In s.heap)(I:W.InstAt s.heap x ox C od)(c:Co K C ks)(hf:name∈ks)
  (h:∀b,wpAny (model prog w) A.in1 (Builtin.ObjectAttr.storeInOwnDict (.ref x) (.ref C) (.str name tk) name v b) (λfin s'=>match fin with|.done f=>R (.ok f) s'|.again c'=>c'.quiet=true/\codeAny (model prog w) A c' R s') (λe s'=>R (.error e) s') s) :
  codeAny (model prog w) A (.call (.builtin "object.__setattr__") ⟨[.ref x,.str name tk,v],[]⟩) R s:=by
 have SF:=PySem.F.store_object;obtain⟨cd,hc,ho⟩:=W.any_some c.mr;have ne:cd.mro.isEmpty=false:=by cases q:cd.mro with|nil=>rw[q]at ho;cases ho|cons _ _=>rfl
 have sub:W.Looks (model prog w) s.heap (isInstance (.ref x) (.type "object")) true:=I.type.andThen (W.looks_mroIn X (by unfold W.mroIn;rw[hc,Option.bind_some,if_neg (by rw[ne];decide),z8 ho]));refine codeAny_call_builtin SF.slot.plain SF.entry (@W.check_slot (model prog w) _ _ s "object.__setattr__" "object" "__setattr__" (.ref x) [.str name tk,v] [] _ SF.kind SF.split sub (SF.args (.ref x) (.str name tk) v) ?_);have hm:W.Looks (model prog w) s.heap (mroOf (.ref C)) cd.mro:=(W.looks_clsIn X hc).andThen .now;rw[W.osa_eq,refuse_eq];refine wpAny_bind (wpAny_bind (I.type.here (wpAny_bind (hm.here ?_))));rw[qm _ ho];refine wpAny_pure ?_;have L3:W.Looks (model prog w) s.heap (Builtin.ObjectAttr.storeTaker? none) none:=.now;have L2:W.Looks (model prog w) s.heap (typeLookup (.ref C) name) none:=W.looks_findIn X (c.no name hf);refine wpAny_bind (I.type.here (wpAny_bind (L2.here (wpAny_bind (L3.here ?_)))));exact h _
def CQ{E:Value->Shared->Prop}{Q:Unit->Shared->Prop}{name:Str}{v:Value}{ks:List Str}{fs:Array Value}(X:K.In s.heap)(hx:s.heap.get? x=some ⟨.ref C,none,.fields fs,#[]⟩)(c:Co K C ks)(hf:name∈ks)
  (h:∀h',h'.get? x=some ⟨.ref C,some s.heap.objs.size,.fields fs,#[]⟩->h'.Ns1 s.heap.objs.size (λy=>if y=name then some v else none)->(∀b o,b≠x->s.heap.get? b=some o->h'.get? b=some o)->Q () { s with heap:=h',toks:=s.toks+2 }) :
  wpAny (model prog w) A (setAttr (.ref x) name v) Q E s:=by
 have J:W.InstAt s.heap x ⟨.ref C,none,.fields fs,#[]⟩ C none:=⟨hx,rfl,rfl,trivial⟩
 refine W.set_plain X J c.sa (w6 (s:={ s with toks:=s.toks+1 }) X J c hf λb=>?_);obtain⟨cd,hc,hd'⟩:=W.any_some c.hd;refine wpAny_bind (wpAny_pure (wpAny_bind (wpAny_bind (wpAny_loadPart hx (wpAny_bind (W.Looks.here (s:={ s with toks:=s.toks+1 }) (W.looks_clsIn X hc) ?_))))));rw[hd'];have hx₁:(s.heap.push W.emptyDict).get? x=some ⟨.ref C,none,.fields fs,#[]⟩:=Heap.get?_push_of_some _ hx;have hxs:x≠s.heap.objs.size:=Nat.ne_of_lt (Heap.lt_size hx);have hgd:((s.heap.push W.emptyDict).update x λo=>{ o with dict:=some s.heap.objs.size }).get? s.heap.objs.size=some W.emptyDict:=(Heap.get?_update_ne _ _ _ _ hxs.symm).trans (Heap.get?_push_at rfl rfl);have hnd:((s.heap.push W.emptyDict).update x λo=>{ o with dict:=some s.heap.objs.size }).Ns s.heap.objs.size (λ_=>none):=⟨_,#[],_,hgd,rfl,λe he=>absurd he (by simp),λ_=>rfl⟩
 have hx2:((s.heap.push W.emptyDict).update x λo=>{ o with dict:=some s.heap.objs.size }).get? x=some ⟨.ref C,some s.heap.objs.size,.fields fs,#[]⟩:=Heap.get?_update_self _ hx₁ rfl;refine wpAny_bind (wpAny_alloc' (wpAny_bind (wpAny_update' hx₁ (wpAny_pure ?_))));refine wpAny_bind (wpAny_pure (wpAny_bind (wpAny_nsSet1 (Heap.Ns1.of_empty hnd) λh' hn' hs=>?_)));obtain⟨oD,esD,epD,hoD,hdD,hcD⟩:=hn'.count (PySem.Within.cons name v PySem.Within.nil);refine wpAny_bind (wpAny_lookBehind hoD (by rw[hdD];exact pastItsLine_dict (Nat.le_trans hcD (by rw[List.length_cons,List.length_nil,sizeLine_eq];omega))) (wpAny_pure (h h' ?_ hn' λb o hb e=>?_)))
 .exact(hs.2 x hxs).trans hx2
 .exact(hs.2 b (Nat.ne_of_lt (Heap.lt_size e))).trans ((Heap.get?_update_ne _ _ _ _ hb).trans (Heap.get?_push_of_some _ e))
def CP{E:Value->Shared->Prop}{Q:Unit->Shared->Prop}{name:Str}{v:Value}{ks ns:List Str}{fs:Array Value}{dx:Addr}{mA:Str->Option Value}(X:K.In s.heap)(hx:s.heap.get? x=some ⟨.ref C,some dx,.fields fs,#[]⟩)(hn:s.heap.Ns1 dx mA)(hne:dx≠x)(hw:PySem.Within mA ns)(hsz:ns.length<=sizeLine)(c:Co K C ks)(hf:name∈ks)
  (h:∀h',h'.Ns1 dx (λy=>if y=name then some v else mA y)->Heap.SameBut dx s.heap h'->Q () { s with heap:=h',toks:=s.toks+2 }):wpAny (model prog w) A (setAttr (.ref x) name v) Q E s:=by
 obtain⟨od,hod,hl⟩:=qv hn;have J:W.InstAt s.heap x ⟨.ref C,some dx,.fields fs,#[]⟩ C (some od):=⟨hx,rfl,rfl,hod⟩
 refine W.set_plain X J c.sa (w6 (s:={ s with toks:=s.toks+1 }) X J c hf λb=>?_);obtain⟨cd,hc,hd'⟩:=W.any_some c.hd;refine wpAny_bind (wpAny_pure (wpAny_bind (wpAny_bind (wpAny_loadPart hx (wpAny_bind (W.Looks.here (s:={ s with toks:=s.toks+1 }) (W.looks_clsIn X hc) ?_))))));rw[hd'];refine wpAny_pure (a:=some dx) (wpAny_bind (wpAny_pure (wpAny_bind (wpAny_nsSet1 (s:={ s with toks:=s.toks+1 }) hn λh' hn2 hs2=>?_))));obtain⟨oD,esD,epD,hoD,hdD,hcD⟩:=hn2.count (PySem.Within.cons name v hw);exact wpAny_bind (wpAny_lookBehind hoD (by rw[hdD];exact pastItsLine_dict (Nat.le_trans hcD (by rw[List.length_cons];omega))) (wpAny_pure (h _ hn2 hs2)))
end
def pL(a C:Addr)(dc:Option Addr)(h:Heap):Prop:=∃t,h.get? a=some ⟨.ref C,dc,.fields #[.ref t,.none,.none,.none,.bool false,.none],#[]⟩
def vk(a:Addr)(fs:List (Str×V))(h:Heap):Prop:=∃mA,h.Ns1 a mA/\(∀f,Cr (fs.lookup f) (mA f))/\PySem.Within mA (fs.map (·.1))
def oX{a C:Addr}{dc:Option Addr}:∀h1 h2:Heap,pL a C dc h1->(∀o,h1.get? a=some o->h2.get? a=some o)->pL a C dc h2:=λ_ _ ⟨t,e⟩ k=>⟨t,k _ e⟩
def tH{a:Addr}{fs:List (Str×V)}:∀h1 h2:Heap,vk a fs h1->(∀o,h1.get? a=some o->h2.get? a=some o)->vk a fs h2:=λ_ _ ⟨m,n,r⟩ k=>⟨m,n.at k,r⟩
def lY{a:Addr}{fs:List (Str×V)}{h:Heap}(x:vk a fs h):∃o,h.get? a=some o:=let ⟨_,⟨o,_,_,e,_⟩,_⟩:=x;⟨o,e⟩
def nk{a:Addr}{fs:List (Str×V)}{h:Heap}{mA:Str->Option Value}{f:Str}{y:V}{u:Value}(ry:bY y u)(r:∀f,Cr (fs.lookup f) (mA f))(wi:PySem.Within mA (fs.map (·.1)))(n:h.Ns1 a (λz=>if z=f then some u else mA z)):vk a (jH f y fs) h:=by
 refine⟨_,n,λg=>?_,λg hg=>?_⟩
 .rw[mH]
  by_cases q:g=f
  .rw[if_pos q];simp only[if_pos q];exact ry
  .rw[if_neg q];simp only[if_neg q];exact r g
 .by_cases q:g=f
  .rw[q];exact(ma f y fs).1
  .exact(ma f y fs).2 g (wi g λz=>hg (by simp only[if_neg q];exact z))
section
variable {X:Cx}{o value:Expr}{f:Str}{pos pos':Pos}{ta tv:TE}
noncomputable def M0(K:W.Frag) (ta tv:TE) (f:Str):TS:=λD σ H=>tv σ H λy H1=>ta σ H1 λx H2=>∃a C dx l ks,x=.ref a/\H2 a=some (.ext (pL a C (some dx)))/\H2 dx=some (.ext (vk dx l))/\dx≠a/\Co K C ks/\f∈ks/\l.length<1000/\D.nx σ (upd H2 dx (.ext (vk dx (jH f y l))))
def M1(K:W.Frag)(ta tv:TE)(f:Str):TS:=λD σ H=>tv σ H λy H1=>ta σ H1 λx H2=>∃a C ks,x=.ref a/\H2 a=some (.ext (pL a C none))/\Co K C ks/\f∈ks/\∀dx,H2 dx=none->D.nx σ (upd (upd H2 a (.ext (pL a C (some dx)))) dx (.ext (vk dx [(f,y)])))
def JW(ha:PE X o ta)(hv:PE X value tv)(hs:swapsWith value (some (.Attribute o f pos')) pos.line X.env=pure false):PS X (.Assign [.Attribute o f pos'] value pos) (M0 X.K ta tv f):=by
 intro pins s σ H D I h;refine plainObj_wpAny_Assign_Attribute (dy (hv pins s σ H _ I h) λu s1 ⟨y,H1,I1,ry,q⟩=>dy (ha pins s1 σ H1 _ I1 q) λov s2 z9=>?_) hs;obtain⟨x,H2,I2,rx,a,C,dx,l,ks,ex,ea,ed,hne,c,hf,hl,q2⟩:=z9;subst ex;obtain rfl:ov=Value.ref a:=rx;obtain⟨⟨t,hx⟩,_,_⟩:=(show cm X.prog X.w H2 s2.heap a (.ext _) from I2.hok a _ ea)
 obtain⟨⟨mA,n,r,wi⟩,_,_⟩:=(show cm X.prog X.w H2 s2.heap dx (.ext _) from I2.hok dx _ ed)
 refine CP I2.kIn hx n hne wi (by rw[List.length_map,sizeLine_eq];omega) c hf λh' n' sb=>⟨σ,_,I2.write (o:=.ext (vk dx (jH f y l))) (x:=dx) (e:=dx) (by rw[ed];exact True.intro) (.inl rfl) (λb q hb z=>(sb.2 b hb).trans z) (lY (nk ry r wi n')) ⟨nk ry r wi n',lY (nk ry r wi n'),tH⟩,q2⟩
def JX(ha:PE X o ta)(hv:PE X value tv)(hs:swapsWith value (some (.Attribute o f pos')) pos.line X.env=pure false):PS X (.Assign [.Attribute o f pos'] value pos) (M1 X.K ta tv f):=by
 intro pins s σ H D I h;refine plainObj_wpAny_Assign_Attribute (dy (hv pins s σ H _ I h) λu s1 ⟨y,H1,I1,ry,q⟩=>dy (ha pins s1 σ H1 _ I1 q) λov s2 z9=>?_) hs;obtain⟨x,H2,I2,rx,a,C,ks,ex,ea,c,hf,q2⟩:=z9;subst ex;obtain rfl:ov=Value.ref a:=rx;obtain⟨⟨t,hx⟩,_,_⟩:=(show cm X.prog X.w H2 s2.heap a (.ext _) from I2.hok a _ ea)
 have fr:H2 s2.heap.objs.size=none:=I2.hok.fresh (Nat.le_refl _);have hne:s2.heap.objs.size≠a:=λz=>Nat.lt_irrefl _ (z▸Heap.lt_size hx);refine CQ I2.kIn hx c hf λh' e' n' k'=>⟨σ,_,?_,q2 s2.heap.objs.size fr⟩
 have p:vk s2.heap.objs.size [(f,y)] h':=nk (fs:=[]) (mA:=λ_=>none) ry (λ_=>True.intro) (λ_ z=>absurd rfl z) n';have mu:Jl (H2 a):=by rw[ea];exact True.intro
 have fr':(upd H2 a (.ext (pL a C (some s2.heap.objs.size)))) s2.heap.objs.size=none:=by rw[aD hne];exact fr
 exact I2.un (Un.ext (Un.write mu (.inl rfl) (λb q hb z=>k' b q hb z) ⟨_,e'⟩) fr' (Heap.get?_none_of_le (Nat.le_refl _))) (gh.ext (I2.hok.write (o':=.ext (pL a C (some s2.heap.objs.size))) mu (.inl rfl) (λb q hb z=>k' b q hb z) ⟨_,e'⟩ ⟨⟨t,e'⟩,⟨_,e'⟩,oX⟩) fr' p (lY p) tH)
end
def Jv(is:cr):TA:=λσ H Q=>∃vs,is.map (λi=>σ[i]?)=vs.map (λv=>some (some v))/\Q vs H
structure PV (X:Cx) (es:List Expr) (is:cr):Prop where
 o:PA X es (Jv is)
section
variable {X:Cx}
def GV:PV X [] []:=⟨λpos pins s σ H Q I ⟨vs,e,h⟩=>by
 cases vs with
 |nil=>exact gi pos pins s σ H Q I h
 |cons v vs=>simp at e⟩
def rM{es:List Expr}{is:cr}{i:Nat}{y:Str}{p:Pos}(hN:X.N[i]?=some y)(hv:vd X.env.scope y)(h:PV X es is)(hd:(y==("__debug__":Str))=false:=by decide)(hcd:(y==("__classdict__":Str))=false:=by decide):PV X (.Name y p::es) (i::is) :=
 ⟨λpos pins s σ H Q I ⟨vs,e,q⟩=>by
  cases vs with
  |nil=>simp at e
  |cons v vs=>
   simp only[List.map_cons,List.cons.injEq]at e;exact dP (eR hN hv hd hcd) h.o (aN rfl) pos pins s σ H Q I ⟨v,e.1,vs,e.2,q⟩⟩
structure Cq (K:W.Frag) (CE:Addr):Prop where
 rd:W.readsIn K CE (.type "type")=true
 fc:W.findCls K (.ref CE) (.type "type") "__init__"=some (.val (.builtin "ValueError.__init__"))
 sp:W.specialIn K (.ref CE) "__getattribute__"=some (some (.builtin "type.__getattribute__"))
structure F9 (K:W.Frag) (C fn:Addr):Prop where
 ex:∃CE nm q N bs hdct sn sub ab col dd k0 k1 k2 k3 k5,K.lookup C=some (excClassObj nm q C N bs [.ref CE,.type "ValueError",.type "Exception",.type "BaseException",.type "object"] hdct sn sub ab col dd k0 k1 k2 k3 k5 "ValueError.__new__")/\W.nsOkIn K N=true/\W.nsIn K N "__init__"=some (some (.ref fn)) /\
  W.excIn K CE [.type "ValueError",.type "Exception",.type "BaseException",.type "object"] "ValueError.__new__"=true
def DQ{K:W.Frag}{h:Heap}{N:Addr}{mg:Str->Option Value}{n:Str}{v:Value}(X:K.In h)(G:h.Ns N mg)(e:W.nsIn K N n=some (some v)):mg n=some v:=by
 obtain⟨o,es,ep,ho,hd,_,hf⟩:=G;unfold W.nsIn at e;split at e
 .rename_i c d es' n' sl q
  have:=X _ _ q;rw[ho]at this;cases this;cases hd;split at e
  .rename_i en he
   rw[←hf];unfold nsFind findBy;rw[←Array.find?_toList,he];simpa using e
  .split at e<;>cases e
 .cases e
structure Mm (h:Heap) (C fn:Addr):Prop where
 ex:∃bm N nm q bs hdct sn sub ab col dd k0 k1 k2 k3 k5 mN,h.get? C=some (excClassObj nm q C N bs bm hdct sn sub ab col dd k0 k1 k2 k3 k5 "ValueError.__new__")/\h.Ns N mN/\mN "__init__"=some (.ref fn)/\OwnTail h [.type "ValueError",.type "Exception",.type "BaseException",.type "object"] bm
def Ah{K:W.Frag}{CE:Addr}{h:Heap}(X:K.In h)(q:W.excIn K CE [.type "ValueError",.type "Exception",.type "BaseException",.type "object"] "ValueError.__new__"=true):OwnTail h [.type "ValueError",.type "Exception",.type "BaseException",.type "object"] [.ref CE,.type "ValueError",.type "Exception",.type "BaseException",.type "object"]:=by
 unfold W.excIn at q;split at q
 .rename_i dd cd sl ho
  split at q
  .simp only[Bool.and_eq_true,beq_iff_eq,Bool.not_eq_true']at q
   obtain⟨⟨⟨⟨_,_⟩,_⟩,hok⟩,hni⟩:=q;exact .own (X _ _ ho) (.of_isNs (W.isNs_of_in X hok)) (W.nsMap_none_of_in X hok hni) .base
  .cases q
 .cases q
def w4{K:W.Frag}{C fn:Addr}{h:Heap}(X:K.In h)(q:F9 K C fn):Mm h C fn:=by
 obtain⟨CE,nm,qn,N,bs,hdct,sn,sub,ab,col,dd,k0,k1,k2,k3,k5,ho,hok,hi,he⟩:=q.ex;exact⟨_,N,nm,qn,bs,hdct,sn,sub,ab,col,dd,k0,k1,k2,k3,k5,_,X _ _ ho,.of_isNs (W.isNs_of_in X hok),DQ X (.of_isNs (W.isNs_of_in X hok)) hi,Ah X he⟩
def MZ(K:W.Frag)(t:TA):TE:=λσ H Q=>t σ H λvs H1=>∃a C rest fn,vs=.ref a::rest/\rest.length<=line/\H1 a=some (.ext (pL a C none))/\F9 K C fn/\Q .non (upd H1 a (.ext (pL a C none)))
def J3{ce:Str}{CE:Addr}{np apos cpos:Pos}{e:Expr}{es:List Expr}{t:TA}{pl:Sem Bool}(b:Cq X.K CE)(hg:Gl X ce)(hm:X.mg ce=some (.ref CE))(ha:PA X (e::es) t)(hdb:(ce==("__debug__":Str))=false:=by decide)
  (he:starEach (e::es) X.env=(false,eval e X.env)::starEach es X.env:=by exact aN rfl)(hpl:(backTo cpos (starEach es X.env)).any (·.1)=false:=by exact bD rfl)
  (ht:eval (.Call (.Attribute (.Name ce np) "__init__" apos) (e::es) [] cpos) X.env=(do
   let ov ←eval (.Name ce np) X.env
   standAt apos.atName
   let (f,first) ←holding [ov] (getMethod ov "__init__" pl)
   callWith cpos f first (backTo cpos (starEach (e::es) X.env)) (backToKw cpos (keywordEach [] X.env))):=by rfl) :
  PE X (.Call (.Attribute (.Name ce np) "__init__" apos) (e::es) [] cpos) (MZ X.K t):=by
 intro pins s σ H Q I h;refine W.methodCall_KW (pl:=pl) (gA I hg hm (W.method_cls I.kIn b.sp (W.cls_value I.kIn b.rd b.fc rfl ?_)) hdb) ht;have I0:=I.tok (s.toks+1);have hA:=ha cpos pins _ σ H _ I0 h;rw[he]at hA ⊢;refine Calls.callWith_builtin (by show(false||(backTo cpos (starEach es X.env)).any (·.1))=false;rw[hpl];rfl) (Calls.evalArgs_plain (dy hA λus s1 ⟨vs,H1,I1,r,a,C,rest,fn,ev,hl,ea,hx,q⟩=>?_));subst ev;obtain⟨_,us',rfl,ra,r'⟩:∃u us',us=u::us'/\bY (.ref a) u/\bu rest us':=by cases r with|cons r1 r2=>exact⟨_,_,rfl,r1,r2⟩
 obtain rfl:_=Value.ref a:=ra;obtain⟨bm,N,nm,qn,bs,hdct,sn,sub,ab,col,dd,k0,k1,k2,k3,k5,mN,hC,hn,hi,T⟩:=(w4 I1.kIn hx).ex;obtain⟨⟨t0,hae⟩,_,_⟩:=(show cm X.prog X.w H1 s1.heap a (.ext _) from I1.hok a _ ea)
 have F:=PySem.F.excBase_ValueError;have hz:us'.length<=sizeLine:=by rw[←r'.length];exact dS hl
 obtain⟨hp,g,d,tk,os⟩:=s1;refine wpAny_call (codeAny_call_builtin F.init.plain F.initEntry (wpAny_check_init_subT F T hC hae rfl ?_))
 wp_walk
 have mu:Jl (H1 a):=by rw[ea];exact True.intro
 have hne:a≠hp.objs.size:=Nat.ne_of_lt (Heap.lt_size hae);refine⟨.non,upd H1 a (.ext (pL a C none)),I1.write (o:=.ext (pL a C none)) (x:=a) (e:=a) mu (.inl rfl) (λb u hb e=>(Heap.get?_update_other _ _ (Ne.symm hb)).trans (Heap.get?_push_of_some _ e)) ⟨_,Heap.get?_update_self _ (Heap.get?_push_of_some _ hae) rfl⟩ ⟨⟨hp.objs.size,?_⟩,⟨_,Heap.get?_update_self _ (Heap.get?_push_of_some _ hae) rfl⟩,oX⟩,rfl,q⟩;rw[Heap.get?_update_self _ (Heap.get?_push_of_some _ hae) rfl];rfl
end
section
variable {X:Cx}
noncomputable def MQ(K:W.Frag) (fs:List Str) (is:cr):TS:=λD σ H=>∃a C dx l ks vs,σ[0]?=some (some (V.ref a))/\H a=some (.ext (pL a C (some dx)))/\H dx=some (.ext (vk dx l))/\dx≠a/\Co K C ks/\(∀f∈fs,f∈ks)/\l.length+fs.length<1000/\fs.length=vs.length /\
 is.map (λi=>σ[i]?)=vs.map (λv=>some (some v))/\D.nx σ (upd H dx (.ext (vk dx (putAll fs vs l))))
structure XR (X:Cx) (sts:List Stmt) (fs:List Str) (is:cr):Prop where
 o:nI X sts (MQ X.K fs is)
def Gh:XR X [] [] []:=⟨dE nt λD σ H ⟨a,C,dx,l,ks,vs,h1,h2,h3,h4,h5,h6,h7,h8,h9,q⟩=>by
 cases vs with
 |nil=>unfold putAll at q;rw[tL h3]at q;exact q
 |cons v vs=>simp at h8⟩
def CM{sts:List Stmt}{fs:List Str}{is:cr}{f:Str}{i:Nat}{x y:Str}{p1 p2 p3 pos:Pos}(hN:X.N[i]?=some y)(hN0:X.N[0]?=some x)(hv:vd X.env.scope y)(hv0:vd X.env.scope x)(h:XR X sts fs is)
  (hd:(y==("__debug__":Str))=false:=by decide)(hcd:(y==("__classdict__":Str))=false:=by decide)(hd0:(x==("__debug__":Str))=false:=by decide)(hcd0:(x==("__classdict__":Str))=false:=by decide)
  (hs:swapsWith (.Name y p3) (some (.Attribute (.Name x p1) f p2)) pos.line X.env=pure false:=by rfl):XR X (.Assign [.Attribute (.Name x p1) f p2] (.Name y p3) pos::sts) (f::fs) (i::is):=by
 refine⟨dE (c8 (JW (eR hN0 hv0 hd0 hcd0) (eR hN hv hd hcd) hs) h.o) λD σ H z9=>?_⟩;obtain⟨a,C,dx,l,ks,vs,h1,h2,h3,h4,h5,h6,h7,h8,h9,q⟩:=z9;cases vs with
 |nil=>simp at h8
 |cons v vs=>
  simp only[List.map_cons,List.cons.injEq]at h9;simp only[List.length_cons]at h7 h8;refine⟨v,h9.1,.ref a,h1,a,C,dx,l,ks,rfl,h2,h3,h4,h5,h6 f List.mem_cons_self,by omega,a,C,dx,_,ks,vs,h1,?_,aF,h4,h5,λg hg=>h6 g (List.mem_cons_of_mem _ hg),?_,by omega,h9.2,?_⟩
  .rw[aD h4.symm];exact h2
  .have:=tZ (f:=f) (v:=v) (l:=l);omega
  .rw[lZ];exact q
noncomputable def MR(K:W.Frag) (ks:List Str) (is:cr):TS:=λD σ H=>∃a C fn vs,σ[0]?=some (some (V.ref a))/\H a=some (.ext (pL a C none))/\Co K C ks/\F9 K C fn/\ks.length=vs.length/\ks.length<=60 /\
 is.map (λi=>σ[i]?)=vs.map (λv=>some (some v))/\∀dx,H dx=none->D.nx σ (upd (upd H a (.ext (pL a C (some dx)))) dx (.ext (vk dx (putAll ks vs []))))
structure XB (X:Cx) (sts:List Stmt) (ks:List Str) (is:cr):Prop where
 o:nI X sts (MR X.K ks is)
def Jr{sts:List Stmt}{fs:List Str}{is:cr}{f:Str}{i:Nat}{x y ce:Str}{CE:Addr}{p1 p2 p3 pos np apos cpos spos sp0:Pos}{es:List Expr}{pl:Sem Bool}(b:Cq X.K CE)(hg:Gl X ce)(hm:X.mg ce=some (.ref CE))(hpv:PV X es (i::is))(hN:X.N[i]?=some y)(hN0:X.N[0]?=some x)(hv:vd X.env.scope y)(hv0:vd X.env.scope x)(h:XR X sts fs is)
  (hd:(y==("__debug__":Str))=false:=by decide)(hcd:(y==("__classdict__":Str))=false:=by decide)(hd0:(x==("__debug__":Str))=false:=by decide)(hcd0:(x==("__classdict__":Str))=false:=by decide)(hdb:(ce==("__debug__":Str))=false:=by decide)
  (hs:swapsWith (.Name y p3) (some (.Attribute (.Name x p1) f p2)) pos.line X.env=pure false:=by rfl)(hs0:swapsWith (.Call (.Attribute (.Name ce np) "__init__" apos) (.Name x sp0::es) [] cpos) none spos.line X.env=pure false:=by rfl)(hpl:(backTo cpos (starEach es X.env)).any (·.1)=false:=by exact bD rfl)
  (ht:eval (.Call (.Attribute (.Name ce np) "__init__" apos) (.Name x sp0::es) [] cpos) X.env=(do
   let ov ←eval (.Name ce np) X.env
   standAt apos.atName
   let (f,first) ←holding [ov] (getMethod ov "__init__" pl)
   callWith cpos f first (backTo cpos (starEach (.Name x sp0::es) X.env)) (backToKw cpos (keywordEach [] X.env))):=by rfl) :
  XB X (.Expr (.Call (.Attribute (.Name ce np) "__init__" apos) (.Name x sp0::es) [] cpos) spos::.Assign [.Attribute (.Name x p1) f p2] (.Name y p3) pos::sts) (f::fs) (i::is):=by
 refine⟨dE (c8 (gY (J3 b hg hm (rM (p:=sp0) hN0 hv0 hpv hd0 hcd0).o hdb (aN rfl) hpl ht) hs0) (c8 (JX (eR hN0 hv0 hd0 hcd0) (eR hN hv hd hcd) hs) h.o)) λD σ H ⟨a,C,fn,vs,h1,h2,h3,h4,h5,h6,h7,q⟩=>?_⟩;refine⟨.ref a::vs,(show σ[0]?::(i::is).map (λi=>σ[i]?)=some (some (V.ref a))::vs.map (λv=>some (some v)) by rw[h1,h7]),a,C,vs,fn,rfl,?_,h2,h4,?_⟩
 .have:vs.length<=60:=by omega
  exact Nat.le_trans this (by decide)
 .cases vs with
  |nil=>simp at h5
  |cons v vs=>
   simp only[List.map_cons,List.cons.injEq]at h7;simp only[List.length_cons]at h5 h6;rw[tL h2];refine⟨v,h7.1,.ref a,h1,a,C,f::fs,rfl,h2,h3,List.mem_cons_self,λdx hdx=>?_⟩;have hne:dx≠a:=λz=>by subst z;rw[h2]at hdx;cases hdx
   refine⟨a,C,dx,[(f,v)],f::fs,vs,h1,?_,aF,hne,h3,λg hg=>List.mem_cons_of_mem _ hg,?_,by omega,h7.2,?_⟩
   .rw[aD hne.symm,aF]
   .simp only[List.length_cons,List.length_nil];omega
   .rw[lZ]
    have:=q dx hdx;unfold putAll at this;exact this
end
noncomputable def Di(K:W.Frag) (ks:List Str):Sp:=λvs H Q _=>∃a C fn args,vs=.ref a::args/\args.length=ks.length/\H a=some (.ext (pL a C none))/\Co K C ks/\F9 K C fn/\∀dx,H dx=none->Q .non (upd (upd H a (.ext (pL a C (some dx)))) dx (.ext (vk dx (putAll ks args []))))
def Kr{P:Program}{w:World}{K:W.Frag}{mg:Str->Option Value}{base:Heap}{x qual:Str}{st:Stmt}{f:Addr}{fd:FuncData}{ps:List Str}{ks:List Str}(F:zR K x qual st f fd)(S:fX ps ps (defScope st))(hps:ps.length=ks.length+1)(hf:ks.length<=60)
  (hbody:∀(cdv:Value) (A:Around) (outer:List PySem.Env) (s0:Shared) (H:Hp) (E:XK),XB (cL CX0 P w K mg base ps qual (defScope st) f cdv A outer s0 H E).nox (defBody st) ks ((List.range ks.length).map (· + 1))):FnOk P w K mg base CX0 1 f fd ps (Di K ks):=by
 refine F.ok S (λvs H Q E h=>?_) λcdv A outer s0 H vs Q E hr h=>?_
 .obtain⟨a,C,fn,args,rfl,hl,_⟩:=h
  simp[hl,hps]
 .obtain⟨a,C,fn,args,rfl,hl,hH,hC,hn,q⟩:=h
  refine⟨_,(hbody cdv A outer s0 H E).o,a,C,fn,args,?_,hH,hC,hn,hl.symm,hf,?_,q⟩
  .unfold L2.start;simp
  .unfold L2.start
   apply List.ext_getElem?;intro i;simp only[List.getElem?_map,List.map_map]
   by_cases hi:i<ks.length
   .have hia:i<args.length:=by omega
    simp[hi,hia,List.getElem?_append_left,List.getElem?_cons_succ]
   .have hia:¬i<args.length:=by omega
    simp[hi,hia]
section
variable {prog:Program}{w:World}{A:Around}{E:Value->Shared->Prop}{s:Shared}{env:PySem.Env}
variable {nm q:Str}{C N:Addr}{bs bm bmB:List Value}{hdct:Bool}{sn:List Str}{sub:List Value}{ab:Bool}{col:Option Bool}{dd:Option Addr}{k0 k1 k2 k3 k5:Option Value}{B newId initId:String}{mN:Str->Option Value}{fI:Addr}{oI:Obj}
def zW(F:ExcBaseFacts B newId initId bmB){x:Str}{np cpos pos:Pos}{args:List Expr}{Q:Flow->Shared->Prop}(hbase:bm.contains (.type "BaseException")=true)(hh:A.handled=none)(hplain:(backTo cpos (starEach args env)).any (·.1)=false)(hi:mN "__init__"=some (.ref fI))
  (h:wpAny (model prog w) A (eval (.Name x np) env) (λf sg=>f=.ref C/\wpAny (model prog w) A (evalArgs (.ref C) true (backTo cpos (starEach args env)) []) (λa si=>a.kw=[]/\a.pos.length<=sizeLine/\si.heap.get? C=some (excClassObj nm q C N bs bm hdct sn sub ab col dd k0 k1 k2 k3 k5 newId)/\si.heap.Ns N mN/\OwnTail si.heap bmB bm/\si.heap.get? fI=some oI/\oI.cls=.type "function" /\
    ∀h' e,Heap.MadeExcOf si.heap h' e (.ref C) a.pos->wpAny (model prog w) (A.under (.builtin "type.__call__" ⟨.ref C::a.pos,[]⟩)) (call (.ref fI) (.ref e::a.pos)) (λr s'=>r=.none/\s'.heap.get? C=some (excClassObj nm q C N bs bm hdct sn sub ab col dd k0 k1 k2 k3 k5 newId)/\(∃dc t,s'.heap.get? e=some ⟨.ref C,dc,.fields #[.ref t,.none,.none,.none,.bool false,.none],#[]⟩)/\E (.ref e) s') E { si with heap:=h' }) E sg) E s) :
  wpAny (model prog w) A (exec (.Raise (some (.Call (.Name x np) args [] cpos)) none pos) env) Q E s:=by
 rw[arm_exec_Raise];refine wpAny_bind (wpAny_standAt (zV (C:=C) (nm:=nm) (q:=q) (N:=N) (bs:=bs) (bm:=bm) (hdct:=hdct) (sn:=sn) (sub:=sub) (ab:=ab) (col:=col) (dd:=dd) (k0:=k0) (k1:=k1) (k2:=k2) (k3:=k3) (k5:=k5) (newId:=newId) hbase hh (wpAny_bind (wpAny_mono (wpAny_Call_ofName (wpAny_mono h (λf sg h₁=>?_) λ_ _ x=>x)) (λv sj hU=>wpAny_bind (wpAny_standAt (wpAny_pure hU))) λ_ _ x=>x))));obtain⟨rfl,h₁⟩:=h₁;unfold callWith;refine wpAny_bind (wpAny_holding (wpAny_mono h₁ (λ⟨apos,akw⟩ si ⟨hkw,hlen,hC,hn,T,hf,hfc,hG⟩=>wpAny_bind (wpAny_standAt ?_)) λ_ _ x=>x));obtain rfl:akw=[]:=hkw;obtain⟨hp,g,d,tk,os⟩:=si;simp only[hplain];refine wpAny_bind (wpAny_keeperOf_exc hC (wpAny_bind (CS F T hC hn hi hf hfc hlen λh' e hm=>wpAny_mono (hG h' e hm) (λr s' hr=>?_) λ_ _ z=>z)));obtain⟨rfl,hC',⟨dc,t,he⟩,hE⟩:=hr;exact⟨rfl,wpAny_bind (wpAny_holding (wpAny_point (wpAny_pure ⟨e,dc,t,rfl,hC',he,hE⟩)))⟩
end
structure u9 (K:W.Frag) (x:Str) (C:Addr):Prop where
 i:gF K x C
 cls:W.findIn K (.ref C) "__class__"=some (some (.builtin "object.__class__"))
 ga:W.findIn K (.ref C) "__getattribute__"=some (some (.builtin "BaseException.__getattribute__"))
 gt:W.findIn K (.ref C) "__getattr__"=some none
 t1:W.subIn K (.ref C) (.type "NoneType")=some false
 t2:W.subIn K (.ref C) (.type "bool")=some false
 t3:W.subIn K (.ref C) (.type "int")=some false
 t4:W.subIn K (.ref C) (.type "str")=some false
 t5:W.subIn K (.ref C) (.type "tuple")=some false
 t6:W.subIn K (.ref C) (.type "list")=some false
 t7:W.subIn K (.ref C) (.type "dict")=some false
 ve:W.subIn K (.ref C) (.type "ValueError")=some true
 self:W.subIn K (.ref C) (.ref C)=some true
def u9.xc{K:W.Frag}{x:Str}{C:Addr}(Z:u9 K x C):XC K x C :=
 ⟨Z.i.ns,⟨Z.cls,Z.ga,Z.gt,Z.i.ob,Z.i.be⟩,λT hT=>by
  refine v9 (mK T hT) ?_;simp only[gp,List.mem_cons,List.not_mem_nil,or_false]at hT;rcases hT with rfl|rfl|rfl|rfl|rfl|rfl|rfl
  all_goals first|exact Z.t1|exact Z.t2|exact Z.t3|exact Z.t4|exact Z.t5|exact Z.t6|exact Z.t7⟩
def Gg{K:W.Frag}{C fn:Addr}{ks:List Str}(z:F9 K C fn)(sa:W.findIn K (.ref C) "__setattr__"=some (some (.builtin "object.__setattr__")))(hd:W.hasDictIn K C=true)(no:∀f∈ks,k8 K C f):Co K C ks:=by
 obtain⟨CE,nm,qn,N,bs,hdct,sn,sub,ab,col,dd,k0,k1,k2,k3,k5,ho,_⟩:=z.ex;refine⟨sa,hd,?_,no⟩;unfold W.clsIn;rw[ho];rfl
section
variable {P:Program}{w:World}{K:W.Frag}{mg:Str->Option Value}{base:Heap}{N:List Str}{qual:Str}{scope:Scope}{f:Addr}{cd:Value}{A:Around}{outer:List PySem.Env}{s0:Shared}{H0:Hp}{E:XK}{He H0e:Hp}
def Bn{H:Hp}{h:Heap}{e dx:Addr}{o1 o2:HO}(ok:gh P w (upd (upd H e o1) dx o2) h)(he:H e=none)(hd:H dx=none)(n1:∀b,o1≠.own b)(n2:∀b,o2≠.own b)(m1:∀b,o1≠.tup b)(m2:∀b,o2≠.tup b):gh P w H h:=λa o q=>by
 have a1:a≠e:=λz=>by subst z;rw[he]at q;cases q
 have a2:a≠dx:=λz=>by subst z;rw[hd]at q;cases q
 refine(ok a o (by rw[aD a2,aD a1];exact q)).stay (λb u _ z=>z) (λb z=>?_) λb xs z=>?_
 .by_cases b2:b=dx
  .subst b2;rw[aF]at z;exact absurd (Option.some.inj z) (n2 _)
  .rw[aD b2]at z
   by_cases b1:b=e
   .subst b1;rw[aF]at z;exact absurd (Option.some.inj z) (n1 _)
   .rw[aD b1]at z;exact z
 .by_cases b2:b=dx
  .subst b2;rw[aF]at z;exact absurd (Option.some.inj z) (m2 _)
  .rw[aD b2]at z
   by_cases b1:b=e
   .subst b1;rw[aF]at z;exact absurd (Option.some.inj z) (m1 _)
   .rw[aD b1]at z;exact z
def zJ{fs:List Addr}{H H2:Hp}{h h2:Heap}(u:Un fs [] H H2 h h2):Un fs [] H H h h2:=⟨u.keep,u.slot,λ_ _ _ n _=>n,u.there,λ_ _ q=>q,λ_ _ _ q=>q,λ_ ps q=>⟨#[],by rw[q];simp⟩⟩
end
def FR(e:DictEntry):Bool:=match e.key with
 |.str _ _=>true
 |_=>false
def Gj{K:W.Frag}{C CE fn N:Addr}{nm q:Str}{bs sub:List Value}{hdct ab:Bool}{sn:List Str}{col:Option Bool}{dd dn:Option Addr}{k0 k1 k2 k3 k5:Option Value}{cn:Value}{es:Array DictEntry}{ep:Nat}{st:Array (Option Value)}
  (xl:K.lookup C=some (excClassObj nm q C N bs [.ref CE,.type "ValueError",.type "Exception",.type "BaseException",.type "object"] hdct sn sub ab col dd k0 k1 k2 k3 k5 "ValueError.__new__"))(xn:K.lookup N=some ⟨cn,dn,.dict es ep,st⟩)(xk:es.toList.all FR=true)(xv:W.nsIn K N "__init__"=some (some (.ref fn)))
  (xb:W.excIn K CE [.type "ValueError",.type "Exception",.type "BaseException",.type "object"] "ValueError.__new__"=true):F9 K C fn:=by
 refine⟨CE,nm,q,N,bs,hdct,sn,sub,ab,col,dd,k0,k1,k2,k3,k5,xl,?_,xv,xb⟩;unfold W.nsOkIn;rw[xn];rw[Array.all_toList]at xk;exact xk
def fv(x:Str)(ks:List Str)(fa:Ev->au (ac)):bv:=λρ=>(fa (gz ρ)).bind λds=>if ds.length=ks.length then .exn ⟨x,ks.zip ds⟩ else .stuck
theorem tu{K:W.Frag}{H:Hp}:∀{ks:List Str}{ds:ac}{vs:al}{n:Str}{d:D},Reps K H ds vs->(ks.zip ds).lookup n=some d->∃v,(ks.zip vs).lookup n=some v/\Rep K H d v
 |[],ds,vs,n,d,r,h=>by rw[List.zip_nil_left]at h;cases h
 |k::ks,[],vs,n,d,r,h=>by rw[List.zip_nil_right]at h;cases h
 |k::ks,e::ds,vs,n,d,r,h=>by
  obtain⟨v,vs',rfl,r1,r2⟩:=az.mp r;rw[List.zip_cons_cons,List.lookup_cons]at h;rw[List.zip_cons_cons];cases q:n==k with
  |true=>rw[q]at h;cases h;exact⟨v,by rw[List.lookup_cons,q],r1⟩
  |false=>
   rw[q]at h;obtain⟨u,h1,h2⟩:=tu r2 h;exact⟨u,by rw[List.lookup_cons,q];exact h1,h2⟩
def gh.xd{P:Program}{w:World}{H:Hp}{g:Heap}(ok:gh P w H g){a:Addr}{fs:List (Str×V)}(hn:H a=none)(p:vk a fs g):gh P w (upd H a (.xd fs)) g:=λb u e=>by
 by_cases hb:b=a
 .subst hb;rw[aF]at e;cases e;obtain⟨m,n,r,_⟩:=p;exact⟨m,n,r⟩
 .rw[aD hb]at e
  exact(ok b u e).stay (λc v _ q=>q) (λc q=>by rw[aD (aY q hn)];exact q) λc xs q=>by rw[aD (aY q hn)];exact q
section
variable {P:Program}{w:World}{K:W.Frag}{mg:Str->Option Value}{base:Heap}{N:List Str}{qual:Str}{scope:Scope}{f:Addr}{cd:Value}{A:Around}{outer:List PySem.Env}{s0:Shared}{H0:Hp}{E:XK}{He H0e:Hp}
def fS{x:Str}{C fn:Addr}{np cpos pos:Pos}{e:Expr}{es:List Expr}{fa:Ev->au (ac)}{k:Nat}{fd:FuncData}{ps ks:List Str}(xc:XC K x C)(z:F9 K C fn)(st:Co K C ks)(hfn:W.isFn K (.ref fn)=true)(F:FnOk P w K mg base CX0 k fn fd ps (Di K ks))(hb:iu K fd ps [])(hks:ks.length<=60)(hnd:ks.Nodup)(hr:dI (k+1) (cL (fj P w) P w K mg base N qual scope f cd A outer s0 H0 E).A)(hm:mg x=some (.ref C))(hh:A.handled=none)
  (hg:Gl (cL (fj P w) P w K mg base N qual scope f cd A outer s0 H0 E) x)(ha:DA (cL (fj P w) P w K mg base N qual scope f cd A outer s0 H0 E) E (e::es) fa)
  (hdb:(x==("__debug__":Str))=false:=by decide)(he:starEach (e::es) (cL (fj P w) P w K mg base N qual scope f cd A outer s0 H0 E).env=(false,eval e (cL (fj P w) P w K mg base N qual scope f cd A outer s0 H0 E).env)::starEach es (cL (fj P w) P w K mg base N qual scope f cd A outer s0 H0 E).env:=by exact aN rfl)
  (hpl:(backTo cpos (starEach es (cL (fj P w) P w K mg base N qual scope f cd A outer s0 H0 E).env)).any (·.1)=false:=by exact bD rfl) :
  DS (cL (fj P w) P w K mg base N qual scope f cd A outer s0 H0 E) E He H0e (.Raise (some (.Call (.Name x np) (e::es) [] cpos)) none pos) (fv x ks fa):=by
 refine⟨?_⟩;intro pins s σ H D I ⟨Ha,ρ,hr',q⟩;obtain⟨bm,Nn,nm,qn,bs,hdct,sn,sub,ab,col,dd,k0,k1,k2,k3,k5,mN,hC,hN,hi,T⟩:=(w4 I.ok.mod.kin z).ex;obtain⟨oI,hoI,hoc⟩:∃oI,base.get? fn=some oI/\oI.cls=.type "function":=by
  have:=beq_iff_eq.mp hfn;obtain⟨o,ho,hc⟩:=Option.map_eq_some_iff.mp this;exact⟨o,I.ok.mod.kin _ _ ho,hc⟩
 refine zW (C:=C) (nm:=nm) (q:=qn) (N:=Nn) (bs:=bs) (bm:=bm) (hdct:=hdct) (sn:=sn) (sub:=sub) (ab:=ab) (col:=col) (dd:=dd) (k0:=k0) (k1:=k1) (k2:=k2) (k3:=k3) (k5:=k5)
  PySem.F.excBase_ValueError (mN:=mN) (oI:=oI) (T.hasType PySem.F.excBase_ValueError.hasBase) hh (by rw[he];show(false||(backTo cpos (starEach es (cL (fj P w) P w K mg base N qual scope f cd A outer s0 H0 E).env)).any (·.1))=false;rw[hpl];rfl) hi (gA I hg hm ⟨rfl,?_⟩ hdb)
 have hq:og K E H (frz He Ha H) (fa (gz ρ)) (λvs H1=>vs.length=ks.length/\∀dx,H1 dx=none->E (.ref C) (some dx) (upd H1 dx (.xd (ks.zip vs)))):=by
  unfold fv at q;cases e1:fa (gz ρ) with
  |stuck=>rw[e1]at q;exact q|exn z=>rw[e1]at q;exact λC ox H' Ha' g ex=>q C ox H' Ha' (hr'.frz_grow.trans g) ex
  |ok ds=>
   rw[e1]at q;intro vs H1 H01 g rp;have q:bZ K E He H0e Ha (if ds.length=ks.length then au.exn ⟨x,ks.zip ds⟩ else .stuck) D:=q
   by_cases hl:ds.length=ks.length
   .rw[if_pos hl]at q
    refine⟨by rw[←rp.length];exact hl,λdx hdx=>?_⟩;have ga:=aO (o:=.xd (ks.zip vs)) g.sub hdx;refine q (.ref C) (some dx) _ _ (hr'.frz_grow.trans (g.trans ga)) ⟨⟨C,rfl,xc⟩,ks.zip vs,aF,λn d hn=>?_⟩;obtain⟨v,k1,k2⟩:=tu rp hn;exact⟨v,k1,k2.mono ga.z⟩
   .rw[if_neg hl]at q;exact q.elim
 have h1:=ha.o cpos pins s σ H _ I ⟨frz He Ha H,gz ρ,hr'.frz_le,hr'.looks,hq⟩;rw[he]at h1 ⊢;refine Calls.evalArgs_plain (wpAny_mono h1 (λus s2 h2=>?_) λ_ _ y=>y);obtain⟨vs,H1,I1,rv,hl,hE⟩:=h2;have hz:us.length<=sizeLine:=by rw[←rv.length,hl,sizeLine_eq];omega
 refine⟨rfl,hz,I1.bk _ _ hC,hN.keeps I1.bk,T.keeps I1.bk,I1.bk _ _ hoI,hoc,λh' ee hx=>?_⟩;have hn:H1 ee=none:=by
  cases q:H1 ee with|none=>rfl|some o=>obtain⟨u,hu⟩:=cm.there (I1.hok ee o q);rw[hx.new]at hu;cases hu
 obtain⟨t,ht,_,_⟩:=hx.there;have hxn:pL ee C none h':=⟨t,ht⟩
 have un1:Un (f9 (cL (fj P w) P w K mg base N qual scope f cd A outer s0 H0 E).stack) [] H1 (upd H1 ee (.ext (pL ee C none))) s2.heap h':=Un.ext (Un.kept hx.keeps) hn hx.new;have I2:Inv (cL (fj P w) P w K mg base N qual scope f cd A outer s0 H0 E) pins σ (upd H1 ee (.ext (pL ee C none))) { s2 with heap:=h' } :=
  I1.call' (ch:=[]) rfl un1 (gh.ext (I1.hok.kept hx.keeps) hn hxn ⟨_,ht⟩ oX) I1.bare (λ_ z=>nomatch z)
 have rv2:bu (V.ref ee::vs) (Value.ref ee::us):=.cons rfl rv;have hsp:Di K ks (V.ref ee::vs) (upd H1 ee (.ext (pL ee C none))) (λv H2=>v=.non/\∃dx,H1 dx=none/\dx≠ee/\H2=upd (upd (upd H1 ee (.ext (pL ee C none))) ee (.ext (pL ee C (some dx)))) dx (.ext (vk dx (putAll ks vs [])))) E :=
  ⟨ee,C,fn,vs,rfl,hl,aF,st,z,λdx hdx=>by
   have c:dx≠ee:=λc=>by rw[c,aF]at hdx;cases hdx
   rw[aD c]at hdx;exact⟨rfl,dx,hdx,c,rfl⟩⟩
 have hl2:(Value.ref ee::us).length=ps.length:=by rw[←rv2.length];exact F.len _ _ _ _ hsp
 have hbb:=hb { s2 with heap:=h' } (Value.ref ee::us) I2.kIn (by simpa using hl2);rw[List.append_nil]at hbb;refine wpAny_call (codeAny_mono (F.run _ _ { s2 with heap:=h' } _ ⟨Value.ref ee::us,[]⟩ (Value.ref ee::us) _ _ E (hr.make C us []) (I2.env0.make C us []) hbb rv2 hsp) λr s3 hq3=>?_);cases r with
 |error e=>exact False.elim hq3
 |ok fl=>
  cases fl with
  |next|brk|cont=>exact False.elim hq3
  |ret u=>
   obtain⟨v,H2,os3,bare3,un3,hok3,rel3,rfl,dx,hdx,hdne,rfl⟩:=hq3;obtain rfl:u=Value.none:=rel3;rw[lZ]at hok3 un3;have un4:=zJ (un1.trans un3);have hok4:gh P w H1 s3.heap:=Bn hok3 hn hdx (λ_ z=>by cases z) (λ_ z=>by cases z) (λ_ z=>by cases z) (λ_ z=>by cases z);obtain⟨⟨t3,ht3⟩,_,_⟩:=(show cm P w _ s3.heap ee (.ext (pL ee C (some dx))) from hok3 ee _ (by rw[aD hdne.symm,aF]))
   have I3:=I1.call' (ch:=[]) os3 un4 hok4 bare3 (λ_ z=>nomatch z);refine⟨rfl,I3.bk _ _ hC,⟨_,t3,ht3⟩,?_⟩;have hin:=sE (l:=envOfC qual scope s0.heap.objs.size f cd::outer);have hfr:s3.heap.FunFrames (W.hideAll s3.heap (ee::f9 (envOfC qual scope s0.heap.objs.size f cd::outer))) (envOfC qual scope s0.heap.objs.size f cd::outer):=W.funFrames_hide I3.stack λenv he a hf=>List.mem_cons_of_mem _ (hin env he a hf);have hst:(W.hideAll s3.heap (ee::f9 (envOfC qual scope s0.heap.objs.size f cd::outer))).StaysIn s3.heap:=λb o q=>W.of_hideAll _ q;have hen:(W.hideAll s3.heap (ee::f9 (envOfC qual scope s0.heap.objs.size f cd::outer))).get? ee=none:=W.hideAll_none _ (.head _);obtain⟨pX,_,_⟩:=(show cm P w _ s3.heap dx (.ext (vk dx (putAll ks vs []))) from hok3 dx _ aF)
   rw[oa hnd (λ_ _ z=>by simp at z) hl.symm,List.nil_append]at pX;have hok5:=gh.xd hok4 hdx pX;have dfresh:s2.heap.get? dx=none:=by
    cases qd:s2.heap.get? dx with
    |none=>rfl
    |some o=>
     have:=un3.free dx o (hx.keeps dx o qd) (by rw[aD hdne];exact hdx) (by simp);rw[aF]at this;cases this
   have un5:=Un.ext (o:=.xd (ks.zip vs)) un4 hdx dfresh;refine oW (a0:=.ref t3) I3.ok.frames hfr rfl ht3 hst hen rfl rfl rfl (λ_=>rfl) λh4 fl4 up4 dc4=>?_;refine yh rfl I1 (s1:=s3) (H1:=upd H1 dx (.xd (ks.zip vs))) os3 bare3 un5 hok5 (by rw[aD hdne.symm];exact hn) hst hfr (λb hb hy=>?_) fl4 up4 ⟨some dx,⟨some dx,dc4,.inr rfl⟩,hE dx hdx⟩;have hbe:b≠ee:=λc=>by
    subst c;rcases hy with hy|⟨o,hy⟩
    .exact hy (by rw[aD hdne.symm];exact hn)
    .rw[hx.new]at hy;cases hy
   have hth:∃o,s3.heap.get? b=some o:=by
    rcases hy with hy|⟨o,hy⟩
    .cases q:(upd H1 dx (.xd (ks.zip vs))) b with
     |none=>exact absurd q hy
     |some o=>exact cm.there (hok5 b o q)
    .exact un4.there b o hy (by simp)
   obtain⟨o,q⟩:=hth;exact⟨o,W.hideAll_get _ q (List.not_mem_cons_of_ne_of_not_mem hbe hb)⟩
end
def ME{α:Type}{us:List α}(h:us.length=1):∃a,us=[a]:=List.length_eq_one_iff.mp h
def MD{α:Type}{us:List α}(h:us.length=2):∃a b,us=[a,b]:=by
 cases us with|nil=>cases h|cons a us=>obtain⟨b,rfl⟩:=ME (Nat.succ.inj h);exact⟨a,b,rfl⟩
def L7{α:Type}{us:List α}(h:us.length=3):∃a b c,us=[a,b,c]:=by
 cases us with|nil=>cases h|cons a us=>obtain⟨b,c,rfl⟩:=MD (Nat.succ.inj h);exact⟨a,b,c,rfl⟩
def M4{α:Type}{us:List α}(h:us.length=4):∃a b c d,us=[a,b,c,d]:=by
 cases us with|nil=>cases h|cons a us=>obtain⟨b,c,d,rfl⟩:=L7 (Nat.succ.inj h);exact⟨a,b,c,d,rfl⟩
end DL
namespace Com
open PySem L2 DL
def Em{hit:Str->Bool}{ni:Nat}{sh:bv}{ρ:Ev}{x:CF}(h:hit x.cls=true):Ac hit ni sh ρ (.exn x)=(sh (ρ.set ni (.sh (sL x)))).bind (y9 ni):=if_pos h
def nA{tab:Str->Option Bool}{c:Str}{ks:List Str}{ds:ac}{b:Bool}(h:tab c=some b):fT tab (.ob (.exf c ks) ds)=.ok (.bl b):=by unfold fT;simp only[h]
def rK(x:Str)(ks:List Str)(ds:ac):au Fl:=if ds.length=ks.length then .exn ⟨x,ks.zip ds⟩ else .stuck
def fR{x:Str}{ks:List Str}{fa:Ev->au (ac)}{ρ:Ev}:fv x ks fa ρ=(fa (gz ρ)).bind (rK x ks):=aR rfl
def wC{x f g:Str}{d e:D}:rK x [f,g] [d,e]=.exn ⟨x,[(f,d),(g,e)]⟩:=if_pos rfl
end Com
namespace DL
open PySem PySem.Spec PyProof.Rows L2
structure FT (K:W.Frag) (mg:Str->Option Value) (x:Str) (st:Stmt) (ps:List Str) (a:Addr) (d:FuncData):Prop where
 F:zR K x x st a d
 b:iu K d ps []
 g:mg x=some (.ref a)
noncomputable def QA(K:W.Frag) (x:Str) (st:Stmt) (a:Addr):Prop:=W.nsIn K mainGlobals x=some (some (.ref a))/\W.keepIn K (.ref a)=true/\∃oc kV dc pm cd ct od an sl,K.lookup a=some ⟨oc,od,.func (W.fnOf x x (defArgs st) (defBody st) (defScope st) .none kV dc pm an cd ct),sl⟩/\W.codeIn K cd x=true
def Kq{K:W.Frag}{h:Heap}{mg:Str->Option Value}{x:Str}{st:Stmt}{ps:List Str}{a:Addr}(X:K.In h)(G:h.Ns mainGlobals mg)(q:QA K x st a)
  (hb:∀(kV doc pm:Value) (an:Option Addr) (cdv ct:Value) (us:List Value),us.length=ps.length->bindArgs (W.fnOf x x (defArgs st) (defBody st) (defScope st) .none kV doc pm an cdv ct) ⟨us,[]⟩=pure (ps.zip us)) :
  ∃d,FT K mg x st ps a d/\∃kV doc pm an cdv ct,d=W.fnOf x x (defArgs st) (defBody st) (defScope st) .none kV doc pm an cdv ct:=by
 obtain⟨e1,e4,oc,kV,dc,pm,cd,ct,od,an,sl,e2,e3⟩:=q;exact⟨_,⟨wt e2 e3 e4,(wt (st:=st) e2 e3 e4).binds hb,W.mg_of X G e1⟩,_,_,_,_,_,_,rfl⟩
section
variable {X:Cx}{E:XK}{e:Expr}{es:List Expr}{fa:Ev->au (ac)}{f g h i j:am}{pos:Pos}{CX:q9}{k n:Nat}{fn:Addr}{fd:FuncData}{ps:List Str}{m:ac->au D}{x:Str}{p:Pos}{st:Stmt}
def K5(ρ:Ev)(ds:ac)(h:ag f ay ρ=.ok ds):ds.length=1:=kD (λ_ h=>Cn h) h
def K4(ρ:Ev)(ds:ac)(q:ag f (ag g ay) ρ=.ok ds):ds.length=2:=kD (K5 ρ) q
def K3(ρ:Ev)(ds:ac)(q:ag f (ag g (ag h ay)) ρ=.ok ds):ds.length=3:=kD (K4 ρ) q
def Ll(ρ:Ev)(ds:ac)(q:ag f (ag g (ag h (ag i ay))) ρ=.ok ds):ds.length=4:=kD (K3 ρ) q
end
def kQ(fa:Ev->au (ac))(m:ac->au D):bv:=λρ=>match fa ρ with
 |.ok ds=>(m ds).bind λ_=>.ok (.nx ρ)
 |_=>.stuck
section
variable {X:Cx}{e:Expr}{es:List Expr}{fa:Ev->au (ac)}{pos:Pos}{k n:Nat}{fn:Addr}{fd:FuncData}{ps:List Str}{m:ac->au D}{x:Str}{p:Pos}{st:Stmt}
def C7{cpos:Pos}(F:FnOk X.prog X.w X.K X.mg X.base (fj X.prog X.w) k fn fd ps (spD X.K n m))(hr:dI k X.A)(hg:Gl X x)(hm:X.mg x=some (.ref fn))
  (hk:W.keepIn X.K (.ref fn)=true)(hb:iu X.K fd ps [])(ha:DA X.nox E0 (e::es) fa)(hn:(e::es).length=n:=by rfl)(hl:∀ρ ds,fa ρ=.ok ds->ds.length=(e::es).length)
  (hdb:(x==("__debug__":Str))=false:=by decide)(he:starEach (e::es) X.env=(false,eval e X.env)::starEach es X.env:=by exact aN rfl)(hpl:(backTo cpos (starEach es X.env)).any (·.1)=false:=by exact bD rfl)
  (hs:swapsWith (.Call (.Name x p) (e::es) [] cpos) none pos.line X.env=pure false:=by rfl):TB X (.Expr (.Call (.Name x p) (e::es) [] cpos) pos) (kQ fa m):=by
 refine⟨λpins s σ H He H0e Ha ρ D XE I h q hx=>?_⟩;refine wpAny_Expr_any (dy (yE (Q:=λv H1=>D.nx σ H1) F hr hg hm hk hb ha.o I ?_ hx hdb he hpl) λv s1 ⟨y,H1,I1,r1,q1⟩=>⟨σ,H1,I1,q1⟩) I.quiet hs;refine⟨Ha,ρ,h.g.sub,h.rd,?_⟩;unfold kQ at q ⊢;cases e1:fa ρ with
 |stuck=>rw[e1]at q;exact q|exn x=>rw[e1]at q;exact q.elim
 |ok ds=>
  rw[e1]at q;intro vs H1 H01 g1 r1;refine⟨?_,H01,ds,g1.sub,r1,?_⟩
  .have:=r1.length
   have:=hl ρ ds e1;omega
  .show post _ _ _ _ (m ds) _
   cases e2:m ds with
   |stuck=>simp only[e2]at q;exact q
   |exn x=>exact λC ox H' Ha' g ex=>⟨x,Ha',by simp only[e2];rfl,g1.z.trans g.z,h.grow (g1.trans g),ex⟩
   |ok d=>
    simp only[e2]at q;exact λv H' Ha' g rp=>q _ H' Ha' (g1.z.trans g.z) (h.grow (g1.trans g))
end
theorem Reps.erase{K:W.Frag}{H:Hp}:∀{ds:ac}{vs:al}(n:Nat),Reps K H ds vs->Reps K H (ds.eraseIdx n) (vs.eraseIdx n)
 |[],vs,n,h=>by rw[Reps.nil_iff.mp h];exact Reps.nil
 |d::ds,vs,n,h=>by
  obtain⟨v,vr,rfl,h1,h2⟩:=az.mp h;cases n with|zero=>exact h2|succ n=>exact Reps.cons h1 (Reps.erase n h2)
def Fq{prog:Program}{w:World}{A:Around}{E:Value->Shared->Prop}{s:Shared}{t b:Addr}{ws:List Value}{Q:Value->Shared->Prop}(ht:IsTup s.heap t ([]:List Value).toArray)(hb:IsTup s.heap b ws.toArray)
  (h1:Q (.ref b) s):wpAny (model prog w) A (binaryOp .Add (.ref t) (.ref b)) Q E s:=by
 obtain⟨⟨cls,dd,data,sl⟩,ho,hc,n,hd⟩:=id ht;obtain⟨⟨cls2,dd2,data2,sl2⟩,ho2,hc2,n2,hd2⟩:=id hb;simp only at hc hd hc2 hd2;subst hc hd hc2 hd2;exact concat_meets ⟨_,ho,rfl⟩ ⟨_,ho2,rfl⟩ noFill_tuple_add seq_tuple_add PySem.F.slot_tuple_add PySem.F.entry_tuple_add (PySem.F.args_tuple_add_2 _ _)
   (tuple_addW0 t b _ ws.toArray n n2 dd dd2 sl sl2 (by simp)) ⟨ho,ho2,h1⟩
def JS(K:W.Frag):R2:=λv u H Q=>∃a b ys,v=.ref a/\u=.ref b/\iZ K H a []/\iZ K H b ys/\Q (.ref b) H
section
variable {X:Cx}{E:XK}{a b:Expr}{f g:am}{pos:Pos}
def DM:gf X (binaryOp .Add) (JS X.K):=by
 intro pins s σ H x y v u Q I rx ry h;obtain⟨a,b,ys,rfl,rfl,ha,hb,q⟩:=h;cases rx;cases ry;obtain⟨its,r1,p1,_⟩:=I.tuple ha;obtain⟨its2,r2,p2,_⟩:=I.tuple hb;obtain rfl:its=[]:=r1.nil_iff.mpr rfl;exact Fq p1 p2 ⟨.ref b,H,I,rfl,q⟩
def iS(x y:D):au D:=match x,y with
 |.tup [],.tup es=>.ok (.tup es)
 |.tup ds,.tup es=>if ds.isEmpty=false/\ds.length+es.length<=line then .ok (.tup (ds++es)) else .stuck
 |_,_=>.stuck
def kA(ha:DE X E a f)(hb:DE X E b g):DE X E (.BinOp a .Add b pos) (ae f g iS):=pd (gf.or DM xM) (by
 intro x y v u H Ha Q hs r1 r2 q;unfold iS at q;cases x with
 |tup ds=>
  cases y with
  |tup es=>
   cases ds with
   |nil=>
    obtain⟨l,vs,rfl,h1,h2⟩:=aB.mp r1;obtain⟨m,us,rfl,k1,k2⟩:=aB.mp r2;obtain rfl:vs=[]:=Reps.nil_iff.mp h2;exact .inl ⟨l,m,us,rfl,rfl,aE.sqT hs h1,aE.sqT hs k1,cB hs q r2⟩
   |cons d ds=>
    simp only at q
    by_cases h:(d::ds).isEmpty=false/\(d::ds).length+es.length<=line
    .simp only[if_pos h]at q
     obtain⟨l,vs,rfl,h1,h2⟩:=aB.mp r1;obtain⟨m,us,rfl,k1,k2⟩:=aB.mp r2;refine .inr ⟨l,m,vs,us,rfl,rfl,aE.sqT hs h1,aE.sqT hs k1,λz=>?_,by rw[←h2.length,←k2.length];exact dS h.2,λz=>?_,λz p hp=>?_⟩
     .have:=h2.length
      rw[z]at this;cases this
     .have:=k2.length
      rw[z]at this;have e:es=[]:=List.length_eq_zero_iff.mp this;rw[e,List.append_nil]at q;exact cB hs q r1
     .exact q _ _ _ (aO hs hp) (aB.mpr ⟨p,_,rfl,iZ.of aF,(h2.app k2).mono (aO hs hp).z⟩)
    .simp only[if_neg h]at q;exact q.elim
  |_=>cases ds<;>exact q.elim
 |_=>exact q.elim) ha hb
end
structure Rw where
 x:Str
 st:Stmt
 N:List Str
 n:Nat
abbrev Rw.ps(r:Rw):List Str:=r.N.take r.n
instance {N P:List Str}{sc:Scope}:Decidable (fX N P sc) :=
 decidable_of_iff (sc.kind=.function/\sc.isCoroutine=false/\sc.isGenerator=false/\N.Nodup/\N.take P.length=P/\(∀x∈P,sc.names.lookup x=some .local ∨ sc.names.lookup x=some .cell)/\∀y∈sc.names,y.2≠.free)
  ⟨λ⟨a,b,c,d,e,f,g⟩=>⟨a,b,c,d,e,f,g⟩,λ⟨a,b,c,d,e,f,g⟩=>⟨a,b,c,d,e,f,g⟩⟩
def Mn(rows:List Rw):Prop:=∀r∈rows,fX r.N r.ps (defScope r.st)
instance {rows:List Rw}:Decidable (Mn rows):=inferInstanceAs (Decidable (∀r∈rows,_))
def TG(rows:List Rw)(K:W.Frag)(mg:Str->Option Value)(A:Nat->Addr)(Q:Nat->FuncData):Prop:=∀i r,rows[i]?=some r->FT K mg r.x r.st r.ps (A i) (Q i)
def Jn(r:Rw):Prop:=∀(kV doc pm:Value) (an:Option Addr) (cdv ct:Value) (us:List Value),us.length=r.ps.length->bindArgs (W.fnOf r.x r.x (defArgs r.st) (defBody r.st) (defScope r.st) .none kV doc pm an cdv ct) ⟨us,[]⟩=pure (r.ps.zip us)
def QAs(K:W.Frag):List Rw->List Addr->Prop
 |[],_=>True
 |r::rs,a::as=>QA K r.x r.st a/\QAs K rs as
 |_::_,[]=>False
def QAs.cons{K:W.Frag}{x:Str}{st:Stmt}{N:List Str}{n:Nat}{rs:List Rw}{a:Addr}{as:List Addr}(q:QA K x st a)(t:QAs K rs as):QAs K (⟨x,st,N,n⟩::rs) (a::as):=⟨q,t⟩
theorem FG{K:W.Frag}{h:Heap}{mg:Str->Option Value}(X:K.In h)(G:h.Ns mainGlobals mg):∀{rows:List Rw}{as:List Addr},(∀r∈rows,Jn r)->QAs K rows as ->
  ∃Q:Nat->FuncData,∀i r,rows[i]?=some r->FT K mg r.x r.st r.ps (as.getD i 0) (Q i)/\∃kV doc pm an cdv ct,Q i=W.fnOf r.x r.x (defArgs r.st) (defBody r.st) (defScope r.st) .none kV doc pm an cdv ct
 |[],as,_,_=>⟨λ_=>default,λi r e=>by simp at e⟩
 |r::rs,[],_,q=>q.elim
 |r::rs,a::as,hb,q=>by
  obtain⟨Q,h⟩:=FG X G (λr hr=>hb r (List.mem_cons_of_mem _ hr)) q.2;obtain⟨d,h1,h2⟩:=Kq X G q.1 (hb r List.mem_cons_self);refine⟨λi=>match i with|0=>d|i+1=>Q i,λi r' e=>?_⟩;cases i with|zero=>rw[List.getElem?_cons_zero]at e;cases e;exact⟨h1,h2⟩|succ i=>rw[List.getElem?_cons_succ]at e;exact h i r' e
structure gV (P:Program) (w:World) (K:W.Frag) (mg:Str->Option Value) (base:Heap) (CX:q9) (k:Nat) (fn:Addr) (fd:FuncData) (ps:List Str) (sp:Sp) (x:Str) (st:Stmt):Prop where
 F:FnOk P w K mg base CX k fn fd ps sp
 t:FT K mg x st ps fn fd
section
variable {P:Program}{w:World}{K:W.Frag}{mg:Str->Option Value}{base:Heap}{rows:List Rw}{A:Nat->Addr}{Q:Nat->FuncData}{i k n:Nat}{r:Rw}{s:bv}{sM:Addr->Ev->ac->au MFl}
variable (T:TG rows K mg A Q) (S:Mn rows) (h:rows[i]?=some r)
include T S h
theorem oD(b:∀(cdv:Value) (A':Around) (outer:List PySem.Env) (s0:Shared) (H Ha:Hp) (E:XK),dI k (A'.deeper (envOfC r.x (defScope r.st) s0.heap.objs.size (A i) cdv)) ->
   tq (cL CX0 P w K mg base r.N r.x (defScope r.st) (A i) cdv A' outer s0 H E).nox E H Ha (defBody r.st) s):gV P w K mg base CX0 (k+1) (A i) (Q i) r.ps (spD K r.ps.length (cM r.N.length s)) r.x r.st :=
 ⟨zo (T i r h).F (S r (List.mem_of_getElem? h)) b,T i r h⟩
theorem oE(b:∀(cdv:Value) (A':Around) (outer:List PySem.Env) (s0:Shared) (H Ha:Hp) (E:XK),dI k (A'.deeper (envOfC r.x (defScope r.st) s0.heap.objs.size (A i) cdv)) ->
   tq (cL (fj P w) P w K mg base r.N r.x (defScope r.st) (A i) cdv A' outer s0 H E) E H Ha (defBody r.st) s):gV P w K mg base (fj P w) (k+1) (A i) (Q i) r.ps (spD K r.ps.length (cM r.N.length s)) r.x r.st :=
 ⟨wx (T i r h).F (S r (List.mem_of_getElem? h)) b,T i r h⟩
theorem oF(b:∀(cdv:Value) (A':Around) (outer:List PySem.Env) (s0:Shared) (H Ha:Hp) (E:XK),dI k (A'.deeper (envOfC r.x (defScope r.st) s0.heap.objs.size (A i) cdv)) ->
   Cw (cL CX0 P w K mg base r.N r.x (defScope r.st) (A i) cdv A' outer s0 H E).nox E H Ha (defBody r.st) s):gV P w K mg base CX0 (k+1) (A i) (Q i) r.ps (JE K r.ps.length (tW r.N.length s)) r.x r.st :=
 ⟨wu (T i r h).F (S r (List.mem_of_getElem? h)) b,T i r h⟩
end
section
variable {P:Program}{w:World}{K:W.Frag}{mg:Str->Option Value}{base:Heap}{CX:q9}{k:Nat}{fn:Addr}{fd:FuncData}{ps:List Str}{n:Nat}{m:ac->au D}{x:Str}{st:Stmt}
def gV.noX(B:gV P w K mg base (fj P w) k fn fd ps (spD K n m) x st):gV P w K mg base CX0 k fn fd ps (spD K n (DL.noX m)) x st:=⟨DL.FnOk.noX B.F,B.t⟩
end
section
variable {X:Cx}{E:XK}{e:Expr}{es:List Expr}{fa:Ev->au (ac)}{pos:Pos}{CX:q9}{k k0 n:Nat}{fn:Addr}{fd:FuncData}{ps:List Str}{m:ac->au D}{x:Str}{p:Pos}{st:Stmt}
def rC(B:gV X.prog X.w X.K X.mg X.base CX k0 fn fd ps (spD X.K n m) x st)(hr:dI k X.A)(ha:DA X E (e::es) fa)(hle:k0<=k:=by decide)(hx:kj CX X E:=by first|exact FQ|exact pass0E|exact xI)(hl:∀ρ ds,fa ρ=.ok ds->ds.length=(e::es).length:=by first|exact K5|exact K4|exact K3|exact Ll|exact al5)(hn:(e::es).length=n:=by rfl)
  (hg:Gl X x:=by exact rfl)(hdb:(x==("__debug__":Str))=false:=by decide)(he:starEach (e::es) X.env=(false,eval e X.env)::starEach es X.env:=by exact aN rfl)(hpl:(backTo pos (starEach es X.env)).any (·.1)=false:=by exact bD rfl) :
  DE X E (.Call (.Name x p) (e::es) [] pos) (ar fa m):=Fj (B.F.mono hle) hr hg B.t.g B.t.F.kp B.t.b hx ha hn hl hdb he hpl
def rF(B:gV X.prog X.w X.K X.mg X.base CX k0 fn fd ps (JE X.K n m) x st)(hr:dI k X.A)(ha:DA X E (e::es) fa)(hle:k0<=k:=by decide)(hx:kj CX X E:=by first|exact FQ|exact pass0E|exact xI)(hl:∀ρ ds,fa ρ=.ok ds->ds.length=(e::es).length:=by first|exact K5|exact K4|exact K3|exact Ll|exact al5)(hn:(e::es).length=n:=by rfl)
  (hg:Gl X x:=by exact rfl)(hdb:(x==("__debug__":Str))=false:=by decide)(he:starEach (e::es) X.env=(false,eval e X.env)::starEach es X.env:=by exact aN rfl)(hpl:(backTo pos (starEach es X.env)).any (·.1)=false:=by exact bD rfl) :
  DF X E (.Call (.Name x p) (e::es) [] pos) (ar fa m):=Fd (B.F.mono hle) hr hg B.t.g B.t.F.kp B.t.b hx ha hn hl hdb he hpl
def rD{cpos:Pos}(B:gV X.prog X.w X.K X.mg X.base (fj X.prog X.w) k0 fn fd ps (spD X.K n m) x st)(hr:dI k X.A)(ha:DA X.nox E0 (e::es) fa)(hle:k0<=k:=by decide)(hl:∀ρ ds,fa ρ=.ok ds->ds.length=(e::es).length:=by first|exact K5|exact K4|exact K3|exact Ll|exact al5)(hn:(e::es).length=n:=by rfl)
  (hg:Gl X x:=by exact rfl)(hdb:(x==("__debug__":Str))=false:=by decide)(he:starEach (e::es) X.env=(false,eval e X.env)::starEach es X.env:=by exact aN rfl)(hpl:(backTo cpos (starEach es X.env)).any (·.1)=false:=by exact bD rfl)
  (hs:swapsWith (.Call (.Name x p) (e::es) [] cpos) none pos.line X.env=pure false:=by rfl):TB X (.Expr (.Call (.Name x p) (e::es) [] cpos) pos) (kQ fa m):=C7 (B.F.mono hle) hr hg B.t.g B.t.F.kp B.t.b ha hn hl hdb he hpl hs
def rT{y:Str}{pos' cpos:Pos}(hN:X.N.Nodup){i:Nat}(hi:X.N[i]?=some y)(hy:zQ X.env.scope y)(B:gV X.prog X.w X.K X.mg X.base (fj X.prog X.w) k0 fn fd ps (spD X.K n m) x st)(hr:dI k X.A)(ha:DA X.nox E0 (e::es) fa)(hle:k0<=k:=by decide)(hl:∀ρ ds,fa ρ=.ok ds->ds.length=(e::es).length:=by first|exact K5|exact K4|exact K3|exact Ll|exact al5)(hn:(e::es).length=n:=by rfl)
  (hg:Gl X x:=by exact rfl)(hdb:(x==("__debug__":Str))=false:=by decide)(he:starEach (e::es) X.env=(false,eval e X.env)::starEach es X.env:=by exact aN rfl)(hpl:(backTo cpos (starEach es X.env)).any (·.1)=false:=by exact bD rfl)
  (hs:swapsWith (.Call (.Name x p) (e::es) [] cpos) (some (.Name y pos')) pos.line X.env=pure false:=by rfl)
  (hf:X.fn y=true∨X.env.scope.names.lookup y=some .local := by first|exact .inl rfl|exact .inr rfl|assumption):TB X (.Assign [.Name y pos'] (.Call (.Name x p) (e::es) [] cpos) pos) (tV i fa m):=Gx hN hi hy (B.F.mono hle) hr hg B.t.g B.t.F.kp B.t.b ha hn hl hdb he hpl hs hf
end
def M9{r:Rw}(hn:r.ps.length=1:=by rfl)(hb:∀(kV doc pm:Value) (an:Option Addr) (cdv ct b:Value),bindArgs (W.fnOf r.x r.x (defArgs r.st) (defBody r.st) (defScope r.st) .none kV doc pm an cdv ct) ⟨[b],[]⟩=pure (r.ps.zip [b]):=by intros;rfl):Jn r:=λ_ _ _ _ _ _ us hl=>by
 obtain⟨b,rfl⟩:=ME (hl.trans hn);exact hb ..
def M8{r:Rw}(hn:r.ps.length=2:=by rfl)(hb:∀(kV doc pm:Value) (an:Option Addr) (cdv ct b c:Value),bindArgs (W.fnOf r.x r.x (defArgs r.st) (defBody r.st) (defScope r.st) .none kV doc pm an cdv ct) ⟨[b,c],[]⟩=pure (r.ps.zip [b,c]):=by intros;rfl):Jn r:=λ_ _ _ _ _ _ us hl=>by
 obtain⟨b,c,rfl⟩:=MD (hl.trans hn);exact hb ..
def M7{r:Rw}(hn:r.ps.length=3:=by rfl)(hb:∀(kV doc pm:Value) (an:Option Addr) (cdv ct b c d:Value),bindArgs (W.fnOf r.x r.x (defArgs r.st) (defBody r.st) (defScope r.st) .none kV doc pm an cdv ct) ⟨[b,c,d],[]⟩=pure (r.ps.zip [b,c,d]):=by intros;rfl):Jn r:=λ_ _ _ _ _ _ us hl=>by
 obtain⟨b,c,d,rfl⟩:=L7 (hl.trans hn);exact hb ..
def M6{r:Rw}(hn:r.ps.length=4:=by rfl)(hb:∀(kV doc pm:Value) (an:Option Addr) (cdv ct b c d e:Value),bindArgs (W.fnOf r.x r.x (defArgs r.st) (defBody r.st) (defScope r.st) .none kV doc pm an cdv ct) ⟨[b,c,d,e],[]⟩=pure (r.ps.zip [b,c,d,e]):=by intros;rfl):Jn r:=λ_ _ _ _ _ _ us hl=>by
 obtain⟨b,c,d,e,rfl⟩:=M4 (hl.trans hn);exact hb ..
end DL
namespace DL
open PySem L2
section
variable {α β:Type}
def Rf(a b:au α):Prop:=a=.stuck∨a=b
def dz{a b:au α}{f g:α->au β}(h:Rf a b)(k:∀x,Rf (f x) (g x)):Rf (a.bind f) (b.bind g):=by
 rcases h with rfl|rfl
 .exact .inl rfl
 .cases a with
  |ok x=>exact k x
  |exn x=>exact .inr rfl
  |stuck=>exact .inl rfl
structure kE (f g:Ev->au α):Prop where
 o:∀ρ,Rf (f ρ) (g ρ)
end
structure Gb (f g:ac->au D):Prop where
 o:∀ds,Rf (f ds) (g ds)
def Gb.ok{f g:ac->au D}(h:Gb f g){ds:ac}{d:D}(e:f ds=.ok d):g ds=.ok d:=by
 rcases h.o ds with q|q
 .rw[q]at e;cases e
 .rw[←q];exact e
def rfm_refl{f:ac->au D}:Gb f f:=⟨λ_=>.inr rfl⟩
def rf_refl{α:Type}{f:Ev->au α}:kE f f:=⟨λ_=>.inr rfl⟩
section
variable {s s' t t':bv}{c c' f f':am}{fa fa':Ev->au (ac)}{m m':ac->au D}
def rf_stuck:kE iy s:=⟨λ_=>.inl rfl⟩
def rf_seq(h1:kE s s')(h2:kE t t'):kE (aw s t) (aw s' t'):=⟨λρ=>dz (h1.o ρ) λr=>by
 cases r with
 |nx ρ'=>exact h2.o ρ'
 |_=>exact .inr rfl⟩
def rf_if(hc:kE c c')(h1:kE s s')(h2:kE t t'):kE (dJ c s t) (dJ c' s' t'):=⟨λρ=>dz (hc.o _) λr=>by
 cases r with
 |bl b=>cases b with
  |true=>exact h1.o ρ
  |false=>exact h2.o ρ
 |_=>exact .inr rfl⟩
theorem nr{tg:Ev->D->au Ev}(h:kE s s'):∀(ds:ac) (ρ:Ev),Rf (dw tg s ds ρ) (dw tg s' ds ρ)
 |[],ρ=>.inr rfl
 |d::r,ρ=>by
  unfold dw;refine dz (.inr rfl) λρ1=>dz (h.o ρ1) λx=>?_;cases x with|nx ρ2|ct ρ2=>exact nr h r ρ2|bk ρ2|rt d=>exact .inr rfl
def rf_for{tg:Ev->D->au Ev}(hf:kE f f')(h:kE s s'):kE (JI f tg s) (JI f' tg s'):=⟨λρ=>dz (hf.o ρ) λd=>by
 cases d with
 |lst ds=>exact nr h ds ρ
 |_=>exact .inr rfl⟩
def rf_forI{tg:Ev->D->au Ev}{src:Ev->au (ac)}(h:kE s s'):kE (lj src tg s) (lj src tg s'):=⟨λρ=>dz (.inr rfl) λds=>nr h ds ρ⟩
def rf_drop(h:kE f f'):kE (ll f) (ll f'):=⟨λρ=>dz (h.o _) λ_=>.inr rfl⟩
def rf_ret(h:kE f f'):kE (bG f) (bG f'):=⟨λρ=>dz (h.o _) λ_=>.inr rfl⟩
def rf_set{i:Nat}(h:kE f f'):kE (bb i f) (bb i f'):=⟨λρ=>dz (h.o _) λ_=>.inr rfl⟩
def rf_b1{op:D->au D}(h:kE f f'):kE (bf f op) (bf f' op):=⟨λρ=>dz (h.o _) λ_=>.inr rfl⟩
def rf_not(h:kE f f'):kE (cC f) (cC f'):=rf_b1 h
def rf_b2{op:D->D->au D}(h:kE f f')(h2:kE c c'):kE (ae f c op) (ae f' c' op):=⟨λρ=>dz (h.o _) λ_=>dz (h2.o _) λ_=>.inr rfl⟩
def rf_bA(h:kE fa fa')(hm:Gb m m'):kE (ar fa m) (ar fa' m'):=⟨λρ=>dz (h.o _) λds=>hm.o ds⟩
def rf_cons(h:kE f f')(h2:kE fa fa'):kE (ag f fa) (ag f' fa'):=⟨λρ=>dz (h.o _) λ_=>dz (h2.o _) λ_=>.inr rfl⟩
def vB{n:Nat}(h:kE s s'):Gb (cM n s) (cM n s'):=⟨λds=>dz (h.o _) λr=>.inr rfl⟩
end
end DL
local macro_rules|`(tactic|open_line with[rf_go])=>`(tactic|repeat (first|with_reducible exact DL.rf_refl|with_reducible exact DL.rf_stuck|with_reducible assumption|with_reducible exact DL.rfm_refl|with_reducible refine DL.rf_seq ?_ ?_|with_reducible refine DL.rf_if ?_ ?_ ?_|with_reducible refine DL.rf_for ?_ ?_|with_reducible refine DL.rf_forI ?_|with_reducible refine DL.rf_drop ?_|with_reducible refine DL.rf_ret ?_|with_reducible refine DL.rf_set ?_|with_reducible refine DL.rf_not ?_|with_reducible refine DL.rf_bA ?_ ?_|with_reducible refine DL.rf_cons ?_ ?_|with_reducible refine DL.rf_b1 ?_|with_reducible refine DL.rf_b2 ?_ ?_))
namespace Cod
open PySem L2 DL Com
def first(es:List Int)(m:Nat):cr:=(List.range m).map λj=>97+((es[2+j]?).getD 0).toNat
end Cod
namespace Bor
open PySem L2 DL Com
def p6:gP (.int 10) (.int 6)=.ok (.int 1000000):=aR rfl
end Bor
namespace Nwb
open PySem L2 DL Com
noncomputable def b_look_at_places:bv :=
 (aw (dJ (fq (cC (bf (ah 0) (ez "list"))) (cC (gQ IL IL (dC (.int 2)) (ar (ag (ah 0) ay) (m1 dH)) (dC (.int 7)))))
 (aw (fv "NoWeb" ["part","number"] (ag (dC (.str "places")) (ag (dC (.non)) ay)))
 av)
 av)
 (aw (lj (vy (ah 0)) (nc [1,2])
 (aw (dJ (fq (cC (ar (ag (ah 2) ay) m_is_name)) (ae (ah 2) (dY (ah 0) cT (bN (ah 1))) B7))
 (aw (fv "NoWeb" ["part","number"] (ag (dC (.str "places")) (ag (ah 1) ay)))
 av)
 av)
 av))
 av))
def m_look_at_places:ac->au D:=cM 3 b_look_at_places
noncomputable def b_look_at_ties:bv :=
 (aw (dJ (fq (cC (bf (ah 0) (ez "list"))) (ae (ar (ag (ah 0) ay) (m1 dH)) (dC (.int 14)) sV))
 (aw (fv "NoWeb" ["part","number"] (ag (dC (.str "ties")) (ag (dC (.non)) ay)))
 av)
 av)
 (aw (lj (vy (ah 0)) (nc [2,3])
 (aw (dJ (fq (cC (ar (ag (ah 3) ay) m_is_tie)) (fq (ae (ae (ah 3) (dC (.int 0)) aP) (ah 1) du) (ae (ae (ah 3) (dC (.int 1)) aP) (ah 1) du)))
 (aw (fv "NoWeb" ["part","number"] (ag (dC (.str "ties")) (ag (ah 2) ay)))
 av)
 av)
 av))
 av))
def m_look_at_ties:ac->au D:=cM 4 b_look_at_ties
noncomputable def b_look_at_web:bv :=
 (aw (dJ (fq (cC (bf (ah 0) (ez "tuple"))) (ae (ar (ag (ah 0) ay) (m1 dH)) (dC (.int 4)) kH))
 (aw (fv "NoWeb" ["part","number"] (ag (dC (.str "web")) (ag (dC (.non)) ay)))
 av)
 av)
 (aw (ll (ar (ag (ae (ah 0) (dC (.int 0)) aP) ay) m_look_at_places))
 (aw (ll (ar (ag (ae (ah 0) (dC (.int 1)) aP) (ag (ae (ah 0) (dC (.int 0)) aP) ay)) m_look_at_ties))
 (aw (dJ (cC (ar (ag (ae (ah 0) (dC (.int 2)) aP) (ag (ae (ah 0) (dC (.int 0)) aP) ay)) m_is_place))
 (aw (fv "NoWeb" ["part","number"] (ag (dC (.str "first")) (ag (dC (.non)) ay)))
 av)
 av)
 (aw (dJ (fq (cC (ar (ag (ae (ah 0) (dC (.int 3)) aP) (ag (ae (ah 0) (dC (.int 0)) aP) ay)) m_is_place)) (ae (ae (ah 0) (dC (.int 3)) aP) (ae (ah 0) (dC (.int 2)) aP) fM))
 (aw (fv "NoWeb" ["part","number"] (ag (dC (.str "last")) (ag (dC (.non)) ay)))
 av)
 av)
 av)))))
def m_look_at_web:ac->au D:=cM 1 b_look_at_web
def mP(p:Str)(n:D):CF:=⟨"NoWeb",[("part",.str p),("number",n)]⟩
def fQ{p:Str}{n:D}:rK "NoWeb" ["part","number"] [.str p,n]=.exn (mP p n):=wC
def ql:Gb Com.m_look_at_places m_look_at_places:=vB (by unfold Com.b_look_at_places b_look_at_places;open_line with[rf_go])
def Dq:Gb Com.m_look_at_ties m_look_at_ties:=vB (by unfold Com.b_look_at_ties b_look_at_ties;open_line with[rf_go])
def GO:Gb Com.m_look_at_web m_look_at_web:=by
 have h1:=ql;have h2:=Dq;exact vB (by unfold Com.b_look_at_web b_look_at_web;open_line with[rf_go])
def webX{w:eH}(W:cE w):m_look_at_web [bx w]=.ok .non:=GO.ok (Gu W)
def placesX{zs:List Str}(h2:2<=zs.length)(h7:zs.length<=7)(nm:gD zs):m_look_at_places [.lst (zs.map D.str)]=.ok .non:=ql.ok (qp h2 h7 nm)
def HF{tg:Ev->D->au Ev}{body:bv}{ds:ac}(P:Nat->Ev->Prop)(X:Nat->CF)(h:∀k d,ds[k]?=some d->∀ρ,P k ρ->∃ρ1,tg ρ d=.ok ρ1/\((∃ρ2,body ρ1=.ok (.nx ρ2)/\P (k+1) ρ2)∨body ρ1=.exn (X k))){ρ:Ev}(h0:P 0 ρ) :
  (∃ρ',dw tg body ds ρ=.ok (.nx ρ')/\P ds.length ρ')∨∃k,k<ds.length/\dw tg body ds ρ=.exn (X k):=by
 have key:∀(m k:Nat) (ρ:Ev),k+m=ds.length->P k ρ->(∃ρ',dw tg body (ds.drop k) ρ=.ok (.nx ρ')/\P ds.length ρ')∨∃k',k' < ds.length/\dw tg body (ds.drop k) ρ=.exn (X k'):=by
  intro m
  induction m with
  |zero=>
   intro k ρ hk hp;have:k=ds.length:=by omega
   subst this;rw[List.drop_length];exact .inl ⟨ρ,rfl,hp⟩
  |succ m ih=>
   intro k ρ hk hp;have hlt:k<ds.length:=by omega
   obtain⟨ρ1,h1,h2⟩:=h k ds[k] (List.getElem?_eq_getElem hlt) ρ hp;rcases h2 with⟨ρ2,h2,h3⟩|h2
   .rw[List.drop_eq_getElem_cons hlt,nz h1 h2]
    exact ih (k+1) ρ2 (by omega) h3
   .refine .inr ⟨k,hlt,?_⟩
    rw[List.drop_eq_getElem_cons hlt];unfold dw;rw[h1,BI,h2,fG]
 exact key ds.length 0 ρ (by omega) h0
def ur{xs:ac}{k:Nat}{d:D}(h:(DL.numbered 0 xs)[k]?=some d):∃x,xs[k]?=some x/\d=.tup [.int (k:Int),x]:=by
 have:=jd (F:=id) (xs:=xs) (k:=k) (d:=d) (by rw[List.map_id];exact h);exact this
def fA(xs:ac):∀k,(DL.numbered k xs).length=xs.length:=by
 induction xs with|nil=>intro k;rfl|cons x xs ih=>intro k;unfold DL.numbered;rw[List.length_cons,ih,List.length_cons]
def cut_id{xs:ac}{k:Nat}(h:k<=xs.length):gk xs none (some (k:Int))=xs.take k:=by
 have:=wL (F:=id) (xs:=xs) h
 rwa [List.map_id,List.map_id]at this
def ties_size{ds:ac}{p:D}(h:14<ds.length):m_look_at_ties [.lst ds,p]=.exn (mP "ties" .non):=by
 open_line with[m_look_at_ties,b_look_at_ties,decide_eq_true (show(ds.length:Int) > 14 by omega),fR,fQ,fG]
def fK(zs:List Str)(d:D):Prop:=∃t,d=aI t/\gu zs t
def eh(zs:List Str)(d:D):Prop:=m_is_tie [d]=.ok (.bl false)∨(m_is_tie [d]=.ok (.bl true)/\∃a b r,d=.tup (.str a::.str b::r)/\(a∉zs∨b∉zs))
def ties_all{ds:ac}{zs:List Str}(nm:gD zs)(h14:ds.length<=14)(hd:∀d∈ds,fK zs d∨eh zs d) :
  (∀d∈ds,fK zs d)∨∃k,k<ds.length/\m_look_at_ties [.lst ds,.lst (zs.map D.str)]=.exn (mP "ties" (.int (k:Int))):=by
 have hl:=HF (ds:=DL.numbered 0 ds) (tg:=nc [2,3]) (ρ:=[.sh (.lst ds),.sh (.lst (zs.map D.str)),.no,.no])
  (body:=(aw (dJ (fq (cC (ar (ag (ah 3) ay) m_is_tie)) (fq (ae (ae (ah 3) (dC (.int 0)) aP) (ah 1) du) (ae (ae (ah 3) (dC (.int 1)) aP) (ah 1) du)))
 (aw (fv "NoWeb" ["part","number"] (ag (dC (.str "ties")) (ag (ah 2) ay)))
 av)
 av)
 av))
  (λk ρ=>(∃a b,ρ=[.sh (.lst ds),.sh (.lst (zs.map D.str)),a,b])/\∀d∈ds.take k,fK zs d) (λk=>mP "ties" (.int (k:Int))) (by
   rintro k d hd' ρ ⟨⟨a,b,rfl⟩,hz⟩;obtain⟨x,hx,rfl⟩:=ur hd';have hk:k<ds.length:=(List.getElem?_eq_some_iff.mp hx).1;refine⟨[.sh (.lst ds),.sh (.lst (zs.map D.str)),.sh (.int (k:Int)),.sh x],yo rfl,?_⟩;rcases hd x (List.mem_of_getElem? hx) with⟨t,rfl,hT⟩|h|⟨h,a',b',r,rfl,hn⟩
   .left
    refine⟨[.sh (.lst ds),.sh (.lst (zs.map D.str)),.sh (.int (k:Int)),.sh (aI t)],?_,⟨_,_,rfl⟩,?_⟩
    .have h1:=nO nm hT
     rw[show aI t=.tup [.str t.a,.str t.b,.str t.w,fr t.l,bw t.o] from rfl]at h1 ⊢;open_line with[h1,cz,decide_eq_true hT.a,decide_eq_true hT.b]
    .intro y hy
     rw[List.take_succ,hx,List.mem_append]at hy;rcases hy with hy|hy
     .exact hz y hy
     .have:y=aI t:=by simpa using hy
      subst this;exact⟨t,rfl,hT⟩
   .right
    open_line with[h,fR,fQ,fG]
   .right
    rcases hn with hn|hn
    .open_line with[h,cz,decide_eq_false hn,fR,fQ,fG]
    .by_cases ha:a'∈zs
     .open_line with[h,cz,decide_eq_false hn,decide_eq_true ha,fR,fQ,fG]
     .open_line with[h,cz,decide_eq_false ha,fR,fQ,fG]) ⟨⟨.no,.no,rfl⟩,by rw[List.take_zero];exact λ_ h=>nomatch h⟩
 rw[fA]at hl;rcases hl with⟨ρ',_,_,hz⟩|⟨k,hk,hl⟩
 .rw[List.take_length]at hz
  exact .inl hz
 .refine .inr ⟨k,hk,?_⟩
  open_line with[m_look_at_ties,b_look_at_ties,decide_eq_false (show ¬(ds.length:Int) > 14 by omega),hl,fG]
def web_kind{d:D}(h:ez "tuple" d=.ok (.bl false)):m_look_at_web [d]=.exn (mP "web" .non):=by
 open_line with[m_look_at_web,b_look_at_web,h,fR,fQ,fG]
def web_size{ds:ac}(h:ds.length≠4):m_look_at_web [.tup ds]=.exn (mP "web" .non):=by
 have e:kH (.int (ds.length:Int)) (.int 4)=.ok (.bl true):=by
  rw[rY];have:((ds.length:Int)==4)=false:=beq_eq_false_iff_ne.mpr (by omega);rw[this];rfl
 open_line with[m_look_at_web,b_look_at_web,e,fR,fQ,fG]
section
variable {p t f l:D}{x:CF}
def web_ties(h:m_look_at_places [p]=.ok .non)(h2:m_look_at_ties [t,p]=.exn x):m_look_at_web [.tup [p,t,f,l]]=.exn x:=by
 open_line with[m_look_at_web,b_look_at_web,h,h2,fG]
end
end Nwb
namespace Nwb
open PySem L2 DL Com Bor
def ix_some{ds:ac}{r:Int}(h0:0<=r)(h1:r<ds.length):∃d∈ds,aP (.lst ds) (.int r)=.ok d:=by
 have hlt:r.toNat<ds.length:=by omega
 have he:ds[r.toNat]?=some ds[r.toNat]:=List.getElem?_eq_getElem hlt;have:=kU he;rw[show((r.toNat:Nat):Int)=r by omega]at this;exact⟨_,List.getElem_mem hlt,this⟩
end Nwb
namespace DL
open PySem PySem.Spec PyProof.Rows L2
mutual
def cN:D->Bool
 |.tup ds=>plainDs ds
 |.lst ds=>plainDs ds
 |.dic _ _=>false
 |.exc _=>false
 |.ob _ _=>false
 |_=>true
def plainDs:ac->Bool
 |[]=>true
 |d::ds=>cN d&&plainDs ds
end
mutual
/-- the cells of a tree -/
def Ft(K:W.Frag)(H:Hp):D->V->Addr->Prop
 |.tup ds,v,b=>∃a vs,v=.ref a/\((b=a/\Rd H a (.tup vs))∨(iZ K H a vs/\Fts K H ds vs b))
 |.lst ds,v,b=>∃a vs,v=.ref a/\((b=a/\Rd H a (.lst vs)/\Reps K H ds vs)∨(fL K H a vs/\Reps K H ds vs/\Fts K H ds vs b))
 |_,_,_=>False
def Fts(K:W.Frag)(H:Hp):ac->al->Addr->Prop
 |d::ds,v::vs,b=>Ft K H d v b∨Fts K H ds vs b
 |_,_,_=>False
end
open Classical in
noncomputable def rst(H:Hp) (S:Addr->Prop):Hp:=λb=>if S b then H b else none
def l7{H:Hp}{S:Addr->Prop}{b:Addr}(h:S b):rst H S b=H b:=if_pos h
def AA{H:Hp}{S:Addr->Prop}:aE (rst H S) H:=λb o e=>by
 unfold rst at e;split at e
 .exact e
 .cases e
def xy{H:Hp}{S:Addr->Prop}{b:Addr}(h:rst H S b≠none):S b:=by
 unfold rst at h;split at h
 .assumption
 .exact absurd rfl h
def AB{H:Hp}{S:Addr->Prop}{b:Addr}{u:HO}(h:S b)(r:Rd H b u):Rd (rst H S) b u:=by
 unfold Rd;rw[l7 h];exact r
mutual
theorem Rep.rst{K:W.Frag}{H:Hp}{S:Addr->Prop}:∀{d:D}{v:V},cN d=true->Rep K H d v->(∀b,Ft K H d v b->S b)->Rep K (rst H S) d v
 |.non,_,_,h,_=>by unfold Rep at h ⊢;exact h
 |.bl _,_,_,h,_=>by unfold Rep at h ⊢;exact h
 |.int _,_,_,h,_=>by unfold Rep at h ⊢;exact h
 |.str _,_,_,h,_=>by unfold Rep at h ⊢;exact h
 |.tup ds,_,p,h,s=>by
  obtain⟨a,vs,rfl,e2,e3⟩:=aB.mp h;unfold cN at p;refine aB.mpr ⟨a,vs,rfl,?_,Reps.rst p e3 λb hb=>s b (by unfold Ft;exact⟨a,vs,rfl,.inr ⟨e2,hb⟩⟩)⟩;rcases e2 with e2|e2
  .exact .inl (AB (s a (by unfold Ft;exact⟨a,vs,rfl,.inl ⟨rfl,e2⟩⟩)) e2)
  .exact .inr e2
 |.lst ds,_,p,h,s=>by
  obtain⟨a,vs,rfl,e2,e3⟩:=aC.mp h;unfold cN at p;refine aC.mpr ⟨a,vs,rfl,?_,Reps.rst p e3 λb hb=>s b (by unfold Ft;exact⟨a,vs,rfl,.inr ⟨e2,e3,hb⟩⟩)⟩;rcases e2 with e2|e2
  .exact .inl (AB (s a (by unfold Ft;exact⟨a,vs,rfl,.inl ⟨rfl,e2,e3⟩⟩)) e2)
  .exact .inr e2
 |.dic _ _,_,p,_,_=>by unfold cN at p;cases p
 |.exc _,_,p,_,_=>by unfold cN at p;cases p
 |.ob _ _,_,p,_,_=>by unfold cN at p;cases p
theorem Reps.rst{K:W.Frag}{H:Hp}{S:Addr->Prop}:∀{ds:ac}{vs:al},plainDs ds=true->Reps K H ds vs->(∀b,Fts K H ds vs b->S b)->Reps K (rst H S) ds vs
 |[],_,_,h,_=>by rw[Reps.nil_iff.mp h];exact Reps.nil
 |d::ds,_,p,h,s=>by
  obtain⟨v,r,rfl,h1,h2⟩:=az.mp h;unfold plainDs at p;rw[Bool.and_eq_true]at p;exact Reps.cons (Rep.rst p.1 h1 λb hb=>s b (by unfold Fts;exact .inl hb)) (Reps.rst p.2 h2 λb hb=>s b (by unfold Fts;exact .inr hb))
end
def Vw(A:Addr->Prop)(H H2:Hp):Prop:=∀c,H2 c=H c∨(A c/\∃o u,H c=some (.frz o u)/\H2 c=some u)
def Vw.keep{A:Addr->Prop}{H H2:Hp}(v:Vw A H H2){c:Addr}{u:HO}(e:H c=some u)(n:∀o w,u≠.frz o w):H2 c=some u:=by
 rcases v c with h|⟨_,o,w,h,_⟩
 .rw[h];exact e
 .rw[e]at h;cases h;exact absurd rfl (n o w)
def Vw.rd{A:Addr->Prop}{H H2:Hp}(v:Vw A H H2){c:Addr}{u:HO}(r:Rd H c u)(n:∀o w,u≠.frz o w):Rd H2 c u:=by
 rcases r with r|⟨o,r⟩
 .exact .inl (v.keep r n)
 .rcases v c with h|⟨_,o',w,h,h2⟩
  .exact .inr ⟨o,by rw[h];exact r⟩
  .rw[r]at h;cases h;exact .inl h2
def Vw.none{A:Addr->Prop}{H H2:Hp}(v:Vw A H H2){c:Addr}(e:H c=Option.none):H2 c=Option.none:=by
 rcases v c with h|⟨_,o',w,h,h2⟩
 .rw[h];exact e
 .rw[e]at h;cases h
theorem vg.view{K:W.Frag}{A:Addr->Prop}{H H':Hp}(e:Vw A H H'):∀{k:Kd}{a:Addr}{vs:al},vg K H k a vs->vg K H' k a vs
 |.ins c ks,a,vs,⟨C,dx,h0,h1,h2,h3⟩=>⟨C,dx,h0,h1,e.keep h2 (λ_ _ z=>by cases z),h3⟩
 |.dint ks,a,vs,⟨kvs,h1,h2,h3⟩=>⟨kvs,e.rd h1 (λ_ _ z=>by cases z),h2,h3⟩
 |.exf c ks,a,vs,⟨C,dx,fs,h1,h2,h3,h4⟩=>⟨C,dx,fs,h1,e.rd h2 (λ_ _ z=>by cases z),e.keep h3 (λ_ _ z=>by cases z),h4⟩
 |.pl,a,vs,h=>e.keep h (λ_ _ z=>by cases z)
mutual
theorem Rep.view{K:W.Frag}{A:Addr->Prop}{H H':Hp}(e:Vw A H H'):∀{d:D}{v:V},Rep K H d v->Rep K H' d v
 |.non,_,h=>by unfold Rep at h ⊢;exact h
 |.bl _,_,h=>by unfold Rep at h ⊢;exact h
 |.int _,_,h=>by unfold Rep at h ⊢;exact h
 |.str _,_,h=>by unfold Rep at h ⊢;exact h
 |.tup ds,_,h=>by
  unfold Rep at h ⊢;obtain⟨a,vs,e1,e2,e3⟩:=h;exact⟨a,vs,e1,e2.imp (λr=>e.rd r (λ_ _ z=>by cases z)) id,Reps.view e e3⟩
 |.lst ds,_,h=>by
  unfold Rep at h ⊢;obtain⟨a,vs,e1,e2,e3⟩:=h;exact⟨a,vs,e1,e2.imp (λr=>e.rd r (λ_ _ z=>by cases z)) id,Reps.view e e3⟩
 |.dic ks ds,_,h=>by
  unfold Rep at h ⊢;obtain⟨a,kvs,vs,e1,e2,e3,e4,e5⟩:=h;exact⟨a,kvs,vs,e1,e.rd e2 (λ_ _ z=>by cases z),e3,e4,Reps.view e e5⟩
 |.exc x,_,h=>by
  unfold Rep at h ⊢;obtain⟨a,C,dc,e1,e2,e3⟩:=h;exact⟨a,C,dc,e1,e2,e.rd e3 (λ_ _ z=>by cases z)⟩
 |.ob k ds,_,h=>by
  unfold Rep at h ⊢;obtain⟨a,vs,e1,e2,e3⟩:=h;exact⟨a,vs,e1,e2.view e,Reps.view e e3⟩
theorem Reps.view{K:W.Frag}{A:Addr->Prop}{H H':Hp}(e:Vw A H H'):∀{ds:ac}{vs:al},Reps K H ds vs->Reps K H' ds vs
 |[],_,h=>by unfold Reps at h ⊢;exact h
 |d::ds,_,h=>by
  unfold Reps at h ⊢;obtain⟨v,r,e1,e2,e3⟩:=h;exact⟨v,r,e1,Rep.view e e2,Reps.view e e3⟩
end
def cm.view{P:Program}{w:World}{A:Addr->Prop}{H H2:Hp}{h:Heap}{a:Addr}{o:HO}(v:Vw A H H2)(x:cm P w H h a o):cm P w H2 h a o :=
 x.stay (λb u _ q=>q) (λb q=>v.keep q (λ_ _ z=>by cases z)) λb xs q=>v.keep q (λ_ _ z=>by cases z)
def CB(ρ:Ev):Bool:=ρ.all λs=>match s with
 |.ow _=>false
 |.ox _ _=>false
 |_=>true
section
variable {K:W.Frag}{He H0e Ha H H2:Hp}{σ:L2.St}{ρ:Ev}{a:Addr}{st:ac}{vs:al}
def CB.ow(h:CB ρ=true){i:Nat}{d:D}(e:ρ[i]?=some (.ow d)):False:=by
 have:=List.all_eq_true.mp h _ (List.mem_of_getElem? e);cases this
def CB.ox(h:CB ρ=true){i j:Nat}{ds:ac}(e:ρ[i]?=some (.ox j ds)):False:=by
 have:=List.all_eq_true.mp h _ (List.mem_of_getElem? e);cases this
def eG.poke(h:eG K He H0e Ha σ H ρ)(n:CB ρ=true)(hs:aE He H2)(hz:aE Ha H2):eG K He H0e Ha σ H2 ρ :=
 ⟨⟨hs,h.g.z,hz,h.g.nw⟩,h.rd,λi d e=>(CB.ow n e).elim,λi j d d' _ e=>(CB.ow n e).elim,h.ln,⟨λi j ds e=>(CB.ox n e).elim,h.ex.2⟩⟩
def eG.dropT(h:eG K He H0e Ha σ H ρ){i:Nat}{v:V}:eG K He H0e Ha (σ.set i (some v)) H (ρ.set i .no):=by
 have key:∀(j:Nat) (s:Sl),(ρ.set i .no)[j]?=some s->s=.no∨(j≠i/\ρ[j]?=some s):=λj s e=>by
  by_cases hj:i=j
  .subst hj
   rw[List.getElem?_set_self']at e;cases q:ρ[i]? with|none=>rw[q]at e;cases e|some s'=>rw[q]at e;cases e;exact .inl rfl
  .rw[List.getElem?_set_ne hj]at e
   exact .inr ⟨λz=>hj z.symm,e⟩
 refine⟨h.g,λj d' e=>?_,λj d' e=>?_,λj k d1 d2 hn e1 e2=>?_,by simp[h.ln],h.ex.upd (λj s e=>?_) (aE.refl _) (λa vs _ e=>e) λp us _ h0 hp _=>⟨hp,h0⟩⟩
 .rcases key j _ e with e'|⟨hj,e'⟩
  .cases e'
  .obtain⟨v',h1,h2⟩:=h.rd j d' e'
   exact⟨v',by rw[List.getElem?_set_ne (Ne.symm hj)];exact h1,h2⟩
 .rcases key j _ e with e'|⟨hj,e'⟩
  .cases e'
  .obtain⟨b,h1,h2⟩:=h.ow j d' e'
   exact⟨b,by rw[List.getElem?_set_ne (Ne.symm hj)];exact h1,h2⟩
 .rcases key j _ e1 with e'|⟨hj,e1'⟩
  .cases e'
  rcases key k _ e2 with e'|⟨hk,e2'⟩
  .cases e'
  rw[List.getElem?_set_ne (Ne.symm hj),List.getElem?_set_ne (Ne.symm hk)];exact h.ap j k d1 d2 hn e1' e2'
 .rcases key j _ e with e'|⟨hj,e'⟩
  .exact .inr (.inr (.inl e'))
  .exact .inl ⟨e',by rw[List.getElem?_set_ne (Ne.symm hj)]⟩
end
def Bu{He Ha H H':Hp}(s:aE H H'):aE (frz He Ha H) (frz He Ha H'):=λc o e=>by
 unfold frz at e ⊢;cases q:He c with|none=>rw[q]at e;exact s _ _ e|some _=>rw[q]at e;exact e
section
variable {X:Cx}{E:XK}{He H0e:Hp}{a:Addr}{x:Nat}{st:Stmt}{rest:List Stmt}{e b c:Expr}{pos:Pos}{f fk:am}{g:D->Ev->ac->au MFl}{s r:Ev->ac->au MFl}
def jY(js:cr)(ρ:Ev):Ev:=ρ.mapIdx λi s=>if js.contains i then s else .no
def uy{js:cr}{ρ:Ev}{i:Nat}{d:D}(h:(jY js ρ)[i]?=some (.sh d)):i∈js/\ρ[i]?=some (.sh d):=by
 unfold jY at h;rw[List.getElem?_mapIdx]at h;cases q:ρ[i]? with
 |none=>rw[q]at h;cases h
 |some s=>
  rw[q]at h;simp only[Option.map_some,Option.some.injEq]at h
  by_cases c:js.contains i=true
  .rw[if_pos c]at h;exact⟨by simpa using c,by rw[h]⟩
  .rw[if_neg c]at h;cases h
end
mutual
/-- .. seen as any list -/
def fgt:D->D
 |.tup ds=>.tup (fgts ds)
 |.lst ds=>.lst (fgts ds)
 |.dic ks ds=>.dic ks (fgts ds)
 |.ob k ds=>match k with
  |.pl=>.lst (fgts ds)
  |k=>.ob k (fgts ds)
 |.non=>.non
 |.bl b=>.bl b
 |.int i=>.int i
 |.str x=>.str x
 |.exc x=>.exc x
def fgts:ac->ac
 |[]=>[]
 |d::ds=>fgt d::fgts ds
end
mutual
theorem Rep.fgt{K:W.Frag}{H:Hp}:∀{d:D}{v:V},Rep K H d v->Rep K H (fgt d) v
 |.non,_,h=>by rw[DL.fgt];exact h
 |.bl _,_,h=>by rw[DL.fgt];exact h
 |.int _,_,h=>by rw[DL.fgt];exact h
 |.str _,_,h=>by rw[DL.fgt];exact h
 |.exc _,_,h=>by rw[DL.fgt];exact h
 |.tup ds,_,h=>by
  obtain⟨a,vs,e1,e2,e3⟩:=aB.mp h;rw[DL.fgt];exact aB.mpr ⟨a,vs,e1,e2,Reps.fgt e3⟩
 |.lst ds,_,h=>by
  obtain⟨a,vs,e1,e2,e3⟩:=aC.mp h;rw[DL.fgt];exact aC.mpr ⟨a,vs,e1,e2,Reps.fgt e3⟩
 |.dic ks ds,_,h=>by
  rw[Rep]at h;obtain⟨a,kvs,vs,e1,e2,e3,e4,e5⟩:=h;rw[DL.fgt,Rep];exact⟨a,kvs,vs,e1,e2,e3,e4,Reps.fgt e5⟩
 |.ob k ds,_,h=>by
  obtain⟨a,vs,e1,e2,e3⟩:=bX.mp h;cases k with
  |pl=>rw[DL.fgt];exact aC.mpr ⟨a,vs,e1,fL.of e2,Reps.fgt e3⟩
  |ins c ks=>rw[DL.fgt]<;>first|exact bX.mpr ⟨a,vs,e1,e2,Reps.fgt e3⟩|(intro z;cases z)
  |dint ks=>rw[DL.fgt]<;>first|exact bX.mpr ⟨a,vs,e1,e2,Reps.fgt e3⟩|(intro z;cases z)
  |exf c ks=>rw[DL.fgt]<;>first|exact bX.mpr ⟨a,vs,e1,e2,Reps.fgt e3⟩|(intro z;cases z)
theorem Reps.fgt{K:W.Frag}{H:Hp}:∀{ds:ac}{vs:al},Reps K H ds vs->Reps K H (fgts ds) vs
 |[],_,h=>by rw[fgts];exact h
 |d::ds,_,h=>by
  obtain⟨v,r,rfl,h1,h2⟩:=az.mp h;rw[fgts];exact Reps.cons (Rep.fgt h1) (Reps.fgt h2)
end
section
variable {X:Cx}{E:XK}{e:Expr}{f:am}
def gr(f:am):am:=λρ=>(f ρ).bind λd=>.ok (fgt d)
def cQ(he:DE X E e f):DE X E e (gr f):=⟨bp he.o λσ H Q ⟨Ha,ρ,hs,hr,q⟩=>⟨Ha,ρ,hs,hr,by
 unfold gr at q;cases e1:f ρ with
 |stuck|exn x=>rw[e1]at q;exact q
 |ok d=>rw[e1]at q;exact λv H' Ha' g r=>q v H' Ha' g r.fgt⟩⟩
def LZ(d:D):au D:=match d with
 |.lst ds=>.ok (.ob .pl ds)
 |_=>.stuck
def t9(f:am):am:=λρ=>(f ρ).bind LZ
def uS(he:DF X E e f):DE X E e (t9 f):=⟨bp he.o λσ H Q ⟨Ha,ρ,hs,hr,q⟩=>⟨Ha,ρ,hs,hr,by
 unfold t9 at q;cases e1:f ρ with
 |stuck|exn x=>rw[e1]at q;exact q
 |ok d=>
  rw[e1]at q;cases d with
  |lst ds=>
   intro p vs H' Ha' g hp h0 hv rp;have z:aE Ha' (upd Ha' p (.lst vs)):=λb o e=>by rw[aD (by intro z;subst z;rw[h0]at e;cases e)];exact e
   refine q (.ref p) H' (upd Ha' p (.lst vs)) ⟨g.s,g.z.trans z,λb o e=>?_,λb h1 h2=>?_⟩ (bX.mpr ⟨p,vs,rfl,aF,rp.mono z⟩)
   .by_cases c:b=p
    .subst c;rw[aF]at e;cases e;exact hv
    .rw[aD c]at e;exact g.sub _ _ e
   .by_cases c:b=p
    .subst c;exact hp
    .rw[aD c]at h1;exact g.nw b h1 h2
  |_=>exact q.elim⟩⟩
end
def Mt(J Jf:Hp):Prop:=∀c,Jf c=J c∨∃us o,J c=some (.lst us)/\Jf c=some (.frz o (.lst us))
mutual
theorem Rep.frv{K:W.Frag}{J Jf:Hp}(e:Mt J Jf):∀{d:D}{v:V},cN d=true->Rep K J d v->Rep K Jf d v
 |.non,_,_,h=>by unfold Rep at h ⊢;exact h
 |.bl _,_,_,h=>by unfold Rep at h ⊢;exact h
 |.int _,_,_,h=>by unfold Rep at h ⊢;exact h
 |.str _,_,_,h=>by unfold Rep at h ⊢;exact h
 |.tup ds,_,p,h=>by
  obtain⟨a,vs,rfl,e2,e3⟩:=aB.mp h;unfold cN at p;refine aB.mpr ⟨a,vs,rfl,e2.imp (λr=>?_) id,Reps.frv e p e3⟩;rcases e a with q|⟨us,o,q,_⟩
  .unfold Rd;rw[q];exact r
  .rcases r with r|⟨_,r⟩<;>rw[q]at r<;>cases r
 |.lst ds,_,p,h=>by
  obtain⟨a,vs,rfl,e2,e3⟩:=aC.mp h;unfold cN at p;refine aC.mpr ⟨a,vs,rfl,e2.imp (λr=>?_) id,Reps.frv e p e3⟩;rcases e a with q|⟨us,o,q,q2⟩
  .unfold Rd;rw[q];exact r
  .rcases r with r|⟨_,r⟩
   .rw[q]at r;cases r;exact .inr ⟨o,q2⟩
   .rw[q]at r;cases r
 |.dic _ _,_,p,_=>by unfold cN at p;cases p
 |.exc _,_,p,_=>by unfold cN at p;cases p
 |.ob _ _,_,p,_=>by unfold cN at p;cases p
theorem Reps.frv{K:W.Frag}{J Jf:Hp}(e:Mt J Jf):∀{ds:ac}{vs:al},plainDs ds=true->Reps K J ds vs->Reps K Jf ds vs
 |[],_,_,h=>by rw[Reps.nil_iff.mp h];exact Reps.nil
 |d::ds,_,p,h=>by
  obtain⟨v,r,rfl,h1,h2⟩:=az.mp h;unfold plainDs at p;rw[Bool.and_eq_true]at p;exact Reps.cons (Rep.frv e p.1 h1) (Reps.frv e p.2 h2)
end
open Classical in
noncomputable def pT(h:Heap) (S:Addr->Prop) (H:Hp):Hp:=λc=>match H c with
 |some (.lst us)=>if S c then(match h.get? c with|some o=>some (.frz o (.lst us))|none=>some (.lst us)) else some (.lst us)
 |o=>o
open Classical in
noncomputable def lU(S:Addr->Prop) (H H1:Hp):Hp:=λc=>if S c/\∃us,H c=some (.lst us) then H c else H1 c
section
variable {h:Heap}{S:Addr->Prop}{H H1:Hp}{c:Addr}
def yc{us:al}{o:Obj}(hc:S c)(e:H c=some (.lst us))(eo:h.get? c=some o):pT h S H c=some (.frz o (.lst us)):=by
 unfold pT;rw[e];simp only;rw[if_pos hc,eo]
def iO(hc:¬(S c/\∃us,H c=some (.lst us))):pT h S H c=H c:=by
 unfold pT;cases q:H c with
 |none=>rfl
 |some o=>
  cases o with|lst us=>simp only;rw[if_neg λz=>hc ⟨z,us,q⟩]| _=>rfl
def lT(hc:S c/\∃us,H c=some (.lst us)):lU S H H1 c=H c:=if_pos hc
def iV(hc:¬(S c/\∃us,H c=some (.lst us))):lU S H H1 c=H1 c:=if_neg hc
def Ef{P:Program}{w:World}(ok:gh P w H h):gh P w (pT h S H) h:=λa o e=>by
 have st:∀{u:HO},cm P w H h a u->cm P w (pT h S H) h a u:=λx=>x.stay (λb u _ q=>q) (λb q=>by rw[iO (λz=>by obtain⟨_,us,z⟩:=z;rw[q]at z;cases z)];exact q) λb xs q=>by rw[iO (λz=>by obtain⟨_,us,z⟩:=z;rw[q]at z;cases z)];exact q
 by_cases hc:S a/\∃us,H a=some (.lst us)
 .obtain⟨h1,us,ea⟩:=hc
  have x:=ok a _ ea;obtain⟨_,its,n,_,eo⟩:=id x;rw[yc h1 ea eo]at e;cases e;exact⟨eo,st x⟩
 .rw[iO hc]at e;exact st (ok a o e)
end
mutual
theorem Ft.some_of{K:W.Frag}{H:Hp}{b:Addr}:∀{d:D}{v:V},Ft K H d v b->H b≠none
 |.non,_,h=>by unfold Ft at h;exact h.elim
 |.bl _,_,h=>by unfold Ft at h;exact h.elim
 |.int _,_,h=>by unfold Ft at h;exact h.elim
 |.str _,_,h=>by unfold Ft at h;exact h.elim
 |.dic _ _,_,h=>by unfold Ft at h;exact h.elim
 |.exc _,_,h=>by unfold Ft at h;exact h.elim
 |.ob _ _,_,h=>by unfold Ft at h;exact h.elim
 |.tup ds,_,h=>by
  unfold Ft at h;obtain⟨a,vs,rfl,⟨rfl,h⟩|⟨_,h⟩⟩:=h
  .rcases h with h|⟨_,h⟩<;>rw[h]<;>simp
  .exact Fts.some_of h
 |.lst ds,_,h=>by
  unfold Ft at h;obtain⟨a,vs,rfl,⟨rfl,h,_⟩|⟨_,_,h⟩⟩:=h
  .rcases h with h|⟨_,h⟩<;>rw[h]<;>simp
  .exact Fts.some_of h
theorem Fts.some_of{K:W.Frag}{H:Hp}{b:Addr}:∀{ds:ac}{vs:al},Fts K H ds vs b->H b≠none
 |[],_,h=>by unfold Fts at h;exact h.elim
 |d::ds,[],h=>by unfold Fts at h;exact h.elim
 |d::ds,v::vs,h=>by
  unfold Fts at h;rcases h with h|h
  .exact Ft.some_of h
  .exact Fts.some_of h
end
def LQ(r:Fl):au Fl:=match r with
 |.rt d=>.ok (.rt d)
 |_=>.stuck
end DL
namespace Rh
open PySem PySem.Spec PyProof.Rows
def pV:entryFor table "proto.unchain"=some Builtin.«proto.unchain»:=entryFor_of_tree (by kernel_rfl)
section
variable {P:Program}{w:World}{A:Around}{E:Value->Shared->Prop}{s:Shared}{env:PySem.Env}
def ctx(g:Heap)(e c:Addr):Heap:=g.update e (Obj.mapFields (·.setIfInBounds 2 (.ref c)))
def A6{α:Type}{e c:Addr}{oc oe:Obj}{vs ws:Array Value}{Q:α->Shared->Prop}(hA:A.handled=some (.ref c))(ne:c≠e)(gc:s.heap.get? c=some oc)(dc:oc.data=.fields vs)(c2:vs[2]?=some .none)
  (ge:s.heap.get? e=some oe)(de:oe.data=.fields ws)(hz:2<ws.size)(hE:E (.ref e) { s with heap:=ctx s.heap e c }):wpAny (model P w) A (raiseNew (.ref e):Sem α) Q E s:=by
 unfold raiseNew;refine wpAny_bind (wpAny_handled ?_);rw[hA];have hb:(Value.ref c != Value.ref e)=true:=by simp[ne]
 show wpAny _ _ (if(Value.ref c != Value.ref e)=true then _ else _) _ _ _;rw[if_pos hb];refine wpAny_bind (wpAny_holding (runValue_entry pV ?_));show wpAny _ _ (field (.ref c) 2 >>= _) _ _ _;refine wpAny_bind (wpAny_field gc dc c2 ?_);show wpAny _ _ (if(Value.none==Value.none)=true then _ else _) _ _ _;rw[if_pos (by rfl)];refine wpAny_bind (wpAny_pure (wpAny_pure ⟨_,rfl,?_⟩));refine wpAny_bind ?_;unfold updateField;refine wpAny_bind (wpAny_load ge ?_);rw[de];simp only[hz,if_true];exact wpAny_update ge (wpAny_throw hE)
variable {nm q:Str}{C N c:Addr}{bs bm bmB:List Value}{hdct:Bool}{sn:List Str}{sub:List Value}{ab:Bool}{col:Option Bool}{dd:Option Addr}{k0 k1 k2 k3 k5:Option Value}{B newId initId:String}
def yR{x:Sem Value}{Q:Flow->Shared->Prop}(hbase:bm.contains (.type "BaseException")=true)(hA:A.handled=some (.ref c))
  (h:wpAny (model P w) A x (λv sg=>∃e t oc vs,v=.ref e/\sg.heap.get? C=some (excClassObj nm q C N bs bm hdct sn sub ab col dd k0 k1 k2 k3 k5 newId) /\
   sg.heap.get? e=some { cls:=.ref C,data:=.fields #[.ref t,.none,.none,.none,.bool false,.none] }/\c≠e/\sg.heap.get? c=some oc/\oc.data=.fields vs/\vs[2]?=some .none/\E (.ref e) { sg with heap:=ctx sg.heap e c }) E s) :
  wpAny (model P w) A (raiseStmt env (some x) none) Q E s:=by
 have isB:(Value.ref C::bm).contains (.type "BaseException")=true:=by rw[List.contains_cons,hbase,Bool.or_true]
 unfold raiseStmt;refine wpAny_bind (wpAny_mono h (λv sg ⟨e,t,oc,vs,ev,hC,he,ne,gc,dc,c2,hE⟩=>?_) λ_ _ y=>y);subst ev;obtain⟨hp,gn,dr,tk,os⟩:=sg
 repeat (first|with_reducible refine wpAny_loadPart_at he ?_|with_reducible refine wpAny_loadPart_at hC ?_|(with_reducible refine wpAny_isSubtype_exc hC ?_;rw[isB])|wp_step)
 exact A6 hA ne gc dc c2 he rfl (by simp) hE
def exec_some(F:ExcBaseFacts B newId initId bmB){mN:Str->Option Value}{x:Str}{np cpos pos:Pos}{args:List Expr}{Q:Flow->Shared->Prop}
  (hbase:bm.contains (.type "BaseException")=true)(hA:A.handled=some (.ref c))(hplain:(backTo cpos (starEach args env)).any (·.1)=false)(hni:mN "__init__"=none)
  (h:wpAny (model P w) A (eval (.Name x np) env) (λf sg=>f=.ref C/\wpAny (model P w) A (evalArgs (.ref C) true (backTo cpos (starEach args env)) [])
   (λa si=>a.kw=[]/\a.pos.length<=sizeLine/\si.heap.get? C=some (excClassObj nm q C N bs bm hdct sn sub ab col dd k0 k1 k2 k3 k5 newId)/\si.heap.Ns N mN/\OwnTail si.heap bmB bm/\(∃oc vs,si.heap.get? c=some oc/\oc.data=.fields vs/\vs[2]?=some .none) /\
    ∀h' e,Heap.MadeExcOf si.heap h' e (.ref C) a.pos->E (.ref e) { si with heap:=ctx h' e c }) E sg) E s) :
  wpAny (model P w) A (exec (.Raise (some (.Call (.Name x np) args [] cpos)) none pos) env) Q E s:=by
 rw[arm_exec_Raise];simp only[evalOpt,Option.map];refine wpAny_bind (wpAny_standAt (yR (C:=C) (nm:=nm) (q:=q) (N:=N) (bs:=bs) (bm:=bm) (hdct:=hdct) (sn:=sn) (sub:=sub) (ab:=ab) (col:=col) (dd:=dd) (k0:=k0) (k1:=k1) (k2:=k2) (k3:=k3) (k5:=k5) (newId:=newId) hbase hA ?_));refine wpAny_bind (wpAny_mono (wpAny_Call_ofName (wpAny_mono h (λf sg h₁=>?_) λ_ _ y=>y)) (λv sj hU=>wpAny_bind (wpAny_standAt (wpAny_pure hU))) λ_ _ y=>y);obtain⟨rfl,h₁⟩:=h₁;unfold callWith;refine wpAny_bind (wpAny_holding (wpAny_mono h₁ (λa si hG=>wpAny_bind (wpAny_standAt ?_)) λ_ _ y=>y));obtain⟨ap,ak⟩:=a;obtain⟨hk,hl,hC,hn,T,⟨oc,vs,gc,dc,c2⟩,hG⟩:=hG;obtain rfl:ak=[]:=hk;obtain⟨hp,gn,dr,tk,os⟩:=si;simp only[hplain];refine wpAny_bind (wpAny_keeperOf_exc hC (wpAny_bind (wpAny_call_exc_subT (hrest:=hl) F T hC hn hni λh' e hm=>wpAny_bind (wpAny_holding (wpAny_point (wpAny_pure ?_))))));obtain⟨t,ht,_,_⟩:=hm.there;refine⟨e,t,oc,vs,rfl,hm.keeps _ _ hC,ht,λz=>?_,hm.keeps _ _ gc,dc,c2,hG h' e hm⟩;subst z;have:=hm.new;rw[show(Shared.heap ⟨hp,gn,dr,tk,os⟩).get? c=some oc from gc]at this;cases this
end
end Rh
namespace DL
open PySem PySem.Spec PyProof.Rows L2
section
variable {M:Model}{A:Around}{E:Value->Shared->Prop}{s:Shared}{base:Heap}{env:PySem.Env}{l:List PySem.Env}{L e:Addr}{cls a0 fl:Value}{dc:Option Addr}
def Ej{E':Value->Shared->Prop}(hf:env.frame=some L)(kb:base.StaysIn s.heap)(hl:s.heap.FunFrames base l)(ht:s.heap.TracedAtW base e cls a0 fl)(hc:jA s.heap e dc)
  (h:∀h',base.StaysIn h'->h'.FunFrames base l->h'.TracedAtW base e cls a0 (rawInt L)->(∀b o,s.heap.get? b=some o->(∀vs,o.data≠.fields vs)->h'.get? b=some o)->jA h' e dc->E' (.ref e) { s with heap:=h' }):cameBackBy M A env E' (.ref e) s:=by
 obtain⟨oe,vs,T,oT,ts,he,hcl,hd,h1,hnT,hTe,hT,dT,h3⟩:=ht;have z3:3<ts.size:=(Array.getElem?_eq_some_iff.mp h3).1;have oth:∀(f:Obj->Obj) (b:Addr),b≠T->(s.heap.update T f).get? b=s.heap.get? b:=λf b hb=>Heap.get?_update_other _ _ (Ne.symm hb);have ne:∀b o,s.heap.get? b=some o->(∀vs,o.data≠.fields vs)->b≠T:=λb o q z c=>by subst c;rw[hT]at q;cases q;exact z ts dT
 unfold cameBackBy;refine wpAny_bind (wpAny_field he hd h1 ?_);rw[if_neg (by simp)];rw[hf];unfold setFlight;refine wpAny_bind (wpAny_field he hd h1 ?_);rw[if_pos (by simp)];obtain⟨o',q',rfl,cx⟩:=hc;refine wpAny_setField hT dT z3 (h _ (λb o q=>(oth _ b λc=>by subst c;rw[hnT]at q;cases q).trans (kb b o q)) (hl.of_keeps λb o q z=>⟨o,(oth _ b (ne b o q z)).trans q,rfl⟩) ?_ (λb o q z=>(oth _ b (ne b o q z)).trans q) ⟨o',(oth _ e (Ne.symm hTe)).trans q',rfl,cx⟩);exact⟨oe,vs,T,_,_,(oth _ e (Ne.symm hTe)).trans he,hcl,hd,h1,hnT,hTe,Heap.get?_update_self _ hT (Obj.isFreed_of_fields (Obj.data_mapFields dT _)),Obj.data_mapFields dT _,by simp[z3]⟩
end
section
variable {P:Program}{w:World}{K:W.Frag}{mg:Str->Option Value}{base:Heap}{N:List Str}{qual:Str}{scope:Scope}{f:Addr}{cd:Value}{A:Around}{outer:List PySem.Env}{s0:Shared}{H0:Hp}{E:XK}
 {pins:List (Addr×Obj)}{σ:L2.St}{H:Hp}{s:Shared}
def uE(I:Inv (cL (fj P w) P w K mg base N qual scope f cd A outer s0 H0 E) pins σ H s){h1:Heap}{e c C:Addr}{vs:List Value}(hx:Heap.MadeExcOf s.heap h1 e (.ref C) vs)(hE:E (.ref C) none H) :
  notedBy (model P w) ((cL (fj P w) P w K mg base N qual scope f cd A outer s0 H0 E).A.mark (some (.ref c))) (cL (fj P w) P w K mg base N qual scope f cd A outer s0 H0 E).env
   (λx s2=>cameBackBy (model P w) (cL (fj P w) P w K mg base N qual scope f cd A outer s0 H0 E).A (cL (fj P w) P w K mg base N qual scope f cd A outer s0 H0 E).env (cL (fj P w) P w K mg base N qual scope f cd A outer s0 H0 E).xe x s2) (.ref e) { s with heap:=Rh.ctx h1 e c }:=by
 have hin:=sE (l:=envOfC qual scope s0.heap.objs.size f cd::outer);have hl:s.heap.FunFrames (W.hideAll s.heap (f9 (envOfC qual scope s0.heap.objs.size f cd::outer))) (envOfC qual scope s0.heap.objs.size f cd::outer):=W.funFrames_hide I.stack hin;have hn:H e=none:=by
  cases q:H e with|none=>rfl|some o=>obtain⟨u,hu⟩:=cm.there (I.hok e o q);rw[hx.new]at hu;cases hu
 obtain⟨t,he,_,_⟩:=hx.there;have hen:(W.hideAll s.heap (f9 (envOfC qual scope s0.heap.objs.size f cd::outer))).get? e=none:=by
  cases q:(W.hideAll s.heap (f9 (envOfC qual scope s0.heap.objs.size f cd::outer))).get? e with|none=>rfl|some o=>have:=W.of_hideAll _ q;rw[hx.new]at this;cases this
 have kc:∀b o,s.heap.get? b=some o->(Rh.ctx h1 e c).get? b=some o:=λb o q=>by
  have hb:b≠e:=by intro z;subst z;rw[hx.new]at q;cases q
  unfold Rh.ctx;rw[Heap.get?_update_other _ _ (Ne.symm hb)];exact hx.keeps b o q
 have d2:=Obj.data_mapFields (o:={ cls:=.ref C,data:=.fields #[.ref t,.none,.none,.none,.bool false,.none] }) rfl (·.setIfInBounds 2 (.ref c));have hec:(Rh.ctx h1 e c).get? e=some (Obj.mapFields (·.setIfInBounds 2 (.ref c)) { cls:=.ref C,data:=.fields #[.ref t,.none,.none,.none,.bool false,.none] }):=Heap.get?_update_self _ he (Obj.isFreed_of_fields d2);have hfr:(Rh.ctx h1 e c).FunFrames (W.hideAll s.heap (f9 (envOfC qual scope s0.heap.objs.size f cd::outer))) (envOfC qual scope s0.heap.objs.size f cd::outer):=hl.of_keeps λb o hb _=>⟨o,kc b o hb,rfl⟩
 have hst:(W.hideAll s.heap (f9 (envOfC qual scope s0.heap.objs.size f cd::outer))).StaysIn (Rh.ctx h1 e c):=λb o q=>kc b o (W.of_hideAll _ q);unfold notedBy;refine uJ (s:={ s with heap:=Rh.ctx h1 e c }) (a0:=.ref t) I.ok.frames hfr rfl hec hst hen d2 rfl rfl (λz=>absurd (gN _ _) z) λg ⟨k1,k2,k3,k4⟩ dg=>?_;rw[gN]at dg;refine Ej (s:={ s with heap:=g }) rfl k1 k2 k3 dg λg2 m1 m2 m3 m4 dg2=>?_;show wpAny (model P w) _ (leaving (envOfC qual scope s0.heap.objs.size f cd) (.ref e)) _ _ _;unfold leaving;refine wpAny_bind (wpAny_noteFrame_againW rfl m3 ?_);refine iP (s:={ s with heap:=g2 }) m1 m2 m3 dg2 λh' x1 x2 x3 x4 dh=>?_;have up:(Rh.ctx h1 e c).UpToSlots h':=λb o q z=>by
  obtain⟨sl,y⟩:=k4 b o q z;exact⟨sl,x4 b _ (m4 b _ y z) z⟩
 obtain⟨_,_,x2'⟩:=x2;have hcl:(Obj.mapFields (·.setIfInBounds 2 (.ref c)) { cls:=.ref C,data:=.fields #[.ref t,.none,.none,.none,.bool false,.none] }:Obj).cls=.ref C:=Obj.cls_mapFields _ _;rw[hcl]at x3;refine yh rfl I (s1:={ s with heap:=Rh.ctx h1 e c }) (H1:=H) rfl I.bare (Un.kept kc) (I.hok.kept kc) hn hst hfr (λb hb h=>?_) ⟨x1,hen,x2',x3⟩ up ⟨none,⟨_,dh,.inl rfl⟩,hE⟩;have:∃o,s.heap.get? b=some o:=by
  rcases h with h|h
  .cases q:H b with
   |none=>exact absurd q h
   |some o=>exact cm.there (I.hok b o q)
  .exact h
 obtain⟨o,q⟩:=this;exact⟨o,W.hideAll_get _ q hb⟩
end
section
variable {X:Cx}{pins:List (Addr×Obj)}{σ:L2.St}{H:Hp}{s:Shared}{e:Addr}
def Fp{H1:Hp}{s1 s':Shared}{Ex:XK}{ev:Value}{c:Str}{np hpos:Pos}{ba:Stmt}{suite:List Stmt}{rest:List ExceptHandler}{cv:Value}{D:gW}(hstk:X.stack=X.env::X.outer/\X.env.frame=some X.env.locals)(I:Inv X pins σ H1 s1)
  (h:fj X.prog X.w X.stack H1 s1 Ex ev s')(hg:Gl X c)(hm:X.mg c=some cv)(hx:∀C ox H',Ex (.ref C) ox H'->W.exmOne X.K (.ref C) cv=some true)
  (hs:∀ea C dc oc ox H' s2,Ex (.ref C) ox H'->(ox=none∨ox=dc)->H' ea=none->jA s2.heap ea dc->s2.heap.get? ea=some oc->Inv (DL.hand X ea) pins σ (upd H' ea (.ext (λg=>g.get? ea=some oc))) s2 ->
   wpAny (model X.prog X.w) (X.A.mark (some (.ref ea))) (execs (ba::suite) X.env) (SP (DL.hand X ea) pins D) (notedBy (model X.prog X.w) (X.A.mark (some (.ref ea))) X.env λx s3=>cameBackBy (model X.prog X.w) X.A X.env X.xe x s3) s2)
  (hdb:(c==("__debug__":Str))=false:=by decide) :
  wpAny (model X.prog X.w) X.A (noteFrame ev X.env) (λ_ si=>wpAny (model X.prog X.w) X.A (setFlight ev none) (λ_ sj=>
   wpAny (model X.prog X.w) X.A (handleBy ev X.env (.ExceptHandler (some (.Name c np)) none (ba::suite) hpos::rest)) (SP X pins D) X.xe sj) X.xe si) X.xe s':=by
 obtain⟨ea,C,a0,B,H',rfl,os,bare,un,hok,hne,fl,hB,ox,⟨dc,hdc,hox⟩,hE⟩:=h;have hA:X.A.frames=some (X.env::X.outer):=by rw[←hstk.1];exact I.ok.frames
 have fl0:=fl;rw[hstk.1]at fl;have hf1:∀b∈f9 X.stack,H' b=none:=λb hb=>by
  obtain⟨_,o,ho,_⟩:=I.stack.mem hb;exact un.free b o ho (I.stkFree b hb) (by simp)
 have hnew:s1.heap.get? ea=none:=by
  cases q:s1.heap.get? ea with
  |none=>rfl
  |some o=>
   by_cases hb:ea∈f9 X.stack
   .obtain⟨_,o',ho',hd⟩:=fl0.2.2.1.mem hb
    obtain⟨oe,vs,he,_,hd',_⟩:=fl0.first
    rw[ho']at he;cases he;exact absurd hd' (hd vs)
   .obtain⟨u,hu⟩:=hB ea hb (.inr ⟨o,q⟩)
    rw[fl.2.1]at hu;cases hu
 have inv:∀g,B.StaysIn g->s'.heap.UpToSlots g->Inv X pins σ H' { s' with heap:=g }:=λg k up=>
  I.call' (ch:=[]) os (Un.fly un fl0.1 fl0.2.2.1 hB k up) (gh.fly hok hf1 fl0.1 hB k) bare (λ_ z=>nomatch z)
 have invx:∀g oc,B.StaysIn g->s'.heap.UpToSlots g->g.get? ea=some oc->Inv X pins σ (upd H' ea (.ext (λg=>g.get? ea=some oc))) { s' with heap:=g }:=λg oc k up p=>
  I.call' (ch:=[]) os (Un.ext (Un.fly un fl0.1 fl0.2.2.1 hB k up) hne hnew) (gh.ext (gh.fly hok hf1 fl0.1 hB k) hne p ⟨oc,p⟩ (λg1 g2 x y=>y oc x)) bare (λ_ z=>nomatch z)
 refine uK hA hstk.2 fl hdc λh4 held4 up4 dc4=>?_;refine uL held4 dc4 λh5 fl5 up5 dc5=>?_;have I5:Inv (DL.hand X ea) pins σ H' { s' with heap:=h5 }:=Inv.hand (inv h5 fl5.1 (up4.trans up5));refine wpAny_handleBy_cons (codeAny_handlers_test ?_) (by intro q;cases q);refine gA I5 hg hm ?_ hdb;obtain⟨ob,hob,hoc⟩:=fl5.there;have LT:W.Looks (model X.prog X.w) h5 (typeOf (.ref ea)) (.ref C):=hoc▸(W.Looks.ld hob).andThen .now;refine(W.exm_one I5.kIn LT (hx C ox H' hE)).here ?_;refine codeAny_handlers_suite ?_;refine uN fl5 dc5 λh6 fl6 up6 dc6=>?_;obtain⟨oe,vs,he,hc,hd,_⟩:=fl6.first
 have I6:Inv (DL.hand X ea) pins σ (upd H' ea (.ext (λg=>g.get? ea=some oe))) { s' with heap:=h6 }:=Inv.hand (invx h6 oe fl6.1 ((up4.trans up5).trans up6) he);refine wpAny_mono (hs ea C dc oe ox H' _ hE hox hne dc6 he I6) (λf s8 h8=>?_) λ_ _ z=>z;cases f with|next|brk|cont=>obtain⟨σ',H2,J,q⟩:=h8;exact⟨σ',H2,fU I.ok J,q⟩|ret u=>obtain⟨v,σ',H2,J,r,q⟩:=h8;exact⟨v,σ',H2,fU I.ok J,r,q⟩
end
def Ab(hit:Str->Bool)(x:Str)(fa:Ev->au (ac))(ρ:Ev)(y:CF):au Fl:=if hit y.cls=true/\y.flds.isEmpty=false then(match fa ρ with|.ok ds=>if ds.length<=line then .exn ⟨x,[]⟩ else .stuck|_=>.stuck) else .stuck
def mB(g:bv)(hit:Str->Bool)(x:Str)(fa:Ev->au (ac)):bv:=λρ=>match g ρ with
 |.exn y=>Ab hit x fa ρ y
 |r=>r
section
variable {P:Program}{w:World}{K:W.Frag}{mg:Str->Option Value}{base:Heap}{N:List Str}{qual:Str}{scope:Scope}{f:Addr}{cd:Value}{A:Around}{outer:List PySem.Env}{s0:Shared}{H0:Hp}{E:XK}{He H0e:Hp}
def Fb{st:Stmt}{g:bv}{hit:Str->Bool}{c x:Str}{np xp cpos rpos hpos pos:Pos}{cv:Value}{C:Addr}{e:Expr}{es:List Expr}{fa:Ev->au (ac)}(hb:TB (cL (fj P w) P w K mg base N qual scope f cd A outer s0 H0 E) st g)
  (hg:Gl (cL (fj P w) P w K mg base N qual scope f cd A outer s0 H0 E) c)(hm:mg c=some cv)(hhit:∀x C,hit x=true->XC K x C->W.exmOne K (.ref C) cv=some true)
  (k:Cp K x C)(hmx:mg x=some (.ref C))(hgx:Gl (cL (fj P w) P w K mg base N qual scope f cd A outer s0 H0 E) x)
  (ha:∀ea,DA (DL.hand (cL (fj P w) P w K mg base N qual scope f cd A outer s0 H0 E) ea) E0 (e::es) fa)(hdb:(c==("__debug__":Str))=false:=by decide)(hdx:(x==("__debug__":Str))=false:=by decide)
  (he:starEach (e::es) (cL (fj P w) P w K mg base N qual scope f cd A outer s0 H0 E).env=(false,eval e (cL (fj P w) P w K mg base N qual scope f cd A outer s0 H0 E).env)::starEach es (cL (fj P w) P w K mg base N qual scope f cd A outer s0 H0 E).env:=by exact aN rfl)
  (hpl:(backTo cpos (starEach es (cL (fj P w) P w K mg base N qual scope f cd A outer s0 H0 E).env)).any (·.1)=false:=by exact bD rfl) :
  DS (cL (fj P w) P w K mg base N qual scope f cd A outer s0 H0 E) E He H0e (.Try [st] [.ExceptHandler (some (.Name c np)) none [.Raise (some (.Call (.Name x xp) (e::es) [] cpos)) none rpos] hpos] [] [] pos) (mB g hit x fa):=by
 refine⟨?_⟩;intro pins s σ H D I ⟨Ha,ρ,h,q⟩;have hq:vt K He H0e Ha (g ρ) D:=by
  unfold mB at q;cases e1:g ρ with
  |exn x=>trivial|stuck=>rw[e1]at q;exact q
  |ok r=>rw[e1]at q;cases r<;>exact q
 refine wpAny_Try_except (wpAny_execs_cons (dy (hb.o pins s σ H He H0e Ha ρ D _ I h hq λH1 s1 ev s' I1 hc=>?_) λfl s1 hf=>?_))
 .have hit1:∀y,g ρ=.exn y->(hit y.cls=true/\y.flds.isEmpty=false)/\∃ds,fa ρ=.ok ds/\ds.length<=line/\bZ K E He H0e Ha (.exn ⟨x,[]⟩) D:=λy e1=>by
   unfold mB at q;rw[e1]at q;have q:bZ K E He H0e Ha (Ab hit x fa ρ y) D:=q;unfold Ab at q
   by_cases z:hit y.cls=true/\y.flds.isEmpty=false
   .rw[if_pos z]at q
    refine⟨z,?_⟩;cases e2:fa ρ with
    |stuck|exn u=>rw[e2]at q;exact q.elim
    |ok ds=>
     rw[e2]at q;have q:bZ K E He H0e Ha (if ds.length<=line then au.exn ⟨x,[]⟩ else .stuck) D:=q
     by_cases hl:ds.length<=line
     .rw[if_pos hl]at q;exact⟨ds,rfl,hl,q⟩
     .rw[if_neg hl]at q;exact q.elim
   .rw[if_neg z]at q;exact q.elim
  refine Fp ⟨rfl,rfl⟩ I1 hc hg hm (λC ox H' ⟨y,Ha',e1,_,_,⟨⟨c',ec,xc⟩,_⟩⟩=>?_) (λea C' dc oc ox H' s2 ⟨y,Ha',e1,sm,srx,⟨⟨c',ec,xc⟩,hm2⟩⟩ hox hne hdc hoc I2=>?_) hdb
  .cases ec;exact hhit _ _ (hit1 y e1).1.1 xc
  .cases ec
   obtain⟨⟨_,hfl⟩,ds,e2,hl,q2⟩:=hit1 y e1;have hdn:dc≠none:=by
    rintro rfl;have:ox=none:=by rcases hox with z|z<;>exact z
    subst this;have hm2:y.flds=[]:=hm2;rw[hm2]at hfl;cases hfl
   obtain⟨oc',go,_,cx⟩:=hdc;rw[hoc]at go;cases go;obtain⟨vs2,dv,c2⟩:=cx hdn;have srx2:=srx.grow (aO (o:=.ext (λg=>g.get? ea=some oc)) srx.g.sub hne);refine wpAny_execs_cons ?_;obtain⟨bm,Nn,nm,qn,bs,hdct,sn,sub,ab,col,dd,k0,k1,k2,k3,k5,mN,hC,hN,hni,T⟩:=k.obj I2.ok.mod.kin;refine Rh.exec_some (C:=C) (c:=ea) (nm:=nm) (q:=qn) (N:=Nn) (bs:=bs) (bm:=bm) (hdct:=hdct) (sn:=sn) (sub:=sub) (ab:=ab) (col:=col) (dd:=dd) (k0:=k0) (k1:=k1) (k2:=k2) (k3:=k3) (k5:=k5)
    PySem.F.excBase_ValueError (mN:=mN) (T.hasType PySem.F.excBase_ValueError.hasBase) rfl (by rw[he];show(false||(backTo cpos (starEach es (cL (fj P w) P w K mg base N qual scope f cd A outer s0 H0 E).env)).any (·.1))=false;rw[hpl];rfl) hni (gA I2 hgx hmx ⟨rfl,?_⟩ hdx)
   have h1:=(ha ea).o cpos pins s2 σ _ (λus H2=>us.length<=sizeLine/\aE (upd H' ea (.ext (λg=>g.get? ea=some oc))) H2/\∃H02,bH He H0e H2 H02) I2 ⟨upd Ha' ea (.ext (λg=>g.get? ea=some oc)),ρ,srx2.g.sub,srx2.rd,by
    rw[e2];exact λus H2 H02 g2 rp=>⟨by rw[←rp.length];exact dS hl,g2.s,H02,srx2.g.trans g2⟩⟩
   have h1:wpAny (model P w) ((cL (fj P w) P w K mg base N qual scope f cd A outer s0 H0 E).A.mark (some (.ref ea))) (spliced (backTo cpos (starEach (e::es) (cL (fj P w) P w K mg base N qual scope f cd A outer s0 H0 E).env))) _ _ s2:=h1;rw[he]at h1 ⊢;refine Calls.evalArgs_plain (wpAny_mono h1 (λus s3 h2=>?_) λ_ _ y=>y.elim);obtain⟨us',H2,I3,rv,hl2,sm2,H02,G2⟩:=h2;have I3:Inv (cL (fj P w) P w K mg base N qual scope f cd A outer s0 H0 E) pins σ H2 s3:=fU I.ok I3;have gE:∃oc vs,s3.heap.get? ea=some oc/\oc.data=.fields vs/\vs[2]?=some .none:=by
    obtain⟨z,_,_⟩:=(show cm P w H2 s3.heap ea (.ext (λg=>g.get? ea=some oc)) from I3.hok ea _ (sm2 _ _ aF))
    exact⟨oc,vs2,z,dv,c2⟩
   exact⟨rfl,by rw[←rv.length];exact hl2,I3.bk _ _ hC,hN.keeps I3.bk,T.keeps I3.bk,gE,λh' ee hx=>uE I3 hx (q2 (.ref C) none H2 H02 G2 ⟨⟨C,rfl,k.xc⟩,rfl⟩)⟩
 .cases fl with
  |next=>exact wpAny_execs_nil (wpAny_execs_nil hf)
  |brk=>exact hf
  |cont=>exact hf
  |ret u=>exact hf
end
def Ld(S:Addr->Prop)(H Hf:Hp):Prop:=∀c,((S c/\∃us,H c=some (.lst us))->∃us o,H c=some (.lst us)/\Hf c=some (.frz o (.lst us)))/\(¬(S c/\∃us,H c=some (.lst us))->Hf c=H c)
def HE{P:Program}{w:World}{h:Heap}{S:Addr->Prop}{H:Hp}(ok:gh P w H h):Ld S H (pT h S H):=λc=>
 ⟨λz9=>by
  obtain⟨h1,us,e⟩:=z9;obtain⟨_,its,n,_,eo⟩:=ok c _ e;exact⟨us,_,e,yc h1 e eo⟩,λhc=>iO hc⟩
def wW{X:Cx}{pins:List (Addr×Obj)}{σ:List (Option V)}{H:Hp}{s:Shared}{S:Addr->Prop}(I:Inv X pins σ H s):Inv X pins σ (pT s.heap S H) s:=by
 have hout:∀c,H c=none->pT s.heap S H c=none:=λc e=>by
  rw[iO (λz=>by obtain⟨_,us,z⟩:=z;rw[e]at z;cases z)];exact e
 have keep:∀b u,H b=some u->(∀us,u≠.lst us)->pT s.heap S H b=some u:=λb u e n=>by
  rw[iO (λz=>by obtain⟨_,us,z⟩:=z;rw[e]at z;cases z;exact n us rfl)];exact e
 refine⟨I.ok,I.os,I.bare,⟨I.base.keep,I.base.slot,λb o e n hx=>hout _ (I.base.free b o e n hx),I.base.there,λb xs e=>keep _ _ (I.base.tups b xs e) (λ_ z=>by cases z),λb o u e=>keep _ _ (I.base.frzs b o u e) (λ_ z=>by cases z),λb ps e=>?_⟩,I.loc,I.cell,hout _ I.free,λx c e=>hout _ (I.freeC x c e),λp hp=>?_,Ef I.hok,I.len⟩
 .obtain⟨m,h1⟩:=I.base.tbls b ps e
  exact⟨m,keep _ _ h1 (λ_ z=>by cases z)⟩
 .obtain⟨h1,h2,h3⟩:=I.pin p hp
  exact⟨h1,hout _ h2,h3⟩
def vE{X:Cx}{st:List Stmt}{t:TS}(h:nI X st t):nI X st λG σ H=>∃S,∀Hf,Ld S H Hf->t G σ Hf :=
 λpins s σ H G I ⟨S,q⟩=>h pins s σ _ G (wW I) (q _ (HE I.hok))
def zO{X:Cx}{pins:List (Addr×Obj)}{σ:List (Option V)}{H H2:Hp}{s:Shared}(v:Vw (λc=>∀o u,X.Ha c≠some (.frz o u)) H H2)(I:Inv X pins σ H s):Inv X pins σ H2 s:=by
 refine⟨I.ok,I.os,I.bare,⟨I.base.keep,I.base.slot,λb o e n hx=>v.none (I.base.free b o e n hx),I.base.there,λb xs e=>v.keep (I.base.tups b xs e) (λ_ _ z=>by cases z),λb o u e=>?_,λb ps e=>?_⟩,I.loc,I.cell,v.none I.free,λx c e=>v.none (I.freeC x c e),λp hp=>?_,λa o e=>?_,I.len⟩
 .have h1:=I.base.frzs b o u e
  rcases v b with h|⟨h,_⟩
  .rw[h];exact h1
  .exact absurd e (h o u)
 .obtain⟨m,h1⟩:=I.base.tbls b ps e
  exact⟨m,v.keep h1 (λ_ _ z=>by cases z)⟩
 .obtain⟨h1,h2,h3⟩:=I.pin p hp
  exact⟨h1,v.none h2,h3⟩
 .rcases v a with h|⟨_,ob,u,h,h2⟩
  .rw[h]at e;exact cm.view v (I.hok a o e)
  .rw[h2]at e;obtain rfl:u=o:=Option.some.inj e
   obtain⟨_,q⟩:=(show cm X.prog X.w H s.heap a (.frz ob u) from I.hok a _ h)
   exact cm.view v q
def yW{X:Cx}{st:List Stmt}{t:TS}(h:nI X st t):nI X st λG σ H=>∃H2,Vw (λc=>∀o u,X.Ha c≠some (.frz o u)) H H2/\t G σ H2 :=
 λpins s σ H G I ⟨H2,v,q⟩=>h pins s σ H2 G (zO v I) q
structure TP (K:W.Frag) (He Ha:Hp) (σ:L2.St) (H:Hp) (x:Nat) (d:D):Prop where
 p:∃t a0 us0 a1 us1 wr,σ[x]?=some (some (.ref t))/\iZ K H t (.ref a0::.ref a1::wr)/\Rep K (frz He Ha H) d (.ref t)/\H a0=some (.lst us0)/\He a0=none/\Ha a0=none/\H a1=some (.lst us1)/\He a1=none/\Ha a1=none/\us1.length<line
def TP.same{K:W.Frag}{He Ha H H':Hp}{σ:L2.St}{x:Nat}{d:D}(h:TP K He Ha σ H x d)(s:aE H H'):TP K He Ha σ H' x d:=by
 obtain⟨t,a0,us0,a1,us1,wr,h1,h2,h3,h4,h5,h6,h7,h8,h9,hl⟩:=h;exact⟨t,a0,us0,a1,us1,wr,h1,aE.sqT s h2,h3.mono (Bu s),s _ _ h4,h5,h6,s _ _ h7,h8,h9,hl⟩
def MT(K:W.Frag)(E:XK)(He H0e:Hp)(x:Nat)(g:D->bv):TS:=λG σ H=>∃Ha ρ d,eG K He H0e Ha σ H ρ/\TP K He Ha σ H x d/\bZ K E He H0e Ha (g d ρ) G
structure MH (X:Cx) (E:XK) (He H0e:Hp) (x:Nat) (st:List Stmt) (g:D->bv):Prop where
 o:nI X st (MT X.K E He H0e x g)
def Kb(js:cr)(ρ:Ev):Bool:=js.all λj=>match ρ[j]? with
 |some (.sh d)=>cN d
 |_=>true
def Ka(d:D):Bool:=match d with
 |.tup (.ob .pl _::.ob .pl es::_)=>decide (es.length<line)
 |_=>false
section
variable {X:Cx}{E:XK}{He H0e:Hp}{x:Nat}{st:Stmt}{rest:List Stmt}{e c:Expr}{pos:Pos}{f:am}{g:D->bv}{s r:bv}
def rm(r:bv):D->bv:=λ_ ρ=>if CB ρ=true then r ρ else .stuck
def Ad{y:Str}{k k':Int}{jj jk jn}{p0 p1 p2 p3 p4 p5 q0 q1 q2 q3 q4 q5 q6:Pos}(hk:k=0)(hk':k'=1)(hN:X.N[x]?=some y)(hv:vd X.env.scope y)(hr:tq X E He H0e rest r)
  (hd:(y==("__debug__":Str))=false:=by decide)(hcd:(y==("__classdict__":Str))=false:=by decide)(hix:jz (.Constant (.int k) jj p4):=by exact λ_ _=>rfl)(hix':jz (.Constant (.int k') jk q4):=by exact λ_ _=>rfl)
  (hbase:attributeBase (.Subscript (.Name y p1) (.Constant (.int k) jj p4) p0) "clear" X.env (eval (.Subscript (.Name y p1) (.Constant (.int k) jj p4) p0) X.env)=eval (.Subscript (.Name y p1) (.Constant (.int k) jj p4) p0) X.env:=by rfl)(hline:(p2.endLine==p3.line)=true:=by rfl)
  (hw:swapsWith (.Call (.Attribute (.Subscript (.Name y p1) (.Constant (.int k) jj p4) p0) "clear" p2) [] [] p3) none p5.line X.env=pure false:=by rfl)
  (hbase':attributeBase (.Subscript (.Name y q1) (.Constant (.int k') jk q4) q0) "append" X.env (eval (.Subscript (.Name y q1) (.Constant (.int k') jk q4) q0) X.env)=eval (.Subscript (.Name y q1) (.Constant (.int k') jk q4) q0) X.env:=by rfl)
  (hfew:((backTo q3 (starEach [.Constant .none jn q6] X.env)).all (λx=>!x.1)&&(backToKw q3 (keywordEach [] X.env)).all (λx=>x.1.isSome)
  &&decide ([(.Constant .none jn q6:Expr)].length+([]:List Keyword).length+(if([]:List Keyword).isEmpty then 0 else 1)<30))=true:=by exact j9 rfl)
  (hline':(q2.endLine==q3.line)=true:=by rfl) (hs:starEach [.Constant .none jn q6] X.env=(false,eval (.Constant .none jn q6) X.env)::starEach [] X.env:=by exact aN rfl) (hplain:(backTo q3 (starEach [] X.env)).any (·.1)=false:=by exact bD rfl)
  (hw':swapsWith (.Call (.Attribute (.Subscript (.Name y q1) (.Constant (.int k') jk q4) q0) "append" q2) [.Constant .none jn q6] [] q3) none q5.line X.env=pure false:=by rfl) :
  MH X E He H0e x (.Expr (.Call (.Attribute (.Subscript (.Name y p1) (.Constant (.int k) jj p4) p0) "clear" p2) [] [] p3) p5::.Expr (.Call (.Attribute (.Subscript (.Name y q1) (.Constant (.int k') jk q4) q0) "append" q2) [.Constant .none jn q6] [] q3) q5::rest) (rm r):=by
 refine⟨?_⟩;have h1:=gY (AX PySem.F.plainAttrs_list PySem.F.slot_list_clear PySem.F.type_list_clear Bb (uc kT (eR hN hv hd hcd) ot hix) hbase hline) hw;have h2:=gY (ud PySem.F.plainAttrs_list PySem.F.slot_list_append PySem.F.type_list_append kq (uc kT (eR hN hv hd hcd) ot hix') (dP (vJ (j:=jn) (pos:=q6)) gi hs) hbase' hfew hline' hs hplain) hw';refine dE (c8 h1 (c8 h2 hr.o)) λG σ H ⟨Ha,ρ,d,h,t,q⟩=>?_;unfold rm at q
 by_cases hn:CB ρ=true
 rotate_left
 .rw[if_neg hn]at q;exact q.elim
 rw[if_pos hn]at q;obtain⟨t,a0,us0,a1,us1,wr,e1,ht,_,c0,n0,m0,c1,n1,m1,hl⟩:=t;refine⟨.ref t,e1,?_⟩;refine⟨t,.ref a0::.ref a1::wr,k,.ref a0,rfl,rfl,ht,by rw[hk];exact dD (j:=0) rfl,.inl ⟨rfl,us0,fL.of c0⟩,a0,us0,rfl,rfl,c0,?_⟩;have htn:iZ X.K (upd H a0 (.lst [])) t (.ref a0::.ref a1::wr):=by
  rcases ht with z|z
  .refine .inl ?_
   rcases z with z|⟨o,z⟩
   .exact .inl (by rw[aD (by intro y;subst y;rw[c0]at z;cases z)];exact z)
   .exact .inr ⟨o,by rw[aD (by intro y;subst y;rw[c0]at z;cases z)];exact z⟩
  .exact .inr z
 obtain⟨us,hu,hul⟩:∃us,upd H a0 (.lst []) a1=some (.lst us)/\us.length<sizeLine:=by
  by_cases c:a1=a0
  .subst c;exact⟨[],aF,by decide⟩
  .exact⟨us1,by rw[aD c];exact c1,Nat.lt_of_lt_of_le hl (by decide)⟩
 refine⟨.ref t,e1,?_⟩;refine⟨t,.ref a0::.ref a1::wr,k',.ref a1,rfl,rfl,htn,by rw[hk'];exact dD (j:=1) rfl,.inl ⟨rfl,us,fL.of hu⟩,?_⟩;refine⟨a1,us,.non,rfl,rfl,hu,hul,?_⟩;have kp:∀b o,b≠a0->b≠a1->H b=some o->upd (upd H a0 (.lst [])) a1 (.lst (us++[.non])) b=some o:=λb o z0 z1 eb=>by rw[aD z1,aD z0];exact eb
 exact⟨Ha,ρ,h.poke hn (λb o eb=>kp b o (by intro z;subst z;rw[n0]at eb;cases eb) (by intro z;subst z;rw[n1]at eb;cases eb) (h.g.s _ _ eb)) (λb o eb=>kp b o (by intro z;subst z;rw[m0]at eb;cases eb) (by intro z;subst z;rw[m1]at eb;cases eb) (h.g.sub _ _ eb)),q⟩
end
def TP.grow{K:W.Frag}{He Ha H H' Ha':Hp}{σ:L2.St}{x:Nat}{d:D}(h:TP K He Ha σ H x d)(g:bH H Ha H' Ha'):TP K He Ha' σ H' x d:=by
 obtain⟨t,a0,us0,a1,us1,wr,h1,h2,h3,h4,h5,h6,h7,h8,h9,hl⟩:=h;have sF:aE (frz He Ha H) (frz He Ha' H'):=λc o e=>by
  unfold frz at e ⊢;cases q:He c with|none=>rw[q]at e;exact g.s _ _ e|some _=>rw[q]at e;exact g.z _ _ e
 exact⟨t,a0,us0,a1,us1,wr,h1,aE.sqT g.s h2,h3.mono sF,g.s _ _ h4,h5,g.keeps h4 h6,g.s _ _ h7,h8,g.keeps h7 h9,hl⟩
def Je(K:W.Frag)(He Ha:Hp)(σ:L2.St)(H:Hp)(T:List (Nat×D)):Prop:=∀p∈T,TP K He Ha σ H p.1 p.2
def Av(T:List (Nat×D))(ρ:Ev):Ev:=T.foldl (λr p=>r.set p.1 (.sh p.2)) ρ
def Jh(T:List (Nat×D))(ρ:Ev):Ev:=Av T (gz ρ)
theorem pG{K:W.Frag}{J:Hp}{σ:L2.St}:∀{T:List (Nat×D)}{r:Ev},eu K J σ r->(∀p∈T,∃v,σ[p.1]?=some (some v)/\Rep K J p.2 v)->eu K J σ (Av T r)
 |[],r,h,_=>h
 |p::T,r,h,ht=>by
  unfold Av;rw[List.foldl_cons];refine pG (T:=T) (λi d e=>?_) λq hq=>ht q (List.mem_cons_of_mem _ hq)
  by_cases c:p.1=i
  .subst c
   rw[List.getElem?_set_self']at e;cases q:r[p.1]? with|none=>rw[q]at e;cases e|some s=>rw[q]at e;cases e;exact ht p List.mem_cons_self
  .rw[List.getElem?_set_ne c]at e
   exact h i d e
def Je.looks{K:W.Frag}{He H0e Ha H:Hp}{σ:L2.St}{ρ:Ev}{T:List (Nat×D)}(t:Je K He Ha σ H T)(h:eG K He H0e Ha σ H ρ):eu K (frz He Ha H) σ (Jh T ρ) :=
 pG h.looks λp hp=>by
  obtain⟨t,a0,us0,a1,us1,wr,h1,h2,h3,_⟩:=t p hp;exact⟨_,h1,h3⟩
def Je.same{K:W.Frag}{He Ha H H':Hp}{σ:L2.St}{T:List (Nat×D)}(t:Je K He Ha σ H T)(s:aE H H'):Je K He Ha σ H' T:=λp hp=>(t p hp).same s
def LA(K:W.Frag)(E:XK)(He H0e:Hp)(g:List (Nat×D)->bv):TS:=λG σ H=>∃Ha ρ T,eG K He H0e Ha σ H ρ/\Je K He Ha σ H T/\bZ K E He H0e Ha (g T ρ) G
structure zL (X:Cx) (E:XK) (He H0e:Hp) (st:List Stmt) (g:List (Nat×D)->bv):Prop where
 o:nI X st (LA X.K E He H0e g)
section
variable {X:Cx}{E:XK}{He H0e:Hp}{st:Stmt}{rest:List Stmt}{e c:Expr}{pos:Pos}{f:am}{g:List (Nat×D)->bv}{s r:bv}
def pO(f:am)(s:bv)(g:List (Nat×D)->bv):List (Nat×D)->bv:=λT ρ=>(f (Jh T ρ)).bind λb=>match b with
 |.bl true=>(s ρ).bind LQ
 |.bl false=>g T ρ
 |_=>.stuck
def xa{body:List Stmt}(hc:DT X E c f)(hb:tq X E He H0e body s)(hr:zL X E He H0e rest g):zL X E He H0e (.If c body [] pos::rest) (pO f s g):=by
 refine⟨?_⟩;refine dE (c8 (FP hc.o hb.o nt) hr.o) λG σ H ⟨Ha,ρ,T,h,t,q⟩=>?_;refine⟨frz He Ha H,Jh T ρ,h.frz_le,t.looks h,?_⟩;unfold pO at q;cases e1:f (Jh T ρ) with
 |stuck=>rw[e1]at q;exact q|exn y=>rw[e1]at q;exact λC ox H' Ha' g1 ex=>q C ox H' Ha' (h.frz_grow.trans g1) ex
 |ok y=>
  rw[e1]at q;cases y with
  |bl y=>
   cases y with
   |true=>
    intro H' J g1;show if true=true then _ else _
    rw[if_pos rfl];refine⟨Ha,ρ,h.same g1.s,?_⟩;replace q:bZ X.K E He H0e Ha ((s ρ).bind LQ) G:=q;cases e2:s ρ with
    |stuck|exn z=>rw[e2]at q;exact q
    |ok z=>
     rw[e2]at q;cases z with|rt d'=>exact q| _=>exact q.elim
   |false=>
    intro H' J g1;show if false=true then _ else _
    rw[if_neg (by decide)];exact⟨Ha,ρ,T,h.same g1.s,t.same g1.s,q⟩
  |_=>exact q.elim
def qg(i:Nat)(f:am)(g:List (Nat×D)->bv):List (Nat×D)->bv:=λT ρ=>match f ρ with
 |.ok y=>if(T.all λp=>p.1 != i)=true then g T (ρ.set i (.sh y)) else .stuck
 |_=>.stuck
def Af{i:Nat}{y:Str}{pos':Pos}(hN:X.N.Nodup)(hi:X.N[i]?=some y)(hx:zQ X.env.scope y)(he:DE X E e f)(hr:zL X E He H0e rest g)(hs:swapsWith e (some (.Name y pos')) pos.line X.env=pure false:=by rfl)
  (hf:X.fn y=true∨X.env.scope.names.lookup y=some .local := by first|exact .inl rfl|exact .inr rfl|assumption):zL X E He H0e (.Assign [.Name y pos'] e pos::rest) (qg i f g):=by
 refine⟨?_⟩;refine dE (c8 (rN hN hi hx he.o hs hf) hr.o) λG σ H z9=>?_;obtain⟨Ha,ρ,T,h,t,q⟩:=z9;refine⟨Ha,ρ,h.g.sub,h.rd,?_⟩
 unfold qg at q;cases e1:f ρ with
 |stuck|exn z=>rw[e1]at q;exact q.elim
 |ok z=>
  rw[e1]at q;replace q:bZ X.K E He H0e Ha (if(T.all λp=>p.1 != i)=true then g T (ρ.set i (.sh z)) else .stuck) G:=q
  by_cases hT:(T.all λp=>p.1 != i)=true
  rotate_left
  .rw[if_neg hT]at q;exact q.elim
  rw[if_pos hT]at q;intro v H' Ha' g1 rp;refine⟨Ha',ρ.set i (.sh z),T,(h.grow g1).put rp,λp hp=>?_,?_⟩
  .obtain⟨t',a0,us0,a1,us1,wr,h1,h2⟩:=(t p hp).grow g1
   have hne:p.1≠i:=by have:=List.all_eq_true.mp hT p hp;simpa using this
   exact⟨t',a0,us0,a1,us1,wr,by rw[List.getElem?_set_ne (Ne.symm hne)];exact h1,h2⟩
  .cases e2:g T (ρ.set i (.sh z)) with
   |stuck=>rw[e2]at q;exact q
   |exn y=>rw[e2]at q;exact q
   |ok r=>
    rw[e2]at q;cases r with|nx ρ'=>exact λσ2 H2 H02 s2 h2=>q σ2 H2 H02 (g1.z.trans s2) h2|rt d'=>exact q|bk ρ'=>exact λσ2 H2 H02 s2 h2=>q σ2 H2 H02 (g1.z.trans s2) h2|ct ρ'=>exact λσ2 H2 H02 s2 h2=>q σ2 H2 H02 (g1.z.trans s2) h2
end
end DL
namespace DL
open PySem PySem.Spec PyProof.Rows L2 PySem.W
noncomputable abbrev XQ(K:Frag) (q:Str) (C CE f:Addr) (s:Stmt) (ks:List Str):Prop :=
 ∃(oc kV doc pm cd ct:Value) (od an:Option Addr) (sl:Array (Option Value)) (nm qn:Str) (n:Addr) (bs su:List Value) (hq ab:Bool) (sn:List Str) (col:Option Bool) (dd dn:Option Addr) (k0 k1 k2 k3 k5:Option Value) (cn:Value) (es:Array DictEntry) (ep:Nat) (st:Array (Option Value)),
  K.lookup C=some (excClassObj nm qn C n bs [.ref CE,.type "ValueError",.type "Exception",.type "BaseException",.type "object"] hq sn su ab col dd k0 k1 k2 k3 k5 "ValueError.__new__")/\K.lookup n=some ⟨cn,dn,.dict es ep,st⟩/\es.toList.all FR=true/\nsIn K n "__init__"=some (some (.ref f)) /\
  isFn K (.ref f)=true/\K.lookup f=some ⟨oc,od,.func (fnOf "__init__" q (defArgs s) (defBody s) (defScope s) .none kV doc pm an cd ct),sl⟩/\codeIn K cd q=true/\keepIn K (.ref f)=true /\
  findIn K (.ref C) "__setattr__"=some (some (.builtin "object.__setattr__"))/\hasDictIn K C=true/\∀g∈ks,k8 K C g
structure MG (K:Frag) (q:Str) (C f:Addr) (fd:FuncData) (s:Stmt) (ps ks:List Str):Prop where
 Fi:zR K "__init__" q s f fd
 bi:iu K fd ps []
 xi:F9 K C f
 xs:Co K C ks
 xf:isFn K (.ref f)=true
def MO{K:Frag}{q:Str}{C CE f:Addr}{s:Stmt}{ps ks:List Str}(hb:∀{fd},zR K "__init__" q s f fd->iu K fd ps [])(x:XQ K q C CE f s ks)
  (be:excIn K CE [.type "ValueError",.type "Exception",.type "BaseException",.type "object"] "ValueError.__new__"=true):∃fd,MG K q C f fd s ps ks:=by
 obtain⟨_,_,_,_,_,_,_,_,_,_,_,_,_,_,_,_,_,_,_,_,_,_,_,_,_,_,_,_,_,a,b,c,d,e,g,h,i,j,k,l⟩:=x;have F:=wt g h i;have I:=Gj a b c d be;exact⟨_,F,hb F,I,Gg I j k l,e⟩
def Sb(K:Frag)(r:Addr):List Addr->List Bool->Prop
 |[],_=>True
 |_,[]=>False
 |c::cs,b::bs=>subIn K (.ref r) (.ref c)=some b/\Sb K r cs bs
def sb_c{K:Frag}{r c:Addr}{b:Bool}{cs:List Addr}{bs:List Bool}(h:subIn K (.ref r) (.ref c)=some b)(h':Sb K r cs bs):Sb K r (c::cs) (b::bs):=⟨h,h'⟩
theorem xu{K:Frag}{r c:Addr}:∀{cs:List Addr}{bs:List Bool},Sb K r cs bs->∀n:Nat,cs[n]?=some c->subIn K (.ref r) (.ref c)=some (bs.getD n false)
 |[],_,_,_,e=>by cases e
 |_::_,[],h,_,_=>h.elim
 |_::_,_::_,h,0,e=>by cases e;exact h.1
 |_::_,_::_,h,n+1,e=>xu h.2 n e
structure Lm (K:Frag) (x:Str) (r:Addr) (cs:List Addr) (bs:List Bool):Prop where
 xc:XC K x r
 self:subIn K (.ref r) (.ref r)=some true
 ve:subIn K (.ref r) (.type "ValueError")=some true
 sb:Sb K r cs bs
def zI(K:Frag)(cs:List Addr)(l:List (Str×Addr×List Bool)):Prop:=∀q∈l,Lm K q.1 q.2.1 cs q.2.2
def Gi{K:Frag}{cs:List Addr}:zI K cs []:=λ_ h=>nomatch h
def Jp{K:Frag}{cs:List Addr}{l:List (Str×Addr×List Bool)}{x:Str}{r:Addr}{bs:List Bool}(z:Lm K x r cs bs)(h:zI K cs l):zI K cs ((x,r,bs)::l):=λq hq=>by
 rcases List.mem_cons.mp hq with rfl|hq
 .exact z
 .exact h q hq
def MN{K:Frag}{cs:List Addr}{l:List (Str×Addr×List Bool)}{x:Str}{r:Addr}{bs:List Bool}(z:vc K x r)(p:Sb K r cs bs)(h:zI K cs l):zI K cs ((x,r,bs)::l):=Jp ⟨z.xcls.xc,z.self,z.ve,p⟩ h
def MM{K:Frag}{cs:List Addr}{l:List (Str×Addr×List Bool)}{x:Str}{r:Addr}{bs:List Bool}(z:u9 K x r)(p:Sb K r cs bs)(h:zI K cs l):zI K cs ((x,r,bs)::l):=Jp ⟨z.xc,z.self,z.ve,p⟩ h
def nq{K:Frag}{cs:List Addr}{l:List (Str×Addr×List Bool)}(h:zI K cs l)(g:List Bool->Bool){p:Addr->Bool->Prop}(hp:∀{x r bs},Lm K x r cs bs->p r (g bs)):∀q∈l.map λq=>(q.1,g q.2.2),∃C,XC K q.1 C/\p C q.2:=λq hq=>by
 obtain⟨y,hy,rfl⟩:=List.mem_map.mp hq;exact⟨_,(h y hy).xc,hp (h y hy)⟩
def Bo{K:Frag}{cs:List Addr}{l:List (Str×Addr×List Bool)}{x:Str}{C:Addr}{l':List (Str×Bool)}(h:zI K cs l)(z:gF K x C)(n:Nat)(hc:cs[n]?=some C)(hl:l'=l.map λq=>(q.1,q.2.2.getD n false)):∀x D,j0 l' x=true->XC K x D->exmOne K (.ref D) (.ref C)=some true :=
 Bp (hl▸nq h (·.getD n false) (p:=λr b=>exmOne K (.ref r) (.ref C)=some b) λy=>z.exm (xu y.sb n hc))
def Ai{K:Frag}{cs:List Addr}{l:List (Str×Addr×List Bool)}{x:Str}{C:Addr}{t:Str->Option Bool}(h:zI K cs l)(z:gF K x C)(n:Nat)(hc:cs[n]?=some C)(hl:t=jK (l.map λq=>(q.1,q.2.2.getD n false))):lX K t (.ref C) :=
 hl▸iH (p:=λ_ r b=>kitOne K (.ref r) (.ref C)=some b) (nq h (·.getD n false) (p:=λr b=>kitOne K (.ref r) (.ref C)=some b) λy=>z.kit y.self (xu y.sb n hc))
def Gy{K:Frag}{cs:List Addr}{l:List (Str×Addr×List Bool)}{t:Str->Option Bool}(h:zI K cs l)(hl:t=jK (l.map λq=>(q.1,true))):lX K t (.type "ValueError") :=
 hl▸iH (p:=λ_ r b=>kitOne K (.ref r) (.type "ValueError")=some b) (nq h (λ_=>true) (p:=λr b=>kitOne K (.ref r) (.type "ValueError")=some b) λy=>v9 wa y.ve)
def Ks(K:Frag)(cs:List Addr):cr->List Addr->Prop
 |[],[]=>True
 |n::ns,C::Cs=>(∃x,gF K x C)/\cs[n]?=some C/\Ks K cs ns Cs
 |_,_=>False
def Hq{K:Frag}{cs Cs:List Addr}{ns:cr}{n:Nat}{x:Str}{C:Addr}(z:gF K x C)(h:cs[n]?=some C)(r:Ks K cs ns Cs):Ks K cs (n::ns) (C::Cs):=⟨⟨x,z⟩,h,r⟩
theorem xY{K:Frag}{cs:List Addr}{x:Str}{r:Addr}{bs:List Bool}(y:Lm K x r cs bs):∀{ns:cr}{Cs:List Addr},Ks K cs ns Cs->kitAny K (.ref r) (Cs.map Value.ref)=some (ns.any λn=>bs.getD n false)
 |[],[],_=>wb
 |[],_::_,h=>h.elim
 |_::_,[],h=>h.elim
 |n::ns,C::Cs,⟨⟨_,z⟩,hc,h⟩=>by
  have k:=z.kit y.self (xu y.sb n hc);rw[List.any_cons,List.map_cons];cases e:bs.getD n false
  .rw[e]at k;exact Bj k (xY y h)
  .rw[e]at k;exact Bi k
def C8{K:Frag}{cs Cs:List Addr}{ns:cr}{l:List (Str×Addr×List Bool)}{t:Str->Option Bool}(h:zI K cs l)(k:Ks K cs ns Cs)(hl:t=jK (l.map λq=>(q.1,ns.any λn=>q.2.2.getD n false))):tf K t Cs :=
 hl▸iH (p:=λ_ r b=>kitAny K (.ref r) (Cs.map Value.ref)=some b) (nq h (λbs=>ns.any λn=>bs.getD n false) (p:=λr b=>kitAny K (.ref r) (Cs.map Value.ref)=some b) λy=>xY y k)
end DL
namespace DL
open PySem PySem.Spec PyProof.Rows L2
def AM(i:Nat)(ρ:Ev)(ds:ac)(d:D):au Fl:=match d with
 |.int j=>match uA ds.length j with
  |some n=>if ds.length<line then .ok (.nx (ρ.set i (.ow (.lst (ds.eraseIdx n))))) else .stuck
  |none=>.stuck
 |_=>.stuck
def vz(i:Nat)(f:am):bv:=λρ=>ou ρ i λds=>(f ρ).bind (AM i ρ ds)
section
variable {X:Cx}{E:XK}{He H0e:Hp}{e:Expr}{f:am}{pos:Pos}
def BX{i:Nat}{x:Str}{q1 q2 q3:Pos}(hN:X.N[i]?=some x)(hv:vd X.env.scope x)(he:DE X E e f)
  (hd:(x==("__debug__":Str))=false:=by decide)(hcd:(x==("__classdict__":Str))=false:=by decide)
  (hbase':attributeBase (.Name x q1) "pop" X.env (eval (.Name x q1) X.env)=eval (.Name x q1) X.env:=by rfl)
  (hfew':((backTo q3 (starEach [e] X.env)).all (λx=>!x.1)&&(backToKw q3 (keywordEach [] X.env)).all (λx=>x.1.isSome)
  &&decide ([e].length+([]:List Keyword).length+(if([]:List Keyword).isEmpty then 0 else 1)<30))=true:=by exact j9 rfl)
  (hline':(q2.endLine==q3.line)=true:=by rfl) (hs':starEach [e] X.env=(false,eval e X.env)::starEach [] X.env:=by exact aN rfl) (hplain':(backTo q3 (starEach [] X.env)).any (·.1)=false:=by exact bD rfl)
  (hw:swapsWith (.Call (.Attribute (.Name x q1) "pop" q2) [e] [] q3) none pos.line X.env=pure false:=by rfl) :
  DS X E He H0e (.Expr (.Call (.Attribute (.Name x q1) "pop" q2) [e] [] q3) pos) (vz i f):=by
 refine⟨?_⟩;refine dA (gY (ud PySem.F.plainAttrs_list PySem.F.slot_list_pop PySem.F.type_list_pop Ba (eR hN hv hd hcd) (dP he.o gi hs') hbase' hfew' hline' hs' hplain') hw) λD σ H ⟨Ha,ρ,h,q⟩=>?_;obtain⟨ds,p,vs,e1,e2,e3,e4,e5,e6,q⟩:=lz h q;refine⟨.ref p,e2,.inl ⟨rfl,vs,fL.of e5⟩,?_⟩;refine⟨Ha,ρ,h.g.sub,h.rd,plain h q λd v H' Ha' _ g rp q'=>?_⟩;unfold AM at q';cases d with
 |int j=>
  simp only at q';cases e7:uA ds.length j with
  |none=>simp only[e7]at q';exact q'.elim
  |some n=>
   simp only[e7]at q'
   by_cases hl:ds.length<line
   .rw[if_pos hl]at q'
    obtain⟨s1,s2,s3,s4⟩:=sr e7;have hlen:=e6.length;have hl2:ds.length<1000001:=Nat.lt_of_lt_of_le hl (by decide);have e5':H' p=some (.lst vs):=g.s _ _ e5;rw[aA.mp rp];have hn:n<vs.length:=by omega
    refine⟨p,vs,j,n,vs[n],rfl,rfl,e5',by omega,by omega,by rw[←hlen];exact s1,List.getElem?_eq_getElem hn,?_⟩;exact q' σ _ Ha' (aE.refl _) ((h.grow g).write e1 e2 ((e6.mono g.z).erase n))
   .rw[if_neg hl]at q';exact q'.elim
 |_=>exact q'.elim
end
def fgtE(ρ:Ev):Ev:=ρ.map λs=>match s with
 |.sh d=>.sh (fgt d)
 |x=>x
def eu.fgtE{K:W.Frag}{Ha:Hp}{σ:L2.St}{ρ:Ev}(h:eu K Ha σ ρ):eu K Ha σ (fgtE ρ):=λi d e=>by
 unfold DL.fgtE at e;rw[List.getElem?_map]at e;cases q:ρ[i]? with
 |none=>rw[q]at e;cases e
 |some s=>
  rw[q]at e;cases s with
  |sh d'=>
   cases e;obtain⟨v,h1,h2⟩:=h i d' q;exact⟨v,h1,h2.fgt⟩
  |_=>cases e
def l4(x y:Nat)(ρ:Ev)(g:List (Nat×D)->bv)(d:D)(s:Str):au Fl :=
 if Ka d=true then g [(x,d)] ((ρ.set x .no).set y (.sh (.str s))) else match d with
  |.non=>g [] ((ρ.set x (.sh .non)).set y (.sh (.str s)))
  |_=>.stuck
def nW(x y:Nat)(js:cr)(f:am)(g:List (Nat×D)->bv):bv:=λρ=>match f (jY js (fgtE ρ)) with
 |.ok (.tup [d,.str s])=>if Kb js (fgtE ρ)=true/\x<ρ.length/\x≠y then l4 x y ρ g d s else .stuck
 |_=>.stuck
section
variable {X:Cx}{E:XK}{He H0e:Hp}{rest:List Stmt}{e:Expr}{es:List Expr}{pos:Pos}{f:am}{g:List (Nat×D)->bv}
def zx(js:cr){x y k:Nat}{tp:Pos}(hc:X.calm=true)(hE:aE X.Ha He)(he:DE X E e f)(hgs:yH X es (GF [x,y]))(hr:zL X E He H0e rest g)(hs:swapsWithSole [.Tuple es k tp] e pos.line X.env=pure false:=by rfl)(hw:swappedStores [.Tuple es k tp] e X.env=pure none:=by rfl)
  (h1:(assignEach [.Tuple es k tp] X.env).map (·.2)=[assign (.Tuple es k tp) X.env]:=by rfl)(hn:(assignEach es X.env).length=[x,y].length:=by rfl)(hst:(assignEach es X.env).findIdx? (·.1)=none:=by rfl) :
  tq X E He H0e (.Assign [.Tuple es k tp] e pos::rest) (nW x y js f g):=by
 refine⟨?_⟩;refine dE (vE (c8 (rO he.o (vI hc hgs hn hst) hs hw h1) (yW hr.o))) λG σ H ⟨Ha,ρ,h,q⟩=>?_;unfold nW at q;cases e1:f (jY js (fgtE ρ)) with
 |stuck|exn z=>rw[e1]at q;exact q.elim
 |ok dd=>
  rw[e1]at q;replace q:bZ X.K E He H0e Ha (match (au.ok dd:au D) with
   |.ok (.tup [d,.str s])=>if Kb js (fgtE ρ)=true/\x<ρ.length/\x≠y then l4 x y ρ g d s else .stuck
   |_=>.stuck) G:=q
  split at q
  rotate_left
  .exact q.elim
  rename_i d sx z0;cases z0
  by_cases hc:Kb js (fgtE ρ)=true/\x<ρ.length/\x≠y
  rotate_left
  .rw[if_neg hc]at q;exact q.elim
  rw[if_pos hc]at q;obtain⟨hp,hxl,hxy⟩:=hc
  let S:Addr->Prop:=λb=>∃j∈js,∃dj v,(fgtE ρ)[j]?=some (.sh dj)/\σ[j]?=some (some v)/\Ft X.K Ha dj v b
  have s0:∀b,S b->Ha b≠none:=λb ⟨_,_,_,_,_,_,hb⟩=>Ft.some_of hb;refine⟨S,λHf hF=>?_⟩;have hfr:Mt (rst Ha S) (rst Hf S):=λc=>by
   by_cases sc:S c
   .rw[l7 sc,l7 sc]
    cases q0:Ha c with
    |none=>exact absurd q0 (s0 c sc)
    |some o=>
     have hH:=h.g.sub _ _ q0
     by_cases hc:S c/\∃us,H c=some (.lst us)
     .obtain⟨us,ob,z,z2⟩:=(hF c).1 hc
      rw[hH]at z;cases z;exact .inr ⟨us,ob,rfl,z2⟩
     .exact .inl (by rw[(hF c).2 hc,hH])
   .left;unfold rst;rw[if_neg sc,if_neg sc]
  have pj:∀j∈js,∀d',(fgtE ρ)[j]?=some (.sh d')->cN d'=true:=λj hj d' ej=>by
   have:=List.all_eq_true.mp hp j hj;rw[ej]at this;exact this
  refine⟨rst Hf S,jY js (fgtE ρ),AA,λi di ei=>?_,?_⟩
  .obtain⟨hj,ei⟩:=uy ei
   obtain⟨v,h1,h2⟩:=h.rd.fgtE i di ei;exact⟨v,h1,Rep.frv hfr (pj i hj di ei) (Rep.rst (pj i hj di ei) h2 λb hb=>⟨i,hj,di,v,ei,h1,hb⟩)⟩
  rw[e1];intro v H' Hm g1 rp;have hout:∀c,H c=none->Hf c=none:=λc z=>by rw[(hF c).2 (λy=>by obtain⟨_,us,y⟩:=y;rw[z]at y;cases y)];exact z
  have hin:∀c,Hf c=none->H c=none:=λc z=>by
   by_cases hc:S c/\∃us,H c=some (.lst us)
   .obtain⟨us,ob,z1,z2⟩:=(hF c).1 hc
    rw[z]at z2;cases z2
   .rw[←(hF c).2 hc];exact z
  have vw:∀{J:Hp},(∀c,S c->Hf c≠none->J c=Hf c)->Vw (λc=>∀o u,X.Ha c≠some (.frz o u)) J (lU S H J):=λ{J} hJ c=>by
   by_cases hc:S c/\∃us,H c=some (.lst us)
   .obtain⟨us,ob,z1,z2⟩:=(hF c).1 hc
    refine .inr ⟨λo u z=>?_,ob,.lst us,by rw[hJ c hc.1 (by rw[z2];simp)];exact z2,by rw[lT hc];exact z1⟩;have:=h.g.s _ _ (hE _ _ z);rw[z1]at this;cases this
   .exact .inl (iV hc)
  have sH:aE H (lU S H H'):=λc o z=>by
   by_cases hc:S c/\∃us,H c=some (.lst us)
   .rw[lT hc];exact z
   .rw[iV hc];exact g1.s _ _ (by rw[(hF c).2 hc];exact z)
  have nopl:∀c us,Hm c=some (.lst us)->H c=none/\H' c=some (.lst us):=λc us z=>by
   refine⟨?_,g1.sub _ _ z⟩;cases q0:rst Hf S c with
   |none=>exact hin _ (g1.nw c (by rw[z];simp) q0)
   |some o=>
    exfalso;have y:=g1.z _ _ q0;rw[z]at y;cases y;have sc:S c:=xy (by rw[q0];simp);rw[l7 sc]at q0
    by_cases hc:S c/\∃us,H c=some (.lst us)
    .obtain⟨us',ob,z1,z2⟩:=(hF c).1 hc
     rw[z2]at q0;cases q0
    .exact hc ⟨sc,us,by rw[←(hF c).2 hc];exact q0⟩
  have hback:∀{c:Addr},H c=none->∀{J:Hp},lU S H J c=J c:=λ{c} z {J}=>iV (λ⟨_,us,y⟩=>by rw[z]at y;cases y);have hJm:∀c,S c->Hf c≠none->Hm c=Hf c:=λc sc n=>by
   cases q0:Hf c with|none=>exact absurd q0 n|some o=>exact g1.z _ _ (by rw[l7 sc];exact q0)
  have hJ':∀c,S c->Hf c≠none->H' c=Hf c:=λc sc n=>by
   cases q0:Hf c with|none=>exact absurd q0 n|some o=>exact g1.s _ _ q0
  have sF:aE (lU S H Hm) (frz He Ha (lU S H H')):=λc o z=>by
   unfold frz
   by_cases hc:S c/\∃us,H c=some (.lst us)
   .rw[lT hc]at z
    cases q1:He c with
    |none=>simp only;rw[lT hc];exact z
    |some o1=>
     simp only;cases q2:Ha c with|none=>exact absurd q2 (s0 c hc.1)|some o2=>rw[←z];exact(h.g.sub _ _ q2).symm
   .rw[iV hc]at z
    cases q1:He c with
    |none=>simp only;rw[iV hc];exact g1.sub _ _ z
    |some o1=>
     simp only;have hH:=h.g.s _ _ q1;cases q2:rst Hf S c with
     |none=>
      have:=hin _ (g1.nw c (by rw[z];simp) q2);rw[hH]at this;cases this
     |some o2=>
      have y:=g1.z _ _ q2;rw[z]at y;cases y;have sc:S c:=xy (by rw[q2];simp);rw[l7 sc,(hF c).2 hc]at q2;cases q3:Ha c with|none=>exact absurd q3 (s0 c sc)|some o3=>rw[←q2];exact(h.g.sub _ _ q3).symm
  obtain⟨tt,wws,rfl,htt,hww⟩:=aB.mp rp;obtain⟨va,_,rfl,ra,hww⟩:=az.mp hww;obtain⟨vb,wr0,rfl,rb,hww⟩:=az.mp hww;cases Reps.nil_iff.mp hww;cases Rep.str_iff.mp rb;refine⟨tt,[va,.str sx],rfl,.inl (aE.sqT g1.sub htt),rfl,?_⟩;have eV:tT σ [x,y] [va,.str sx]=(σ.set x (some va)).set y (some (.str sx)):=rfl;rw[eV];unfold l4 at q
  by_cases hd:Ka d=true
  rotate_left
  .rw[if_neg hd]at q
   cases d with
   |non=>
    cases aS.mp ra;exact⟨lU S H H',vw hJ',Ha,_,[],((h.same sH).put (i:=x) (aS.mpr rfl)).put (i:=y) (Rep.str_iff.mpr rfl),(show Je _ _ _ _ _ [] from λp hp=>nomatch hp),q⟩
   |_=>exact q.elim
  rw[if_pos hd]at q;have rp2:=(ra.view (vw hJm)).mono sF;unfold Ka at hd;split at hd
  rotate_left
  .cases hd
  rename_i es0 es dr;have hl:es.length<line:=by simpa using hd
  obtain⟨t,ws,rfl,ht,hw⟩:=aB.mp ra;obtain⟨v0,_,rfl,r0,hw⟩:=az.mp hw;obtain⟨v1,wr,rfl,r1,hw⟩:=az.mp hw;obtain⟨a0,us0,rfl,c0,_⟩:=bX.mp r0;obtain⟨a1,us1,rfl,c1,rs1⟩:=bX.mp r1;have k0:=nopl a0 us0 c0;have k1:=nopl a1 us1 c1;refine⟨lU S H H',vw hJ',Ha,_,_,((h.same sH).dropT (i:=x) (v:=.ref t)).put (i:=y) (Rep.str_iff.mpr rfl),λp hp=>?_,q⟩;rw[List.mem_singleton.mp hp];refine⟨t,a0,us0,a1,us1,wr,by rw[List.getElem?_set_ne (Ne.symm hxy),List.getElem?_set_self (by rw[←h.ln];exact hxl)],?_,rp2,?_,h.g.s.free k0.1,h.g.sub.free k0.1,?_,h.g.s.free k1.1,h.g.sub.free k1.1,by rw[←rs1.length];exact hl⟩
  .refine ht.imp (λz=>?_) id
   exact(vw hJ').rd (aE.rd g1.sub z) (λ_ _ z=>by cases z)
  .rw[hback k0.1];exact k0.2
  .rw[hback k1.1];exact k1.2
def Ag(x:Nat)(g:D->bv):List (Nat×D)->bv:=λT ρ=>match T with
 |[(x',d)]=>if x'=x then g d ρ else .stuck
 |_=>.stuck
def Gw{x:Nat}{gd:D->bv}(h:MH X E He H0e x rest gd):zL X E He H0e rest (Ag x gd):=⟨dE h.o λG σ H z9=>by
 obtain⟨Ha,ρ,T,h',t,q⟩:=z9;unfold Ag at q;split at q
 .rename_i x' d
  by_cases c:x'=x
  .subst c
   rw[if_pos rfl]at q;exact⟨Ha,ρ,d,h',t _ List.mem_cons_self,q⟩
  .rw[if_neg c]at q;exact q.elim
 .exact q.elim⟩
end
def Dp(es ds:ac):Bool:=match es,ds with
 |.str _::_,[]=>true
 |.str _::_,.tup _::_=>true
 |_,_=>false
def Bx(js:cr)(ρ:Ev):Bool:=js.all λj=>match ρ[j]? with
 |some (.sh d)=>eW d
 |_=>true
def uw(w:Nat)(js:cr)(ρ:Ev)(es ds dr:ac):Ev:=(jY js ρ).set w (.sh (.tup (.lst es::.lst (ds++[.non])::dr)))
noncomputable def xT(w y:Nat) (js:cr) (f:am) (r:bv) (ρ:Ev) (es ds dr:ac):au Fl :=
 if(Bx js ρ=true/\Dp es ds=true/\flats es=true)/\flats ds=true/\flats dr=true/\ds.length<line/\w≠y then
  match f (uw w js ρ es ds dr) with
  |.ok (.str s)=>r (ρ.set y (.sh (.str s)))
  |_=>.stuck
 else .stuck
def xx(w y:Nat)(js:cr)(f:am)(r:bv):bv:=λρ=>match ρ[w]? with
 |some (.sh (.tup (.ob .pl es::.ob .pl ds::dr)))=>xT w y js f r ρ es ds dr
 |_=>.stuck
section
variable {X:Cx}{E:XK}{He H0e:Hp}{rest:List Stmt}{e:Expr}{f:am}{r:bv}
def BU(js:cr){w y:Nat}{wn yn:Str}{k k':Int}{jk jn jl}{q0 q1 q2 q3 q4 q5 q6 p0 p1 p2 p3 p4 p5 pos pos':Pos}(hk:k=1)(hk':k'=1)(hNd:X.N.Nodup)(hN:X.N[w]?=some wn)(hv:vd X.env.scope wn)(hy:X.N[y]?=some yn)(hx:zQ X.env.scope yn)(he:DE X E e f)(hr:tq X E He H0e rest r)
  (hd:(wn==("__debug__":Str))=false:=by decide)(hcd:(wn==("__classdict__":Str))=false:=by decide)(hix:jz (.Constant (.int k) jk q4):=by exact λ_ _=>rfl)(hix':jz (.Constant (.int k') jl p4):=by exact λ_ _=>rfl)
  (hbase:attributeBase (.Subscript (.Name wn q1) (.Constant (.int k) jk q4) q0) "append" X.env (eval (.Subscript (.Name wn q1) (.Constant (.int k) jk q4) q0) X.env)=eval (.Subscript (.Name wn q1) (.Constant (.int k) jk q4) q0) X.env:=by rfl)
  (hfew:((backTo q3 (starEach [.Constant .none jn q6] X.env)).all (λx=>!x.1)&&(backToKw q3 (keywordEach [] X.env)).all (λx=>x.1.isSome)
  &&decide ([(.Constant .none jn q6:Expr)].length+([]:List Keyword).length+(if([]:List Keyword).isEmpty then 0 else 1)<30))=true:=by exact j9 rfl)
  (hline:(q2.endLine==q3.line)=true:=by rfl) (hs:starEach [.Constant .none jn q6] X.env=(false,eval (.Constant .none jn q6) X.env)::starEach [] X.env:=by exact aN rfl) (hplain:(backTo q3 (starEach [] X.env)).any (·.1)=false:=by exact bD rfl)
  (hw:swapsWith (.Call (.Attribute (.Subscript (.Name wn q1) (.Constant (.int k) jk q4) q0) "append" q2) [.Constant .none jn q6] [] q3) none q5.line X.env=pure false:=by rfl)
  (hsy:swapsWith e (some (.Name yn pos')) pos.line X.env=pure false:=by rfl) (hf:X.fn yn=true∨X.env.scope.names.lookup yn=some .local := by first|exact .inl rfl|exact .inr rfl|assumption)
  (hbase':attributeBase (.Subscript (.Name wn p1) (.Constant (.int k') jl p4) p0) "pop" X.env (eval (.Subscript (.Name wn p1) (.Constant (.int k') jl p4) p0) X.env)=eval (.Subscript (.Name wn p1) (.Constant (.int k') jl p4) p0) X.env:=by rfl) (hline':(p2.endLine==p3.line)=true:=by rfl)
  (hw':swapsWith (.Call (.Attribute (.Subscript (.Name wn p1) (.Constant (.int k') jl p4) p0) "pop" p2) [] [] p3) none p5.line X.env=pure false:=by rfl) :
  tq X E He H0e (.Expr (.Call (.Attribute (.Subscript (.Name wn q1) (.Constant (.int k) jk q4) q0) "append" q2) [.Constant .none jn q6] [] q3) q5::.Assign [.Name yn pos'] e pos::.Expr (.Call (.Attribute (.Subscript (.Name wn p1) (.Constant (.int k') jl p4) p0) "pop" p2) [] [] p3) p5::rest) (xx w y js f r):=by
 refine⟨?_⟩;have h1:=gY (ud PySem.F.plainAttrs_list PySem.F.slot_list_append PySem.F.type_list_append kq (uc kT (eR hN hv hd hcd) ot hix) (dP (vJ (j:=jn) (pos:=q6)) gi hs) hbase hfew hline hs hplain) hw;have h3:=gY (AX PySem.F.plainAttrs_list PySem.F.slot_list_pop PySem.F.type_list_pop Hk (uc kT (eR hN hv hd hcd) ot hix') hbase' hline') hw';refine dE (c8 h1 (c8 (rN hNd hy hx he.o hsy hf) (c8 h3 hr.o))) λG σ H ⟨Ha,ρ,h,q⟩=>?_;unfold xx at q;split at q
 rotate_left
 .exact q.elim
 rename_i es ds dr ew;unfold xT at q
 by_cases hc:(Bx js ρ=true/\Dp es ds=true/\flats es=true)/\flats ds=true/\flats dr=true/\ds.length<line/\w≠y
 rotate_left
 .rw[if_neg hc]at q;exact q.elim
 rw[if_pos hc]at q;obtain⟨⟨c1,c2,c3⟩,c4,c5,c6,c7⟩:=hc;obtain⟨v,hσ,rw_⟩:=h.rd w _ ew;obtain⟨t,vs,rfl,ht,rvs⟩:=aB.mp rw_;obtain⟨v0,_,rfl,r0,rvs⟩:=az.mp rvs;obtain⟨v1,vr,rfl,r1,rvr⟩:=az.mp rvs;obtain⟨a0,ws,rfl,s0,rws⟩:=bX.mp r0;replace s0:Ha a0=some (.lst ws):=s0;obtain⟨a1,us,rfl,s1,rus⟩:=bX.mp r1;replace s1:Ha a1=some (.lst us):=s1;have sH:H a1=some (.lst us):=h.g.sub _ _ s1;have lus:=rus.length;have htH:iZ X.K H t (.ref a0::.ref a1::vr):=aE.sqT h.g.sub ht;have ne0:a0≠a1:=by
  intro z;subst z;have:ws=us:=by rw[s1]at s0;injection s0 with s0;injection s0 with s0;exact s0.symm
  subst this;unfold Dp at c2;split at c2
  .obtain⟨z1,_,z2,_⟩:=az.mp rws
   rw[Reps.nil_iff.mp rus]at z2;cases z2
  .obtain⟨z1,_,z2,z3,_⟩:=az.mp rws
   obtain⟨y1,_,y2,y3,_⟩:=az.mp rus;rw[z2]at y2;injection y2 with y2;rw[←y2,Rep.str_iff.mp z3]at y3;obtain⟨_,_,y4,_⟩:=aB.mp y3;cases y4
  .cases c2
 have tupN:∀{J:Hp}{b:HO},J a1=some (.lst us)->∀a vs,Rd J a (.tup vs)->Rd (upd J a1 b) a (.tup vs):=λ{J b} hJ a vs z=>by
  rcases z with z|⟨o,z⟩
  .exact .inl (by rw[aD (by intro y;subst y;rw[hJ]at z;cases z)];exact z)
  .exact .inr ⟨o,by rw[aD (by intro y;subst y;rw[hJ]at z;cases z)];exact z⟩
 have sqN:∀{J:Hp}{b:HO}{xs:al},J a1=some (.lst us)->iZ X.K J t xs->iZ X.K (upd J a1 b) t xs:=λhJ z=>z.imp (tupN hJ _ _) id;refine⟨.ref t,hσ,?_⟩;refine⟨t,.ref a0::.ref a1::vr,k,.ref a1,rfl,rfl,htH,by rw[hk];exact dD (j:=1) rfl,.inl ⟨rfl,us,fL.of sH⟩,?_⟩;refine⟨a1,us,.non,rfl,rfl,sH,by rw[←lus];exact Nat.lt_of_lt_of_le c6 (by decide),?_⟩;have le:aE (upd Ha a1 (.lst (us++[.non]))) (upd H a1 (.lst (us++[.non]))):=λb o z=>by
  by_cases c:b=a1
  .subst c;rw[aF]at z ⊢;exact z
  .rw[aD c]at z ⊢;exact h.g.sub _ _ z
 refine⟨upd Ha a1 (.lst (us++[.non])),uw w js ρ es ds dr,le,λi d ei=>?_,?_⟩
 .unfold uw at ei
  by_cases ci:w=i
  .subst ci
   rw[List.getElem?_set_self']at ei;cases qk:(jY js ρ)[w]? with
   |none=>rw[qk]at ei;cases ei
   |some sl=>
    rw[qk]at ei;cases ei;refine⟨_,hσ,aB.mpr ⟨t,_,rfl,sqN s1 ht,Reps.cons (aC.mpr ⟨a0,ws,rfl,?_,rws.flat_to (tupN s1) c3⟩) (Reps.cons (aC.mpr ⟨a1,_,rfl,fL.of aF,(rus.flat_to (tupN s1) c4).app (Reps.cons (aS.mpr rfl) Reps.nil)⟩) (rvr.flat_to (tupN s1) c5))⟩⟩;exact fL.of (by rw[aD ne0];exact s0)
  .rw[List.getElem?_set_ne ci]at ei
   obtain⟨hj,ei⟩:=uy ei;obtain⟨v,h1',h2'⟩:=h.rd i d ei;have:=List.all_eq_true.mp c1 i hj;rw[ei]at this;exact⟨v,h1',h2'.flat_to (tupN s1) this⟩
 cases e1:f (uw w js ρ es ds dr) with
 |stuck|exn z=>rw[e1]at q;exact q.elim
 |ok dd=>
  rw[e1]at q;cases dd with
  |str sx=>
   intro v2 H2 H02 g rp;rw[Rep.str_iff.mp rp];have a2:H2 a1=some (.lst (us++[.non])):=g.s _ _ aF;have hw2:(σ.set y (some (V.str sx)))[w]?=some (some (.ref t)):=by rw[List.getElem?_set_ne (Ne.symm c7)];exact hσ
   refine⟨.ref t,hw2,?_⟩;refine⟨t,.ref a0::.ref a1::vr,k',.ref a1,rfl,rfl,aE.sqT g.s (sqN sH htH),by rw[hk'];exact dD (j:=1) rfl,.inl ⟨rfl,_,fL.of a2⟩,?_⟩;refine⟨a1,us++[.non],.non,rfl,rfl,a2,by simp,?_⟩;have eD:(us++[V.non]).dropLast=us:=by simp
   rw[eD];have sm:aE H (upd H2 a1 (.lst us)):=λb o z=>by
    by_cases c:b=a1
    .subst c;rw[aF];rw[sH]at z;exact z
    .rw[aD c];exact g.s _ _ (by rw[aD c];exact z)
   exact⟨Ha,_,(h.same sm).put (i:=y) (Rep.str_iff.mpr rfl),q⟩
  |_=>exact q.elim
end
def GZ(s:Sl):Sl:=match s with
 |.ow (.lst ds)=>.sh (.ob .pl ds)
 |.ow d=>.sh d
 |.ox _ ds=>.sh (.tup ds)
 |x=>x
def rA(ρ:Ev):Ev:=ρ.map GZ
def eG.looksP{K:W.Frag}{He H0e Ha H:Hp}{σ:L2.St}{ρ:Ev}(h:eG K He H0e Ha σ H ρ):eu K (frz He Ha H) σ (rA ρ):=λi d e=>by
 unfold rA at e;rw[List.getElem?_map]at e;cases q:ρ[i]? with
 |none=>rw[q]at e;cases e
 |some s=>
  rw[q]at e;replace e:some (GZ s)=some (.sh d):=e;have base:(gz ρ)[i]?=some (.sh d)->∃v,σ[i]?=some (some v)/\Rep K (frz He Ha H) d v:=λz=>h.looks i d z;have sh:∀s',s'=s->(gz ρ)[i]?=some (match s' with
   |.ow d=>.sh d
   |.ox _ ds=>.sh (.tup ds)
   |x=>x):=λs' z=>by unfold gz;rw[List.getElem?_map,q,z];rfl
  unfold GZ at e;cases s with
  |no|pt a=>cases e|sh d'|ox j ds=>cases e;exact base (sh _ rfl)
  |ow d'=>
   cases d' with
   |lst ds=>
    cases e;obtain⟨a,h1,h2,h3,vs,h5,h6⟩:=h.ow i _ q;exact⟨_,h1,bX.mpr ⟨a,vs,rfl,(show frz He Ha H a=some (.lst vs) from by unfold frz;rw[h2];exact h5),h6.mono h.frz_sub⟩⟩
   |_=>cases e;exact base (sh _ rfl)
def qj(f:am):bv:=λρ=>(f (rA ρ)).bind λd=>.ok (.rt d)
section
variable {X:Cx}{E:XK}{He H0e:Hp}{e:Expr}{f:am}{pos:Pos}
def sS(he:DE X E e f):DS X E He H0e (.Return (some e) pos) (qj f):=by
 refine⟨?_⟩;refine dA (vF he.o) λD σ H z9=>?_;obtain⟨Ha,ρ,h,q⟩:=z9;refine⟨frz He Ha H,rA ρ,h.frz_le,h.looksP,?_⟩
 unfold qj at q;cases e1:f (rA ρ) with|stuck=>rw[e1]at q;exact q|exn x=>rw[e1]at q;exact λC ox H' Ha' g ex=>q C ox H' Ha' (h.frz_grow.trans g) ex|ok d=>rw[e1]at q;exact λv H' J g rp=>q v H' J (h.frz_grow.trans g) rp
end
structure zN (w:World) (K:W.Frag) (mg:Str->Option Value) (x:Str) (c:List (Str×Int)):Prop where
 ex:∃a es ep kvs,mg x=some (.ref a)/\K.lookup a=some ⟨.type "dict",none,.dict es ep,#[]⟩/\(a==sysModules)=false/\(∀P,KeysOf (strKind P w) es)/\(∀P,Pairs (strKind P w) es.toList kvs)/\(kvs.map (·.1)).Nodup/\PyProof.V.FlatPairs PyData.str kvs (PySem.W.kdpD c)
def wm(c:List (Str×Int))(d:D):au D:=match d with
 |.str k=>.ok (.bl (!PySem.W.kdpHas c k))
 |_=>.stuck
def Bs(c:List (Str×Int))(d:D):au D:=match d with
 |.str k=>if PySem.W.kdpHas c k=true then .ok (.int (PySem.W.kdpLook c k 0)) else .stuck
 |_=>.stuck
section
variable {X:Cx}{E:XK}{e:Expr}{f:am}{pos:Pos}{c:List (Str×Int)}
def Gz{a:Addr}{es:Array DictEntry}{ep:Nat}{kvs:List (Str×Value)}{pins:List (Addr×Obj)}{σ:L2.St}{H:Hp}{s:Shared}(I:Inv X pins σ H s)(l:X.K.lookup a=some ⟨.type "dict",none,.dict es ep,#[]⟩)(h0:(a==sysModules)=false)(h1:KeysOf (strKind X.prog X.w) es)(h2:Pairs (strKind X.prog X.w) es.toList kvs)(h3:(kvs.map (·.1)).Nodup)(h4:PyProof.V.FlatPairs PyData.str kvs (PySem.W.kdpD c)) :
  StrTab X.prog X.w s.heap a (PySem.W.kdpD c):=⟨h0,kvs,⟨⟨.type "dict",none,.dict es ep,#[]⟩,es,ep,I.kIn _ _ l,⟨rfl,rfl,rfl⟩,rfl,h1,h2,h3⟩,h4⟩
def FN(a:Addr)(c:List (Str×Int)):R2:=λx y H Q=>∃k,x=.str k/\y=.ref a/\Q (.bl (!PySem.W.kdpHas c k)) H
def DJ{a:Addr}(T:∀{pins σ H s},Inv X pins σ H s->StrTab X.prog X.w s.heap a (PySem.W.kdpD c)):gf X (compareOp .NotIn) (FN a c):=by
 intro pins s σ H x y v u Q I rx ry h;obtain⟨k,rfl,rfl,q⟩:=h;obtain⟨t,rfl⟩:=rx;cases ry;exact PySem.W.kdp_notin (T I) ⟨.bl (!PySem.W.kdpHas c k),H,I.tok _,rfl,q⟩
def wk{x:Str}{p:Pos}{a:Addr}(σ:L2.St)(H:Hp)(Q:VK)(h:tD X.K E (bf f (wm c)) σ H Q):Ji (FN a c) (tD X.K E f) (tC (.ref a)) σ H Q:=by
 obtain⟨Ha,ρ,hs,hr,q⟩:=h;refine⟨Ha,ρ,hs,hr,?_⟩;unfold bf at q;cases e1:f ρ with
 |stuck|exn x=>rw[e1]at q;exact q
 |ok d=>
  rw[e1]at q;intro v H1 H01 g r;replace q:post X.K E H Ha (wm c d) Q:=q;unfold wm at q;cases d with|str k=>rw[Rep.str_iff.mp r];exact⟨k,rfl,rfl,q _ H1 H01 g (aH.mpr rfl)⟩| _=>exact q.elim
def zN.tab{x:Str}(k:zN X.w X.K X.mg x c):∃a,X.mg x=some (.ref a)/\∀{pins σ H s},Inv X pins σ H s->StrTab X.prog X.w s.heap a (PySem.W.kdpD c):=by
 obtain⟨a,es,ep,kvs,h1,h2,h3,h4,h5,h6,h7⟩:=k.ex;exact⟨a,h1,λI=>Gz I h2 h3 (h4 _) (h5 _) h6 h7⟩
def E9{x:Str}{p:Pos}(k:zN X.w X.K X.mg x c)(hg:Gl X x)(he:DE X E e f)(hd:(x==("__debug__":Str))=false:=by decide)(hm:behindInMarks .NotIn (.Name x p)=false:=by rfl):DT X E (.Compare e [.NotIn] [.Name x p] pos) (bf f (wm c)):=by
 obtain⟨a,h1,h2⟩:=k.tab;refine⟨lp (xD (DJ h2) he.o (lq (v:=.ref a) hg h1 rfl hd) hm) λσ H Q h=>?_⟩;refine wk (x:=x) (p:=p) σ H _ ?_;obtain⟨Ha,ρ,hs,hr,q⟩:=h;refine⟨Ha,ρ,hs,hr,?_⟩;cases e1:bf f (wm c) ρ with
 |stuck|exn x=>rw[e1]at q;exact q
 |ok d=>
  rw[e1]at q;intro v H1 H01 g1 r1;cases d with|bl b=>rw[aH.mp r1];exact⟨b,rfl,q H1 H01 g1⟩| _=>exact q.elim
def Fh{x:Str}{p:Pos}(k:zN X.w X.K X.mg x c)(hg:Gl X x)(he:DE X E e f)(hd:(x==("__debug__":Str))=false:=by decide)(hs:K9 e:=by intro _ _;rfl):DE X E (.Subscript (.Name x p) e pos) (bf f (Bs c)):=by
 obtain⟨a,h1,h2⟩:=k.tab;refine⟨λpins s σ H Q I h=>?_⟩;obtain⟨Ha,ρ,hs',hr,q⟩:=h;refine Df PySem.F.slot_dict_getitem.lookup hs (dy (lq (v:=.ref a) hg h1 rfl hd pins s σ H (λy H1=>y=.ref a/\H1=H) I ⟨rfl,rfl⟩) λu s1 ⟨y,H1,I1,ry,e1,e2⟩=>?_);subst e1;subst e2;cases ry;refine dy (he.o pins s1 σ H1 (λv H2=>∃kk,v=.str kk/\PySem.W.kdpHas c kk=true/\Q (.int (PySem.W.kdpLook c kk 0)) H2) I1 ⟨Ha,ρ,hs',hr,?_⟩) λiv s2 ⟨v,H2,I2,rv,kk,ev,hk,q2⟩=>?_
 .unfold bf at q
  cases e1:f ρ with
  |stuck|exn x=>rw[e1]at q;exact q
  |ok d=>
   rw[e1]at q;intro v H2 H02 g r;replace q:post X.K E H1 Ha (Bs c d) Q:=q;unfold Bs at q;cases d with
   |str kk=>
    simp only at q
    by_cases hk:PySem.W.kdpHas c kk=true
    .rw[if_pos hk]at q
     exact⟨kk,Rep.str_iff.mp r,hk,q _ H2 H02 g (aA.mpr rfl)⟩
    .rw[if_neg hk]at q;exact q.elim
   |_=>exact q.elim
 .subst ev
  obtain⟨t,rfl⟩:=rv;obtain⟨lo,kvs,dd,hf⟩:=h2 I2;exact⟨dd.typeIs,PySem.W.kdp_getItem (h2 I2) hk λt=>⟨.int _,H2,I2.tok _,⟨t,rfl⟩,q2⟩⟩
end
inductive my (w:World):List DictEntry->List (Str×Int)->Prop
 |nil:my w [] []
 |cons {h:Int}{k:Str}{t u:Tok}{i:Int}{es:List DictEntry}{c:List (Str×Int)}:h=hashStr w k->my w es c->my w (⟨h,.str k t,.int i u⟩::es) ((k,i)::c)
def my.all{w:World}{es:List DictEntry}{c:List (Str×Int)}(h:my w es c):(∀e∈es,∃k,Value.isStrOf k e.key=true/\e.hash=hashStr w k)/\∃kvs,kvs.map (·.1)=c.map (·.1)/\(∀P,Pairs (strKind P w) es kvs)/\PyProof.V.FlatPairs PyData.str kvs (PySem.W.kdpD c):=by
 induction h with
 |nil=>exact⟨(λ_ z=>nomatch z),⟨[],rfl,(λ_=>.nil),.nil⟩⟩
 |@cons h k t u i es c e _ ih=>
  obtain⟨i1,kvs,i2,i3,i4⟩:=ih;refine⟨λq hq=>?_,(k,.int i u)::kvs,by simp[i2],λP=>.cons (strKind_is P w k t) rfl (i3 P),.cons (.int i u) i4⟩;rcases List.mem_cons.mp hq with rfl|hq
  .exact⟨k,by simp[Value.isStrOf],e⟩
  .exact i1 q hq
def Lc(w:World)(a:Addr)(o:Obj)(c:List (Str×Int)):Prop:=∃es ep,o=⟨.type "dict",none,.dict es ep,#[]⟩/\(a==sysModules)=false/\my w es.toList c/\(c.map (·.1)).Nodup
def D7{w:World}{K:W.Frag}{mg:Str->Option Value}{x:Str}{c:List (Str×Int)}{a:Addr}{o:Obj}(h:mg x=some (.ref a))(l:K.lookup a=some o)(e:Lc w a o c):zN w K mg x c:=by
 obtain⟨es,ep,rfl,h1,h2,h3⟩:=e;obtain⟨i1,kvs,i2,i3,i4⟩:=h2.all;exact⟨a,es,ep,kvs,h,l,h1,λP e he=>i1 e (by simpa using he),i3,by rw[i2];exact h3,i4⟩
end DL
namespace HT
open PySem PySem.Spec PyProof.Rows
section
variable {prog:Program}{w:World}{A:Around}{E:Value->Shared->Prop}{s:Shared}
def getItem_tuple_all{t sl:Addr}{items:Array Value}{vl vu:Value}{lo hi:Option Int}{Q:Value->Shared->Prop}(ht:IsTup s.heap t items)(hs:s.heap.IsSliceOf sl vl vu .none)(pl:IsPart vl lo)(pu:IsPart vu hi)
  (hw:sIx items.size 0 lo=0/\sIx items.size items.size hi=items.size)(h:Q (.ref t) s):wpAny (model prog w) A (getItem (.ref t) (.ref sl)) Q E s:=by
 obtain⟨os,hos,hcs,hds⟩:=id hs;have hTs:s.TypeIs (.ref sl) "slice":=⟨os,hos,hcs⟩
 unfold getItem
 try with_reducible refine wpAny_holding ?_
 first|refine wpAny_bind (wpAny_pure ?_)|skip
 refine wpAny_bind (wpAny_sequenceKey ht.typeIs (by decide) ?_);refine wpAny_bind (wpAny_callSpecial?_slot (name:=Str.ofString "__getitem__") ht.typeIs PyProof.Rows.slot_tuple_getitem
  (wpAny_call_entry PyProof.Rows.slot_tuple_getitem ht.typeIs entry_tuple_getitem ?_ (args_tuple_getitem _ _)))
 show wpAny _ _ (Builtin.Tuple.tupleItemsOf (.ref t) >>= _) _ _ s;refine wpAny_bind (tupleItemsOf_ ht ?_);refine wpAny_bind (wpAny_typeOf hTs ?_);rw[if_pos (by decide)];refine wpAny_bind (iJ hs pl pu ?_);have hyes:(((sIx items.size 0 lo:Nat):Int)==0&&(1:Int)==1&&(sIx items.size items.size hi-sIx items.size 0 lo)==items.size)=true:=by
  rw[hw.1,hw.2];simp
 show wpAny _ _ (if(((sIx items.size 0 lo:Nat):Int)==0&&(1:Int)==1&&(sIx items.size items.size hi-sIx items.size 0 lo)==items.size)=true then _ else _) _ _ s;rw[if_pos hyes];refine wpAny_bind ?_;unfold Builtin.Tuple.tupleIsExact;refine wpAny_bind (wpAny_typeOf ht.typeIs (wpAny_pure ?_));rw[if_pos (by rfl)];refine wpAny_bind (wpAny_rule ?_);exact wpAny_pure ⟨_,rfl,wpAny_pure h⟩
end
end HT
namespace DL
open PySem PySem.Spec PyProof.Rows L2
section
variable {X:Cx}{E:XK}{a:Expr}{f:am}{pos:Pos}
def LR(K:W.Frag):V->Option Int->Option Int->Hp->VK->Prop:=λx lo hi H Q=>∃a xs,x=.ref a/\iZ K H a xs/\(HT.sIx xs.length 0 lo=0/\HT.sIx xs.length xs.length hi=xs.length)/\Q (.ref a) H
def Dj:zP X (LR X.K):=by
 intro pins s σ H x v vl vu lo hi sl Q I rx hs pl pu h;obtain⟨a,xs,rfl,hx,hw,q⟩:=h;cases rx;obtain⟨its,r,ht,hz⟩:=I.tuple hx;have hlen:its.toArray.size=xs.length:=by rw[List.size_toArray];exact r.length.symm
 refine⟨"tuple",_,PyProof.Rows.slot_tuple_getitem.lookup,ht.typeIs,?_⟩;exact HT.getItem_tuple_all ht hs pl pu (by rw[hlen];exact hw) ⟨.ref a,H,I,rfl,q⟩
def jM(x:D)(l h:Option Int):au D:=match x with
 |.tup ds=>if HT.sIx ds.length 0 l=0/\HT.sIx ds.length ds.length h=ds.length then .ok (.tup ds) else .ok (.tup (gk ds l h))
 |_=>.stuck
def IK(f:am)(lo hi:Ev->au (Option Int)):am:=λρ=>(f ρ).bind λx=>(lo ρ).bind λl=>(hi ρ).bind λh=>jM x l h
def zA{lo hi:Option Expr}{p2:Pos}{fl fh:Ev->au (Option Int)}(ha:DE X E a f)(hl:DO X E lo fl)(hh:DO X E hi fh):DE X E (.Subscript a (.Slice lo hi none p2) pos) (IK f fl fh) :=
 ⟨bp (ub (zP.or Dj As) ha.o hl.o hh.o) (mz (m:=jM) λx v l h H Ha Q hs r q=>by
  cases x with
  |tup ds=>
   unfold jM at q;obtain⟨p,vs,rfl,h1,h2⟩:=aB.mp r
   by_cases c:HT.sIx ds.length 0 l=0/\HT.sIx ds.length ds.length h=ds.length
   .simp only[if_pos c]at q
    exact .inl ⟨p,vs,rfl,aE.sqT hs h1,by rw[←h2.length];exact c,q _ H Ha (bH.refl hs) r⟩
   .simp only[if_neg c]at q
    exact .inr ⟨p,vs,rfl,aE.sqT hs h1,by rw[←h2.length];exact c,λn hn=>q _ _ _ (aO hs hn) (aB.mpr ⟨n,_,rfl,iZ.of aF,(h2.cut l h).mono (aO hs hn).z⟩)⟩
  |_=>exact q.elim)⟩
end
end DL
namespace K68
open PySem L2 DL
def jh:List (Str×Bool):=[("NoChange",true),("NoWeb",true)]
def nv:List (Str×Bool):=[("NoChange",false),("NoWeb",true)]
def xo:Str->Option Bool:=jK [("NoChange",true),("NoWeb",true)]
def xm:Str->Option Bool:=jK [("NoChange",false),("NoWeb",false)]
def xj:Str->Option Bool:=jK [("NoChange",true),("NoWeb",false)]
def xh:Str->Option Bool:=jK [("NoChange",false),("NoWeb",true)]
abbrev ck:ac->au D:=Com.ck
abbrev bO:ac->au D:=Com.bO
abbrev dR:ac->au D:=Com.dR
abbrev dF:ac->au D:=Com.dF
abbrev cU:ac->au D:=Com.cU
abbrev aV:ac->au D:=Com.aV
noncomputable def eY:bv :=
 (aw (bb 4 (ar (ag (ah 0) ay) (m1 dH)))
 (aw (bb 5 (ae (ae (ah 2) (dC (.int 0)) aP) (ah 4) cp))
 (aw (bb 6 (ae (ae (ae (ah 5) (dC (.int 1)) bC) (ae (ae (ah 2) (dC (.int 1)) aP) (ae (ah 4) (dC (.int 1)) lP) cp) bC) (ah 4) cp))
 (aw (dJ (ef (ae (ah 1) (ae (ah 4) (dC (.int 1)) lP) uW) (ae (ae (ah 2) (dC (.int 10)) aP) (dC (.int 0)) sV))
 (aw (bb 5 (ah 1))
 (aw (bb 6 (ae (ah 1) (dC (.int 1)) bC))
 av))
 av)
 (aw (bb 7 (dC (.non)))
 (aw (dJ (ae (ae (ah 2) (dC (.int 3)) aP) (dC (.int 0)) sV)
 (aw (bb 7 (ar (ag (ar (ag (ae (ah 2) (dC (.int 7)) aP) (ag (ae (ae (ah 2) (dC (.int 8)) aP) (ae (dC (.int 10)) (dC (.int 6)) gP) cp) (ag (ae (ae (ah 2) (dC (.int 9)) aP) (ae (dC (.int 10)) (dC (.int 6)) gP) cp) ay))) cY) (ag (dC (.int 1)) ay)) aV))
 av)
 av)
 (aw (bb 8 (ar (ag (ar (ag (ae (ah 2) (dC (.int 4)) aP) (ag (ae (ae (ah 2) (dC (.int 5)) aP) (ah 3) cp) (ag (ae (ae (ah 2) (dC (.int 6)) aP) (ah 3) cp) ay))) cY) (ag (dC (.int 0)) ay)) aV))
 (aw (bG (ar (ag (ae (ah 0) (ah 5) aP) (ag (ae (ah 0) (ah 6) aP) (ag (ae (ar (ag (dC (.str "one")) (ag (dC (.str "both")) ay)) cY) (ae (ah 2) (dC (.int 2)) aP) aP) (ag (ah 8) (ag (ah 7) ay))))) dZ))
 av))))))))
def dq:ac->au D:=cM 9 eY
noncomputable def ir:bv :=
 (aw (bb 1 (ar (ag (dC (.int 8)) (ag (ae (ae (dC (.int 10)) (dC (.int 60)) gP) (dC (.int 1)) lP) (ag (ae (ae (dC (.int 10)) (dC (.int 60)) gP) (dC (.int 1)) lP) ay))) cY))
 (aw (bG (ar (ag (ah 0) (ag (ae (ae (ae (ar (ag (dC (.int 7)) (ag (dC (.int 6)) (ag (dC (.int 2)) (ag (dC (.int 5)) ay)))) cY) (ah 1) bC) (ah 1) bC) (ar (ag (dC (.int 5)) ay) cY) bC) ay)) bO))
 av))
def c9:ac->au D:=cM 2 ir
noncomputable def k7:bv :=
 (aw (bb 2 (ar (ag (ah 0) (ag (ah 1) ay)) ck))
 (aw (bb 3 (ar (ag (ah 2) (ag (ar (ag (dC (.int 6)) (ag (dC (.int 15)) (ag (dC (.int 7)) (ag (dC (.int 3)) ay)))) cY) ay)) bO))
 (aw (bb 4 (ar (ag (ae (ah 2) (dC (.int 1890)) mn) (ag (ae (dC (.int 2)) (ae (ah 3) (dC (.int 0)) aP) bC) ay)) dR))
 (aw (rG 5 (ar ay cY))
 (aw (mD (ae (ah 3) (dC (.int 1)) aP) (j7 6)
 (aw (bb 7 (ae (ar (ag (ae (ae (dC (.int 10)) (dC (.int 60)) gP) (dC (.int 1)) lP) (ag (ae (dC (.int 10)) (dC (.int 6)) gP) ay)) cY) (ar (ag (ae (ae (ah 6) (dC (.int 7)) cp) (dC (.int 0)) sV) ay) (m1 gj)) aP))
 (aw (er 5 (ar (ag (ah 4) (ag (ah 6) (ag (ar (ag (ar (ag (ah 0) (ag (ae (ae (ah 1) (dC (.int 1)) bC) (ah 6) bC) ay)) ck) ay) c9) (ag (ah 7) ay)))) dq))
 av)))
 (aw (bb 8 (ae (ae (ah 3) (dC (.int 2)) aP) (ar (ag (ah 4) ay) (m1 dH)) cp))
 (aw (dJ (ae (ae (ah 3) (dC (.int 3)) aP) (dC (.int 0)) fM)
 (aw (qj (ar (ag (t9 (ae (dY (ah 4) (bN (ah 8)) cT) (dY (ah 4) cT (bN (ah 8))) pW)) (ag (ah 5) (ag (ae (ah 4) (bf (dC (.int 1)) uV) aP) (ag (ae (ah 4) (dC (.int 0)) aP) ay)))) dZ))
 av)
 av)
 (aw (qj (ar (ag (t9 (ae (dY (ah 4) (bN (ah 8)) cT) (dY (ah 4) cT (bN (ah 8))) pW)) (ag (ah 5) (ag (ae (ah 4) (dC (.int 0)) aP) (ag (ae (ah 4) (bf (dC (.int 1)) uV) aP) ay)))) dZ))
 av))))))))
def gL:ac->au D:=cM 9 k7
noncomputable def cy:bv :=
 (aw (yU [2,3,4,5,6] (dY (ah 1) cT (bN (dC (.int 5)))))
 (aw (bb 7 (ar (ag (ae (ah 0) (dC (.int 1)) aP) ay) (m1 dH)))
 (aw (dJ (ef (ae (ah 2) (dC (.int 3)) uW) (ae (ah 7) (dC (.int 0)) sV))
 (aw (bG (ar (ag (dC (.str "length")) (ag (ae (ah 3) (ah 7) cp) (ag (ar (ag (ar (ag (ah 4) (ag (ah 5) (ag (ah 6) ay))) cY) (ag (dC (.int 0)) ay)) aV) ay))) dZ))
 av)
 av)
 (aw (dJ (ef (ae (ah 2) (dC (.int 6)) uW) (ae (ah 7) (dC (.int 0)) sV))
 (aw (bb 8 (ar (ag (ar (ag (ah 4) (ag (ah 5) (ag (ah 6) ay))) cY) (ag (dC (.int 1)) ay)) aV))
 (aw (dJ (ef (ae (ah 2) (dC (.int 5)) fM) (ae (ah 4) (dC (.int 4)) uW))
 (aw (bb 8 (dC (.non)))
 av)
 av)
 (aw (bG (ar (ag (dC (.str "worth")) (ag (ae (ah 3) (ah 7) cp) (ag (ah 8) ay))) dZ))
 av)))
 av)
 (aw (dJ (ef (ae (ah 2) (dC (.int 8)) uW) (ae (ah 7) (dC (.int 0)) sV))
 (aw (bG (ar (ag (dC (.str "gone")) (ag (ae (ah 3) (ah 7) cp) ay)) dZ))
 av)
 av)
 (aw (bb 9 (ae (ah 0) (dC (.int 0)) aP))
 (aw (bb 10 (ae (ah 3) (ar (ag (ah 9) ay) (m1 dH)) cp))
 (aw (bb 11 (ae (ae (ae (ah 10) (dC (.int 1)) bC) (ae (ah 5) (ae (ar (ag (ah 9) ay) (m1 dH)) (dC (.int 1)) lP) cp) bC) (ar (ag (ah 9) ay) (m1 dH)) cp))
 (aw (bb 12 (ar (ag (ae (ah 9) (ah 10) aP) (ag (ae (ah 9) (ah 11) aP) (ag (ae (ar (ag (dC (.str "one")) (ag (dC (.str "both")) ay)) cY) (ae (ah 6) (dC (.int 2)) cp) aP) ay))) dZ))
 (aw (bb 8 (ar (ag (ar (ag (ah 4) (ag (ah 6) (ag (ah 5) ay))) cY) (ag (dC (.int 1)) ay)) aV))
 (aw (dJ (ae (ae (ae (ah 5) (dC (.int 60)) mn) (dC (.int 5)) cp) (dC (.int 0)) fM)
 (aw (bb 8 (dC (.non)))
 av)
 av)
 (aw (bG (ar (ag (dC (.str "tie")) (ag (ae (ah 12) (ar (ag (ar (ag (ar (ag (ah 4) (ag (ah 5) (ag (ah 6) ay))) cY) (ag (dC (.int 0)) ay)) aV) (ag (ah 8) ay)) dZ) bC) ay)) dZ))
 av))))))))))))
def bA:ac->au D:=cM 13 cy
noncomputable def pF:bv :=
 (aw (bb 2 (ar (ag (dC (.non)) (ag (dC (.bl true)) (ag (bf (dC (.int 1)) uV) (ag (dC (.int 14)) (ag (ah 1) (ag (dC (.str "")) (ag (dC (.str "gone")) (ag (dC (.str "lengths")) ay)))))))) cY))
 (aw (bb 2 (ae (ah 2) (ar (ag (ar (ag (dC (.int 1)) (ag (dC (.int 2)) ay)) dZ) (ag (ar (ag (dC (.int 0)) (ag (dC (.int 1)) ay)) dZ) (ag (ar (ag (bf (dC (.int 1)) uV) (ag (dC (.int 2)) ay)) dZ) (ag (ar (ag (dC (.int 2)) (ag (dC (.int 4)) ay)) dZ) (ag (ar (ag (dC (.int 1)) (ag (dC (.int 0)) ay)) dZ) (ag (ar (ag (dC (.int 1)) (ag (dC (.int 1)) ay)) cY) (ag (dC (.bl false)) ay))))))) cY) bC))
 (aw (bb 2 (ae (ah 2) (ar (ag (ar (ag (dC (.str "a")) (ag (dC (.str "b")) (ag (dC (.str "one")) (ag (ar (ag (dC (.int 0)) (ag (dC (.int 1)) ay)) dZ) ay)))) dZ) (ag (ar (ag (dC (.str "zzzzzzzz")) (ag (dC (.str "yy")) (ag (dC (.str "one")) (ag (ar (ag (dC (.int 0)) (ag (dC (.int 1)) ay)) dZ) (ag (dC (.non)) ay))))) dZ) (ag (dC (.str "tie")) ay))) cY) bC))
 (aw (bG (ae (ah 2) (ah 0) aP))
 av))))
def jg:ac->au D:=cM 3 pF
noncomputable def dO:bv :=
 (aw (yU [2,3,4,5] (ah 1))
 (aw (bb 3 (ae (ah 3) (ar (ag (ah 0) ay) (m1 dH)) cp))
 (aw (dJ (fq (ae (ah 2) (dC (.int 8)) fM) (fq (ae (ah 2) (dC (.int 9)) fM) (fq (ae (ah 2) (dC (.int 10)) fM) (ae (ah 2) (dC (.int 11)) fM))))
 (aw (bG (ae (ae (dY (ah 0) cT (bN (ah 3))) (ar (ag (ar (ag (ah 4) (ag (ah 5) ay)) jg) ay) dZ) iS) (dY (ah 0) (bN (ae (ah 3) (dC (.int 1)) bC)) cT) iS))
 av)
 av)
 (aw (dJ (ae (ah 2) (dC (.int 12)) fM)
 (aw (bG (ae (dY (ah 0) cT (bN (ah 3))) (dY (ah 0) (bN (ae (ah 3) (dC (.int 1)) bC)) cT) iS))
 av)
 av)
 (aw (dJ (ae (ah 2) (dC (.int 13)) fM)
 (aw (bG (ae (ah 0) (ar (ag (ae (ah 0) (ah 3) aP) ay) dZ) bC))
 av)
 av)
 (aw (dJ (ae (ah 2) (dC (.int 14)) fM)
 (aw (bG (ae (ar (ag (ar (ag (ah 0) ay) (m1 eC)) (ag (dC (.non)) (ag (ar ay dZ) (ag (dC (.str "gone")) ay)))) cY) (ae (ah 4) (dC (.int 4)) cp) aP))
 av)
 av)
 (aw (dJ (ef (ae (ah 2) (dC (.int 15)) fM) (ae (ae (ah 0) (dC (.int 0)) aP) (dC (.str "tie")) fM))
 (aw (bb 6 (ae (ah 0) (dC (.int 1)) aP))
 (aw (bb 7 (ar (ag (ae (ar (ag (dC (.str "zzzzzzzz")) ay) dZ) (dY (ah 6) (bN (dC (.int 1))) cT) bC) (ag (ae (ae (dY (ah 6) cT (bN (dC (.int 1)))) (dY (ah 6) cT (bN (dC (.int 1)))) iS) (dY (ah 6) (bN (dC (.int 2))) cT) iS) (ag (ae (dY (ah 6) cT (bN (dC (.int 4)))) (ar (ag (ar (ag (dC (.int 0)) (ag (dC (.int 1)) ay)) dZ) ay) dZ) iS) ay))) cY))
 (aw (bG (ar (ag (dC (.str "tie")) (ag (ae (ah 7) (ae (ah 4) (dC (.int 3)) cp) aP) ay)) dZ))
 av)))
 av)
 (aw (bG (ah 0))
 av))))))))
def cO:ac->au D:=cM 8 dO
abbrev m_is_name:ac->au D:=Com.m_is_name
abbrev m_look_at_places:ac->au D:=Nwb.m_look_at_places
abbrev m_is_whole:ac->au D:=Com.m_is_whole
abbrev m_common_divisor:ac->au D:=Com.m_common_divisor
abbrev m_is_ratio:ac->au D:=Com.m_is_ratio
abbrev m_is_length:ac->au D:=Com.m_is_length
abbrev m_is_worth:ac->au D:=Com.m_is_worth
abbrev m_is_tie:ac->au D:=Com.m_is_tie
abbrev m_look_at_ties:ac->au D:=Nwb.m_look_at_ties
abbrev m_is_place:ac->au D:=Com.m_is_place
abbrev m_look_at_web:ac->au D:=Nwb.m_look_at_web
abbrev m_is_tie_number:ac->au D:=Com.m_is_tie_number
noncomputable def bL:bv :=
 (aw (dJ (fq (cC (bf (ah 1) (ez "tuple"))) (fq (ae (ar (ag (ah 1) ay) (m1 dH)) (dC (.int 0)) fM) (cC (bf (ae (ah 1) (dC (.int 0)) aP) (ez "str")))))
 (aw (bG (dC (.bl false)))
 av)
 av)
 (aw (dJ (fq (bf (ae (ah 1) (dC (.int 0)) aP) (wm [("length",3),("worth",3),("tie",2),("gone",2)])) (ae (ar (ag (ah 1) ay) (m1 dH)) (bf (ae (ah 1) (dC (.int 0)) aP) (Bs [("length",3),("worth",3),("tie",2),("gone",2)])) kH))
 (aw (bG (dC (.bl false)))
 av)
 av)
 (aw (bG (fq (ae (ae (ah 1) (dC (.int 0)) aP) (dC (.str "tie")) fM) (ar (ag (ah 0) (ag (ae (ah 1) (dC (.int 1)) aP) ay)) m_is_tie_number)))
 av)))
def aG:ac->au D:=cM 2 bL
noncomputable def k6:bv :=
 (aw (bb 3 (KZ (ae (ah 1) (dC (.str "length")) fM) (ah 2) (ae (ah 0) (dC (.int 3)) aP)))
 (aw (bb 4 (KZ (ae (ah 1) (dC (.str "worth")) fM) (ah 2) (ae (ah 0) (dC (.int 4)) aP)))
 (aw (bG (ar (ag (ae (ah 0) (dC (.int 0)) aP) (ag (ae (ah 0) (dC (.int 1)) aP) (ag (ae (ah 0) (dC (.int 2)) aP) (ag (ah 3) (ag (ah 4) ay))))) dZ))
 av)))
def fP:ac->au D:=cM 5 k6
noncomputable def eO:bv :=
 (mC (rG 2 (ar (ag (ah 0) ay) (m1 eC)))
 (mC (dJ (ae (ae (ah 1) (dC (.int 0)) aP) (dC (.str "tie")) fM)
 (aw (er 2 (ae (ah 1) (dC (.int 1)) aP))
 av)
 (aw (dJ (ae (ae (ah 1) (dC (.int 0)) aP) (dC (.str "gone")) fM)
 (aw (vz 2 (ae (ah 1) (dC (.int 1)) aP))
 av)
 (aw (GI 2 (ar (ag (ae (ah 0) (ae (ah 1) (dC (.int 1)) aP) aP) (ag (ae (ah 1) (dC (.int 0)) aP) (ag (ae (ah 1) (dC (.int 2)) aP) ay))) fP) (ae (ah 1) (dC (.int 1)) aP))
 av))
 av))
 (nX 2)))
def cj:ac->au D:=tW 3 eO
noncomputable def iX:bv :=
 (aw (ll (ar (ag (ah 0) ay) m_look_at_web))
 (aw (dJ (cC (ar (ag (ah 0) (ag (ah 1) ay)) aG))
 (aw (rE "NoChange" (ag (dC (.str "a change is a tuple of a word and what belongs to it")) ay))
 av)
 av)
 (aw (bb 2 (ar (ag (t9 (ar (ag (ae (ah 0) (dC (.int 0)) aP) ay) (m1 eC))) (ag (t9 (ar (ag (ae (ah 0) (dC (.int 1)) aP) (ag (ah 1) ay)) cj)) (ag (ae (ah 0) (dC (.int 2)) aP) (ag (ae (ah 0) (dC (.int 3)) aP) ay)))) dZ))
 (aw (mB (kQ (ag (gr (ah 2)) ay) m_look_at_web) (j0 nv) "NoChange" (ag (dC (.str "what it would make is no web")) ay))
 (aw (bG (ah 2))
 av)))))
def cb:ac->au D:=cM 3 iX
noncomputable def iq:bv :=
 (aw (bb 2 (dC (.non)))
 (aw (bb 3 (dC (.str "")))
 (aw (yV (tV 2 (ag (ah 0) (ag (ah 1) ay)) cb) (j0 jh) 4
 (aw (bb 3 (dC (.str "another")))
 (aw (dJ (ef (bf (ah 4) (fT xo)) (cC (bf (ah 4) (fT xm))))
 (aw (bb 5 (ae (ar (ag (bf (ah 4) (fT xj)) ay) (m1 gj)) (ae (dC (.int 2)) (ar (ag (bf (ah 4) (fT xh)) ay) (m1 gj)) dm) bC))
 (aw (bb 3 (ae (ar (ag (dC (.str "another")) (ag (dC (.str "change")) (ag (dC (.str "web")) (ag (dC (.str "another")) ay)))) cY) (ah 5) aP))
 av))
 av)
 av)))
 (aw (bG (ar (ag (ah 2) (ag (ah 3) ay)) dZ))
 av))))
def bS:ac->au D:=cM 6 iq
abbrev dQ:ac->au D:=Com.dQ
abbrev cH:ac->au D:=Com.cH
noncomputable def bB:bv :=
 (aw (dJ (fq (cC (bf (ah 1) (ez "tuple"))) (ae (ar (ag (ah 1) ay) (m1 dH)) (dC (.int 5)) kH))
 (aw (bG (dC (.bl false)))
 av)
 av)
 (aw (dJ (fq (cC (bf (ae (ah 1) (dC (.int 0)) aP) (ez "str"))) (cC (bf (ae (ah 1) (dC (.int 1)) aP) (ez "str"))))
 (aw (bG (dC (.bl false)))
 av)
 av)
 (aw (dJ (cC (bf (ae (ah 1) (dC (.int 2)) aP) (ez "str")))
 (aw (bG (dC (.bl false)))
 av)
 av)
 (aw (dJ (fq (ae (ae (ah 1) (dC (.int 0)) aP) (ae (ah 0) (dC (.int 0)) aP) du) (ae (ae (ah 1) (dC (.int 1)) aP) (ae (ah 0) (dC (.int 0)) aP) du))
 (aw (bG (dC (.bl false)))
 av)
 av)
 (aw (dJ (fq (ae (ae (ah 1) (dC (.int 0)) aP) (ae (ah 1) (dC (.int 1)) aP) fM) (ae (ae (ah 1) (dC (.int 2)) aP) (ar (ag (dC (.str "one")) (ag (dC (.str "both")) ay)) cY) du))
 (aw (bG (dC (.bl false)))
 av)
 av)
 (aw (dJ (fq (cC (ar (ag (ae (ah 1) (dC (.int 3)) aP) ay) cH)) (ae (ae (ae (ah 1) (dC (.int 3)) aP) (dC (.int 0)) aP) (dC (.int 0)) uW))
 (aw (bG (dC (.bl false)))
 av)
 av)
 (aw (bG (fq (ae (ae (ah 1) (dC (.int 4)) aP) (dC (.non)) wK) (ef (ar (ag (ae (ah 1) (dC (.int 4)) aP) ay) cH) (ae (ae (ae (ah 1) (dC (.int 4)) aP) (dC (.int 0)) aP) (dC (.int 0)) sV))))
 av)))))))
def aT:ac->au D:=cM 2 bB
noncomputable def aL:bv :=
 (aw (dJ (fq (cC (bf (ah 1) (ez "tuple"))) (fq (ae (ar (ag (ah 1) ay) (m1 dH)) (dC (.int 2)) uW) (cC (bf (ae (ah 1) (dC (.int 0)) aP) (ez "str")))))
 (aw (bG (dC (.bl false)))
 av)
 av)
 (aw (dJ (ae (ae (ah 1) (dC (.int 0)) aP) (dC (.str "tie")) fM)
 (aw (bG (ef (ae (ar (ag (ah 1) ay) (m1 dH)) (dC (.int 2)) fM) (ef (ae (ar (ag (ae (ah 0) (dC (.int 1)) aP) ay) (m1 dH)) (dC (.int 14)) uW) (ar (ag (ah 0) (ag (ae (ah 1) (dC (.int 1)) aP) ay)) aT))))
 av)
 av)
 (aw (dJ (fq (cC (ar (ag (ae (ah 1) (dC (.int 1)) aP) ay) dQ)) (fq (ae (ae (ah 1) (dC (.int 1)) aP) (dC (.int 0)) uW) (ae (ae (ah 1) (dC (.int 1)) aP) (ar (ag (ae (ah 0) (dC (.int 1)) aP) ay) (m1 dH)) F5)))
 (aw (bG (dC (.bl false)))
 av)
 av)
 (aw (dJ (ae (ae (ah 1) (dC (.int 0)) aP) (dC (.str "gone")) fM)
 (aw (bG (ae (ar (ag (ah 1) ay) (m1 dH)) (dC (.int 2)) fM))
 av)
 av)
 (aw (dJ (ae (ar (ag (ah 1) ay) (m1 dH)) (dC (.int 3)) kH)
 (aw (bG (dC (.bl false)))
 av)
 av)
 (aw (dJ (ae (ae (ah 1) (dC (.int 0)) aP) (dC (.str "length")) fM)
 (aw (bG (ef (ar (ag (ae (ah 1) (dC (.int 2)) aP) ay) cH) (ae (ae (ae (ah 1) (dC (.int 2)) aP) (dC (.int 0)) aP) (dC (.int 0)) F5)))
 av)
 av)
 (aw (dJ (ae (ae (ah 1) (dC (.int 0)) aP) (dC (.str "worth")) kH)
 (aw (bG (dC (.bl false)))
 av)
 av)
 (aw (bG (fq (ae (ae (ah 1) (dC (.int 2)) aP) (dC (.non)) wK) (ef (ar (ag (ae (ah 1) (dC (.int 2)) aP) ay) cH) (ae (ae (ae (ah 1) (dC (.int 2)) aP) (dC (.int 0)) aP) (dC (.int 0)) sV))))
 av))))))))
def ax:ac->au D:=cM 2 aL
noncomputable def eF:bv :=
 (aw (rG 2 (ar (ag (ae (ah 0) (dC (.int 1)) aP) ay) (m1 eC)))
 (aw (yU [3,4] (IK (ah 1) cT (bN (dC (.int 2)))))
 (aw (dJ (ae (ah 3) (dC (.str "length")) fM)
 (aw (xw 2 (ae (dY (ae (ah 2) (ah 4) aP) cT (bN (dC (.int 3)))) (ar (ag (ae (ah 1) (dC (.int 2)) aP) (ag (ae (ae (ah 2) (ah 4) aP) (dC (.int 4)) aP) ay)) dZ) bC) (ah 4))
 av)
 av)
 (aw (dJ (ae (ah 3) (dC (.str "worth")) fM)
 (aw (xw 2 (ae (dY (ae (ah 2) (ah 4) aP) cT (bN (dC (.int 4)))) (ar (ag (ae (ah 1) (dC (.int 2)) aP) ay) dZ) bC) (ah 4))
 av)
 av)
 (aw (dJ (ae (ah 3) (dC (.str "gone")) fM)
 (aw (GK 2 (rG 2 (ae (dY (ah 2) cT (bN (ah 4))) (dY (ah 2) (bN (ae (ah 4) (dC (.int 1)) bC)) cT) pW)))
 av)
 av)
 (aw (dJ (ae (ae (ah 1) (dC (.int 0)) aP) (dC (.str "tie")) fM)
 (aw (er 2 (ae (ah 1) (dC (.int 1)) aP))
 av)
 av)
 (aw (qj (ar (ag (t9 (ar (ag (ae (ah 0) (dC (.int 0)) aP) ay) (m1 eC))) (ag (ah 2) (ag (ae (ah 0) (dC (.int 2)) aP) (ag (ae (ah 0) (dC (.int 3)) aP) ay)))) dZ))
 av)))))))
def bz:ac->au D:=cM 5 eF
noncomputable def jx:bv :=
 (aw (bb 2 (ar (ag (ar (ag (ae (gr (ah 0)) (dC (.int 0)) aP) ay) (m1 eC)) (ag (ar (ag (ae (gr (ah 0)) (dC (.int 1)) aP) ay) (m1 eC)) (ag (ae (gr (ah 0)) (dC (.int 2)) aP) (ag (ae (gr (ah 0)) (dC (.int 3)) aP) ay)))) dZ))
 (nW 3 4 [0,1] (ar (ag (gr (ah 0)) (ag (ah 1) ay)) bS)
 (qg 5 (ae (ar (ag (dY (gr (ah 0)) cT (bN (dC (.int 3)))) (ag (dC (.non)) (ag (ar (ag (gr (ah 0)) ay) (m1 eC)) ay))) cY) (ae (ar (ag (ae (gr (ah 0)) (dC (.int 1)) aP) ay) (m1 dH)) (dC (.int 3)) cp) aP)
 (pO (fq (ae (gr (ah 0)) (gr (ah 2)) kH) (ae (ae (ar (ag (ah 5) (ag (ah 1) ay)) bS) (dC (.int 1)) aP) (dC (.str "web")) kH))
 (aw (bG (dC (.bl false)))
 av)
 (pO (cC (ar (ag (gr (ah 0)) (ag (ah 1) ay)) ax))
 (aw (bG (ae (ah 4) (dC (.str "change")) fM))
 av)
 (qg 6 (ar (ag (gr (ah 0)) (ag (ah 1) ay)) bz)
 (pO (fq (ae (ah 4) (dC (.str "")) kH) (cC (bf (gr (ah 3)) (ez "tuple"))))
 (aw (bG (dC (.bl false)))
 av)
 (pO (fq (cC (bf (ae (gr (ah 3)) (dC (.int 0)) aP) (ez "list"))) (ae (gr (ah 3)) (gr (ah 6)) kH))
 (aw (bG (dC (.bl false)))
 av)
 (Ag 3 (rm
 (xx 0 4 [1] (ae (ar (ag (gr (ah 0)) (ag (ah 1) ay)) bS) (dC (.int 1)) aP)
 (aw (bG (ef (ae (ah 4) (dC (.str "web")) fM) (ef (ae (gr (ar (ag (gr (ah 0)) (ag (ah 1) ay)) (noX cb))) (gr (ah 6)) fM) (ae (gr (ah 0)) (gr (ah 2)) fM))))
 av))))))))))))
def fD:ac->au D:=cM 7 jx
noncomputable def F8:bv :=
 (aw (bb 1 (ar (ag (ah 0) (ag (dC (.int 0)) ay)) gL))
 (aw (bb 2 (ae (dY (ah 0) (bN (dC (.int 15))) (bN (dC (.int 63)))) (ar (ag (dC (.int 15)) ay) cY) bC))
 (aw (mD (ar (ag (ah 2) ay) (m1 dH)) (j7 3)
 (aw (bb 4 (ar (ag (ae (ae (dC (.int 10)) (dC (.int 60)) gP) (dC (.int 1)) lP) (ag (ae (ae (dC (.int 10)) (dC (.int 60)) gP) (dC (.int 1)) lP) ay)) cY))
 (aw (bb 5 (ar (ag (ae (ah 2) (ah 3) aP) (ag (ae (ae (ar (ag (dC (.int 10)) (ag (dC (.int 14)) (ag (dC (.int 8)) (ag (dC (.int 16)) (ag (dC (.int 3)) (ag (dC (.int 18)) ay)))))) cY) (ah 4) bC) (ar (ag (ae (dC (.int 10)) (dC (.int 60)) gP) ay) cY) bC) ay)) bO))
 (aw (bb 6 (ar (ag (gr (ah 1)) (ag (ae (dY (ah 5) cT (bN (dC (.int 3)))) (dY (ah 5) (bN (dC (.int 6))) (bN (dC (.int 8)))) bC) ay)) bA))
 (aw (bb 7 (ar (ag (ah 6) (ag (ae (dY (ah 5) (bN (dC (.int 3))) (bN (dC (.int 6)))) (dY (ah 5) (bN (dC (.int 8))) cT) bC) ay)) cO))
 (aw (dJ (cC (ar (ag (ah 1) (ag (ah 7) ay)) fD))
 (aw (bG (dC (.bl false)))
 av)
 av)
 (aw (dJ (ef (ae (ae (ah 3) (dC (.int 3)) cp) (dC (.int 2)) fM) (ar (ag (gr (ah 1)) (ag (ah 7) ay)) ax))
 (aw (bb 1 (ar (ag (gr (ah 1)) (ag (ah 7) ay)) bz))
 av)
 av)
 av)))))))
 (aw (bG (dC (.bl true)))
 av))))
def m_law:ac->au D:=cM 8 F8
def top(i:Nat):Stmt:=PySem.Challenge.pw_farthestcut_k68_changes_made.main.body.getD i (.Pass ⟨0,0,0,0⟩)
noncomputable def rows:List Rw:=[
 ⟨"_law_cell_at",top 44,["_law_script","_law_k"],2⟩,
 ⟨"_law_draws",top 45,["_law_cell","_law_sizes","_law_number","_law_left","_law_found","_law_k","_law_one"],2⟩,
 ⟨"_law_names",top 50,["_law_cell","_law_many","_law_letters","_law_digits","_law_by","_law_base","_law_found","_law_k","_law_size","_law_at","_law_sign"],2⟩,
 ⟨"_law_divisor",top 47,["_law_one","_law_other"],2⟩,
 ⟨"_law_lowest",top 48,["_law_top","_law_bottom","_law_share"],2⟩,
 ⟨"_law_fraction",top 51,["_law_digits","_law_least","_law_way","_law_above","_law_below"],2⟩,
 ⟨"_law_tie",top 52,["_law_names_here","_law_k","_law_digits","_law_bound","_law_many","_law_one","_law_other","_law_worth","_law_length"],4⟩,
 ⟨"_law_tie_digits",top 53,["_law_cell","_law_big"],1⟩,
 ⟨"_law_web",top 54,["_law_script","_law_at","_law_first","_law_digits","_law_names_here","_law_ties","_law_k","_law_bound","_law_turn"],2⟩,
 ⟨"_law_change",top 55,["_law_web_here","_law_digits","_law_way","_law_k","_law_kind","_law_above","_law_below","_law_many","_law_worth","_law_names_here","_law_one","_law_two","_law_tie_here"],2⟩,
 ⟨"_law_odd",top 57,["_law_kind","_law_number","_law_some"],2⟩,
 ⟨"_law_bent",top 58,["_law_change_here","_law_digits","_law_way","_law_at","_law_kind","_law_number","_law_tie_here","_law_some"],2⟩,
 ⟨"is_name",top 14,["thing"],1⟩,
 ⟨"look_at_places",top 34,["places","number","place"],1⟩,
 ⟨"is_whole",top 12,["thing"],1⟩,
 ⟨"common_divisor",top 8,["one","other","larger","smaller","rest"],2⟩,
 ⟨"is_ratio",top 13,["thing"],1⟩,
 ⟨"is_length",top 30,["thing"],1⟩,
 ⟨"is_worth",top 31,["thing"],1⟩,
 ⟨"is_tie",top 29,["thing"],1⟩,
 ⟨"look_at_ties",top 35,["ties","places","number","tie"],2⟩,
 ⟨"is_place",top 36,["thing","places"],2⟩,
 ⟨"look_at_web",top 33,["thing"],1⟩,
 ⟨"is_tie_number",top 32,["web","thing"],2⟩,
 ⟨"is_change_by_form",top 40,["web","thing"],2⟩,
 ⟨"tie_with",top 42,["tie","word","thing","length","worth"],3⟩,
 ⟨"ties_behind",top 41,["ties","change","told"],2⟩,
 ⟨"changed",top 39,["web","change","told"],2⟩,
 ⟨"_law_told",top 61,["_law_web_here","_law_change_here","_law_found","_law_told_here","e","_law_kind"],2⟩,
 ⟨"_law_whole",top 46,["_law_thing"],1⟩,
 ⟨"_law_is_ratio",top 49,["_law_thing"],1⟩,
 ⟨"_law_is_tie",top 59,["_law_web_here","_law_thing"],2⟩,
 ⟨"_law_is_change",top 60,["_law_web_here","_law_change_here"],2⟩,
 ⟨"_law_changed",top 56,["_law_web_here","_law_change_here","_law_ties","_law_word","_law_k"],2⟩,
 ⟨"_law_right",top 62,["_law_web_here","_law_change_here","_law_copy","_law_found","_law_told_here","_law_wrong","_law_due"],2⟩,
 ⟨"law",top 63,["_law_script","_law_web_here","_law_cells","_law_k","_law_big","_law_digits","_law_change_here","_law_bent_here"],1⟩]
def sc:Mn rows:=by decide +kernel
theorem nd(i:Nat){r:Rw}(h:rows[i]?=some r:=by rfl):r.N.Nodup:=(sc r (List.mem_of_getElem? h)).nd
def bn:∀r∈rows,Jn r:=by
 unfold rows
 repeat refine List.forall_mem_cons.mpr ⟨by first|exact M9|exact M8|exact M7|exact M6|exact bd5,?_⟩
 exact λ_ h=>nomatch h
abbrev nU:Stmt:=Eb (top 6) 0
def yT:fX ["self","part","number"] ["self","part","number"] (defScope nU):=⟨rfl,rfl,rfl,by decide +kernel,rfl,by decide +kernel,by decide +kernel⟩
set_option genInjectivity false in
set_option genSizeOfSpec false in
structure Adr where
 jZ:Addr
 lF:FuncData
 cq:Addr
 cS:Addr
 eL:Addr
 dW:Addr
 gB:Addr
 dU:Addr
 A:Nat->Addr
 Q:Nat->FuncData
set_option genInjectivity false in
set_option genSizeOfSpec false in
structure Txt (w:World) (K:W.Frag) (mg:Str->Option Value) (t:Adr):Prop where
 g:TG rows K mg t.A t.Q
 n_ValueError:mg "ValueError"=none
 n_abs:mg "abs"=none
 n_all:mg "all"=none
 n_bool:mg "bool"=none
 n_enumerate:mg "enumerate"=none
 n_int:mg "int"=none
 n_isinstance:mg "isinstance"=none
 n_len:mg "len"=none
 n_list:mg "list"=none
 n_max:mg "max"=none
 n_range:mg "range"=none
 n_str:mg "str"=none
 n_tuple:mg "tuple"=none
 oU:mg "CutError"=some (.ref t.cq)
 wj:gF K "CutError" t.cq
 kW:mg "NoChange"=some (.ref t.cS)
 wg:gF K "NoChange" t.cS
 zl:mg "NoPurse"=some (.ref t.eL)
 zj:gF K "NoPurse" t.eL
 wq:mg "NoTaking"=some (.ref t.dW)
 we:gF K "NoTaking" t.dW
 Ee:mg "NoTie"=some (.ref t.gB)
 Ec:gF K "NoTie" t.gB
 gC:mg "NoWeb"=some (.ref t.dU)
 ya:gF K "NoWeb" t.dU
 nK:vc K "NoChange" t.cS
 ja:u9 K "NoWeb" t.dU
 bM:MG K "NoWeb.__init__" t.dU t.jZ t.lF nU ["self","part","number"] ["part","number"]
 tI:Cq K t.cq
 rs:zI K [t.cq,t.cS,t.eL,t.dW,t.gB,t.dU] [("NoChange",t.cS,[true,true,false,false,false,false]),("NoWeb",t.dU,[true,false,false,false,false,true])]
 gm:tj K mg "FEWEST_PLACES" (.int 2)
 lR:tj K mg "FIRST" (.int 2)
 pD:tj K mg "LAST" (.int 3)
 lQ:tj K mg "LENGTH" (.int 3)
 mw:tj K mg "LETTERS" (.str "abcdefghijklmnopqrstuvwxyz")
 gS:tj K mg "LONGEST_NAME" (.int 8)
 iF:tj K mg "MOST_PLACES" (.int 7)
 ke:tj K mg "MOST_TIES" (.int 14)
 qQ:tj K mg "ONE" (.int 0)
 kB:tj K mg "OTHER" (.int 1)
 nH:zN w K mg "PARTS" [("length",3),("worth",3),("tie",2),("gone",2)]
 gR:tj K mg "PLACES" (.int 0)
 pC:tj K mg "TIES" (.int 1)
 pB:tj K mg "WORD" (.int 2)
 sY:tj K mg "WORDS" (.tup [(.str "one"),(.str "both")])
 nG:tj K mg "WORTH" (.int 4)
section
variable {P:Program}{w:World}{K:W.Frag}{mg:Str->Option Value}{base:Heap}{t:Adr}
def m9(T:Txt w K mg t):∀x C,j0 jh x=true->XC K x C->W.exmOne K (.ref C) (.ref t.cq)=some true:=Bo T.rs T.wj 0 rfl rfl
def sv(T:Txt w K mg t):∀x C,j0 nv x=true->XC K x C->W.exmOne K (.ref C) (.ref t.dU)=some true:=Bo T.rs T.ya 5 rfl rfl
def Am(T:Txt w K mg t):lX K xo (.type "ValueError"):=Gy T.rs rfl
def Al(T:Txt w K mg t):tf K xm [t.eL,t.dW,t.gB]:=C8 T.rs (ns:=[2,3,4]) (Hq (n:=2) T.zj rfl (Hq (n:=3) T.we rfl (Hq (n:=4) T.Ec rfl True.intro))) rfl
def Ak(T:Txt w K mg t):lX K xj (.ref t.cS):=Ai T.rs T.wg 1 rfl rfl
def Aj(T:Txt w K mg t):lX K xh (.ref t.dU):=Ai T.rs T.ya 5 rfl rfl
def eU(T:Txt w K mg t):FnOk P w K mg base CX0 1 t.jZ t.lF ["self","part","number"] (Di K ["part","number"]) :=
 Kr T.bM.Fi yT rfl (by decide) λcdv A outer s0 H E=>(Jr (i:=1) T.tI rfl T.oU (rM (i:=1) rfl (Or.inl rfl) (rM (i:=2) rfl (Or.inl rfl) GV)) rfl rfl (Or.inl rfl) (Or.inl rfl) (CM (i:=2) rfl rfl (Or.inl rfl) (Or.inl rfl) Gh))
def jE(T:Txt w K mg t):gV P w K mg base CX0 1 (t.A 0) (t.Q 0) ["_law_script","_law_k"] (spD K 2 ck) "_law_cell_at" (top 44) :=
 oD T.g sc (i:=0) rfl λ_ _ _ _ _ _ _ _=>(
 (af (bo (aJ gZ (bK λ_ _ _ _=>rb _) (dv 1) (aU bj cD rfl T.n_len PyProof.Rows.Boot.«len» (aa (dv 0) aq)) nm)
 (af (aK (ao (dv 0) (dv 1)))
 aj)
 aj)
 (af (aK (bc (iD ai (dv 1)) (iD ai (aU bj cD rfl T.n_len PyProof.Rows.Boot.«len» (aa (dv 0) aq)))))
 aj)))
def fV(T:Txt w K mg t):gV P w K mg base CX0 1 (t.A 1) (t.Q 1) ["_law_cell","_law_sizes"] (spD K 2 bO) "_law_draws" (top 45) :=
 oD T.g sc (i:=1) rfl λ_ _ _ _ _ _ _ _=>(
 (af (aM (i:=2) (nd 1) rfl (Or.inl rfl) (aU (zG rfl) IQ rfl T.n_max PyProof.Rows.Boot.«max» (aa (dv 0) (aa (jr (pf ai) (dv 0)) aq))))
 (af (aM (i:=3) (nd 1) rfl (Or.inl rfl) (dv 2))
 (af (mj (i:=4) (nd 1) rfl (Or.inl rfl) (pb aq))
 (af (nC PassesOwn.never rfl rfl T.n_range (aU bj cD rfl T.n_len PyProof.Rows.Boot.«len» (aa (dv 1) aq)) (kz (i:=5) (nd 1) rfl (Or.inl rfl)) km
 (af (bo (DW.dt (jo (aJ uf (bK λ_ _ _ _=>rb _) (dv 2) (iC ai ai) nm) (dX (aJ jQ (bK λ_ _ _ _=>rb _) (dv 3) ai nm))))
 (af (gJ (i:=4) rfl (Or.inl rfl) (bT (dv 3) (ao (dv 1) (dv 5))))
 (af (aM (i:=3) (nd 1) rfl (Or.inl rfl) (ml (dv 3) (ao (dv 1) (dv 5))))
 aj))
 (af (aM (i:=6) (nd 1) rfl (Or.inl rfl) (bT (iD (bc (bc (bc (bT (dv 2) ai) (iD (iD ai (dv 5)) (dv 5))) (iD ai (dv 5))) ai) ai) ai))
 (af (aM (i:=6) (nd 1) rfl (Or.inl rfl) (bT (iD (bc (bT (iD (dv 6) (dv 6)) ai) (dv 5)) ai) ai))
 (af (gJ (i:=4) rfl (Or.inl rfl) (bT (ml (dv 6) ai) (ao (dv 1) (dv 5))))
 aj))))
 aj))
 (af (aK (dv 4))
 aj))))))
def pS(T:Txt w K mg t):gV P w K mg base CX0 2 (t.A 2) (t.Q 2) ["_law_cell","_law_many"] (spD K 2 dR) "_law_names" (top 50) :=
 oD T.g sc (i:=2) rfl λ_ _ _ _ H _ _ hr=>(
 (af (aM (i:=2) (nd 2) rfl (Or.inr rfl) aQ)
 (af (aM (i:=3) (nd 2) rfl (Or.inl rfl) (rC (fV T) hr (aa (dv 0) (aa (bc (bc (cJ (aa ai (aa ai (aa ai (aa ai (aa ai aq)))))) (B2 (pb (aa ai aq)) ai)) (B2 (pb (aa ai aq)) ai)) aq))))
 (af (aM (i:=4) (nd 2) rfl (Or.inl rfl) (ao (cJ (aa ai (aa ai (aa ai (aa ai (aa ai (aa ai (aa ai (aa ai (aa ai (aa ai (aa ai (aa ai aq))))))))))))) (ao (dv 3) ai)))
 (af (aM (i:=5) (nd 2) rfl (Or.inl rfl) (Fe aQ (aa (F4 (KW ["_law_digit","_law_letters"] 1 [2] rfl (Fc (aW (dv 3) (bq ai) (bq ai))) (tN (by decide)) (λs H C fp pn=>⟨λHe H0e=>(kz (i:=0) (show List.Nodup (["_law_digit","_law_letters"]:List Str) from by decide) rfl (Or.inl rfl)),yx,(ao (dv 1) (dv 0))⟩) ⟨rfl,rfl⟩ rfl rfl rfl rfl)) aq)))
 (af (mj (i:=6) (nd 2) rfl (Or.inl rfl) (pb aq))
 (af (nC PassesOwn.never rfl rfl T.n_range (dv 1) (kz (i:=7) (nd 2) rfl (Or.inl rfl)) km
 (af (aM (i:=8) (nd 2) rfl (Or.inl rfl) (bc ai (ao (dv 3) ai)))
 (af (bo (aJ (bI hr.units) cG (ao (dv 3) ai) ai nm)
 (af (aM (i:=8) (nd 2) rfl (Or.inl rfl) (bc ai (ao (dv 3) (bc ai (dv 7)))))
 aj)
 aj)
 (af (aM (i:=9) (nd 2) rfl (Or.inl rfl) (bT (ao (dv 3) ai) (dv 8)))
 (af (aM (i:=10) (nd 2) rfl (Or.inl rfl) (ao (dv 2) (bT (bc (ao (dv 3) ai) (iD (dv 7) (dv 4))) ai)))
 (af (gJ (i:=6) rfl (Or.inl rfl) (bc (bc (aW (dv 5) cw (bq (dv 9))) (dv 10)) (aW (dv 5) (bq (bc (dv 9) ai)) (bq (dv 8)))))
 aj))))))
 (af (aK (dv 6))
 aj))))))))
def jC(T:Txt w K mg t):gV P w K mg base CX0 1 (t.A 3) (t.Q 3) ["_law_one","_law_other"] (spD K 2 dF) "_law_divisor" (top 47) :=
 oD T.g sc (i:=3) rfl λ_ _ _ _ _ _ _ hr=>(
 (af (uR _ PassesOwn.never (aJ (fz hr.units) hZ (dv 1) ai nm)
 (af (IG (i:=0) (j:=1) rfl (nd 3) rfl rfl (by decide) rfl rfl (aa (dv 1) (aa (bT (dv 0) (dv 1)) aq)) rfl)
 aj))
 (af (aK (aU pA wQ rfl T.n_abs PyProof.Rows.Boot.«abs» (aa (dv 0) aq)))
 aj)))
def jU(T:Txt w K mg t):gV P w K mg base CX0 2 (t.A 4) (t.Q 4) ["_law_top","_law_bottom"] (spD K 2 cU) "_law_lowest" (top 48) :=
 oD T.g sc (i:=4) rfl λ_ _ _ _ _ _ _ hr=>(
 (af (aM (i:=2) (nd 4) rfl (Or.inl rfl) (rC (jC T) hr (aa (dv 0) (aa (dv 1) aq))))
 (af (aK (bW (aa (ml (dv 0) (dv 2)) (aa (ml (dv 1) (dv 2)) aq))))
 aj)))
def cW(T:Txt w K mg t):gV P w K mg base CX0 3 (t.A 5) (t.Q 5) ["_law_digits","_law_least"] (spD K 2 aV) "_law_fraction" (top 51) :=
 oD T.g sc (i:=5) rfl λ_ _ _ _ _ _ _ hr=>(
 (af (sR rfl (dv 0) (cu (i:=2) (nd 5) rfl (Or.inl rfl) (cu (i:=3) (nd 5) rfl (Or.inl rfl) (cu (i:=4) (nd 5) rfl (Or.inl rfl) jq))))
 (af (bo (aJ gZ (bK λ_ _ _ _=>rb _) (dv 2) ai nm)
 (af (aK (bW (aa (bc (dv 1) (bT (dv 3) ai)) (aa ai aq))))
 aj)
 aj)
 (af (bo (aJ gZ (bK λ_ _ _ _=>rb _) (dv 2) ai nm)
 (af (aK (rC (jU T) hr (aa (bc (dv 1) (bT (dv 3) ai)) (aa (bc ai (bT (dv 4) ai)) aq))))
 aj)
 aj)
 (af (aK (rC (jU T) hr (aa (bc (dv 1) (dv 3)) (aa (bc ai (dv 4)) aq))))
 aj)))))
def um(T:Txt w K mg t):gV P w K mg base CX0 4 (t.A 6) (t.Q 6) ["_law_names_here","_law_k","_law_digits","_law_bound"] (spD K 4 dq) "_law_tie" (top 52) :=
 oD T.g sc (i:=6) rfl λ_ _ _ _ _ _ _ hr=>(
 (af (aM (i:=4) (nd 6) rfl (Or.inl rfl) (aU bj cD rfl T.n_len PyProof.Rows.Boot.«len» (aa (dv 0) aq)))
 (af (aM (i:=5) (nd 6) rfl (Or.inl rfl) (bT (ao (dv 2) ai) (dv 4)))
 (af (aM (i:=6) (nd 6) rfl (Or.inl rfl) (bT (bc (bc (dv 5) ai) (bT (ao (dv 2) ai) (jr (dv 4) ai))) (dv 4)))
 (af (bo (DW.dt (jo (aJ gZ (bK λ_ _ _ _=>rb _) (dv 1) (jr (dv 4) ai) nm) (dX (aJ jQ (bK λ_ _ _ _=>rb _) (ao (dv 2) ai) ai nm))))
 (af (aM (i:=5) (nd 6) rfl (Or.inl rfl) (dv 1))
 (af (aM (i:=6) (nd 6) rfl (Or.inl rfl) (bc (dv 1) ai))
 aj))
 aj)
 (af (aM (i:=7) (nd 6) rfl (Or.inl rfl) eN)
 (af (bo (aJ jQ (bK λ_ _ _ _=>rb _) (ao (dv 2) ai) ai nm)
 (af (aM (i:=7) (nd 6) rfl (Or.inl rfl) (rC (cW T) hr (aa (cJ (aa (ao (dv 2) ai) (aa (bT (ao (dv 2) ai) (iC ai ai)) (aa (bT (ao (dv 2) ai) (iC ai ai)) aq)))) (aa ai aq))))
 aj)
 aj)
 (af (aM (i:=8) (nd 6) rfl (Or.inl rfl) (rC (cW T) hr (aa (cJ (aa (ao (dv 2) ai) (aa (bT (ao (dv 2) ai) (dv 3)) (aa (bT (ao (dv 2) ai) (dv 3)) aq)))) (aa ai aq))))
 (af (aK (bW (aa (ao (dv 0) (dv 5)) (aa (ao (dv 0) (dv 6)) (aa (ao (cJ (aa aQ (aa aQ aq))) (ao (dv 2) ai)) (aa (dv 8) (aa (dv 7) aq)))))))
 aj)))))))))
def kS(T:Txt w K mg t):gV P w K mg base CX0 2 (t.A 7) (t.Q 7) ["_law_cell"] (spD K 1 c9) "_law_tie_digits" (top 53) :=
 oD T.g sc (i:=7) rfl λ_ _ _ _ _ _ _ hr=>(
 (af (aM (i:=1) (nd 7) rfl (Or.inl rfl) (cJ (aa ai (aa (jr (iC ai ai) ai) (aa (jr (iC ai ai) ai) aq)))))
 (af (aK (rC (fV T) hr (aa (dv 0) (aa (bc (bc (bc (cJ (aa ai (aa ai (aa ai (aa ai aq))))) (dv 1)) (dv 1)) (cJ (aa ai aq))) aq))))
 aj)))
def uk(T:Txt w K mg t):gV P w K mg base CX0 5 (t.A 8) (t.Q 8) ["_law_script","_law_at"] (spD K 2 gL) "_law_web" (top 54) :=
 oD T.g sc (i:=8) rfl λ_ _ _ _ _ _ _ hr=>(
 (af (aM (i:=2) (nd 8) rfl (Or.inl rfl) (rC (jE T) hr (aa (dv 0) (aa (dv 1) aq))))
 (af (aM (i:=3) (nd 8) rfl (Or.inl rfl) (rC (fV T) hr (aa (dv 2) (aa (cJ (aa ai (aa ai (aa ai (aa ai aq))))) aq))))
 (af (aM (i:=4) (nd 8) rfl (Or.inl rfl) (rC (pS T) hr (aa (ml (dv 2) ai) (aa (bc ai (ao (dv 3) ai)) aq))))
 (af (mj (i:=5) (nd 8) rfl (Or.inl rfl) (pb aq))
 (af (nC PassesOwn.never rfl rfl T.n_range (ao (dv 3) ai) (kz (i:=6) (nd 8) rfl (Or.inl rfl)) km
 (af (aM (i:=7) (nd 8) rfl (Or.inl rfl) (ao (cJ (aa (jr (iC ai ai) ai) (aa (iC ai ai) aq))) (gO mv wO rfl T.n_int PyProof.Rows.Boot.«int» (aa (cZ jQ (bK λ_ _ _ _=>rb _) (bT (dv 6) ai) ai nm) aq))))
 (af (gJ (i:=5) rfl (Or.inl rfl) (rC (um T) hr (aa (dv 4) (aa (dv 6) (aa (rC (kS T) hr (aa (rC (jE T) hr (aa (dv 0) (aa (bc (bc (dv 1) ai) (dv 6)) aq))) aq)) (aa (dv 7) aq))))))
 aj)))
 (af (aM (i:=8) (nd 8) rfl (Or.inl rfl) (bT (ao (dv 3) ai) (aU bj cD rfl T.n_len PyProof.Rows.Boot.«len» (aa (dv 4) aq))))
 (af (bo (aJ (bI hr.units) cG (ao (dv 3) ai) ai nm)
 (af (sS (bW (aa (uS (wJ (aW (dv 4) (bq (dv 8)) cw) (aW (dv 4) cw (bq (dv 8))))) (aa (dv 5) (aa (ao (dv 4) (pf ai)) (aa (ao (dv 4) ai) aq))))))
 aj)
 aj)
 (af (sS (bW (aa (uS (wJ (aW (dv 4) (bq (dv 8)) cw) (aW (dv 4) cw (bq (dv 8))))) (aa (dv 5) (aa (ao (dv 4) ai) (aa (ao (dv 4) (pf ai)) aq))))))
 aj)))))))))
def oA(T:Txt w K mg t):gV P w K mg base CX0 4 (t.A 9) (t.Q 9) ["_law_web_here","_law_digits"] (spD K 2 bA) "_law_change" (top 55) :=
 oD T.g sc (i:=9) rfl λ_ _ _ _ _ _ _ hr=>(
 (af (sR rfl (aW (dv 1) cw (bq ai)) (cu (i:=2) (nd 9) rfl (Or.inl rfl) (cu (i:=3) (nd 9) rfl (Or.inl rfl) (cu (i:=4) (nd 9) rfl (Or.inl rfl) (cu (i:=5) (nd 9) rfl (Or.inl rfl) (cu (i:=6) (nd 9) rfl (Or.inl rfl) jq))))))
 (af (aM (i:=7) (nd 9) rfl (Or.inl rfl) (aU bj cD rfl T.n_len PyProof.Rows.Boot.«len» (aa (ao (dv 0) ai) aq)))
 (af (bo (DW.dt (jo (aJ gZ (bK λ_ _ _ _=>rb _) (dv 2) ai nm) (dX (aJ jQ (bK λ_ _ _ _=>rb _) (dv 7) ai nm))))
 (af (aK (bW (aa aQ (aa (bT (dv 3) (dv 7)) (aa (rC (cW T) hr (aa (cJ (aa (dv 4) (aa (dv 5) (aa (dv 6) aq)))) (aa ai aq))) aq)))))
 aj)
 aj)
 (af (bo (DW.dt (jo (aJ gZ (bK λ_ _ _ _=>rb _) (dv 2) ai nm) (dX (aJ jQ (bK λ_ _ _ _=>rb _) (dv 7) ai nm))))
 (af (aM (i:=8) (nd 9) rfl (Or.inl rfl) (rC (cW T) hr (aa (cJ (aa (dv 4) (aa (dv 5) (aa (dv 6) aq)))) (aa ai aq))))
 (af (bo (DW.dt (jo (aJ (bI hr.units) cG (dv 2) ai nm) (dX (aJ gZ (bK λ_ _ _ _=>rb _) (dv 4) ai nm))))
 (af (aM (i:=8) (nd 9) rfl (Or.inl rfl) eN)
 aj)
 aj)
 (af (aK (bW (aa aQ (aa (bT (dv 3) (dv 7)) (aa (dv 8) aq)))))
 aj)))
 aj)
 (af (bo (DW.dt (jo (aJ gZ (bK λ_ _ _ _=>rb _) (dv 2) ai nm) (dX (aJ jQ (bK λ_ _ _ _=>rb _) (dv 7) ai nm))))
 (af (aK (bW (aa aQ (aa (bT (dv 3) (dv 7)) aq))))
 aj)
 aj)
 (af (aM (i:=9) (nd 9) rfl (Or.inl rfl) (ao (dv 0) ai))
 (af (aM (i:=10) (nd 9) rfl (Or.inl rfl) (bT (dv 3) (aU bj cD rfl T.n_len PyProof.Rows.Boot.«len» (aa (dv 9) aq))))
 (af (aM (i:=11) (nd 9) rfl (Or.inl rfl) (bT (bc (bc (dv 10) ai) (bT (dv 5) (jr (aU bj cD rfl T.n_len PyProof.Rows.Boot.«len» (aa (dv 9) aq)) ai))) (aU bj cD rfl T.n_len PyProof.Rows.Boot.«len» (aa (dv 9) aq))))
 (af (aM (i:=12) (nd 9) rfl (Or.inl rfl) (bW (aa (ao (dv 9) (dv 10)) (aa (ao (dv 9) (dv 11)) (aa (ao (cJ (aa aQ (aa aQ aq))) (bT (dv 6) ai)) aq)))))
 (af (aM (i:=8) (nd 9) rfl (Or.inl rfl) (rC (cW T) hr (aa (cJ (aa (dv 4) (aa (dv 6) (aa (dv 5) aq)))) (aa ai aq))))
 (af (bo (aJ (bI hr.units) cG (bT (ml (dv 5) ai) ai) ai nm)
 (af (aM (i:=8) (nd 9) rfl (Or.inl rfl) eN)
 aj)
 aj)
 (af (aK (bW (aa aQ (aa (bc (dv 12) (bW (aa (rC (cW T) hr (aa (cJ (aa (dv 4) (aa (dv 5) (aa (dv 6) aq)))) (aa ai aq))) (aa (dv 8) aq)))) aq))))
 aj)))))))))))))
def uo(T:Txt w K mg t):gV P w K mg base CX0 1 (t.A 10) (t.Q 10) ["_law_kind","_law_number"] (spD K 2 jg) "_law_odd" (top 57) :=
 oD T.g sc (i:=10) rfl λ_ _ _ _ _ _ _ _=>(
 (af (aM (i:=2) (nd 10) rfl (Or.inl rfl) (cJ (aa eN (aa dG (aa (pf ai) (aa ai (aa (dv 1) (aa aQ (aa aQ (aa aQ aq))))))))))
 (af (aM (i:=2) (nd 10) rfl (Or.inl rfl) (bc (dv 2) (cJ (aa (bW (aa ai (aa ai aq))) (aa (bW (aa ai (aa ai aq))) (aa (bW (aa (pf ai) (aa ai aq))) (aa (bW (aa ai (aa ai aq))) (aa (bW (aa ai (aa ai aq))) (aa (cJ (aa ai (aa ai aq))) (aa dG aq))))))))))
 (af (aM (i:=2) (nd 10) rfl (Or.inl rfl) (bc (dv 2) (cJ (aa (bW (aa aQ (aa aQ (aa aQ (aa (bW (aa ai (aa ai aq))) aq))))) (aa (bW (aa aQ (aa aQ (aa aQ (aa (bW (aa ai (aa ai aq))) (aa eN aq)))))) (aa aQ aq))))))
 (af (aK (ao (dv 2) (dv 0)))
 aj)))))
def rW(T:Txt w K mg t):gV P w K mg base CX0 2 (t.A 11) (t.Q 11) ["_law_change_here","_law_digits"] (spD K 2 cO) "_law_bent" (top 58) :=
 oD T.g sc (i:=11) rfl λ_ _ _ _ _ _ _ hr=>(
 (af (sR rfl (dv 1) (cu (i:=2) (nd 11) rfl (Or.inl rfl) (cu (i:=3) (nd 11) rfl (Or.inl rfl) (cu (i:=4) (nd 11) rfl (Or.inl rfl) (cu (i:=5) (nd 11) rfl (Or.inl rfl) jq)))))
 (af (aM (i:=3) (nd 11) rfl (Or.inl rfl) (bT (dv 3) (aU bj cD rfl T.n_len PyProof.Rows.Boot.«len» (aa (dv 0) aq))))
 (af (bo (DW.dt (cP (aJ (bI hr.units) cG (dv 2) ai nm) (cP (aJ (bI hr.units) cG (dv 2) ai nm) (cP (aJ (bI hr.units) cG (dv 2) ai nm) (aX (aJ (bI hr.units) cG (dv 2) ai nm))))))
 (af (aK (kA (kA (aW (dv 0) cw (bq (dv 3))) (bW (aa (rC (uo T) hr (aa (dv 4) (aa (dv 5) aq))) aq))) (aW (dv 0) (bq (bc (dv 3) ai)) cw)))
 aj)
 aj)
 (af (bo (aJ (bI hr.units) cG (dv 2) ai nm)
 (af (aK (kA (aW (dv 0) cw (bq (dv 3))) (aW (dv 0) (bq (bc (dv 3) ai)) cw)))
 aj)
 aj)
 (af (bo (aJ (bI hr.units) cG (dv 2) ai nm)
 (af (aK (bc (dv 0) (bW (aa (ao (dv 0) (dv 3)) aq))))
 aj)
 aj)
 (af (bo (aJ (bI hr.units) cG (dv 2) ai nm)
 (af (aK (ao (cJ (aa (gO fH nF rfl T.n_list PyProof.Rows.Boot.«list» (aa (dv 0) aq)) (aa eN (aa (bW aq) (aa aQ aq))))) (bT (dv 4) ai)))
 aj)
 aj)
 (af (bo (DW.dt (jo (aJ (bI hr.units) cG (dv 2) ai nm) (dX (aJ (bI hr.units) cG (ao (dv 0) ai) aQ nm))))
 (af (aM (i:=6) (nd 11) rfl (Or.inl rfl) (ao (dv 0) ai))
 (af (aM (i:=7) (nd 11) rfl (Or.inl rfl) (cJ (aa (bc (bW (aa aQ aq)) (aW (dv 6) (bq ai) cw)) (aa (kA (kA (aW (dv 6) cw (bq ai)) (aW (dv 6) cw (bq ai))) (aW (dv 6) (bq ai) cw)) (aa (kA (aW (dv 6) cw (bq ai)) (bW (aa (bW (aa ai (aa ai aq))) aq))) aq)))))
 (af (aK (bW (aa aQ (aa (ao (dv 7) (bT (dv 4) ai)) aq))))
 aj)))
 aj)
 (af (aK (dv 0))
 aj)))))))))
def jb(T:Txt w K mg t):gV P w K mg base CX0 1 (t.A 12) (t.Q 12) ["thing"] (spD K 1 m_is_name) "is_name" (top 14) :=
 oD T.g sc (i:=12) rfl λ_ _ _ _ H _ _ hr=>(
 (af (bo (DW.dt (cP (bR (bQ (bF eS rfl T.n_isinstance rfl T.n_str PyProof.Rows.Boot.«str» (dv 0)))) (aX (bR (uQ ue ue (gH λ_ _ _ _=>rb _) (gH λ_ _ _ _=>rb _) gI gI ai (aU bj cD rfl T.n_len PyProof.Rows.Boot.«len» (aa (dv 0) aq)) (bU T.gS rfl))))))
 (af (aK dG)
 aj)
 aj)
 (af (aK (aU (Ce rfl) IS rfl T.n_all PyProof.Rows.Boot.«all» (aa (F4 (KW ["sign"] 1 [] rfl (II (dv 0)) (tN (by decide)) (λs H C fp pn=>⟨λHe H0e=>(kz (i:=0) (show List.Nodup (["sign"]:List Str) from by decide) rfl (Or.inl rfl)),yx,(cZ (A0 hr.units) A2 (dv 0) (bU T.mw rfl) rfl)⟩) ⟨rfl,rfl⟩ rfl rfl rfl rfl)) aq)))
 aj)))
def lB(T:Txt w K mg t):gV P w K mg base (fj P w) 3 (t.A 13) (t.Q 13) ["places"] (spD K 1 m_look_at_places) "look_at_places" (top 34) :=
 oE T.g sc (i:=13) rfl λ_ _ _ _ _ _ _ hr=>(
 (af (bo (DW.dt (cP (bR (bQ (bF jX rfl T.n_isinstance rfl T.n_list PyProof.Rows.Boot.«list» (dv 0)))) (aX (bR (uQ ue ue (gH λ_ _ _ _=>rb _) (gH λ_ _ _ _=>rb _) gI gI (bU T.gm rfl) (aU bj cD rfl T.n_len PyProof.Rows.Boot.«len» (aa (dv 0) aq)) (bU T.iF rfl))))))
 (af (fS T.ja.xc T.bM.xi T.bM.xs T.bM.xf ((eU T).mono (by decide:1<=1)) T.bM.bi (by decide) (by decide) hr T.gC hr.hd rfl (aa aQ (aa eN aq)))
 aj)
 aj)
 (af (yu PassesOwn.leaving rfl (yy rfl T.n_enumerate (dv 0)) (B1 rfl (cu (i:=1) (nd 13) rfl (Or.inl rfl) (cu (i:=2) (nd 13) rfl (Or.inl rfl) jq))) qf
 (af (bo (DW.dt (cP (bR (bQ (rC (jb T) hr (aa (dv 2) aq)))) (aX (aJ (A0 hr.units) A2 (dv 2) (aW (dv 0) cw (bq (dv 1))) rfl))))
 (af (fS T.ja.xc T.bM.xi T.bM.xs T.bM.xf ((eU T).mono (by decide:1<=1)) T.bM.bi (by decide) (by decide) hr T.gC hr.hd rfl (aa aQ (aa (dv 1) aq)))
 aj)
 aj)
 aj))
 aj)))
def jS(T:Txt w K mg t):gV P w K mg base CX0 1 (t.A 14) (t.Q 14) ["thing"] (spD K 1 m_is_whole) "is_whole" (top 12) :=
 oD T.g sc (i:=14) rfl λ_ _ _ _ _ _ _ _=>(
 (af (aK (eX (bF oM rfl T.n_isinstance rfl T.n_int PyProof.Rows.Boot.«int» (dv 0)) (eB (B4 (bF mJ rfl T.n_isinstance rfl T.n_bool PyProof.Rows.Boot.«bool» (dv 0))))))
 aj))
def lC(T:Txt w K mg t):gV P w K mg base CX0 1 (t.A 15) (t.Q 15) ["one","other"] (spD K 2 m_common_divisor) "common_divisor" (top 8) :=
 oD T.g sc (i:=15) rfl λ_ _ _ _ _ _ _ hr=>(
 (af (aM (i:=2) (nd 15) rfl (Or.inl rfl) (aU pA wQ rfl T.n_abs PyProof.Rows.Boot.«abs» (aa (dv 0) aq)))
 (af (aM (i:=3) (nd 15) rfl (Or.inl rfl) (aU pA wQ rfl T.n_abs PyProof.Rows.Boot.«abs» (aa (dv 1) aq)))
 (af (uR _ PassesOwn.never (aJ (fz hr.units) hZ (dv 3) ai nm)
 (af (aM (i:=4) (nd 15) rfl (Or.inl rfl) (bT (dv 2) (dv 3)))
 (af (aM (i:=2) (nd 15) rfl (Or.inl rfl) (dv 3))
 (af (aM (i:=3) (nd 15) rfl (Or.inl rfl) (dv 4))
 aj))))
 (af (aK (dv 2))
 aj)))))
def mF(T:Txt w K mg t):gV P w K mg base CX0 2 (t.A 16) (t.Q 16) ["thing"] (spD K 1 m_is_ratio) "is_ratio" (top 13) :=
 oD T.g sc (i:=16) rfl λ_ _ _ _ _ _ _ hr=>(
 (af (bo (DW.dt (cP (bR (bQ (bF da rfl T.n_isinstance rfl T.n_tuple PyProof.Rows.Boot.«tuple» (dv 0)))) (aX (aJ (fz hr.units) hZ (aU bj cD rfl T.n_len PyProof.Rows.Boot.«len» (aa (dv 0) aq)) ai nm))))
 (af (aK dG)
 aj)
 aj)
 (af (bo (DW.dt (cP (bR (bQ (rC (jS T) hr (aa (ao (dv 0) ai) aq)))) (aX (bR (bQ (rC (jS T) hr (aa (ao (dv 0) ai) aq)))))))
 (af (aK dG)
 aj)
 aj)
 (af (aK (eX (cZ uf (bK λ_ _ _ _=>rb _) (ao (dv 0) ai) ai nm) (eB (cZ (bI hr.units) cG (rC (lC T) hr (aa (ao (dv 0) ai) (aa (ao (dv 0) ai) aq))) ai nm))))
 aj))))
def rV(T:Txt w K mg t):gV P w K mg base CX0 3 (t.A 17) (t.Q 17) ["thing"] (spD K 1 m_is_length) "is_length" (top 30) :=
 oD T.g sc (i:=17) rfl λ_ _ _ _ _ _ _ hr=>(
 (af (aK (eX (rC (mF T) hr (aa (dv 0) aq)) (eB (cZ uf (bK λ_ _ _ _=>rb _) (ao (dv 0) ai) ai nm))))
 aj))
def uh(T:Txt w K mg t):gV P w K mg base CX0 3 (t.A 18) (t.Q 18) ["thing"] (spD K 1 m_is_worth) "is_worth" (top 31) :=
 oD T.g sc (i:=18) rfl λ_ _ _ _ _ _ _ hr=>(
 (af (aK (yz (cZ vM vO (dv 0) eN nm) (eB (eX (rC (mF T) hr (aa (dv 0) aq)) (eB (cZ jQ (bK λ_ _ _ _=>rb _) (ao (dv 0) ai) ai nm))))))
 aj))
def zc(T:Txt w K mg t):gV P w K mg base CX0 4 (t.A 19) (t.Q 19) ["thing"] (spD K 1 m_is_tie) "is_tie" (top 29) :=
 oD T.g sc (i:=19) rfl λ_ _ _ _ _ _ _ hr=>(
 (af (bo (DW.dt (cP (bR (bQ (bF da rfl T.n_isinstance rfl T.n_tuple PyProof.Rows.Boot.«tuple» (dv 0)))) (aX (aJ (fz hr.units) hZ (aU bj cD rfl T.n_len PyProof.Rows.Boot.«len» (aa (dv 0) aq)) ai nm))))
 (af (aK dG)
 aj)
 aj)
 (af (bo (DW.dt (cP (bR (bQ (rC (jb T) hr (aa (ao (dv 0) (bU T.qQ rfl)) aq)))) (cP (bR (bQ (rC (jb T) hr (aa (ao (dv 0) (bU T.kB rfl)) aq)))) (aX (aJ (bI hr.units) cG (ao (dv 0) (bU T.qQ rfl)) (ao (dv 0) (bU T.kB rfl)) nm)))))
 (af (aK dG)
 aj)
 aj)
 (af (bo (DW.dt (cP (bR (bQ (bF eS rfl T.n_isinstance rfl T.n_str PyProof.Rows.Boot.«str» (ao (dv 0) (bU T.pB rfl))))) (aX (aJ (iL hr.units) iM (ao (dv 0) (bU T.pB rfl)) (bU T.sY rfl) rfl))))
 (af (aK dG)
 aj)
 aj)
 (af (aK (eX (rC (rV T) hr (aa (ao (dv 0) (bU T.lQ rfl)) aq)) (eB (rC (uh T) hr (aa (ao (dv 0) (bU T.nG rfl)) aq)))))
 aj)))))
def m6(T:Txt w K mg t):gV P w K mg base (fj P w) 5 (t.A 20) (t.Q 20) ["ties","places"] (spD K 2 m_look_at_ties) "look_at_ties" (top 35) :=
 oE T.g sc (i:=20) rfl λ_ _ _ _ _ _ _ hr=>(
 (af (bo (DW.dt (cP (bR (bQ (bF jX rfl T.n_isinstance rfl T.n_list PyProof.Rows.Boot.«list» (dv 0)))) (aX (aJ jQ (bK λ_ _ _ _=>rb _) (aU bj cD rfl T.n_len PyProof.Rows.Boot.«len» (aa (dv 0) aq)) (bU T.ke rfl) nm))))
 (af (fS T.ja.xc T.bM.xi T.bM.xs T.bM.xf ((eU T).mono (by decide:1<=3)) T.bM.bi (by decide) (by decide) hr T.gC hr.hd rfl (aa aQ (aa eN aq)))
 aj)
 aj)
 (af (yu PassesOwn.leaving rfl (yy rfl T.n_enumerate (dv 0)) (B1 rfl (cu (i:=2) (nd 20) rfl (Or.inl rfl) (cu (i:=3) (nd 20) rfl (Or.inl rfl) jq))) qf
 (af (bo (DW.dt (cP (bR (bQ (rC (zc T) hr (aa (dv 3) aq)))) (cP (aJ (iL hr.units) iM (ao (dv 3) (bU T.qQ rfl)) (dv 1) rfl) (aX (aJ (iL hr.units) iM (ao (dv 3) (bU T.kB rfl)) (dv 1) rfl)))))
 (af (fS T.ja.xc T.bM.xi T.bM.xs T.bM.xf ((eU T).mono (by decide:1<=3)) T.bM.bi (by decide) (by decide) hr T.gC hr.hd rfl (aa aQ (aa (dv 2) aq)))
 aj)
 aj)
 aj))
 aj)))
def mG(T:Txt w K mg t):gV P w K mg base CX0 2 (t.A 21) (t.Q 21) ["thing","places"] (spD K 2 m_is_place) "is_place" (top 36) :=
 oD T.g sc (i:=21) rfl λ_ _ _ _ _ _ _ hr=>(
 (af (aK (eX (rC (jb T) hr (aa (dv 0) aq)) (eB (cZ (A0 hr.units) A2 (dv 0) (dv 1) rfl))))
 aj))
def jR(T:Txt w K mg t):gV P w K mg base (fj P w) 6 (t.A 22) (t.Q 22) ["thing"] (spD K 1 m_look_at_web) "look_at_web" (top 33) :=
 oE T.g sc (i:=22) rfl λ_ _ _ _ _ _ _ hr=>(
 (af (bo (DW.dt (cP (bR (bQ (bF da rfl T.n_isinstance rfl T.n_tuple PyProof.Rows.Boot.«tuple» (dv 0)))) (aX (aJ (fz hr.units) hZ (aU bj cD rfl T.n_len PyProof.Rows.Boot.«len» (aa (dv 0) aq)) ai nm))))
 (af (fS T.ja.xc T.bM.xi T.bM.xs T.bM.xf ((eU T).mono (by decide:1<=4)) T.bM.bi (by decide) (by decide) hr T.gC hr.hd rfl (aa aQ (aa eN aq)))
 aj)
 aj)
 (af (sT (rC (lB T) hr (aa (ao (dv 0) (bU T.gR rfl)) aq)))
 (af (sT (rC (m6 T) hr (aa (ao (dv 0) (bU T.pC rfl)) (aa (ao (dv 0) (bU T.gR rfl)) aq))))
 (af (bo (bR (bQ (rC (mG T) hr (aa (ao (dv 0) (bU T.lR rfl)) (aa (ao (dv 0) (bU T.gR rfl)) aq)))))
 (af (fS T.ja.xc T.bM.xi T.bM.xs T.bM.xf ((eU T).mono (by decide:1<=4)) T.bM.bi (by decide) (by decide) hr T.gC hr.hd rfl (aa aQ (aa eN aq)))
 aj)
 aj)
 (af (bo (DW.dt (cP (bR (bQ (rC (mG T) hr (aa (ao (dv 0) (bU T.pD rfl)) (aa (ao (dv 0) (bU T.gR rfl)) aq))))) (aX (aJ (bI hr.units) cG (ao (dv 0) (bU T.pD rfl)) (ao (dv 0) (bU T.lR rfl)) nm))))
 (af (fS T.ja.xc T.bM.xi T.bM.xs T.bM.xf ((eU T).mono (by decide:1<=4)) T.bM.bi (by decide) (by decide) hr T.gC hr.hd rfl (aa aQ (aa eN aq)))
 aj)
 aj)
 aj))))))
def l8(T:Txt w K mg t):gV P w K mg base CX0 2 (t.A 23) (t.Q 23) ["web","thing"] (spD K 2 m_is_tie_number) "is_tie_number" (top 32) :=
 oD T.g sc (i:=23) rfl λ_ _ _ _ _ _ _ hr=>(
 (af (aK (eX (rC (jS T) hr (aa (dv 1) aq)) (eB (B6 ue gZ (gH λ_ _ _ _=>rb _) (gH λ_ _ _ _=>rb _) gI gI ai (dv 1) (aU bj cD rfl T.n_len PyProof.Rows.Boot.«len» (aa (ao (dv 0) (bU T.pC rfl)) aq))))))
 aj))
def jT(T:Txt w K mg t):gV P w K mg base CX0 3 (t.A 24) (t.Q 24) ["web","thing"] (spD K 2 aG) "is_change_by_form" (top 40) :=
 oD T.g sc (i:=24) rfl λ_ _ _ _ _ _ _ hr=>(
 (af (bo (DW.dt (cP (bR (bQ (bF da rfl T.n_isinstance rfl T.n_tuple PyProof.Rows.Boot.«tuple» (dv 1)))) (cP (aJ (bI hr.units) cG (aU bj cD rfl T.n_len PyProof.Rows.Boot.«len» (aa (dv 1) aq)) ai nm) (aX (bR (bQ (bF eS rfl T.n_isinstance rfl T.n_str PyProof.Rows.Boot.«str» (ao (dv 1) ai))))))))
 (af (aK dG)
 aj)
 aj)
 (af (bo (DW.dt (cP (E9 T.nH rfl (ao (dv 1) ai)) (aX (aJ (fz hr.units) hZ (aU bj cD rfl T.n_len PyProof.Rows.Boot.«len» (aa (dv 1) aq)) (Fh T.nH rfl (ao (dv 1) ai)) nm))))
 (af (aK dG)
 aj)
 aj)
 (af (aK (yz (cZ (bI hr.units) cG (ao (dv 1) ai) aQ nm) (eB (rC (l8 T) hr (aa (dv 0) (aa (ao (dv 1) ai) aq))))))
 aj))))
def ug(T:Txt w K mg t):gV P w K mg base CX0 1 (t.A 25) (t.Q 25) ["tie","word","thing"] (spD K 3 fP) "tie_with" (top 42) :=
 oD T.g sc (i:=25) rfl λ_ _ _ _ _ _ _ hr=>(
 (af (aM (i:=3) (nd 25) rfl (Or.inl rfl) (uT (aJ (bI hr.units) cG (dv 1) aQ nm) (dv 2) (ao (dv 0) (bU T.lQ rfl))))
 (af (aM (i:=4) (nd 25) rfl (Or.inl rfl) (uT (aJ (bI hr.units) cG (dv 1) aQ nm) (dv 2) (ao (dv 0) (bU T.nG rfl))))
 (af (aK (bW (aa (ao (dv 0) (bU T.qQ rfl)) (aa (ao (dv 0) (bU T.kB rfl)) (aa (ao (dv 0) (bU T.pB rfl)) (aa (dv 3) (aa (dv 4) aq)))))))
 aj))))
def m7(T:Txt w K mg t):gV P w K mg base CX0 2 (t.A 26) (t.Q 26) ["ties","change"] (JE K 2 cj) "ties_behind" (top 41) :=
 oF T.g sc (i:=26) rfl λ_ _ _ _ _ _ _ hr=>(
 (qI (mj (i:=2) (nd 26) rfl (Or.inl rfl) (nD rfl T.n_list (aa (dv 0) aq)))
 (qI (bo (aJ (bI hr.units) cG (ao (dv 1) ai) aQ nm)
 (af (gJ (i:=2) rfl (Or.inl rfl) (ao (dv 1) ai))
 aj)
 (af (bo (aJ (bI hr.units) cG (ao (dv 1) ai) aQ nm)
 (af (BX (i:=2) rfl (Or.inl rfl) (ao (dv 1) ai))
 aj)
 (af (IF (i:=2) rfl (Or.inl rfl) (rC (ug T) hr (aa (ao (dv 0) (ao (dv 1) ai)) (aa (ao (dv 1) ai) (aa (ao (dv 1) ai) aq)))) (ao (dv 1) ai))
 aj))
 aj))
 (BV rfl (Or.inl rfl)))))
def oy(T:Txt w K mg t):gV P w K mg base (fj P w) 7 (t.A 27) (t.Q 27) ["web","change"] (spD K 2 cb) "changed" (top 39) :=
 oE T.g sc (i:=27) rfl λ_ _ _ _ _ _ _ hr=>(
 (af (sT (rC (jR T) hr (aa (dv 0) aq)))
 (af (bo (bR (bQ (rC (jT T) hr (aa (dv 0) (aa (dv 1) aq)))))
 (af (BW T.nK.xcls T.kW hr.hd rfl (aa aQ aq))
 aj)
 aj)
 (af (aM (i:=2) (nd 27) rfl (Or.inl rfl) (bW (aa (uS (nD rfl T.n_list (aa (ao (dv 0) (bU T.gR rfl)) aq))) (aa (uS (rF (m7 T) hr (aa (ao (dv 0) (bU T.pC rfl)) (aa (dv 1) aq)))) (aa (ao (dv 0) (bU T.lR rfl)) (aa (ao (dv 0) (bU T.pD rfl)) aq))))))
 (af (Fb (rD (jR T) hr (aa (cQ (dv 2)) aq)) rfl T.gC (sv T) T.nK.xcls T.kW rfl (λea=>(aa aQ aq)))
 (af (aK (dv 2))
 aj))))))
def jc(T:Txt w K mg t):gV P w K mg base CX0 8 (t.A 28) (t.Q 28) ["_law_web_here","_law_change_here"] (spD K 2 bS) "_law_told" (top 61) :=
 oD T.g sc (i:=28) rfl λ_ _ _ _ _ _ _ hr=>(
 (af (aM (i:=2) (nd 28) rfl (Or.inl rfl) eN)
 (af (aM (i:=3) (nd 28) rfl (Or.inl rfl) aQ)
 (af (IE ⟨rfl,rfl⟩ (rT (i:=2) (nd 28) rfl (Or.inl rfl) (oy T) hr (aa (dv 0) (aa (dv 1) aq))) rfl T.oU (m9 T) (nd 28) rfl rfl (λea=>(af (aM (i:=3) (nd 28) rfl (Or.inl rfl) aQ)
 (af (bo (DW.dt (jo (bQ (zB rfl T.n_ValueError PyProof.Rows.Boot.«ValueError» (Am T) rfl T.n_isinstance (dv 4))) (dX (bR (bQ (Ff (Al T) (sW rfl T.zl (sW rfl T.wq (sW rfl T.Ee IM))) (by simp) rfl T.n_isinstance (dv 4)))))))
 (af (aM (i:=5) (nd 28) rfl (Or.inl rfl) (bc (gO mv wO rfl T.n_int PyProof.Rows.Boot.«int» (aa (qK rfl T.kW (Ak T) rfl T.n_isinstance (dv 4)) aq)) (iD ai (gO mv wO rfl T.n_int PyProof.Rows.Boot.«int» (aa (qK rfl T.gC (Aj T) rfl T.n_isinstance (dv 4)) aq)))))
 (af (aM (i:=3) (nd 28) rfl (Or.inl rfl) (ao (cJ (aa aQ (aa aQ (aa aQ (aa aQ aq))))) (dv 5)))
 aj))
 aj)
 aj))))
 (af (aK (bW (aa (dv 2) (aa (dv 3) aq))))
 aj)))))
def iA(T:Txt w K mg t):gV P w K mg base CX0 1 (t.A 29) (t.Q 29) ["_law_thing"] (spD K 1 dQ) "_law_whole" (top 46) :=
 oD T.g sc (i:=29) rfl λ_ _ _ _ _ _ _ _=>(
 (af (aK (eX (bF oM rfl T.n_isinstance rfl T.n_int PyProof.Rows.Boot.«int» (dv 0)) (eB (B4 (bF mJ rfl T.n_isinstance rfl T.n_bool PyProof.Rows.Boot.«bool» (dv 0))))))
 aj))
def eJ(T:Txt w K mg t):gV P w K mg base CX0 2 (t.A 30) (t.Q 30) ["_law_thing"] (spD K 1 cH) "_law_is_ratio" (top 49) :=
 oD T.g sc (i:=30) rfl λ_ _ _ _ _ _ _ hr=>(
 (af (bo (DW.dt (cP (bR (bQ (bF da rfl T.n_isinstance rfl T.n_tuple PyProof.Rows.Boot.«tuple» (dv 0)))) (aX (aJ (fz hr.units) hZ (aU bj cD rfl T.n_len PyProof.Rows.Boot.«len» (aa (dv 0) aq)) ai nm))))
 (af (aK dG)
 aj)
 aj)
 (af (bo (DW.dt (cP (bR (bQ (rC (iA T) hr (aa (ao (dv 0) ai) aq)))) (cP (bR (bQ (rC (iA T) hr (aa (ao (dv 0) ai) aq)))) (aX (aJ gZ (bK λ_ _ _ _=>rb _) (ao (dv 0) ai) ai nm)))))
 (af (aK dG)
 aj)
 aj)
 (af (aK (cZ (bI hr.units) cG (rC (jC T) hr (aa (ao (dv 0) ai) (aa (ao (dv 0) ai) aq))) ai nm))
 aj))))
def oz(T:Txt w K mg t):gV P w K mg base CX0 3 (t.A 31) (t.Q 31) ["_law_web_here","_law_thing"] (spD K 2 aT) "_law_is_tie" (top 59) :=
 oD T.g sc (i:=31) rfl λ_ _ _ _ _ _ _ hr=>(
 (af (bo (DW.dt (cP (bR (bQ (bF da rfl T.n_isinstance rfl T.n_tuple PyProof.Rows.Boot.«tuple» (dv 1)))) (aX (aJ (fz hr.units) hZ (aU bj cD rfl T.n_len PyProof.Rows.Boot.«len» (aa (dv 1) aq)) ai nm))))
 (af (aK dG)
 aj)
 aj)
 (af (bo (DW.dt (cP (bR (bQ (bF eS rfl T.n_isinstance rfl T.n_str PyProof.Rows.Boot.«str» (ao (dv 1) ai)))) (aX (bR (bQ (bF eS rfl T.n_isinstance rfl T.n_str PyProof.Rows.Boot.«str» (ao (dv 1) ai)))))))
 (af (aK dG)
 aj)
 aj)
 (af (bo (bR (bQ (bF eS rfl T.n_isinstance rfl T.n_str PyProof.Rows.Boot.«str» (ao (dv 1) ai))))
 (af (aK dG)
 aj)
 aj)
 (af (bo (DW.dt (cP (aJ (iL hr.units) iM (ao (dv 1) ai) (ao (dv 0) ai) rfl) (aX (aJ (iL hr.units) iM (ao (dv 1) ai) (ao (dv 0) ai) rfl))))
 (af (aK dG)
 aj)
 aj)
 (af (bo (DW.dt (cP (aJ (bI hr.units) cG (ao (dv 1) ai) (ao (dv 1) ai) nm) (aX (aJ (iL hr.units) iM (ao (dv 1) ai) (cJ (aa aQ (aa aQ aq))) rfl))))
 (af (aK dG)
 aj)
 aj)
 (af (bo (DW.dt (cP (bR (bQ (rC (eJ T) hr (aa (ao (dv 1) ai) aq)))) (aX (aJ gZ (bK λ_ _ _ _=>rb _) (ao (ao (dv 1) ai) ai) ai nm))))
 (af (aK dG)
 aj)
 aj)
 (af (aK (yz (cZ vM vO (ao (dv 1) ai) eN nm) (eB (eX (rC (eJ T) hr (aa (ao (dv 1) ai) aq)) (eB (cZ jQ (bK λ_ _ _ _=>rb _) (ao (ao (dv 1) ai) ai) ai nm))))))
 aj))))))))
def g9(T:Txt w K mg t):gV P w K mg base CX0 4 (t.A 32) (t.Q 32) ["_law_web_here","_law_change_here"] (spD K 2 ax) "_law_is_change" (top 60) :=
 oD T.g sc (i:=32) rfl λ_ _ _ _ _ _ _ hr=>(
 (af (bo (DW.dt (cP (bR (bQ (bF da rfl T.n_isinstance rfl T.n_tuple PyProof.Rows.Boot.«tuple» (dv 1)))) (cP (aJ gZ (bK λ_ _ _ _=>rb _) (aU bj cD rfl T.n_len PyProof.Rows.Boot.«len» (aa (dv 1) aq)) ai nm) (aX (bR (bQ (bF eS rfl T.n_isinstance rfl T.n_str PyProof.Rows.Boot.«str» (ao (dv 1) ai))))))))
 (af (aK dG)
 aj)
 aj)
 (af (bo (aJ (bI hr.units) cG (ao (dv 1) ai) aQ nm)
 (af (aK (eX (cZ (bI hr.units) cG (aU bj cD rfl T.n_len PyProof.Rows.Boot.«len» (aa (dv 1) aq)) ai nm) (eX (cZ gZ (bK λ_ _ _ _=>rb _) (aU bj cD rfl T.n_len PyProof.Rows.Boot.«len» (aa (ao (dv 0) ai) aq)) ai nm) (eB (rC (oz T) hr (aa (dv 0) (aa (ao (dv 1) ai) aq)))))))
 aj)
 aj)
 (af (bo (DW.dt (cP (bR (bQ (rC (iA T) hr (aa (ao (dv 1) ai) aq)))) (cP (aJ gZ (bK λ_ _ _ _=>rb _) (ao (dv 1) ai) ai nm) (aX (aJ uf (bK λ_ _ _ _=>rb _) (ao (dv 1) ai) (aU bj cD rfl T.n_len PyProof.Rows.Boot.«len» (aa (ao (dv 0) ai) aq)) nm)))))
 (af (aK dG)
 aj)
 aj)
 (af (bo (aJ (bI hr.units) cG (ao (dv 1) ai) aQ nm)
 (af (aK (cZ (bI hr.units) cG (aU bj cD rfl T.n_len PyProof.Rows.Boot.«len» (aa (dv 1) aq)) ai nm))
 aj)
 aj)
 (af (bo (aJ (fz hr.units) hZ (aU bj cD rfl T.n_len PyProof.Rows.Boot.«len» (aa (dv 1) aq)) ai nm)
 (af (aK dG)
 aj)
 aj)
 (af (bo (aJ (bI hr.units) cG (ao (dv 1) ai) aQ nm)
 (af (aK (eX (rC (eJ T) hr (aa (ao (dv 1) ai) aq)) (eB (cZ uf (bK λ_ _ _ _=>rb _) (ao (ao (dv 1) ai) ai) ai nm))))
 aj)
 aj)
 (af (bo (aJ (fz hr.units) hZ (ao (dv 1) ai) aQ nm)
 (af (aK dG)
 aj)
 aj)
 (af (aK (yz (cZ vM vO (ao (dv 1) ai) eN nm) (eB (eX (rC (eJ T) hr (aa (ao (dv 1) ai) aq)) (eB (cZ jQ (bK λ_ _ _ _=>rb _) (ao (ao (dv 1) ai) ai) ai nm))))))
 aj)))))))))
def jD(T:Txt w K mg t):gV P w K mg base CX0 1 (t.A 33) (t.Q 33) ["_law_web_here","_law_change_here"] (spD K 2 bz) "_law_changed" (top 56) :=
 oD T.g sc (i:=33) rfl λ_ _ _ _ _ _ _ hr=>(
 (af (mj (i:=2) (nd 33) rfl (Or.inl rfl) (nD rfl T.n_list (aa (ao (dv 0) ai) aq)))
 (af (sR rfl (zA (dv 1) cw (bq ai)) (cu (i:=3) (nd 33) rfl (Or.inl rfl) (cu (i:=4) (nd 33) rfl (Or.inl rfl) jq)))
 (af (bo (aJ (bI hr.units) cG (dv 3) aQ nm)
 (af (yt (i:=2) rfl (Or.inl rfl) (bc (aW (ao (dv 2) (dv 4)) cw (bq ai)) (bW (aa (ao (dv 1) ai) (aa (ao (ao (dv 2) (dv 4)) ai) aq)))) (dv 4))
 aj)
 aj)
 (af (bo (aJ (bI hr.units) cG (dv 3) aQ nm)
 (af (yt (i:=2) rfl (Or.inl rfl) (bc (aW (ao (dv 2) (dv 4)) cw (bq ai)) (bW (aa (ao (dv 1) ai) aq))) (dv 4))
 aj)
 aj)
 (af (bo (aJ (bI hr.units) cG (dv 3) aQ nm)
 (af (IH 2 (mj (i:=2) (nd 33) rfl (Or.inl rfl) (wJ (aW (dv 2) cw (bq (dv 4))) (aW (dv 2) (bq (bc (dv 4) ai)) cw))))
 aj)
 aj)
 (af (bo (aJ (bI hr.units) cG (ao (dv 1) ai) aQ nm)
 (af (gJ (i:=2) rfl (Or.inl rfl) (ao (dv 1) ai))
 aj)
 aj)
 (af (sS (bW (aa (uS (nD rfl T.n_list (aa (ao (dv 0) ai) aq))) (aa (dv 2) (aa (ao (dv 0) ai) (aa (ao (dv 0) ai) aq))))))
 aj))))))))
def pR(T:Txt w K mg t):gV P w K mg base CX0 9 (t.A 34) (t.Q 34) ["_law_web_here","_law_change_here"] (spD K 2 fD) "_law_right" (top 62) :=
 oD T.g sc (i:=34) rfl λ_ _ _ _ _ _ _ hr=>(
 (af (aM (i:=2) (nd 34) rfl (Or.inl rfl) (bW (aa (gO fH nF rfl T.n_list PyProof.Rows.Boot.«list» (aa (ao (cQ (dv 0)) ai) aq)) (aa (gO fH nF rfl T.n_list PyProof.Rows.Boot.«list» (aa (ao (cQ (dv 0)) ai) aq)) (aa (ao (cQ (dv 0)) ai) (aa (ao (cQ (dv 0)) ai) aq))))))
 (zx [0,1] rfl (λ_ _ h=>h) (rC (jc T) hr (aa (cQ (dv 0)) (aa (dv 1) aq))) (cu (i:=3) (nd 34) rfl (Or.inl rfl) (cu (i:=4) (nd 34) rfl (Or.inl rfl) jq))
 (Af (i:=5) (nd 34) rfl (Or.inl rfl) (ao (cJ (aa (aW (cQ (dv 0)) cw (bq ai)) (aa eN (aa (gO fH nF rfl T.n_list PyProof.Rows.Boot.«list» (aa (cQ (dv 0)) aq)) aq)))) (bT (aU bj cD rfl T.n_len PyProof.Rows.Boot.«len» (aa (ao (cQ (dv 0)) ai) aq)) ai))
 (xa (DW.dt (cP (aJ (fz hr.units) hZ (cQ (dv 0)) (cQ (dv 2)) nm) (aX (aJ (fz hr.units) hZ (ao (rC (jc T) hr (aa (dv 5) (aa (dv 1) aq))) ai) aQ nm))))
 (af (aK dG)
 aj)
 (xa (bR (bQ (rC (g9 T) hr (aa (cQ (dv 0)) (aa (dv 1) aq)))))
 (af (aK (cZ (bI hr.units) cG (dv 4) aQ nm))
 aj)
 (Af (i:=6) (nd 34) rfl (Or.inl rfl) (rC (jD T) hr (aa (cQ (dv 0)) (aa (dv 1) aq)))
 (xa (DW.dt (cP (aJ (fz hr.units) hZ (dv 4) aQ nm) (aX (bR (bQ (bF da rfl T.n_isinstance rfl T.n_tuple PyProof.Rows.Boot.«tuple» (cQ (dv 3))))))))
 (af (aK dG)
 aj)
 (xa (DW.dt (cP (bR (bQ (bF jX rfl T.n_isinstance rfl T.n_list PyProof.Rows.Boot.«list» (ao (cQ (dv 3)) ai)))) (aX (aJ (fz hr.units) hZ (cQ (dv 3)) (cQ (dv 6)) nm))))
 (af (aK dG)
 aj)
 (Gw (x:=3) (Ad (x:=3) rfl rfl rfl (Or.inl rfl)
 (BU (w:=0) (y:=4) [1] rfl rfl (nd 34) rfl (Or.inl rfl) rfl (Or.inl rfl) (ao (rC (jc T) hr (aa (cQ (dv 0)) (aa (dv 1) aq))) ai)
 (af (aK (eX (cZ (bI hr.units) cG (dv 4) aQ nm) (eX (cZ (bI hr.units) cG (cQ (rC (gV.noX (oy T)) hr (aa (cQ (dv 0)) (aa (dv 1) aq)))) (cQ (dv 6)) nm) (eB (cZ (bI hr.units) cG (cQ (dv 0)) (cQ (dv 2)) nm)))))
 aj)))))))))))))
def ok_law(T:Txt w K mg t):gV P w K mg base CX0 10 (t.A 35) (t.Q 35) ["_law_script"] (spD K 1 m_law) "law" (top 63) :=
 oD T.g sc (i:=35) rfl λ_ _ _ _ _ _ _ hr=>(
 (af (aM (i:=1) (nd 35) rfl (Or.inl rfl) (rC (uk T) hr (aa (dv 0) (aa ai aq))))
 (af (aM (i:=2) (nd 35) rfl (Or.inl rfl) (bc (aW (dv 0) (bq ai) (bq ai)) (cJ (aa ai aq))))
 (af (nC PassesOwn.never rfl rfl T.n_range (aU bj cD rfl T.n_len PyProof.Rows.Boot.«len» (aa (dv 2) aq)) (kz (i:=3) (nd 35) rfl (Or.inl rfl)) km
 (af (aM (i:=4) (nd 35) rfl (Or.inl rfl) (cJ (aa (jr (iC ai ai) ai) (aa (jr (iC ai ai) ai) aq))))
 (af (aM (i:=5) (nd 35) rfl (Or.inl rfl) (rC (fV T) hr (aa (ao (dv 2) (dv 3)) (aa (bc (bc (cJ (aa ai (aa ai (aa ai (aa ai (aa ai (aa ai aq))))))) (dv 4)) (cJ (aa (iC ai ai) aq))) aq))))
 (af (aM (i:=6) (nd 35) rfl (Or.inl rfl) (rC (oA T) hr (aa (cQ (dv 1)) (aa (bc (aW (dv 5) cw (bq ai)) (aW (dv 5) (bq ai) (bq ai))) aq))))
 (af (aM (i:=7) (nd 35) rfl (Or.inl rfl) (rC (rW T) hr (aa (dv 6) (aa (bc (aW (dv 5) (bq ai) (bq ai)) (aW (dv 5) (bq ai) cw)) aq))))
 (af (bo (bR (bQ (rC (pR T) hr (aa (dv 1) (aa (dv 7) aq)))))
 (af (aK dG)
 aj)
 aj)
 (af (bo (DW.dt (jo (aJ (bI hr.units) cG (bT (dv 3) ai) ai nm) (dX (bQ (rC (g9 T) hr (aa (cQ (dv 1)) (aa (dv 7) aq)))))))
 (af (aM (i:=1) (nd 35) rfl (Or.inl rfl) (rC (jD T) hr (aa (cQ (dv 1)) (aa (dv 7) aq))))
 aj)
 aj)
 aj)))))))
 (af (aK dG)
 aj)))))
end
def txt_mk{w:World}{K:W.Frag}{h:Heap}{mg:Str->Option Value}(X:K.In h)(G:h.Ns mainGlobals mg){jZ:Addr}{cq:Addr}{cS:Addr}{eL:Addr}{dW:Addr}{gB:Addr}{dU:Addr}{a0 a1 a2 a3 a4 a5 a6 a7 a8 a9 a10 a11 a12 a13 a14 a15 a16 a17 a18 a19 a20 a21 a22 a23 a24 a25 a26 a27 a28 a29 a30 a31 a32 a33 a34 a35:Addr}(qs:QAs K rows [a0,a1,a2,a3,a4,a5,a6,a7,a8,a9,a10,a11,a12,a13,a14,a15,a16,a17,a18,a19,a20,a21,a22,a23,a24,a25,a26,a27,a28,a29,a30,a31,a32,a33,a34,a35])
  (z_ValueError:W.nsIn K mainGlobals "ValueError"=some none)
  (z_abs:W.nsIn K mainGlobals "abs"=some none)
  (z_all:W.nsIn K mainGlobals "all"=some none)
  (z_bool:W.nsIn K mainGlobals "bool"=some none)
  (z_enumerate:W.nsIn K mainGlobals "enumerate"=some none)
  (z_int:W.nsIn K mainGlobals "int"=some none)
  (z_isinstance:W.nsIn K mainGlobals "isinstance"=some none)
  (z_len:W.nsIn K mainGlobals "len"=some none)
  (z_list:W.nsIn K mainGlobals "list"=some none)
  (z_max:W.nsIn K mainGlobals "max"=some none)
  (z_range:W.nsIn K mainGlobals "range"=some none)
  (z_str:W.nsIn K mainGlobals "str"=some none)
  (z_tuple:W.nsIn K mainGlobals "tuple"=some none)
  (mM:gF K "CutError" cq)
  (gX:vc K "NoChange" cS)
  (oN:gF K "NoPurse" eL)
  (mL:gF K "NoTaking" dW)
  (uz:gF K "NoTie" gB)
  (k9:u9 K "NoWeb" dU)
  (zU:XQ K "NoWeb.__init__" dU cq jZ nU ["part","number"])
  (rk:W.excIn K cq [.type "ValueError",.type "Exception",.type "BaseException",.type "object"] "ValueError.__new__"=true)(rg:W.readsIn K cq (.type "type")=true)(rh:W.findCls K (.ref cq) (.type "type") "__init__"=some (.val (.builtin "ValueError.__init__")))(rf:W.specialIn K (.ref cq) "__getattribute__"=some (some (.builtin "type.__getattribute__")))
  (vK:Sb K cS [cq,cS,eL,dW,gB,dU] [true,true,false,false,false,false])
  (DC:Sb K dU [cq,cS,eL,dW,gB,dU] [true,false,false,false,false,true])
  {m5:Tok}(mX:W.nsIn K mainGlobals "FEWEST_PLACES"=some (some (.int 2 m5)))
  {Dd:Tok}(CL:W.nsIn K mainGlobals "FIRST"=some (some (.int 2 Dd)))
  {GC:Tok}(Gf:W.nsIn K mainGlobals "LAST"=some (some (.int 3 GC)))
  {Ao:Tok}(zT:W.nsIn K mainGlobals "LENGTH"=some (some (.int 3 Ao)))
  {yQ:Tok}(yJ:W.nsIn K mainGlobals "LETTERS"=some (some (.str "abcdefghijklmnopqrstuvwxyz" yQ)))
  {nQ:Tok}(nJ:W.nsIn K mainGlobals "LONGEST_NAME"=some (some (.int 8 nQ)))
  {pP:Tok}(pM:W.nsIn K mainGlobals "MOST_PLACES"=some (some (.int 7 pP)))
  {tO:Tok}(tE:W.nsIn K mainGlobals "MOST_TIES"=some (some (.int 14 tO)))
  {Ju:Tok}(Jo:W.nsIn K mainGlobals "ONE"=some (some (.int 0 Ju)))
  {Dc:Tok}(CK:W.nsIn K mainGlobals "OTHER"=some (some (.int 1 Dc)))
  {rL:Addr}{xP:Obj}(CJ:W.nsIn K mainGlobals "PARTS"=some (some (.ref rL))) (CW:K.lookup rL=some xP) (C1:Lc w rL xP [("length",3),("worth",3),("tie",2),("gone",2)])
  {An:Tok}(zS:W.nsIn K mainGlobals "PLACES"=some (some (.int 0 An)))
  {GB:Tok}(Ge:W.nsIn K mainGlobals "TIES"=some (some (.int 1 GB)))
  {GA:Tok}(Gd:W.nsIn K mainGlobals "WORD"=some (some (.int 2 GA)))
  {xB:Addr}{xO:Obj}(CI:W.nsIn K mainGlobals "WORDS"=some (some (.ref xB))) (CV:K.lookup xB=some xO) (C0:∃od its n sl vs,xO=⟨.type "tuple",od,.seq its n,sl⟩/\bu vs its.toList/\its.size<=sizeLine/\∀H,Reps K H [.str "one",.str "both"] vs)
  {C9:Tok}(CH:W.nsIn K mainGlobals "WORTH"=some (some (.int 4 C9))) :
  ∃t:Adr,Txt w K mg t/\t.A 35=a35/\∃kV doc pm an cdv ct,t.Q 35=W.fnOf "law" "law" (defArgs (top 63)) (defBody (top 63)) (defScope (top 63)) .none kV doc pm an cdv ct:=by
 obtain⟨lF,FA⟩:=MO (ps:=["self","part","number"]) (λF=>F.binds λ_ _ _ _ _ _ us hl=>by obtain⟨_,_,_,rfl⟩:=L7 hl;rfl) zU rk;obtain⟨Q,hQ⟩:=FG X G bn qs;have D_law:=(hQ 35 _ rfl).2;refine⟨⟨jZ,lF,cq,cS,eL,dW,gB,dU,λi=>[a0,a1,a2,a3,a4,a5,a6,a7,a8,a9,a10,a11,a12,a13,a14,a15,a16,a17,a18,a19,a20,a21,a22,a23,a24,a25,a26,a27,a28,a29,a30,a31,a32,a33,a34,a35].getD i 0,Q⟩,⟨λi r h=>(hQ i r h).1,W.mg_none_of X G z_ValueError,W.mg_none_of X G z_abs,W.mg_none_of X G z_all,W.mg_none_of X G z_bool,W.mg_none_of X G z_enumerate,W.mg_none_of X G z_int,W.mg_none_of X G z_isinstance,W.mg_none_of X G z_len,W.mg_none_of X G z_list,W.mg_none_of X G z_max,W.mg_none_of X G z_range,W.mg_none_of X G z_str,W.mg_none_of X G z_tuple,W.mg_of X G mM.ns,mM,W.mg_of X G gX.i.ns,gX.i,W.mg_of X G oN.ns,oN,W.mg_of X G mL.ns,mL,W.mg_of X G uz.ns,uz,W.mg_of X G k9.i.ns,k9.i,gX,k9,FA,⟨rg,rh,rf⟩,(MN gX vK (MM k9 DC Gi)),?gm,?lR,?pD,?lQ,?mw,?gS,?iF,?ke,?qQ,?kB,?nH,?gR,?pC,?pB,?sY,?nG⟩,rfl,D_law⟩
 case gm=>exact eK (W.mg_of X G mX)
 case lR=>exact eK (W.mg_of X G CL)
 case pD=>exact eK (W.mg_of X G Gf)
 case lQ=>exact eK (W.mg_of X G zT)
 case mw=>exact D6 (W.mg_of X G yJ)
 case gS=>exact eK (W.mg_of X G nJ)
 case iF=>exact eK (W.mg_of X G pM)
 case ke=>exact eK (W.mg_of X G tE)
 case qQ=>exact eK (W.mg_of X G Jo)
 case kB=>exact eK (W.mg_of X G CK)
 case nH=>exact D7 (W.mg_of X G CJ) CW C1
 case gR=>exact eK (W.mg_of X G zS)
 case pC=>exact eK (W.mg_of X G Ge)
 case pB=>exact eK (W.mg_of X G Gd)
 case sY=>
  obtain⟨od,its,n,sl,vs,rfl,h1,h2,h3⟩:=C0;exact D5 (W.mg_of X G CI) CV h1 h2 h3
 case nG=>exact eK (W.mg_of X G CH)
def txt_wr{w:World}{K:W.Frag}{mg:Str->Option Value}{a:Addr}{R:Adr->Prop}(h:∃t:Adr,Txt w K mg t/\t.A 35=a/\R t):∃t:Adr,Txt w K mg t/\mg "law"=some (.ref (t.A 35))/\R t:=h.elim λt ⟨T,_,r⟩=>⟨t,T,(T.g 35 _ rfl).g,r⟩
end K68
namespace K68
open PySem L2 DL Com
def nN(p:Int->Bool):D->Bool
 |.tup [.int a,.int _]=>p a
 |_=>false
def kF(d:D):Bool:=eA d&&nN (λa=>decide (0<=a)) d
def fN(d:D):Bool:=oQ d||(eA d&&nN (λa=>decide (0<a)) d)
def jI:D->Bool
 |.str z=>z=="one"||z=="both"
 |_=>false
def dM{d:D}(h:eA d=true):∃a b,d=.tup [.int a,.int b]:=by
 cases d with
 |tup xs=>
  rcases vo (xs:=xs) with⟨x,y,rfl⟩|hn
  .rw[kR,Bool.and_eq_true,Bool.and_eq_true]at h
   obtain⟨h1,h2,_⟩:=h;cases x<;>first|(cases h1;done)|skip
   cases y<;>first|(cases h2;done)|skip
   exact⟨_,_,rfl⟩
  .rw[n6 hn]at h;cases h
 |_=>cases h
def length_eq(d:D):Com.m_is_length [d]=.ok (.bl (kF d)):=by
 unfold kF;cases h:eA d with
 |false=>open_line with[Com.m_is_length,ip,fE,h,Bool.false_and]
 |true=>
  obtain⟨a,b,rfl⟩:=dM h;open_line with[Com.m_is_length,ip,fE,h,Bool.true_and,nN]
def zZ(d:D):Com.m_is_worth [d]=.ok (.bl (fN d)):=by
 unfold fN;cases hn:oQ d with
 |true=>open_line with[Com.m_is_worth,gT,jm,hn,Bool.true_or]
 |false=>
  cases h:eA d with
  |false=>open_line with[Com.m_is_worth,gT,jm,hn,fE,h,Bool.false_and,Bool.false_or]
  |true=>
   obtain⟨a,b,rfl⟩:=dM h;open_line with[Com.m_is_worth,gT,jm,hn,fE,h,Bool.true_and,Bool.false_or,nN]
def mO(n:Nat):D->Bool
 |.int k=>decide (0<=k)&&decide (k<n)
 |_=>false
def w0{w:eH}:aP (bx w) (.int 0)=.ok (.lst (w.ps.map D.str)):=rfl
def w1{w:eH}:aP (bx w) (.int 1)=.ok (.lst (w.ts.map aI)):=rfl
def w2{w:eH}:aP (bx w) (.int 2)=.ok (.str w.fi):=rfl
def w3{w:eH}:aP (bx w) (.int 3)=.ok (.str w.la):=rfl
def ey{a b:Int}:uW (.int a) (.int b)=.ok (.bl (decide (a<b))):=rfl
def sC{a b:Int}:F5 (.int a) (.int b)=.ok (.bl (decide (a≥b))):=rfl
def j6{a b:Int}:sV (.int a) (.int b)=.ok (.bl (decide (a > b))):=rfl
def ze{w:eH}(d:D):Com.m_is_tie_number [bx w,d]=.ok (.bl (mO w.ts.length d)):=by
 cases d with
 |int k=>
  unfold mO
  by_cases h0:0<=k
  .open_line with[Com.m_is_tie_number,eg,dN,oR,w1,List.length_map,decide_eq_true h0,Bool.true_and]
  .open_line with[Com.m_is_tie_number,eg,dN,oR,w1,List.length_map,decide_eq_false h0,Bool.false_and]
 |ob k ds=>cases k<;>open_line with[Com.m_is_tie_number,eg,dN,oR,mO]
 |_=>open_line with[Com.m_is_tie_number,eg,dN,oR,mO]
open Nwb (fK eh)
def tM(a b w l o:D):Bool:=qt a&&(qt b&&(!(dB a b)&&(jI w&&(kF l&&fN o))))
def lD{d:D}(h:qt d=true):∃z,d=.str z:=by cases d<;>first|exact⟨_,rfl⟩|cases h
def o7{x y:Str}:fM (.str x) (.str y)=.ok (.bl (dB (.str x) (.str y))):=by unfold fM;rw[if_pos ⟨rfl,rfl⟩]
def rX{x y:Str}:kH (.str x) (.str y)=.ok (.bl (!(x==y))):=by unfold kH;rw[if_pos ⟨rfl,rfl⟩,dB]
def tK{w:Str}:(([.str "one",.str "both"]:ac).any λd=>dB d (.str w))=jI (.str w):=by
 show((("one":Str)==w)||((("both":Str)==w)||false))=((w=="one")||(w=="both"));rw[Bool.or_false,Bool.beq_comm (a:=("one":Str)),Bool.beq_comm (a:=("both":Str))]
def rl{w:Str}:du (.str w) (.tup [.str "one",.str "both"])=.ok (.bl (!(jI (.str w)))):=by
 have e:Bm (.str w) (.tup [.str "one",.str "both"])=some (jI (.str w)):=by
  show(if bg 40 (.str w)=true/\([.str "one",.str "both"]:ac).all (bg 40)=true then some (([.str "one",.str "both"]:ac).any λd=>dB d (.str w)) else none)=_;rw[if_pos ⟨rfl,rfl⟩,tK]
 unfold du;rw[e]
def iG{w:Str}:du (.str w) (.lst [.str "one",.str "both"])=.ok (.bl (!(jI (.str w)))):=by
 have e:Bm (.str w) (.lst [.str "one",.str "both"])=some (jI (.str w)):=by
  show(if bg 40 (.str w)=true/\([.str "one",.str "both"]:ac).all (bg 40)=true then some (([.str "one",.str "both"]:ac).any λd=>dB d (.str w)) else none)=_;rw[if_pos ⟨rfl,rfl⟩,tK]
 unfold du;rw[e]
def nM{d:D}(h:∀z,d≠.str z):jI d=false:=by cases d<;>first|rfl|exact absurd rfl (h _)
def Jk{d:D}(h:∀z,d≠.str z):ez "str" d=.ok (.bl false):=by
 cases d with
 |str z=>exact absurd rfl (h z)
 |ob k ds=>cases k<;>rfl
 |_=>rfl
def nP{a b w l o:D}(fa:vj a=true)(fb:vj b=true):Com.m_is_tie [.tup [a,b,w,l,o]]=.ok (.bl (tM a b w l o)):=by
 unfold tM;cases ha:qt a with
 |false=>open_line with[Com.m_is_tie,eP,cA fa,ha,Bool.false_and]
 |true=>
  cases hb:qt b with
  |false=>open_line with[Com.m_is_tie,eP,cA fa,cA fb,ha,hb,Bool.false_and,Bool.true_and]
  |true=>
   obtain⟨x,rfl⟩:=lD ha;obtain⟨y,rfl⟩:=lD hb;cases he:dB (.str x) (.str y) with
   |true=>open_line with[Com.m_is_tie,eP,cA fa,cA fb,ha,hb,o7,he,Bool.false_and,Bool.true_and,Bool.not_true]
   |false=>
    by_cases hw:∃z,w=.str z
    .obtain⟨z,rfl⟩:=hw
     cases hz:jI (.str z) with
     |false=>open_line with[Com.m_is_tie,eP,cA fa,cA fb,ha,hb,o7,he,rl,hz,Bool.false_and,Bool.true_and,Bool.not_false]
     |true=>
      cases hl:kF l with
      |false=>open_line with[Com.m_is_tie,eP,cA fa,cA fb,ha,hb,o7,he,rl,hz,length_eq,hl,Bool.false_and,Bool.true_and,Bool.not_false,Bool.not_true]
      |true=>open_line with[Com.m_is_tie,eP,cA fa,cA fb,ha,hb,o7,he,rl,hz,length_eq,hl,zZ,Bool.true_and,Bool.not_false,Bool.not_true]
    .have hn:∀z,w≠.str z:=λz hz=>hw ⟨z,hz⟩
     open_line with[Com.m_is_tie,eP,cA fa,cA fb,ha,hb,o7,he,Jk hn,nM hn,Bool.false_and,Bool.true_and,Bool.not_false]
def r8(zs:List Str)(a b w l o:D):Bool:=match a,b with
 |.str x,.str y=>decide (x∈zs)&&(decide (y∈zs)&&(!(x==y)&&(jI w&&(kF l&&fN o))))
 |_,_=>false
def L6{l:D}{p:Int->Bool}(h:eA l=true):∃a b,l=.tup [.int a,.int b]/\nN p l=p a:=by
 obtain⟨a,b,rfl⟩:=dM h;exact⟨a,b,rfl,rfl⟩
def DU{w:eH}{a b k l o:D}:aT [bx w,.tup [a,b,k,l,o]]=.ok (.bl (r8 w.ps a b k l o)):=by
 by_cases ha:∃x,a=.str x
 rotate_left
 .have hn:∀z,a≠.str z:=λz hz=>ha ⟨z,hz⟩
  have e:r8 w.ps a b k l o=false:=by unfold r8;cases a<;>first|rfl|exact absurd rfl (hn _)
  open_line with[aT,bB,Jk hn,e]
 obtain⟨x,rfl⟩:=ha
 by_cases hb:∃x,b=.str x
 rotate_left
 .have hn:∀z,b≠.str z:=λz hz=>hb ⟨z,hz⟩
  have e:r8 w.ps (.str x) b k l o=false:=by unfold r8;cases b<;>first|rfl|exact absurd rfl (hn _)
  open_line with[aT,bB,Jk hn,e]
 obtain⟨y,rfl⟩:=hb;unfold r8
 by_cases hk:∃z,k=.str z
 rotate_left
 .have hn:∀z,k≠.str z:=λz hz=>hk ⟨z,hz⟩
  open_line with[aT,bB,Jk hn,nM hn,Bool.false_and,Bool.and_false]
 obtain⟨z,rfl⟩:=hk;cases hx:decide (x∈w.ps) with
 |false=>open_line with[aT,bB,w0,cz,hx,Bool.not_false,Bool.false_and]
 |true=>
  cases hy:decide (y∈w.ps) with
  |false=>open_line with[aT,bB,w0,cz,hx,hy,Bool.not_false,Bool.not_true,Bool.false_and,Bool.and_false]
  |true=>
   cases he:(x==y) with
   |true=>open_line with[aT,bB,w0,cz,hx,hy,aZ,he,Bool.not_false,Bool.not_true,Bool.false_and,Bool.and_false]
   |false=>
    cases hz:jI (.str z) with
    |false=>open_line with[aT,bB,w0,cz,hx,hy,aZ,he,iG,hz,Bool.not_false,Bool.not_true,Bool.false_and,Bool.and_false]
    |true=>
     cases hr:eA l with
     |false=>open_line with[aT,bB,w0,cz,hx,hy,aZ,he,iG,hz,bV,hr,kF,Bool.not_false,Bool.not_true,Bool.false_and,Bool.and_false]
     |true=>
      obtain⟨p,q,rfl,_⟩:=L6 (p:=λa=>decide (0<=a)) hr
      by_cases hp:0<=p
      rotate_left
      .open_line with[aT,bB,w0,cz,hx,hy,aZ,he,iG,hz,bV,hr,kF,nN,decide_eq_false hp,ey,decide_eq_true (show p<0 by omega),Bool.not_false,Bool.not_true,Bool.false_and,Bool.and_false]
      cases hn:oQ o with
      |true=>open_line with[aT,bB,w0,cz,hx,hy,aZ,he,iG,hz,bV,hr,kF,nN,decide_eq_true hp,ey,decide_eq_false (show ¬p<0 by omega),jm,hn,fN,Bool.true_or,Bool.not_false,Bool.not_true,Bool.true_and,Bool.and_true]
      |false=>
       cases ho:eA o with
       |false=>open_line with[aT,bB,w0,cz,hx,hy,aZ,he,iG,hz,bV,hr,ho,kF,nN,decide_eq_true hp,ey,decide_eq_false (show ¬p<0 by omega),jm,hn,fN,Bool.false_or,Bool.false_and,Bool.not_false,Bool.not_true,Bool.true_and,Bool.and_true]
       |true=>
        obtain⟨p2,q2,rfl⟩:=dM ho;open_line with[aT,bB,w0,cz,hx,hy,aZ,he,iG,hz,bV,hr,ho,kF,nN,decide_eq_true hp,ey,decide_eq_false (show ¬p<0 by omega),jm,hn,fN,Bool.false_or,j6,gt_iff_lt,Bool.not_false,Bool.not_true,Bool.true_and,Bool.and_true]
open Nwb (fK eh)
def gK(d:D):Prop:=∀p q:Int,d=.tup [.int p,.int q]->p.natAbs<eI/\q.natAbs<eI
def rq(d:D):Prop:=∀a b c l o:D,d=.tup [a,b,c,l,o]->gK l/\gK o
def Eh:D->Bool
 |.tup xs=>xs.all vj
 |_=>true
def qo{p q:Int}(h:eA (.tup [.int p,.int q])=true)(s:gK (.tup [.int p,.int q])):gw (p,q):=by
 have h':(decide (1<=q)&&(Int.gcd p q==1))=true:=h;rw[Bool.and_eq_true]at h';obtain⟨s1,s2⟩:=s p q rfl;exact⟨⟨of_decide_eq_true h'.1,eq_of_beq h'.2⟩,s1,s2⟩
def xU{l:D}(h:kF l=true)(s:gK l):∃x,l=fr x/\gw x/\0<=x.1:=by
 unfold kF at h;rw[Bool.and_eq_true]at h;obtain⟨p,q,rfl⟩:=dM h.1;exact⟨(p,q),rfl,qo h.1 s,of_decide_eq_true h.2⟩
def p7{o:D}(h:fN o=true)(s:gK o):∃x,o=bw x/\∀y,x=some y->gw y/\0<y.1:=by
 unfold fN at h;rw[Bool.or_eq_true]at h;rcases h with h|h
 .refine⟨none,?_,λy e=>nomatch e⟩
  cases o<;>first|rfl|(cases h;done)
 .rw[Bool.and_eq_true]at h
  obtain⟨p,q,rfl⟩:=dM h.1;exact⟨some (p,q),rfl,λy e=>by cases e;exact⟨qo h.1 s,of_decide_eq_true h.2⟩⟩
def Eg{xs:ac}:(∃a b c d e,xs=[a,b,c,d,e])∨xs.length≠5:=by
 match xs with
 |[a,b,c,d,e]=>exact .inl ⟨a,b,c,d,e,rfl⟩
 |[]=>exact .inr (by simp)
 |[_]=>exact .inr (by simp)
 |[_,_]=>exact .inr (by simp)
 |[_,_,_]=>exact .inr (by simp)
 |[_,_,_,_]=>exact .inr (by simp)
 |_::_::_::_::_::_::r=>exact .inr (by simp)
def CY{z:Str}(h:jI (.str z)=true):z="one"∨z="both":=by
 have h':(z=="one"||z=="both")=true:=h;rw[Bool.or_eq_true]at h';exact h'.imp eq_of_beq eq_of_beq
def xg{w:eH}(W:cE w){y:D}(hf:Eh y=true)(hs:rq y) :
  (aT [bx w,y]=.ok (.bl true)/\fK w.ps y)∨(aT [bx w,y]=.ok (.bl false)/\eh w.ps y):=by
 cases y with
 |tup xs=>
  rcases Eg (xs:=xs) with⟨a,b,k,l,o,rfl⟩|hn
  .have ha:vj a=true:=List.all_eq_true.mp hf a (by simp)
   have hb:vj b=true:=List.all_eq_true.mp hf b (by simp);have e1:=nP (w:=k) (l:=l) (o:=o) ha hb;have e2:=DU (w:=w) (a:=a) (b:=b) (k:=k) (l:=l) (o:=o);cases hl:r8 w.ps a b k l o with
   |true=>
    rw[hl]at e2;refine .inl ⟨e2,?_⟩;unfold r8 at hl;split at hl
    .rename_i x y
     simp only[Bool.and_eq_true]at hl;obtain⟨h1,h2,h3,h4,h5,h6⟩:=hl
     by_cases hk:∃z,k=.str z
     rotate_left
     .rw[nM λz hz=>hk ⟨z,hz⟩]at h4;cases h4
     obtain⟨z,rfl⟩:=hk;obtain⟨s1,s2⟩:=hs _ _ _ _ _ rfl;obtain⟨lx,rfl,f1,f2⟩:=xU h5 s1;obtain⟨ox,rfl,f3⟩:=p7 h6 s2;refine⟨⟨x,y,z,lx,ox⟩,rfl,⟨of_decide_eq_true h1,of_decide_eq_true h2,?_,CY h4,f1,f2,f3⟩⟩;intro z;replace z:x=y:=z;rw[z]at h3;simp at h3
    .cases hl
   |false=>
    rw[hl]at e2;refine .inr ⟨e2,?_⟩;cases h5:tM a b k l o with
    |false=>rw[h5]at e1;exact .inl e1
    |true=>
     rw[h5]at e1;unfold tM at h5;simp only[Bool.and_eq_true]at h5;obtain⟨h1,h2,h3,h4,h6,h7⟩:=h5;obtain⟨x,rfl⟩:=lD h1;obtain⟨y,rfl⟩:=lD h2;refine .inr ⟨e1,x,y,_,rfl,?_⟩
     by_cases hx:x∈w.ps
     .refine .inr λhy=>?_
      have h3':(!(x==y))=true:=h3;unfold r8 at hl;simp only[decide_eq_true hx,decide_eq_true hy,h3',h4,h6,h7,Bool.and_self]at hl;cases hl
     .exact .inl hx
  .have e2:((xs.length:Int)==5)=false:=beq_eq_false_iff_ne.mpr (by omega)
   refine .inr ⟨?_,.inl ?_⟩
   .open_line with[aT,bB,e2]
   .open_line with[Com.m_is_tie,eP,e2]
 |ob k ds=>
  refine .inr ⟨?_,.inl ?_⟩
  .cases k<;>rfl
  .cases k<;>rfl
 |_=>exact .inr ⟨rfl,.inl rfl⟩
open Nwb (fK eh mP)
theorem kr:∀(zs:List Str),fgts (zs.map D.str)=zs.map D.str
 |[]=>rfl
 |z::r=>by rw[List.map_cons,fgts,kr r,fgt]
def Ei(t:ki):fgt (aI t)=aI t:=by
 obtain⟨a,b,w,l,o⟩:=t;cases o<;>rfl
theorem e8:∀(ts:List ki),fgts (ts.map aI)=ts.map aI
 |[]=>rfl
 |t::r=>by rw[List.map_cons,fgts,e8 r,Ei]
theorem oV:∀(a b:ac),fgts (a++b)=fgts a++fgts b
 |[],_=>rfl
 |x::r,b=>by rw[List.cons_append,fgts,oV r b,fgts];rfl
def jB(w:eH)(ds:ac):D:=.tup [.ob .pl (w.ps.map D.str),.ob .pl ds,.str w.fi,.str w.la]
def kJ(w:eH)(ds:ac):D:=.tup [.lst (w.ps.map D.str),.lst ds,.str w.fi,.str w.la]
def qF{w:eH}{ds:ac}(h:fgts ds=ds):fgt (jB w ds)=kJ w ds:=by
 show D.tup [.lst (fgts (w.ps.map D.str)),.lst (fgts ds),.str w.fi,.str w.la]=_;rw[kr,h];rfl
def mQ{f:am}{ρ:Ev}:t9 f ρ=(f ρ).bind LZ:=rfl
def ka{ds:ac}:LZ (.lst ds)=.ok (.ob .pl ds):=rfl
def fF{f:am}{ρ:Ev}:gr f ρ=(f ρ).bind λd=>.ok (fgt d):=rfl
def Hn{ds:ac}(h:ds.length<=100):eC (.lst ds)=.ok (.lst ds):=by
 unfold eC
 first|rfl|(rw[if_pos (Nat.le_trans h (by decide))])
def ik{w:eH}(W:cE w){b:D}{ds:ac}(hf:aG [bx w,b]=.ok (.bl true))(hb:cj [.lst (w.ts.map aI),b]=.ok (.lst ds))(hg:fgts ds=ds) :
  (∀p n,Nwb.m_look_at_web [kJ w ds]=.exn (mP p n)->cb [bx w,b]=.exn ⟨"NoChange",[]⟩)/\(Nwb.m_look_at_web [kJ w ds]=.ok .non->cb [bx w,b]=.ok (jB w ds)):=by
 have lw:=Nwb.webX W;have l0:=Hn (ds:=w.ps.map D.str) (by rw[List.length_map];have:=W.n7;omega);have hd:kQ (ag (gr (ah 2)) ay) m_look_at_web [.sh (bx w),.sh b,.sh (jB w ds)]=(Nwb.m_look_at_web [kJ w ds]).bind λ_=>.ok (.nx [.sh (bx w),.sh b,.sh (jB w ds)]):=by
  rw[←qF hg];rfl
 constructor
 .intro p n hl
  rw[hl]at hd;have ht:mB (kQ (ag (gr (ah 2)) ay) m_look_at_web) (j0 nv) "NoChange" (ag (dC (.str "what it would make is no web")) ay) [.sh (bx w),.sh b,.sh (jB w ds)]=.exn ⟨"NoChange",[]⟩:=by
   unfold mB;rw[hd];rfl
  open_line with[cb,iX,lw,hf,w0,w1,w2,w3,l0,hb,mQ,ka]
  exact(congrArg (λr=>(au.bind r (Ax (aw (bG (ah 2)) av))).bind Az) ht).trans rfl
 .intro hl
  rw[hl]at hd;have ht:mB (kQ (ag (gr (ah 2)) ay) m_look_at_web) (j0 nv) "NoChange" (ag (dC (.str "what it would make is no web")) ay) [.sh (bx w),.sh b,.sh (jB w ds)]=.ok (.nx [.sh (bx w),.sh b,.sh (jB w ds)]):=by
   unfold mB;rw[hd];rfl
  open_line with[cb,iX,lw,hf,w0,w1,w2,w3,l0,hb,mQ,ka]
  exact(congrArg (λr=>(au.bind r (Ax (aw (bG (ah 2)) av))).bind Az) ht).trans rfl
def jv{w:eH}(W:cE w){b:D}(hf:aG [bx w,b]=.ok (.bl false)):cb [bx w,b]=.exn ⟨"NoChange",[]⟩:=by
 have lw:=Nwb.webX W;open_line with[cb,iX,lw,hf,BF,zw,fG]
abbrev PT:List (Str×Int):=[("length",3),("worth",3),("tie",2),("gone",2)]
def sQ{c:List (Str×Int)}{k:Str}:wm c (.str k)=.ok (.bl (!PySem.W.kdpHas c k)):=rfl
def wF{c:List (Str×Int)}{k:Str}(h:PySem.W.kdpHas c k=true):Bs c (.str k)=.ok (.int (PySem.W.kdpLook c k 0)):=if_pos h
def eZ(n:Nat)(y:D):(mO n y=true/\∃k:Int,y=.int k/\0<=k/\k<n)∨(mO n y=false/\(oR y=false∨∃k:Int,y=.int k/\(k<0∨(0<=k/\(n:Int)<=k)))):=by
 cases y with
 |int k=>
  by_cases h0:0<=k
  .by_cases h1:k<n
   .exact .inl ⟨by show(decide (0<=k)&&decide (k<(n:Int)))=true;rw[decide_eq_true h0,decide_eq_true h1];rfl,k,rfl,h0,h1⟩
   .exact .inr ⟨by show(decide (0<=k)&&decide (k<(n:Int)))=false;rw[decide_eq_false h1,Bool.and_false],.inr ⟨k,rfl,.inr ⟨h0,by omega⟩⟩⟩
  .exact .inr ⟨by show(decide (0<=k)&&decide (k<(n:Int)))=false;rw[decide_eq_false h0,Bool.false_and],.inr ⟨k,rfl,.inl (by omega)⟩⟩
 |_=>exact .inr ⟨rfl,.inl rfl⟩
def Hl{r:ac}:decide (((r.length+1+1:Nat):Int)<2)=false:=decide_eq_false (by omega)
def oK{w:eH}{s:Str}{y:D}{r:ac}(hs:(s=="tie")=false)(hn:mO w.ts.length y=false):ax [bx w,.tup (.str s::y::r)]=.ok (.bl false):=by
 rcases eZ w.ts.length y with⟨h,_⟩|⟨_,h|⟨k,rfl,h|⟨h0,h1⟩⟩⟩
 .rw[hn]at h;cases h
 .open_line with[ax,aL,ey,Hl,aZ,hs,cX,h,Bool.not_false]
 .open_line with[ax,aL,ey,Hl,aZ,hs,cX,oR,Bool.not_true,decide_eq_true h]
 .open_line with[ax,aL,ey,Hl,aZ,hs,cX,oR,Bool.not_true,decide_eq_false (show ¬k<0 by omega),w1,List.length_map,sC,decide_eq_true (show k≥(w.ts.length:Int) by omega)]
def vZ{w:eH}{s:Str}{k:Int}{r:ac}(hs:(s=="tie")=false)(h0:0<=k)(h1:k<w.ts.length)(hg:(s=="gone")=false)(h3:r.length≠1):ax [bx w,.tup (.str s::.int k::r)]=.ok (.bl false):=by
 have e3:(((r.length+1+1:Nat):Int)==3)=false:=beq_eq_false_iff_ne.mpr (by omega);open_line with[ax,aL,ey,Hl,aZ,hs,hg,cX,oR,Bool.not_true,Bool.not_false,decide_eq_false (show ¬k<0 by omega),w1,List.length_map,sC,decide_eq_false (show ¬k≥(w.ts.length:Int) by omega),e3]
def xW{w:eH}{k:Int}{r:ac}(h0:0<=k)(h1:k<w.ts.length):ax [bx w,.tup (.str "gone"::.int k::r)]=.ok (.bl (((r.length+1+1:Nat):Int)==2)):=by
 have e1:(("gone":Str)=="tie")=false:=by decide
 have e2:(("gone":Str)=="gone")=true:=by decide
 open_line with[ax,aL,ey,Hl,aZ,e1,e2,cX,oR,Bool.not_true,decide_eq_false (show ¬k<0 by omega),w1,List.length_map,sC,decide_eq_false (show ¬k≥(w.ts.length:Int) by omega)]
def Bd{w:eH}{s:Str}{k:Int}{z:D}(hs:(s=="tie")=false)(h0:0<=k)(h1:k<w.ts.length)(hg:(s=="gone")=false)(hl:(s=="length")=false)(hw:(s=="worth")=false):ax [bx w,.tup [.str s,.int k,z]]=.ok (.bl false):=by
 open_line with[ax,aL,ey,aZ,rX,hs,hg,hl,hw,cX,oR,Bool.not_true,Bool.not_false,decide_eq_false (show ¬k<0 by omega),w1,List.length_map,sC,decide_eq_false (show ¬k≥(w.ts.length:Int) by omega)]
def qz{w:eH}{k:Int}{z:D}(h0:0<=k)(h1:k<w.ts.length):ax [bx w,.tup [.str "length",.int k,z]]=.ok (.bl (kF z)):=by
 have e1:(("length":Str)=="tie")=false:=by decide
 have e2:(("length":Str)=="gone")=false:=by decide
 have e3:(("length":Str)=="length")=true:=by decide
 unfold kF;cases h:eA z with
 |false=>open_line with[ax,aL,ey,aZ,e1,e2,e3,cX,oR,Bool.not_true,Bool.not_false,decide_eq_false (show ¬k<0 by omega),w1,List.length_map,sC,decide_eq_false (show ¬k≥(w.ts.length:Int) by omega),bV,h,Bool.false_and]
 |true=>
  obtain⟨p,q,rfl⟩:=dM h;open_line with[ax,aL,ey,aZ,e1,e2,e3,cX,oR,Bool.not_true,Bool.not_false,decide_eq_false (show ¬k<0 by omega),w1,List.length_map,sC,decide_eq_false (show ¬k≥(w.ts.length:Int) by omega),bV,h,Bool.true_and,nN,ge_iff_le]
def ux{w:eH}{k:Int}{z:D}(h0:0<=k)(h1:k<w.ts.length):ax [bx w,.tup [.str "worth",.int k,z]]=.ok (.bl (fN z)):=by
 have e1:(("worth":Str)=="tie")=false:=by decide
 have e2:(("worth":Str)=="gone")=false:=by decide
 have e3:(("worth":Str)=="length")=false:=by decide
 have e4:(("worth":Str)=="worth")=true:=by decide
 unfold fN;cases hn:oQ z with
 |true=>open_line with[ax,aL,ey,aZ,rX,e1,e2,e3,e4,cX,oR,Bool.not_true,Bool.not_false,decide_eq_false (show ¬k<0 by omega),w1,List.length_map,sC,decide_eq_false (show ¬k≥(w.ts.length:Int) by omega),jm,hn,Bool.true_or]
 |false=>
  cases h:eA z with
  |false=>open_line with[ax,aL,ey,aZ,rX,e1,e2,e3,e4,cX,oR,Bool.not_true,Bool.not_false,decide_eq_false (show ¬k<0 by omega),w1,List.length_map,sC,decide_eq_false (show ¬k≥(w.ts.length:Int) by omega),jm,hn,bV,h,Bool.false_or,Bool.false_and]
  |true=>
   obtain⟨p,q,rfl⟩:=dM h;open_line with[ax,aL,ey,aZ,rX,e1,e2,e3,e4,cX,oR,Bool.not_true,Bool.not_false,decide_eq_false (show ¬k<0 by omega),w1,List.length_map,sC,decide_eq_false (show ¬k≥(w.ts.length:Int) by omega),jm,hn,bV,h,Bool.false_or,Bool.true_and,nN,j6,gt_iff_lt]
def vY{w:eH}{y:D}{b:Bool}(ht:aT [bx w,y]=.ok (.bl b)):ax [bx w,.tup [.str "tie",y]]=.ok (.bl (decide ((w.ts.length:Int)<14)&&b)):=by
 have e1:(("tie":Str)=="tie")=true:=by decide
 by_cases h:(w.ts.length:Int)<14
 .open_line with[ax,aL,ey,aZ,e1,w1,List.length_map,decide_eq_true h,ht,Bool.true_and]
 .open_line with[ax,aL,ey,aZ,e1,w1,List.length_map,decide_eq_false h,ht,Bool.false_and]
def D4{w:eH}{y:D}{r:ac}(hr:r.length≠0):ax [bx w,.tup (.str "tie"::y::r)]=.ok (.bl false):=by
 have e1:(("tie":Str)=="tie")=true:=by decide
 have e2:(((r.length+1+1:Nat):Int)==2)=false:=beq_eq_false_iff_ne.mpr (by omega);open_line with[ax,aL,ey,Hl,aZ,e1,e2]
def Be{w:eH}{x:D}:ax [bx w,.tup [x]]=.ok (.bl false):=by open_line with[ax,aL,ey]
def Ho{w:eH}:ax [bx w,.tup []]=.ok (.bl false):=by open_line with[ax,aL,ey]
def xV{w:eH}{b:D}(h:ez "tuple" b=.ok (.bl false)):ax [bx w,b]=.ok (.bl false):=by open_line with[ax,aL,h]
def Bf{w:eH}{x y:D}{r:ac}(h:∀z,x≠.str z):ax [bx w,.tup (x::y::r)]=.ok (.bl false):=by open_line with[ax,aL,ey,Hl,Jk h]
def yg{w b:D}(h:ez "tuple" b=.ok (.bl false)):aG [w,b]=.ok (.bl false):=by open_line with[aG,bL,h]
def HH{w:D}:aG [w,.tup []]=.ok (.bl false):=by open_line with[aG,bL]
def Lj{r:ac}:(((r.length+1:Nat):Int)==0)=false:=beq_eq_false_iff_ne.mpr (by omega)
def Mk{r:ac}:(((r.length+1+1:Nat):Int)==0)=false:=beq_eq_false_iff_ne.mpr (by omega)
def Bw{w x:D}{r:ac}(h:∀z,x≠.str z):aG [w,.tup (x::r)]=.ok (.bl false):=by open_line with[aG,bL,Lj,Jk h]
def yf{w:D}{s:Str}{r:ac}(h:PySem.W.kdpHas PT s=false):aG [w,.tup (.str s::r)]=.ok (.bl false):=by open_line with[aG,bL,Lj,sQ,h]
def j8{w:D}{s:Str}{r:ac}(h:PySem.W.kdpHas PT s=true)(hl:(((r.length+1:Nat):Int)==PySem.W.kdpLook PT s 0)=false):aG [w,.tup (.str s::r)]=.ok (.bl false):=by
 open_line with[aG,bL,Lj,sQ,h,wF h,hl,Bool.not_true,Bool.not_false]
def wy{w:eH}{s:Str}{y:D}{r:ac}(h:PySem.W.kdpHas PT s=true)(hl:(((r.length+1+1:Nat):Int)==PySem.W.kdpLook PT s 0)=true)(hs:(s=="tie")=false):aG [bx w,.tup (.str s::y::r)]=.ok (.bl (mO w.ts.length y)):=by
 open_line with[aG,bL,Mk,sQ,h,wF h,hl,Bool.not_true,Bool.not_false,aZ,hs,ze]
def HG{w y:D}:aG [w,.tup [.str "tie",y]]=.ok (.bl true):=by
 have h:PySem.W.kdpHas PT "tie"=true:=by decide
 have hl:PySem.W.kdpLook PT "tie" 0=2:=by decide
 have e1:(("tie":Str)=="tie")=true:=by decide
 open_line with[aG,bL,Lj,sQ,h,wF h,hl,Bool.not_true,Bool.not_false,aZ,e1]
open Nwb (fK eh mP)
def HY{i:Nat}{f:am}{ρ:Ev}:vz i f ρ=AY ρ[i]? λds=>(f ρ).bind (AM i ρ ds):=aR rfl
def EH{i n:Nat}{ρ:Ev}{ds:ac}{j:Int}(h:uA ds.length j=some n)(hl:ds.length<=999):AM i ρ ds (.int j)=.ok (.nx (ρ.set i (.ow (.lst (ds.eraseIdx n))))):=by
 unfold AM;simp only[h];exact if_pos (Nat.lt_of_le_of_lt hl (by decide))
def oP{n k:Nat}(h:k<n):uA n (k:Int)=some k:=by
 unfold uA;rw[if_pos (by omega),if_pos (by omega)];rfl
def mZ(t:ki)(z:D):D:=.tup [.str t.a,.str t.b,.str t.w,z,bw t.o]
def mY(t:ki)(z:D):D:=.tup [.str t.a,.str t.b,.str t.w,fr t.l,z]
def t0{t:ki}:aP (aI t) (.int 0)=.ok (.str t.a):=rfl
def t1{t:ki}:aP (aI t) (.int 1)=.ok (.str t.b):=rfl
def t2{t:ki}:aP (aI t) (.int 2)=.ok (.str t.w):=rfl
def t3{t:ki}:aP (aI t) (.int 3)=.ok (fr t.l):=rfl
def t4{t:ki}:aP (aI t) (.int 4)=.ok (bw t.o):=rfl
def Gs{t:ki}{z:D}:fP [aI t,.str "length",z]=.ok (mZ t z):=by
 have e1:(("length":Str)=="length")=true:=by decide
 have e2:(("length":Str)=="worth")=false:=by decide
 open_line with[fP,k6,aZ,e1,e2,t0,t1,t2,t3,t4,mZ]
def Gr{t:ki}{z:D}:fP [aI t,.str "worth",z]=.ok (mY t z):=by
 have e1:(("worth":Str)=="length")=false:=by decide
 have e2:(("worth":Str)=="worth")=true:=by decide
 open_line with[fP,k6,aZ,e1,e2,t0,t1,t2,t3,t4,mY]
section
variable {w:eH}(W:cE w)
include W
theorem qe:(w.ts.map aI).length<=14:=by rw[List.length_map];exact W.t14
theorem IY{y:D}:cj [.lst (w.ts.map aI),.tup [.str "tie",y]]=.ok (.lst (w.ts.map aI++[y])):=by
 have e1:(("tie":Str)=="tie")=true:=by decide
 have a:=kv (ds:=w.ts.map aI) (i:=2) (d:=y) (ρ:=[.sh (.lst (w.ts.map aI)),.sh (.tup [.str "tie",y]),.ow (.lst (w.ts.map aI))]) (decide_eq_true (by have:=qe W;omega));unfold cj tW eO;open_line with[aZ,e1,a,mC,Ay,nX,AE,AZ]
theorem Fs{k:Nat}(hk:k<w.ts.length):cj [.lst (w.ts.map aI),.tup [.str "gone",.int k]]=.ok (.lst ((w.ts.map aI).eraseIdx k)):=by
 have e1:(("gone":Str)=="tie")=false:=by decide
 have e2:(("gone":Str)=="gone")=true:=by decide
 have a:=EH (ds:=w.ts.map aI) (i:=2) (j:=(k:Int)) (ρ:=[.sh (.lst (w.ts.map aI)),.sh (.tup [.str "gone",.int k]),.ow (.lst (w.ts.map aI))]) (oP (by rw[List.length_map];exact hk)) (by have:=qe W;omega);unfold cj tW eO;open_line with[aZ,e1,e2,HY,a,mC,Ay,nX,AE,AZ]
theorem IZ{k:Nat}{t:ki}{z:D}(ht:w.ts[k]?=some t):cj [.lst (w.ts.map aI),.tup [.str "length",.int k,z]]=.ok (.lst ((w.ts.map aI).set k (mZ t z))):=by
 have e1:(("length":Str)=="tie")=false:=by decide
 have e2:(("length":Str)=="gone")=false:=by decide
 have hk:k<w.ts.length:=(List.getElem?_eq_some_iff.mp ht).1;have a:=lL (ds:=w.ts.map aI) (i:=2) (j:=(k:Int)) (d:=mZ t z) (ρ:=[.sh (.lst (w.ts.map aI)),.sh (.tup [.str "length",.int k,z]),.ow (.lst (w.ts.map aI))]) (oP (by rw[List.length_map];exact hk));unfold cj tW eO;open_line with[aZ,e1,e2,rn ht,Gs,a,mC,Ay,nX,AE,AZ]
theorem IW{k:Nat}{t:ki}{z:D}(ht:w.ts[k]?=some t):cj [.lst (w.ts.map aI),.tup [.str "worth",.int k,z]]=.ok (.lst ((w.ts.map aI).set k (mY t z))):=by
 have e1:(("worth":Str)=="tie")=false:=by decide
 have e2:(("worth":Str)=="gone")=false:=by decide
 have hk:k<w.ts.length:=(List.getElem?_eq_some_iff.mp ht).1;have a:=lL (ds:=w.ts.map aI) (i:=2) (j:=(k:Int)) (d:=mY t z) (ρ:=[.sh (.lst (w.ts.map aI)),.sh (.tup [.str "worth",.int k,z]),.ow (.lst (w.ts.map aI))]) (oP (by rw[List.length_map];exact hk));unfold cj tW eO;open_line with[aZ,e1,e2,rn ht,Gr,a,mC,Ay,nX,AE,AZ]
end
open Nwb (fK eh mP)
def ku{f:am}{ρ:Ev}:qj f ρ=(f (rA ρ)).bind λd=>.ok (.rt d):=aR rfl
def mh:rA []=[]:=aR rfl
def qG{s:Sl}{ρ:Ev}:rA (s::ρ)=GZ s::rA ρ:=aR rfl
def mf{d:D}:GZ (.sh d)=.sh d:=aR rfl
def me{ds:ac}:GZ (.ow (.lst ds))=.sh (.ob .pl ds):=aR rfl
def BD:GZ .no=.no:=aR rfl
def K0{t:ki}:kO (aI t) none (some 3)=.ok (.tup [.str t.a,.str t.b,.str t.w]):=(ji (by rfl)).trans rfl
def F6{t:ki}:kO (aI t) none (some 4)=.ok (.tup [.str t.a,.str t.b,.str t.w,fr t.l]):=(ji (by rfl)).trans rfl
def sN{f:am}{lo hi:Ev->au (Option Int)}{ρ:Ev}:IK f lo hi ρ=(f ρ).bind λx=>(lo ρ).bind λl=>(hi ρ).bind λh=>jM x l h:=aR rfl
def B8{a b c:D}:jM (.tup [a,b,c]) none (some 2)=.ok (.tup [a,b]):=by
 unfold jM;exact(if_neg (by intro z;cases z.2)).trans rfl
def Ca{a b:D}:jM (.tup [a,b]) none (some 2)=.ok (.tup [a,b]):=by
 unfold jM;exact if_pos ⟨rfl,rfl⟩
def u7{a b c x y:D}:bC (.tup [a,b,c]) (.tup [x,y])=.ok (.tup [a,b,c,x,y]):=by rfl
def K6{a b c x y:D}:bC (.tup [a,b,c,x]) (.tup [y])=.ok (.tup [a,b,c,x,y]):=by rfl
def qL{xs:ac}{k:Nat}(h:k+1<=xs.length):gk xs (some ((k:Int)+1)) none=xs.drop (k+1):=by
 have e1:HT.sIx xs.length 0 (some ((k:Int)+1))=k+1:=by
  unfold HT.sIx;simp only;split<;>omega
 have e2:HT.sIx xs.length xs.length none=xs.length:=rfl;unfold gk;rw[e1,e2,List.take_of_length_le (by rw[List.length_drop];exact Nat.le_refl _)]
def yi{o:Option nj}:eW (bw o)=true:=by cases o<;>rfl
def lI{t:ki}:eW (aI t)=true:=by
 show(eW (.str t.a)&&(eW (.str t.b)&&(eW (.str t.w)&&(eW (fr t.l)&&(eW (bw t.o)&&true)))))=true;rw[yi];rfl
section
variable {w:eH}(W:cE w)
include W
theorem D3{k:Nat}{t:ki}{x:nj}(ht:w.ts[k]?=some t):bz [bx w,.tup [.str "length",.int k,fr x]]=.ok (jB w ((w.ts.map aI).set k (mZ t (fr x)))):=by
 have e1:(("length":Str)=="length")=true:=by decide
 have e2:(("length":Str)=="worth")=false:=by decide
 have e3:(("length":Str)=="gone")=false:=by decide
 have e4:(("length":Str)=="tie")=false:=by decide
 have hk:k<w.ts.length:=(List.getElem?_eq_some_iff.mp ht).1;have fl:eW (.tup [.str t.a,.str t.b,.str t.w,fr x,bw t.o])=true:=lI (t:=⟨t.a,t.b,t.w,x,t.o⟩);have a:=lL (ds:=w.ts.map aI) (i:=2) (j:=(k:Int)) (d:=.tup [.str t.a,.str t.b,.str t.w,fr x,bw t.o]) (ρ:=[.sh (bx w),.sh (.tup [.str "length",.int k,fr x]),.ow (.lst (w.ts.map aI)),.sh (.str "length"),.sh (.int k)]) (oP (by rw[List.length_map];exact hk));open_line with[bz,eF,w0,w1,w2,w3,sN,B8,lK,bP,aZ,e1,e2,e3,e4,rn ht,K0,t4,u7,uP fl,a,ku,mh,qG,mf,me,mQ,ka]
 rfl
theorem D1{k:Nat}{t:ki}{o:Option nj}(ht:w.ts[k]?=some t):bz [bx w,.tup [.str "worth",.int k,bw o]]=.ok (jB w ((w.ts.map aI).set k (mY t (bw o)))):=by
 have e1:(("worth":Str)=="length")=false:=by decide
 have e2:(("worth":Str)=="worth")=true:=by decide
 have e3:(("worth":Str)=="gone")=false:=by decide
 have e4:(("worth":Str)=="tie")=false:=by decide
 have hk:k<w.ts.length:=(List.getElem?_eq_some_iff.mp ht).1;have fl:eW (.tup [.str t.a,.str t.b,.str t.w,fr t.l,bw o])=true:=lI (t:=⟨t.a,t.b,t.w,t.l,o⟩);have a:=lL (ds:=w.ts.map aI) (i:=2) (j:=(k:Int)) (d:=.tup [.str t.a,.str t.b,.str t.w,fr t.l,bw o]) (ρ:=[.sh (bx w),.sh (.tup [.str "worth",.int k,bw o]),.ow (.lst (w.ts.map aI)),.sh (.str "worth"),.sh (.int k)]) (oP (by rw[List.length_map];exact hk));open_line with[bz,eF,w0,w1,w2,w3,sN,B8,lK,bP,aZ,e1,e2,e3,e4,rn ht,F6,K6,uP fl,a,ku,mh,qG,mf,me,mQ,ka]
 rfl
theorem D2{t:ki}:bz [bx w,.tup [.str "tie",aI t]]=.ok (jB w (w.ts.map aI++[aI t])):=by
 have e1:(("tie":Str)=="length")=false:=by decide
 have e2:(("tie":Str)=="worth")=false:=by decide
 have e3:(("tie":Str)=="gone")=false:=by decide
 have e4:(("tie":Str)=="tie")=true:=by decide
 have a:=kv (ds:=w.ts.map aI) (i:=2) (d:=aI t) (ρ:=[.sh (bx w),.sh (.tup [.str "tie",aI t]),.ow (.lst (w.ts.map aI)),.sh (.str "tie"),.sh (aI t)]) (decide_eq_true (by have:=qe W;omega));open_line with[bz,eF,w0,w1,w2,w3,sN,Ca,lK,bP,aZ,e1,e2,e3,e4,a,ku,mh,qG,mf,me,mQ,ka]
 rfl
theorem Bc{k:Nat}(hk:k<w.ts.length):bz [bx w,.tup [.str "gone",.int k]]=.ok (jB w ((w.ts.map aI).eraseIdx k)):=by
 have e1:(("gone":Str)=="length")=false:=by decide
 have e2:(("gone":Str)=="worth")=false:=by decide
 have e3:(("gone":Str)=="gone")=true:=by decide
 have e4:(("gone":Str)=="tie")=false:=by decide
 have hl:(w.ts.map aI).length<=14:=qe W;have c1:gk (w.ts.map aI) none (some (k:Int))=(w.ts.map aI).take k:=Nwb.cut_id (by rw[List.length_map];omega);have c2:gk (w.ts.map aI) (some ((k:Int)+1)) none=(w.ts.map aI).drop (k+1):=qL (by rw[List.length_map];omega);have c3:pW (.lst ((w.ts.map aI).take k)) (.lst ((w.ts.map aI).drop (k+1)))=.ok (.lst ((w.ts.map aI).eraseIdx k)):=by
  show(if((w.ts.map aI).take k).length+((w.ts.map aI).drop (k+1)).length<=line then _ else _)=_;rw[if_pos (by rw[List.length_take,List.length_drop];exact Nat.le_trans (show _<=28 by omega) (by decide)),List.eraseIdx_eq_take_drop_succ]
 have un:unown 2 [.sh (bx w),.sh (.tup [.str "gone",.int k]),.ow (.lst (w.ts.map aI)),.sh (.str "gone"),.sh (.int k)]=[.sh (bx w),.sh (.tup [.str "gone",.int k]),.sh (.lst (w.ts.map aI)),.sh (.str "gone"),.sh (.int k)]:=rfl;open_line with[bz,eF,w0,w1,w2,w3,sN,Ca,lK,bP,aZ,e1,e2,e3,e4,un,c1,c2,c3,ku,mh,qG,mf,me,mQ,ka]
 rfl
end
open Nwb (fK eh mP)
def cf(w:eH):D:=jB w (w.ts.map aI)
def HB{zs:List Str}{d:D}(nm:gD zs)(h:fK zs d)(h':eh zs d):False:=by
 obtain⟨t,rfl,T⟩:=h;have e:Com.m_is_tie [aI t]=.ok (.bl true):=nO nm T;rcases h' with h'|⟨_,a,b,r,e2,h'⟩
 .replace h':Com.m_is_tie [aI t]=.ok (.bl false):=h'
  rw[e]at h';cases h'
 .unfold aI at e2
  injection e2 with e2;injection e2 with e3 e2;injection e2 with e4 e2;injection e3 with e3;injection e4 with e4;rcases h' with h'|h'
  .exact h' (e3▸T.a)
  .exact h' (e4▸T.b)
def jW{w:eH}(W:cE w){ds:ac}(hd:∀d∈ds,fK w.ps d∨eh w.ps d)(hx:14<ds.length∨∃d∈ds,eh w.ps d):∃p n,Nwb.m_look_at_web [kJ w ds]=.exn (mP p n):=by
 have hp:=Nwb.placesX W.n2 W.n7 W.nm
 by_cases h14:14<ds.length
 .exact⟨_,_,Nwb.web_ties hp (Nwb.ties_size h14)⟩
 .rcases hx with hx|⟨d,hd1,hd2⟩
  .exact absurd hx h14
  rcases Nwb.ties_all W.nm (by omega) hd with h|⟨k,_,h⟩
  .exact(HB W.nm (h d hd1) hd2).elim
  .exact⟨_,_,Nwb.web_ties hp h⟩
structure Nice (b:D):Prop where
 n:∀xs,b=.tup xs->xs.length<=4/\∀y∈xs,Eh y=true/\rq y/\gK y/\fgt y=y
noncomputable abbrev wY(w:eH) (b:D):Prop :=
 (∃w',cE w'/\eW b=true/\ax [bx w,b]=.ok (.bl true)/\cb [bx w,b]=.ok (cf w')/\bz [bx w,b]=.ok (cf w')) ∨
 (ax [bx w,b]=.ok (.bl false)/\cb [bx w,b]=.exn ⟨"NoChange",[]⟩)
def sJ{o:Option nj}:fgt (bw o)=bw o:=by cases o<;>rfl
def uu{ds:ac}{k:Nat}{y:D}(h:k<ds.length):y∈ds.set k y:=List.mem_iff_getElem?.mpr ⟨k,by rw[List.getElem?_set_self h]⟩
def vT{w:eH}(W:cE w){d:D}(h:d∈w.ts.map aI):fK w.ps d:=by
 obtain⟨t,ht,rfl⟩:=List.mem_map.mp h;exact⟨t,rfl,W.ts t ht⟩
def Cc{w:eH}(W:cE w){y:D}(hf:Eh y=true)(hs:rq y)(hg:fgt y=y):wY w (.tup [.str "tie",y]):=by
 have bh:=IY W (y:=y);have hg2:fgts (w.ts.map aI++[y])=w.ts.map aI++[y]:=by rw[oV,e8,fgts,hg];rfl
 have cg:=ik W (HG (y:=y)) bh hg2;have hin:∀d∈w.ts.map aI++[y],fK w.ps d∨eh w.ps d:=λd hd=>by
  rcases List.mem_append.mp hd with h|h
  .exact .inl (vT W h)
  .rw[List.mem_singleton.mp h]
   rcases xg W hf hs with⟨_,h⟩|⟨_,h⟩
   .exact .inl h
   .exact .inr h
 rcases xg W hf hs with⟨e1,t,rfl,T⟩|⟨e1,hO⟩
 .by_cases h14:w.ts.length<14
  .left
   have W':cE { w with ts:=w.ts++[t] }:=⟨W.n2,W.n7,W.nm,by simp;omega,λu hu=>by
    rcases List.mem_append.mp hu with h|h
    .exact W.ts u h
    .rw[List.mem_singleton.mp h];exact T,W.fi,W.la,W.ne⟩
   have em:w.ts.map aI++[aI t]=(w.ts++[t]).map aI:=by rw[List.map_append];rfl
   refine⟨_,W',?_,?_,?_,?_⟩
   .show(eW (.str "tie")&&(eW (aI t)&&true))=true
    rw[lI];rfl
   .rw[vY e1,decide_eq_true (show(w.ts.length:Int)<14 by omega)];rfl
   .rw[cg.2 (by rw[em];exact Nwb.webX W'),em];rfl
   .rw[D2 W,em];rfl
  .right
   refine⟨?_,?_⟩
   .rw[vY e1,decide_eq_false (show ¬(w.ts.length:Int)<14 by omega)];rfl
   .obtain⟨p,n,h⟩:=jW W hin (.inl (by simp;omega))
    exact cg.1 p n h
 .right
  refine⟨?_,?_⟩
  .rw[vY e1,Bool.and_false]
  .obtain⟨p,n,h⟩:=jW W hin (.inr ⟨y,by simp,hO⟩)
   exact cg.1 p n h
def zC{w:eH}(W:cE w){y:D}:wY w (.tup [.str "gone",y]):=by
 have h1:PySem.W.kdpHas PT "gone"=true:=by decide
 have h2:((([]:ac).length+1+1:Nat):Int)==PySem.W.kdpLook PT "gone" 0:=by decide
 have h3:(("gone":Str)=="tie")=false:=by decide
 have fm:=wy (w:=w) (s:="gone") (y:=y) (r:=[]) h1 h2 h3;rcases eZ w.ts.length y with⟨hn,k,rfl,k0,k1⟩|⟨hn,_⟩
 .left
  obtain⟨k,rfl⟩:=Int.eq_ofNat_of_zero_le k0;have hk:k<w.ts.length:=by omega
  rw[hn]at fm;have em:(w.ts.map aI).eraseIdx k=(w.ts.eraseIdx k).map aI:=by rw[List.eraseIdx_eq_take_drop_succ,List.eraseIdx_eq_take_drop_succ,List.map_append,List.map_take,List.map_drop]
  have W':cE { w with ts:=w.ts.eraseIdx k }:=⟨W.n2,W.n7,W.nm,Nat.le_trans (List.length_eraseIdx_le ..) W.t14,λu hu=>W.ts u (List.mem_of_mem_eraseIdx hu),W.fi,W.la,W.ne⟩
  have cg:=ik W fm (Fs W hk) (by rw[em,e8]);refine⟨_,W',rfl,?_,?_,?_⟩
  .rw[xW k0 k1];rfl
  .rw[cg.2 (by rw[em];exact Nwb.webX W'),em];rfl
  .have:=Bc W hk
   rw[em]at this;exact this
 .right
  rw[hn]at fm;exact⟨oK h3 hn,jv W fm⟩
def Aw{w:eH}(W:cE w){k:Nat}{y d:D}(h:d∈(w.ts.map aI).set k y):fK w.ps d∨d=y:=by
 rcases List.mem_or_eq_of_mem_set h with h|h
 .exact .inl (vT W h)
 .exact .inr h
def jO{w:eH}(W:cE w){k:Nat}{t:ki}(T:gu w.ps t):cE { w with ts:=w.ts.set k t }:=⟨W.n2,W.n7,W.nm,by show(w.ts.set k t).length<=14;rw[List.length_set];exact W.t14,λu hu=>by
 rcases List.mem_or_eq_of_mem_set hu with h|h
 .exact W.ts u h
 .rw[h];exact T,W.fi,W.la,W.ne⟩
def lA{w:eH}(W:cE w){t:ki}(T:gu w.ps t){z:D}(h:kF z=false):eh w.ps (mZ t z):=by
 left;have:=nP (a:=.str t.a) (b:=.str t.b) (w:=.str t.w) (l:=z) (o:=bw t.o) (name_fit W T.a) (name_fit W T.b);have e:tM (.str t.a) (.str t.b) (.str t.w) z (bw t.o)=false:=by unfold tM;rw[h];simp
 rw[e]at this;exact this
where
 name_fit {w:eH}(W:cE w) {z:Str}(h:z∈w.ps):vj (.str z)=true:=by
  have:=W.nm.nm z h;unfold kK at this;simp only[Bool.and_eq_true,decide_eq_true_eq]at this;exact decide_eq_true (Nat.le_trans this.2.1 (by decide))
def xK{w:eH}(W:cE w){t:ki}(T:gu w.ps t){z:D}(h:fN z=false):eh w.ps (mY t z):=by
 left;have:=nP (a:=.str t.a) (b:=.str t.b) (w:=.str t.w) (l:=fr t.l) (o:=z) (lA.name_fit W T.a) (lA.name_fit W T.b);have e:tM (.str t.a) (.str t.b) (.str t.w) (fr t.l) z=false:=by unfold tM;rw[h];simp
 rw[e]at this;exact this
def uY{w:eH}(W:cE w){y z:D}(hs:gK z)(hg:fgt z=z):wY w (.tup [.str "length",y,z]):=by
 have h1:PySem.W.kdpHas PT "length"=true:=by decide
 have h2:(((([z]:ac).length+1+1:Nat):Int)==PySem.W.kdpLook PT "length" 0)=true:=by show(((3:Nat):Int)==PySem.W.kdpLook PT "length" 0)=true;decide
 have h3:(("length":Str)=="tie")=false:=by decide
 have fm:=wy (w:=w) (s:="length") (y:=y) (r:=[z]) h1 h2 h3;rcases eZ w.ts.length y with⟨hn,k,rfl,k0,k1⟩|⟨hn,_⟩
 rotate_left
 .right
  rw[hn]at fm;exact⟨oK h3 hn,jv W fm⟩
 obtain⟨k,rfl⟩:=Int.eq_ofNat_of_zero_le k0;have hk:k<w.ts.length:=by omega
 have ht:=List.getElem?_eq_getElem hk;have T:=W.ts _ (List.getElem_mem hk);rw[hn]at fm;have bh:=IZ W (z:=z) ht;have hgt:fgt (mZ w.ts[k] z)=mZ w.ts[k] z:=by
  show D.tup [.str _,.str _,.str _,fgt z,fgt (bw w.ts[k].o)]=_;rw[hg,sJ];rfl
 have hg2:fgts ((w.ts.map aI).set k (mZ w.ts[k] z))=(w.ts.map aI).set k (mZ w.ts[k] z):=fgts_set (e8 _) hgt;have cg:=ik W fm bh hg2;cases hl:kF z with
 |true=>
  left;obtain⟨x,rfl,f1,f2⟩:=xU hl hs;have T':gu w.ps ⟨w.ts[k].a,w.ts[k].b,w.ts[k].w,x,w.ts[k].o⟩:=⟨T.a,T.b,T.ne,T.w,f1,f2,T.o⟩
  have W':=jO (k:=k) W T';have em:(w.ts.map aI).set k (mZ w.ts[k] (fr x))=(w.ts.set k ⟨w.ts[k].a,w.ts[k].b,w.ts[k].w,x,w.ts[k].o⟩).map aI:=by rw[List.map_set];rfl
  refine⟨_,W',rfl,?_,?_,?_⟩
  .rw[qz k0 k1,hl]
  .rw[cg.2 (by rw[em];exact Nwb.webX W'),em];rfl
  .have:=D3 W (x:=x) ht
   rw[em]at this;exact this
 |false=>
  right;refine⟨by rw[qz k0 k1,hl],?_⟩;obtain⟨p,n,h⟩:=jW W (ds:=(w.ts.map aI).set k (mZ w.ts[k] z)) (λd hd=>by
   rcases Aw W hd with h|h
   .exact .inl h
   .rw[h];exact .inr (lA W T hl)) (.inr ⟨_,uu (by rw[List.length_map];exact hk),lA W T hl⟩)
  exact cg.1 p n h
where
 fgts_set:∀{ds:ac}{k:Nat}{y:D},fgts ds=ds->fgt y=y->fgts (ds.set k y)=ds.set k y
  |[],_,_,h,_=>h
  |d::r,0,y,h,hy=>by
   rw[fgts]at h;injection h with h1 h2;rw[List.set_cons_zero,fgts,hy,h2]
  |d::r,k+1,y,h,hy=>by
   rw[fgts]at h;injection h with h1 h2;rw[List.set_cons_succ,fgts,h1,fgts_set h2 hy]
def Cb{w:eH}(W:cE w){y z:D}(hs:gK z)(hg:fgt z=z):wY w (.tup [.str "worth",y,z]):=by
 have h1:PySem.W.kdpHas PT "worth"=true:=by decide
 have h2:(((([z]:ac).length+1+1:Nat):Int)==PySem.W.kdpLook PT "worth" 0)=true:=by show(((3:Nat):Int)==PySem.W.kdpLook PT "worth" 0)=true;decide
 have h3:(("worth":Str)=="tie")=false:=by decide
 have fm:=wy (w:=w) (s:="worth") (y:=y) (r:=[z]) h1 h2 h3;rcases eZ w.ts.length y with⟨hn,k,rfl,k0,k1⟩|⟨hn,_⟩
 rotate_left
 .right
  rw[hn]at fm;exact⟨oK h3 hn,jv W fm⟩
 obtain⟨k,rfl⟩:=Int.eq_ofNat_of_zero_le k0;have hk:k<w.ts.length:=by omega
 have ht:=List.getElem?_eq_getElem hk;have T:=W.ts _ (List.getElem_mem hk);rw[hn]at fm;have bh:=IW W (z:=z) ht;have hgt:fgt (mY w.ts[k] z)=mY w.ts[k] z:=by
  show D.tup [.str _,.str _,.str _,fr w.ts[k].l,fgt z]=_;rw[hg];rfl
 have hg2:fgts ((w.ts.map aI).set k (mY w.ts[k] z))=(w.ts.map aI).set k (mY w.ts[k] z):=uY.fgts_set (e8 _) hgt;have cg:=ik W fm bh hg2;cases hl:fN z with
 |true=>
  left;obtain⟨o,rfl,f1⟩:=p7 hl hs;have T':gu w.ps ⟨w.ts[k].a,w.ts[k].b,w.ts[k].w,w.ts[k].l,o⟩:=⟨T.a,T.b,T.ne,T.w,T.l,T.l0,f1⟩
  have W':=jO (k:=k) W T';have em:(w.ts.map aI).set k (mY w.ts[k] (bw o))=(w.ts.set k ⟨w.ts[k].a,w.ts[k].b,w.ts[k].w,w.ts[k].l,o⟩).map aI:=by rw[List.map_set];rfl
  refine⟨_,W',?_,?_,?_,?_⟩
  .show(eW (.str "worth")&&(eW (.int (k:Int))&&(eW (bw o)&&true)))=true
   rw[yi];rfl
  .rw[ux k0 k1,hl]
  .rw[cg.2 (by rw[em];exact Nwb.webX W'),em];rfl
  .have:=D1 W (o:=o) ht
   rw[em]at this;exact this
 |false=>
  right;refine⟨by rw[ux k0 k1,hl],?_⟩;obtain⟨p,n,h⟩:=jW W (ds:=(w.ts.map aI).set k (mY w.ts[k] z)) (λd hd=>by
   rcases Aw W hd with h|h
   .exact .inl h
   .rw[h];exact .inr (xK W T hl)) (.inr ⟨_,uu (by rw[List.length_map];exact hk),xK W T hl⟩)
  exact cg.1 p n h
open Nwb (fK eh mP)
def Br{s:Str}(h1:s≠"length")(h2:s≠"worth")(h3:s≠"tie")(h4:s≠"gone"):PySem.W.kdpHas PT s=false:=by
 unfold PySem.W.kdpHas;simp only[List.any_cons,List.any_nil,decide_eq_false (Ne.symm h1),decide_eq_false (Ne.symm h2),decide_eq_false (Ne.symm h3),decide_eq_false (Ne.symm h4),Bool.or_false]
def kf{s t:Str}(h:s≠t):(s==t)=false:=beq_eq_false_iff_ne.mpr h
def iz{w:eH}(W:cE w){b:D}(h1:ax [bx w,b]=.ok (.bl false))(h2:aG [bx w,b]=.ok (.bl false)):wY w b:=.inr ⟨h1,jv W h2⟩
def vL{w:eH}(W:cE w){s:Str}{y:D}{r:ac}(h1:s≠"length")(h2:s≠"worth")(h3:s≠"tie")(h4:s≠"gone")(hr:r.length<=2):wY w (.tup (.str s::y::r)):=by
 refine iz W ?_ (yf (Br h1 h2 h3 h4));rcases eZ w.ts.length y with⟨hn,k,rfl,k0,k1⟩|⟨hn,_⟩
 .by_cases hl:r.length=1
  .match r,hl with
   |[z],_=>exact Bd (kf h3) k0 k1 (kf h4) (kf h1) (kf h2)
  .exact vZ (kf h3) k0 k1 (kf h4) hl
 .exact oK (kf h3) hn
def core{w:eH}(W:cE w){b:D}(N:Nice b):wY w b:=by
 cases b with
 |tup xs=>
  obtain⟨h4,hx⟩:=N.n xs rfl
  match xs,h4,hx with
  |[],_,_=>exact iz W Ho HH
  |x::r,h4,hx=>
   by_cases hs:∃s,x=.str s
   rotate_left
   .have hn:∀z,x≠.str z:=λz hz=>hs ⟨z,hz⟩
    refine iz W ?_ (Bw hn);cases r with|nil=>exact Be|cons y r=>exact Bf hn
   obtain⟨s,rfl⟩:=hs;cases r with
   |nil=>
    refine iz W Be ?_
    by_cases e1:s="length"
    .subst e1;exact j8 (by decide) (by decide)
    by_cases e2:s="worth"
    .subst e2;exact j8 (by decide) (by decide)
    by_cases e3:s="tie"
    .subst e3;exact j8 (by decide) (by decide)
    by_cases e4:s="gone"
    .subst e4;exact j8 (by decide) (by decide)
    exact yf (Br e1 e2 e3 e4)
   |cons y r=>
    have hr:r.length<=2:=by simp at h4;omega
    by_cases e3:s="tie"
    .subst e3
     by_cases hl:r.length=0
     .match r,hl with
      |[],_=>
       obtain⟨f1,f2,_,f4⟩:=hx y (by simp);exact Cc W f1 f2 f4
     .refine iz W (D4 hl) (j8 (by decide) ?_)
      have:PySem.W.kdpLook PT "tie" 0=2:=by decide
      rw[this];exact beq_eq_false_iff_ne.mpr (by simp;omega)
    by_cases e4:s="gone"
    .subst e4
     by_cases hl:r.length=0
     .match r,hl with
      |[],_=>exact zC W
     .refine iz W ?_ (j8 (by decide) ?_)
      .rcases eZ w.ts.length y with⟨hn,k,rfl,k0,k1⟩|⟨hn,_⟩
       .rw[xW k0 k1]
        rw[show((((r.length+1+1:Nat)):Int)==2)=false from beq_eq_false_iff_ne.mpr (by omega)]
       .exact oK (by decide) hn
      .have:PySem.W.kdpLook PT "gone" 0=2:=by decide
       rw[this];exact beq_eq_false_iff_ne.mpr (by simp;omega)
    by_cases e1:s="length"
    .subst e1
     by_cases hl:r.length=1
     .match r,hl with
      |[z],_=>
       obtain⟨_,_,f3,f4⟩:=hx z (by simp);exact uY W f3 f4
     .refine iz W ?_ (j8 (by decide) ?_)
      .rcases eZ w.ts.length y with⟨hn,k,rfl,k0,k1⟩|⟨hn,_⟩
       .exact vZ (by decide) k0 k1 (by decide) hl
       .exact oK (by decide) hn
      .have:PySem.W.kdpLook PT "length" 0=3:=by decide
       rw[this];exact beq_eq_false_iff_ne.mpr (by simp;omega)
    by_cases e2:s="worth"
    .subst e2
     by_cases hl:r.length=1
     .match r,hl with
      |[z],_=>
       obtain⟨_,_,f3,f4⟩:=hx z (by simp);exact Cb W f3 f4
     .refine iz W ?_ (j8 (by decide) ?_)
      .rcases eZ w.ts.length y with⟨hn,k,rfl,k0,k1⟩|⟨hn,_⟩
       .exact vZ (by decide) k0 k1 (by decide) hl
       .exact oK (by decide) hn
      .have:PySem.W.kdpLook PT "worth" 0=3:=by decide
       rw[this];exact beq_eq_false_iff_ne.mpr (by simp;omega)
    exact vL W e1 e2 e3 e4 hr
 |ob k ds=>
  have h:ez "tuple" (.ob k ds)=.ok (.bl false):=by cases k<;>rfl
  exact iz W (xV h) (yg h)
 |_=>exact iz W (xV rfl) (yg rfl)
open Nwb (fK eh mP)
def Ae{v b d:D}(h:cb [v,b]=.ok d):bS [v,b]=.ok (.tup [d,.str ""]):=by
 open_line with[bS,iq,wA,sO,o4,h,Eo]
def Lk(a:Int)(h:a.natAbs<eI):a.natAbs<CG:=Nat.lt_of_lt_of_le h FD
def C5{v b:D}(h:cb [v,b]=.exn ⟨"NoChange",[]⟩):bS [v,b]=.ok (.tup [.non,.str "change"]):=by
 have q1:j0 jh "NoChange"=true:=by decide
 have x1:fT xo (.exc "NoChange")=.ok (.bl true):=sP rfl;have x2:fT xm (.exc "NoChange")=.ok (.bl false):=sP rfl;have x3:fT xj (.exc "NoChange")=.ok (.bl true):=sP rfl;have x4:fT xh (.exc "NoChange")=.ok (.bl false):=sP rfl;have i1:gj (.bl true)=.ok (.int 1):=rfl;have i2:gj (.bl false)=.ok (.int 0):=rfl;have i3:dm (.int 2) (.int 0)=.ok (.int 0):=mi (A9 (Lk 2 (by decide)) (Lk 0 (by decide)));open_line with[bS,iq,wA,sO,o4,h,fG,En q1,BH,x1,x2,x3,x4,i1,i2,i3]
def Mi{p:Str}{n:D}:sL (mP p n)=.ob (.exf "NoWeb" ["part","number"]) [.str p,n]:=by unfold sL;rfl
def lg{v b:D}{p:Str}{n:D}(h:cb [v,b]=.exn (mP p n)):bS [v,b]=.ok (.tup [.non,.str "web"]):=by
 have x1:fT xo (.ob (.exf "NoWeb" ["part","number"]) [.str p,n])=.ok (.bl true):=nA rfl;have x2:fT xm (.ob (.exf "NoWeb" ["part","number"]) [.str p,n])=.ok (.bl false):=nA rfl;have x3:fT xj (.ob (.exf "NoWeb" ["part","number"]) [.str p,n])=.ok (.bl false):=nA rfl;have x4:fT xh (.ob (.exf "NoWeb" ["part","number"]) [.str p,n])=.ok (.bl true):=nA rfl;have i1:gj (.bl true)=.ok (.int 1):=rfl;have i2:gj (.bl false)=.ok (.int 0):=rfl;have i3:dm (.int 2) (.int 1)=.ok (.int 2):=mi (A9 (Lk 2 (by decide)) (Lk 1 (by decide)));have ht:∀(s:bv) (ρ:Ev),Ac (j0 jh) 4 s ρ (.exn (mP p n))=(s (ρ.set 4 (.sh (.ob (.exf "NoWeb" ["part","number"]) [.str p,n])))).bind (y9 4):=λs ρ=>by
  rw[Em (x:=mP p n) rfl,Mi]
 open_line with[bS,iq,wA,sO,o4,h,fG,ht,BH,x1,x2,x3,x4,i1,i2,i3]
def sX{v b:D}{p:Str}{n:D}(h:Nwb.m_look_at_web [v]=.exn (mP p n)):cb [v,b]=.exn (mP p n):=by
 open_line with[cb,iX,h,fG]
def Gq{w:eH}:Nwb.m_look_at_web [.tup [.lst (w.ps.map D.str),.lst (w.ts.map aI),.str w.fi]]=.exn (mP "web" .non):=Nwb.web_size (by simp)
def Gn:Nwb.m_look_at_web [.non]=.exn (mP "web" .non):=Nwb.web_kind rfl
def Gp{ds:ac}:Nwb.m_look_at_web [.lst ds]=.exn (mP "web" .non):=Nwb.web_kind rfl
def Gm{w:eH}(W:cE w):∃p n,Nwb.m_look_at_web [kJ w (w.ts.map aI++[.non])]=.exn (mP p n) :=
 jW W (λd hd=>by
  rcases List.mem_append.mp hd with h|h
  .exact .inl (vT W h)
  .rw[List.mem_singleton.mp h];exact .inr (.inl rfl)) (.inr ⟨.non,by simp,.inl rfl⟩)
open Nwb (fK eh mP)
section
variable {x y i:Nat}{js:cr}{f:am}{s:bv}{g:List (Nat×D)->bv}{ρ:Ev}{T:List (Nat×D)}{d:D}{z:Str}
def uO(h:f (jY js (fgtE ρ))=.ok (.tup [d,.str z]))(hc:Kb js (fgtE ρ)=true/\x<ρ.length/\x≠y):nW x y js f g ρ=l4 x y ρ g d z:=by
 unfold nW;rw[h];exact if_pos hc
def zu(h:Ka d=true):l4 x y ρ g d z=g [(x,d)] ((ρ.set x .no).set y (.sh (.str z))):=if_pos h
def zv:l4 x y ρ g .non z=g [] ((ρ.set x (.sh .non)).set y (.sh (.str z))):=rfl
def oY(h:f ρ=.ok d)(hT:(T.all λp=>p.1 != i)=true):qg i f g T ρ=g T (ρ.set i (.sh d)):=by
 unfold qg;rw[h];exact if_pos hT
def oZ(h:f (Jh T ρ)=.ok (.bl false)):pO f s g T ρ=g T ρ:=by unfold pO;rw[h];rfl
def HM(h:f (Jh T ρ)=.ok (.bl true))(h2:s ρ=.ok (.rt d)):pO f s g T ρ=.ok (.rt d):=by
 unfold pO;rw[h];show(s ρ).bind LQ=_;rw[h2];rfl
end
def iK{w:eH}:bg 40 (bx w)=true:=by
 show(bg 39 (.lst (w.ps.map D.str))&&(bg 39 (.lst (w.ts.map aI))&&(bg 39 (.str w.fi)&&(bg 39 (.str w.la)&&true))))=true;have h1:bg 39 (.lst (w.ps.map D.str))=true:=l6 (n:=38);have h2:bg 39 (.lst (w.ts.map aI))=true:=by
  show(w.ts.map aI).all (bg 38)=true;refine List.all_eq_true.mpr λd hd=>?_;obtain⟨t,_,rfl⟩:=List.mem_map.mp hd;exact Au (n:=35)
 rw[h1,h2];rfl
def vQ{w:eH}:kH (bx w) (bx w)=.ok (.bl false):=by
 unfold kH;rw[if_pos ⟨iK,iK⟩,iQ 40 _ iK];rfl
def IA{w:eH}:fM (bx w) (bx w)=.ok (.bl true):=by
 unfold fM;rw[if_pos ⟨iK,iK⟩,iQ 40 _ iK]
def lJ{w:eH}:fgt (bx w)=bx w:=by
 show D.tup [.lst (fgts (w.ps.map D.str)),.lst (fgts (w.ts.map aI)),.str w.fi,.str w.la]=_;rw[kr,e8];rfl
def cK{w:eH}:fgt (cf w)=bx w:=qF (e8 _)
def zq{w:eH}:fgt (kJ w (w.ts.map aI++[.non]))=kJ w (w.ts.map aI++[.non]):=by
 show D.tup [.lst (fgts (w.ps.map D.str)),.lst (fgts (w.ts.map aI++[.non])),.str w.fi,.str w.la]=_;rw[kr,oV,e8];rfl
theorem om:∀(zs:List Str),plainDs (zs.map D.str)=true
 |[]=>rfl
 |z::r=>by rw[List.map_cons,plainDs,om r];rfl
def y0(t:ki):cN (aI t)=true:=by obtain⟨a,b,w,l,o⟩:=t;cases o<;>rfl
theorem oj:∀(ts:List ki),plainDs (ts.map aI)=true
 |[]=>rfl
 |t::r=>by rw[List.map_cons,plainDs,oj r,y0];rfl
def yZ{w:eH}:cN (bx w)=true:=by
 show(plainDs (w.ps.map D.str)&&(plainDs (w.ts.map aI)&&true))=true;rw[om,oj];rfl
def A1{w:eH}(W:cE w):Ka (cf w)=true:=by
 show decide ((w.ts.map aI).length<line)=true;exact decide_eq_true (Nat.lt_of_le_of_lt (qe W) (by decide))
structure qZ (b:D):Prop extends Nice b where
 fg:fgt b=b
 pl:cN b=true
def nL{w:eH}{v b:D}(h:v=.tup [.lst (w.ps.map D.str),.lst (w.ts.map aI),.str w.fi]∨v=.non∨v=.lst [.lst (w.ps.map D.str),.lst (w.ts.map aI),.str w.fi,.str w.la]):bS [v,b]=.ok (.tup [.non,.str "web"]):=by
 rcases h with rfl|rfl|rfl
 .exact lg (sX Gq)
 .exact lg (sX Gn)
 .exact lg (sX Gp)
abbrev WR:am:=(ae (ar (ag (dY (gr (ah 0)) cT (bN (dC (.int 3)))) (ag (dC (.non)) (ag (ar (ag (gr (ah 0)) ay) (m1 eC)) ay))) cY) (ae (ar (ag (ae (gr (ah 0)) (dC (.int 1)) aP) ay) (m1 dH)) (dC (.int 3)) cp) aP)
def FF{w:eH}{r:List Sl}:∃v,WR (.sh (cf w)::r)=.ok v/\∀b,bS [v,b]=.ok (.tup [.non,.str "web"]):=by
 have c3:kO (bx w) none (some 3)=.ok (.tup [.lst (w.ps.map D.str),.lst (w.ts.map aI),.str w.fi]):=(ji (by rfl)).trans rfl;have dl:eC (bx w)=.ok (.lst [.lst (w.ps.map D.str),.lst (w.ts.map aI),.str w.fi,.str w.la]):=rfl;have hm:((w.ts.length:Int)).fmod 3=0∨((w.ts.length:Int)).fmod 3=1∨((w.ts.length:Int)).fmod 3=2:=by
  have h1:=Int.fmod_nonneg_of_pos (w.ts.length:Int) (show(0:Int)<3 by decide);have h2:=Int.fmod_lt_of_pos (w.ts.length:Int) (show(0:Int)<3 by decide);omega
 rcases hm with h|h|h
 .refine⟨_,?_,λb=>nL (w:=w) (.inl rfl)⟩
  open_line with[fF,cK,c3,dl,w1,List.length_map,h]
 .refine⟨_,?_,λb=>nL (w:=w) (.inr (.inl rfl))⟩
  open_line with[fF,cK,c3,dl,w1,List.length_map,h]
 .refine⟨_,?_,λb=>nL (w:=w) (.inr (.inr rfl))⟩
  open_line with[fF,cK,c3,dl,w1,List.length_map,h]
open Nwb (fK eh mP)
theorem qE:∀(zs:List Str),flats (zs.map D.str)=true
 |[]=>rfl
 |z::r=>by rw[List.map_cons,flats,qE r];rfl
theorem qD:∀(ts:List ki),flats (ts.map aI)=true
 |[]=>rfl
 |t::r=>by rw[List.map_cons,flats,qD r,lI];rfl
def Dn{w:eH}(W:cE w):Dp (w.ps.map D.str) (w.ts.map aI)=true:=by
 have h2:=W.n2
 match hp:w.ps,ht:w.ts with
 |[],_=>rw[hp]at h2;simp at h2
 |p::r,[]=>rfl
 |p::r,t::u=>rfl
def EM{w:eH}(W:cE w){b d2 d3 d4 d5 d6:Sl}{f:am}{r:bv}{x:D}(fb:eW x=true)(h:f [.sh (kJ w (w.ts.map aI++[.non])),.sh x,.no,.no,.no,.no,.no]=.ok (.str "web")) :
  xx 0 4 [1] f r [.sh (cf w),.sh x,d2,d3,d4,d5,d6]=r [.sh (cf w),.sh x,d2,d3,.sh (.str "web"),d5,d6]:=by
 show xT 0 4 [1] f r [.sh (cf w),.sh x,d2,d3,d4,d5,d6] (w.ps.map D.str) (w.ts.map aI) [.str w.fi,.str w.la]=_;have hj:Bx [1] [.sh (cf w),.sh x,d2,d3,d4,d5,d6]=true:=by
  show(eW x&&true)=true;rw[fb];rfl
 unfold xT;rw[if_pos ⟨⟨hj,Dn W,qE _⟩,qD _,rfl,Nat.lt_of_le_of_lt (qe W) (by decide),by decide⟩];have e:uw 0 [1] [.sh (cf w),.sh x,d2,d3,d4,d5,d6] (w.ps.map D.str) (w.ts.map aI) [.str w.fi,.str w.la]=[.sh (kJ w (w.ts.map aI++[.non])),.sh x,.no,.no,.no,.no,.no]:=rfl;rw[e,h];rfl
def AD{w:eH}(W:cE w){b:D}(N:qZ b):fD [cf w,b]=.ok (.bl true):=by
 have body:jx [.sh (cf w),.sh b,.no,.no,.no,.no,.no]=.ok (.rt (.bl true)):=by
  unfold jx;have l0:eC (.lst (w.ps.map D.str))=.ok (.lst (w.ps.map D.str)):=rfl;have l1:eC (.lst (w.ts.map aI))=.ok (.lst (w.ts.map aI)):=rfl;have e1:(bb 2 (ar (ag (ar (ag (ae (gr (ah 0)) (dC (.int 0)) aP) ay) (m1 eC)) (ag (ar (ag (ae (gr (ah 0)) (dC (.int 1)) aP) ay) (m1 eC)) (ag (ae (gr (ah 0)) (dC (.int 2)) aP) (ag (ae (gr (ah 0)) (dC (.int 3)) aP) ay)))) dZ)) [.sh (cf w),.sh b,.no,.no,.no,.no,.no]=.ok (.nx [.sh (cf w),.sh b,.sh (bx w),.no,.no,.no,.no]):=by
   open_line with[fF,cK,w0,w1,w2,w3,l0,l1]
   rfl
  rw[wB,e1,BI,yk];have hk:jY [0,1] (fgtE [.sh (cf w),.sh b,.sh (bx w),.no,.no,.no,.no])=[.sh (bx w),.sh b,.no,.no,.no,.no,.no]:=by
   show[Sl.sh (fgt (cf w)),.sh (fgt b),.no,.no,.no,.no,.no]=_;rw[cK,N.fg]
  have hj:Kb [0,1] (fgtE [.sh (cf w),.sh b,.sh (bx w),.no,.no,.no,.no])=true:=by
   show(cN (fgt (cf w))&&(cN (fgt b)&&true))=true;rw[cK,N.fg,yZ,N.pl];rfl
  obtain⟨wr,hw1,hw2⟩:=FF (w:=w) (r:=[.sh b,.sh (bx w),.no,.sh (.str ""),.no,.no]);rcases core W N.toNice with⟨w',W',fb,c1,c2,c3⟩|⟨c1,c2⟩
  .have t1:=Ae c2
   have h1:(ar (ag (gr (ah 0)) (ag (ah 1) ay)) bS) (jY [0,1] (fgtE [.sh (cf w),.sh b,.sh (bx w),.no,.no,.no,.no]))=.ok (.tup [cf w',.str ""]):=by
    rw[hk];open_line with[fF,lJ,t1]
   refine(uO h1 ⟨hj,by show 3<7;decide,by decide⟩).trans ?_;refine(zu (A1 W')).trans ?_;refine(oY (d:=wr) hw1 rfl).trans ?_;have a1:kH (.str "web") (.str "web")=.ok (.bl false):=rfl;have a2:kH (.str "") (.str "")=.ok (.bl false):=rfl;have tw:=hw2 b;refine(oZ (by
    show(fq _ _) [.sh (cf w),.sh b,.sh (bx w),.sh (cf w'),.sh (.str ""),.sh wr,.no]=_;open_line with[fF,cK,lJ,vQ,tw,a1])).trans ?_
   refine(oZ (by
    show(cC _) [.sh (cf w),.sh b,.sh (bx w),.sh (cf w'),.sh (.str ""),.sh wr,.no]=_;open_line with[fF,cK,c1,Bool.not_true])).trans ?_
   refine(oY (d:=cf w') (by
    show(ar _ _) [.sh (cf w),.sh b,.sh (bx w),.no,.sh (.str ""),.sh wr,.no]=_;open_line with[fF,cK,c3]) rfl).trans ?_
   have i1:ez "tuple" (bx w')=.ok (.bl true):=rfl;have i2:ez "list" (.lst (w'.ps.map D.str))=.ok (.bl true):=rfl;refine(oZ (by
    show(fq _ _) [.sh (cf w),.sh b,.sh (bx w),.sh (cf w'),.sh (.str ""),.sh wr,.sh (cf w')]=_;open_line with[fF,cK,a2,i1,Bool.not_true])).trans ?_
   refine(oZ (by
    show(fq _ _) [.sh (cf w),.sh b,.sh (bx w),.sh (cf w'),.sh (.str ""),.sh wr,.sh (cf w')]=_;open_line with[fF,cK,w0,i2,vQ,Bool.not_true])).trans ?_
   obtain⟨p,n,hT⟩:=Gm W;have tt:=lg (sX (b:=b) hT);have hl:=EM W (x:=b) (d2:=.sh (bx w)) (d3:=.no) (d4:=.sh (.str "")) (d5:=.sh wr) (d6:=.sh (cf w')) (b:=.no)
    (f:=(ae (ar (ag (gr (ah 0)) (ag (ah 1) ay)) bS) (dC (.int 1)) aP)) (r:=(aw (bG (ef (ae (ah 4) (dC (.str "web")) fM) (ef (ae (gr (ar (ag (gr (ah 0)) (ag (ah 1) ay)) (noX cb))) (gr (ah 6)) fM) (ae (gr (ah 0)) (gr (ah 2)) fM))))
 av)) fb (by open_line with[fF,zq,tt])
   refine Eq.trans (show _=_ from rfl) (hl.trans ?_);have a3:fM (.str "web") (.str "web")=.ok (.bl true):=rfl;have nx:noX cb [bx w,b]=.ok (cf w'):=Hi c2;open_line with[fF,cK,lJ,a3,nx,IA]
  .have t1:=C5 c2
   have h1:(ar (ag (gr (ah 0)) (ag (ah 1) ay)) bS) (jY [0,1] (fgtE [.sh (cf w),.sh b,.sh (bx w),.no,.no,.no,.no]))=.ok (.tup [.non,.str "change"]):=by
    rw[hk];open_line with[fF,lJ,t1]
   obtain⟨wr,hw1,hw2⟩:=FF (w:=w) (r:=[.sh b,.sh (bx w),.sh .non,.sh (.str "change"),.no,.no]);have tw:=hw2 b;have a1:kH (.str "web") (.str "web")=.ok (.bl false):=rfl;have a2:fM (.str "change") (.str "change")=.ok (.bl true):=rfl;refine(uO h1 ⟨hj,by show 3<7;decide,by decide⟩).trans ?_;refine zv.trans ?_;refine(oY (d:=wr) hw1 rfl).trans ?_;refine(oZ (by
    show(fq _ _) [.sh (cf w),.sh b,.sh (bx w),.sh .non,.sh (.str "change"),.sh wr,.no]=_;open_line with[fF,cK,lJ,vQ,tw,a1])).trans ?_
   exact HM (by
    show(cC _) [.sh (cf w),.sh b,.sh (bx w),.sh .non,.sh (.str "change"),.sh wr,.no]=_;open_line with[fF,cK,c1,Bool.not_false]) (by show(aw _ _) [.sh (cf w),.sh b,.sh (bx w),.sh .non,.sh (.str "change"),.sh wr,.no]=_;open_line with[a2])
 open_line with[fD,body]
structure El (y:D):Prop where
 f:Eh y=true
 t:rq y
 s:gK y
 g:fgt y=y
 p:cN y=true
def gM{z:Str}:El (.str z):=⟨rfl,(λ_ _ _ _ _ e=>nomatch e),(λ_ _ e=>nomatch e),rfl,rfl⟩
def kY{k:Int}:El (.int k):=⟨rfl,(λ_ _ _ _ _ e=>nomatch e),(λ_ _ e=>nomatch e),rfl,rfl⟩
def wH:El .non:=⟨rfl,(λ_ _ _ _ _ e=>nomatch e),(λ_ _ e=>nomatch e),rfl,rfl⟩
def F1{b:Bool}:El (.bl b):=⟨rfl,(λ_ _ _ _ _ e=>nomatch e),(λ_ _ e=>nomatch e),rfl,rfl⟩
def ig{p q:Int}(h1:p.natAbs<eI)(h2:q.natAbs<eI):El (.tup [.int p,.int q]):=⟨rfl,(λ_ _ _ _ _ e=>by injection e with e;injection e with _ e;injection e with _ e;cases e),(λ_ _ e=>by cases e;exact⟨h1,h2⟩),rfl,rfl⟩
def nR{x:nj}(h:gw x):gK (fr x):=λp q e=>by
 have e':D.tup [.int x.1,.int x.2]=.tup [.int p,.int q]:=e;injection e' with e';injection e' with e1 e';injection e' with e2 e';injection e1 with e1;injection e2 with e2;subst e1;subst e2;exact⟨h.pN,h.qN⟩
def F0{x:nj}(h:gw x):El (fr x):=ig h.pN h.qN
def qi:gK .non:=λ_ _ e=>nomatch e
def tQ{o:Option nj}(h:∀x,o=some x->gw x):gK (bw o):=by
 cases o with|none=>exact qi|some x=>exact nR (h x rfl)
abbrev By(z:Str):Prop:=z.length<=line
def lM{a b c:Str}{l o:D}(ha:By a)(hb:By b)(hc:By c)(h1:gK l)(h2:gK o)(f1:vj l=true)(f2:vj o=true)(g1:fgt l=l)(g2:fgt o=o)(p1:cN l=true)(p2:cN o=true):El (.tup [.str a,.str b,.str c,l,o]):=by
 refine⟨?_,?_,?_,?_,?_⟩
 .show(decide (a.length<=line)&&(decide (b.length<=line)&&(decide (c.length<=line)&&(vj l&&(vj o&&true)))))=true
  rw[decide_eq_true ha,decide_eq_true hb,decide_eq_true hc,f1,f2];rfl
 .intro x1 x2 x3 x4 x5 e
  injection e with e;injection e with _ e;injection e with _ e;injection e with _ e;injection e with e4 e;injection e with e5 e;subst e4;subst e5;exact⟨h1,h2⟩
 .intro p q e
  injection e with e;injection e with e1 e;cases e1
 .show D.tup [.str a,.str b,.str c,fgt l,fgt o]=_
  rw[g1,g2]
 .show(true&&(true&&(true&&(cN l&&(cN o&&true)))))=true
  rw[p1,p2];rfl
def tJ{z:Str}(h:z="one"∨z="both"):By z:=by rcases h with rfl|rfl<;>decide
def ko{w:eH}(W:cE w){z:Str}(h:z∈w.ps):By z:=of_decide_eq_true (lA.name_fit W h)
def sI{x:nj}:vj (fr x)=true:=rfl
def wz{o:Option nj}:vj (bw o)=true:=by cases o<;>rfl
def oi{o:Option nj}:cN (bw o)=true:=by cases o<;>rfl
def IC{w:eH}(W:cE w){t:ki}(T:gu w.ps t):El (aI t) :=
 lM (ko W T.a) (ko W T.b) (tJ T.w) (nR T.l) (tQ λx e=>(T.o x e).1) sI wz rfl sJ rfl oi
noncomputable abbrev Hh(n:Int):ac:=[.non,.bl true,.int (-1),.int 14,.int n,.str "",.str "gone",.str "lengths",.tup [.int 1,.int 2],.tup [.int 0,.int 1],.tup [.int (-1),.int 2],.tup [.int 2,.int 4],.tup [.int 1,.int 0],.lst [.int 1,.int 1],.bl false,
 .tup [.str "a",.str "b",.str "one",.tup [.int 0,.int 1]],.tup [.str "zzzzzzzz",.str "yy",.str "one",.tup [.int 0,.int 1],.non],.str "tie"]
def BR:El (.lst [.int 1,.int 1]):=⟨rfl,(λ_ _ _ _ _ e=>nomatch e),(λ_ _ e=>nomatch e),rfl,rfl⟩
def E8:El (.tup [.str "a",.str "b",.str "one",.tup [.int 0,.int 1]]):=⟨by decide,(λ_ _ _ _ _ e=>by injection e with e;injection e with _ e;injection e with _ e;injection e with _ e;injection e with _ e;cases e),(λ_ _ e=>by injection e with e;injection e with e1 e;cases e1),rfl,rfl⟩
def ID{n:Int}:∀d∈Hh n,El d:=by
 have h01:gK (.tup [.int 0,.int 1]):=(ig (p:=0) (q:=1) (by decide) (by decide)).s;intro d hd;simp only[Hh,List.mem_cons,List.not_mem_nil,or_false]at hd;rcases hd with rfl|rfl|rfl|rfl|rfl|rfl|rfl|rfl|rfl|rfl|rfl|rfl|rfl|rfl|rfl|rfl|rfl|rfl
 .exact wH
 .exact F1
 .exact kY
 .exact kY
 .exact kY
 .exact gM
 .exact gM
 .exact gM
 .exact ig (by decide) (by decide)
 .exact ig (by decide) (by decide)
 .exact ig (by decide) (by decide)
 .exact ig (by decide) (by decide)
 .exact ig (by decide) (by decide)
 .exact BR
 .exact F1
 .exact E8
 .exact lM (by decide) (by decide) (by decide) h01 qi rfl rfl rfl rfl rfl rfl
 .exact gM
def Hg{k n:Int}(h0:0<=k)(h1:k<18):∃d,jg [.int k,.int n]=.ok d/\El d:=by
 obtain⟨d,hd,e⟩:=Nwb.ix_some (ds:=Hh n) h0 h1;refine⟨d,?_,ID d hd⟩;have n1:uV (.int 1)=.ok (.int (-1)):=rfl;open_line with[jg,pF,n1,ic,e]
def fY{xs:ac}(hl:xs.length<=4)(h:∀y∈xs,El y):qZ (.tup xs):=by
 have hg:fgts xs=xs:=fgts_all h;refine⟨⟨λys e=>by injection e with e;subst e;exact⟨hl,λy hy=>⟨(h y hy).f,(h y hy).t,(h y hy).s,(h y hy).g⟩⟩⟩,?_,?_⟩
 .show D.tup (fgts xs)=_
  rw[hg]
 .exact plains_all h
where
 fgts_all:∀{xs:ac},(∀y∈xs,El y)->fgts xs=xs
  |[],_=>rfl
  |x::r,h=>by rw[fgts,(h x (by simp)).g,fgts_all λy hy=>h y (List.mem_cons_of_mem _ hy)]
 plains_all:∀{xs:ac},(∀y∈xs,El y)->plainDs xs=true
  |[],_=>rfl
  |x::r,h=>by rw[plainDs,(h x (by simp)).p,plains_all λy hy=>h y (List.mem_cons_of_mem _ hy)];rfl
def A5{xs:ac}(h:∀y∈xs,El y):qZ (.lst xs):=by
 refine⟨⟨λys e=>nomatch e⟩,?_,fY.plains_all h⟩;show D.lst (fgts xs)=_;rw[fY.fgts_all h]
def xR{y:D}(h:El y)(hn:∀xs,y≠.tup xs):qZ y:=⟨⟨λxs e=>absurd e (hn xs)⟩,h.g,h.p⟩
structure Lu (w:eH) (c:D):Prop where
 ex:∃xs,c=.tup xs/\2<=xs.length/\xs.length<=3/\(∀y∈xs,El y)/\((∃t,gu w.ps t/\xs=[.str "tie",aI t])∨∃s r,xs=.str s::r/\s≠"tie")
def JF{xs:ac}{m:Nat}(h:m<xs.length):kO (.tup xs) none (some (m:Int))=.ok (.tup (xs.take m)):=by
 rw[ji (by
  have:HT.sIx xs.length xs.length (some (m:Int))=m:=by rw[HT.sIx_nat];omega
  rw[this,beq_eq_false_iff_ne.mpr (show m≠xs.length by omega),Bool.and_false]),Nwb.cut_id (by omega)]
def JG{xs:ac}{m:Nat}(h:m<xs.length):kO (.tup xs) (some ((m:Int)+1)) none=.ok (.tup (xs.drop (m+1))):=by
 rw[ji (by
  have e:((m:Int)+1)=((m+1:Nat):Int):=by omega
  have:HT.sIx xs.length 0 (some ((m:Int)+1))=m+1:=by rw[e,HT.sIx_nat];omega
  rw[this];rfl),qL (by omega)]
def Cj{a b:ac}(h:a.length+b.length<=100):iS (.tup a) (.tup b)=.ok (.tup (a++b)):=by
 cases a with
 |nil=>rfl
 |cons x r=>
  unfold iS;exact if_pos ⟨rfl,Nat.le_trans h (by decide)⟩
def oS{a b c d:Int}:(([.int a,.int b,.int c,.int d]:ac).length==[2,3,4,5].length)=true:=rfl
def Fu{w:eH}(W:cE w){c:D}(C:Lu w c){way at_ kd num:Int}(h0:0<=way/\way<16)(hk:0<=kd/\kd<18):∃b,cO [c,.lst [.int way,.int at_,.int kd,.int num]]=.ok b/\qZ b:=by
 obtain⟨xs,rfl,h2,h3,hx,hs⟩:=C.ex;obtain⟨o,ho,eo⟩:=Hg (n:=num) hk.1 hk.2;have p1:=Int.fmod_nonneg_of_pos at_ (show(0:Int)<xs.length by omega);have p2:=Int.fmod_lt_of_pos at_ (show(0:Int)<xs.length by omega);obtain⟨m,hm⟩:=Int.eq_ofNat_of_zero_le p1;have hml:m<xs.length:=by omega
 have md:cp (.int at_) (.int (xs.length:Int))=.ok (.int (m:Int)):=by
  rw[←hm];exact iB (by omega)
 have s1:=JF hml;have s2:=JG hml;have tl:(xs.take m).length<=3:=by rw[List.length_take];omega
 have dl:(xs.drop (m+1)).length<=3:=by rw[List.length_drop];omega
 have hin1:∀y∈xs.take m,El y:=λy hy=>hx y (List.mem_of_mem_take hy);have hin2:∀y∈xs.drop (m+1),El y:=λy hy=>hx y (List.mem_of_mem_drop hy)
 by_cases c1:way=8∨way=9∨way=10∨way=11
 .refine⟨.tup (xs.take m++[o]++xs.drop (m+1)),?_,fY (by simp only[List.length_append,List.length_take,List.length_drop,List.length_cons,List.length_nil];omega) λy hy=>?_⟩
  .have a1:=Cj (a:=xs.take m) (b:=[o]) (by simp only[List.length_cons,List.length_nil];omega)
   have a2:=Cj (a:=xs.take m++[o]) (b:=xs.drop (m+1)) (by simp only[List.length_append,List.length_cons,List.length_nil];omega);rcases c1 with rfl|rfl|rfl|rfl<;>open_line with[cO,dO,dk,oS,bP,md,s1,s2,ho,a1,a2,Int.reduceBEq]
  .rcases List.mem_append.mp hy with h|h
   .rcases List.mem_append.mp h with h|h
    .exact hin1 y h
    .rw[List.mem_singleton.mp h];exact eo
   .exact hin2 y h
 have n8:(way==8)=false:=beq_eq_false_iff_ne.mpr (by omega);have n9:(way==9)=false:=beq_eq_false_iff_ne.mpr (by omega);have n10:(way==10)=false:=beq_eq_false_iff_ne.mpr (by omega);have n11:(way==11)=false:=beq_eq_false_iff_ne.mpr (by omega)
 by_cases c2:way=12
 .subst c2
  have a1:=Cj (a:=xs.take m) (b:=xs.drop (m+1)) (by omega);refine⟨.tup (xs.take m++xs.drop (m+1)),?_,fY (by simp only[List.length_append,List.length_take,List.length_drop];omega) λy hy=>?_⟩
  .open_line with[cO,dO,dk,oS,bP,md,s1,s2,a1,Int.reduceBEq]
  .rcases List.mem_append.mp hy with h|h
   .exact hin1 y h
   .exact hin2 y h
 have n12:(way==12)=false:=beq_eq_false_iff_ne.mpr (by omega)
 by_cases c3:way=13
 .subst c3
  have ix:aP (.tup xs) (.int (m:Int))=.ok xs[m]:=kT (List.getElem?_eq_getElem hml);have a1:bC (.tup xs) (.tup [xs[m]])=.ok (.tup (xs++[xs[m]])):=by
   match xs,h2 with
   |x::r,_=>exact yp (decide_eq_true (by simp only[List.length_cons,List.length_nil]at h3 ⊢;omega))
  refine⟨.tup (xs++[xs[m]]),?_,fY (by simp only[List.length_append,List.length_cons,List.length_nil];omega) λy hy=>?_⟩
  .open_line with[cO,dO,dk,oS,bP,md,ix,a1,Int.reduceBEq]
  .rcases List.mem_append.mp hy with h|h
   .exact hx y h
   .rw[List.mem_singleton.mp h];exact hx _ (List.getElem_mem hml)
 have n13:(way==13)=false:=beq_eq_false_iff_ne.mpr (by omega)
 by_cases c4:way=14
 .subst c4
  have q1:=Int.fmod_nonneg_of_pos kd (show(0:Int)<4 by decide);have q2:=Int.fmod_lt_of_pos kd (show(0:Int)<4 by decide);obtain⟨d,hd,e⟩:=Nwb.ix_some (ds:=[.lst xs,.non,.tup [],.str "gone"]) q1 q2;have dl':eC (.tup xs)=.ok (.lst xs):=rfl;refine⟨d,?_,?_⟩
  .open_line with[cO,dO,dk,oS,bP,md,dl',e,Int.reduceBEq]
  .simp only[List.mem_cons,List.not_mem_nil,or_false]at hd
   rcases hd with rfl|rfl|rfl|rfl
   .exact A5 hx
   .exact xR wH (λ_ e=>nomatch e)
   .exact fY (by simp) (λ_ h=>nomatch h)
   .exact xR gM (λ_ e=>nomatch e)
 have n14:(way==14)=false:=beq_eq_false_iff_ne.mpr (by omega);have same:qZ (.tup xs):=fY (by omega) hx
 by_cases c5:way=15
 rotate_left
 .have n15:(way==15)=false:=beq_eq_false_iff_ne.mpr (by omega)
  refine⟨_,?_,same⟩;open_line with[cO,dO,dk,oS,bP,md,n8,n9,n10,n11,n12,n13,n14,n15]
 subst c5;rcases hs with⟨t,T,rfl⟩|⟨s,r,rfl,hs⟩
 rotate_left
 .have e1:(s=="tie")=false:=kf hs
  have md':cp (.int at_) (.int ((r.length+1:Nat):Int))=.ok (.int (m:Int)):=md;refine⟨_,?_,same⟩;open_line with[cO,dO,dk,oS,bP,md',n8,n9,n10,n11,n12,n13,n14,Int.reduceBEq,aZ,e1]
 have q1:=Int.fmod_nonneg_of_pos kd (show(0:Int)<3 by decide);have q2:=Int.fmod_lt_of_pos kd (show(0:Int)<3 by decide);have e1:(("tie":Str)=="tie")=true:=by decide
 have k1:kO (aI t) (some 1) none=.ok (.tup [.str t.b,.str t.w,fr t.l,bw t.o]):=(ji (by rfl)).trans rfl;have k2:kO (aI t) none (some 1)=.ok (.tup [.str t.a]):=(ji (by rfl)).trans rfl;have k3:kO (aI t) (some 2) none=.ok (.tup [.str t.w,fr t.l,bw t.o]):=(ji (by rfl)).trans rfl;have b1:bC (.tup [.str "zzzzzzzz"]) (.tup [.str t.b,.str t.w,fr t.l,bw t.o])=.ok (.tup [.str "zzzzzzzz",.str t.b,.str t.w,fr t.l,bw t.o]):=by rfl
 have b2:iS (.tup [.str t.a]) (.tup [.str t.a])=.ok (.tup [.str t.a,.str t.a]):=by rfl
 have b3:iS (.tup [.str t.a,.str t.a]) (.tup [.str t.w,fr t.l,bw t.o])=.ok (.tup [.str t.a,.str t.a,.str t.w,fr t.l,bw t.o]):=by rfl
 have b4:iS (.tup [.str t.a,.str t.b,.str t.w,fr t.l]) (.tup [.tup [.int 0,.int 1]])=.ok (.tup [.str t.a,.str t.b,.str t.w,fr t.l,.tup [.int 0,.int 1]]):=by rfl
 have b4':bC (.tup [.str t.a,.str t.b,.str t.w,fr t.l]) (.tup [.tup [.int 0,.int 1]])=.ok (.tup [.str t.a,.str t.b,.str t.w,fr t.l,.tup [.int 0,.int 1]]):=by rfl
 obtain⟨d,hd,e⟩:=Nwb.ix_some (ds:=[.tup [.str "zzzzzzzz",.str t.b,.str t.w,fr t.l,bw t.o],.tup [.str t.a,.str t.a,.str t.w,fr t.l,bw t.o],.tup [.str t.a,.str t.b,.str t.w,fr t.l,.tup [.int 0,.int 1]]]) q1 q2;have sl:=nR T.l;have so:=tQ (o:=t.o) λx e=>(T.o x e).1;have na:=ko W T.a;have nb:=ko W T.b;have nw:=tJ T.w;have ed:El d:=by
  simp only[List.mem_cons,List.not_mem_nil,or_false]at hd;rcases hd with rfl|rfl|rfl
  .exact lM (by decide) nb nw sl so sI wz rfl sJ rfl oi
  .exact lM na na nw sl so sI wz rfl sJ rfl oi
  .exact lM na nb nw sl (ig (p:=0) (q:=1) (by decide) (by decide)).s sI rfl rfl rfl rfl rfl
 refine⟨.tup [.str "tie",d],?_,fY (by simp) λy hy=>?_⟩
 .open_line with[cO,dO,dk,oS,bP,md,n8,n9,n10,n11,n12,n13,n14,Int.reduceBEq,aZ,e1,k1,k2,k3,F6,b1,b2,b3,b4,b4',e]
 .simp only[List.mem_cons,List.not_mem_nil,or_false]at hy
  rcases hy with rfl|rfl
  .exact gM
  .exact ed
def p6:gP (.int 10) (.int 6)=.ok (.int 1000000):=rfl
def lG{x bd:Int}(hb:0<bd/\bd<=(eI:Int)-1):0<=x.fmod bd/\x.fmod bd<(eI:Int)-1:=by
 have h1:=Int.fmod_nonneg_of_pos x hb.1;have h2:=Int.fmod_lt_of_pos x hb.1;exact⟨h1,by omega⟩
def zy(c:Int):∃vs,c9 [.int c]=.ok (.lst (vs.map D.int))/\Drawn [7,6,2,5,8,(eI:Int)-1,(eI:Int)-1,8,(eI:Int)-1,(eI:Int)-1,5] vs:=by
 obtain⟨vs,hd,W⟩:=lN c [7,6,2,5,8,(eI:Int)-1,(eI:Int)-1,8,(eI:Int)-1,(eI:Int)-1,5] (by decide) (by decide);refine⟨vs,?_,W⟩;have hd':bO [.int c,.lst [.int 7,.int 6,.int 2,.int 5,.int 8,.int ((eI:Int)-1),.int ((eI:Int)-1),.int 8,.int ((eI:Int)-1),.int ((eI:Int)-1),.int 5]]=.ok (.lst (vs.map D.int)):=hd;open_line with[c9,ir,ic,hd']
def yP{zs:List Str}{i:Nat}{bd:Int}{vs:List Int}(h2:2<=zs.length)(h8:zs.length<=8)(nd:zs.Nodup)(hb:0<bd/\bd<=(eI:Int)-1)(W:Drawn [7,6,2,5,8,(eI:Int)-1,(eI:Int)-1,8,(eI:Int)-1,(eI:Int)-1,5] vs) :
  ∃t,dq [.lst (zs.map D.str),.int (i:Int),.lst (vs.map D.int),.int bd]=.ok (aI t)/\gu zs t:=by
 obtain⟨d0,_,b0,i0⟩:=W.ix 0 0 rfl rfl;obtain⟨d1,_,b1,i1⟩:=W.ix 1 1 rfl rfl;obtain⟨d2,_,b2,i2⟩:=W.ix 2 2 rfl rfl;obtain⟨d3,_,b3,i3⟩:=W.ix 3 3 rfl rfl;obtain⟨d4,_,b4,i4⟩:=W.ix 4 4 rfl rfl;obtain⟨d5,_,b5,i5⟩:=W.ix 5 5 rfl rfl;obtain⟨d6,_,b6,i6⟩:=W.ix 6 6 rfl rfl;obtain⟨d7,_,b7,i7⟩:=W.ix 7 7 rfl rfl;obtain⟨d8,_,b8,i8⟩:=W.ix 8 8 rfl rfl;obtain⟨d9,_,b9,i9⟩:=W.ix 9 9 rfl rfl;obtain⟨d10,_,b10,i10⟩:=W.ix 10 10 rfl rfl;have hn0:((zs.length:Int)==0)=false:=beq_eq_false_iff_ne.mpr (by omega);have hn1:((zs.length:Int)-1==0)=false:=beq_eq_false_iff_ne.mpr (by omega);have hb0:(bd==0)=false:=beq_eq_false_iff_ne.mpr (by omega);have f1:=gq (a:=d0) (b:=(zs.length:Int)) (by omega);have f2:=gq (a:=d1) (b:=(zs.length:Int)-1) (by omega);obtain⟨hr,hne⟩:=qW (n:=(zs.length:Int)) (d:=d0.fmod (zs.length:Int)) (e:=d1.fmod ((zs.length:Int)-1)) (by omega) f1.1 f1.2 f2.1 f2.2;obtain⟨x,hx,fx,lx⟩:=gb (w:=d4) (a:=d5.fmod bd) (b:=d6.fmod bd) (l:=0) (lG hb) (lG hb) (by decide);obtain⟨y,hy,fy,ly⟩:=gb (w:=d7) (a:=d8.fmod 1000000) (b:=d9.fmod 1000000) (l:=1) (lG (by decide)) (lG (by decide)) (by decide);obtain⟨wd,hw,jw⟩:=w8 b2.1 b2.2;have wo:∃o:Option nj,(∀v,o=some v->gw v/\0<v.1)/\((0<d3/\bw o=fr y)∨(¬0<d3/\bw o=.non)):=by
  by_cases h3:0<d3
  .exact⟨some y,λv hv=>by cases hv;exact⟨fy,by omega⟩,.inl ⟨h3,rfl⟩⟩
  .exact⟨none,λv hv=>(nomatch hv),.inr ⟨h3,rfl⟩⟩
 obtain⟨o,ho,hoc⟩:=wo
 by_cases hc:(i:Int)<(zs.length:Int)-1/\0<d10
 .obtain⟨z1,k1,j1⟩:=kM (zs:=zs) (k:=(i:Int)) (by omega) (by omega)
  obtain⟨z2,k2,j2⟩:=kM (zs:=zs) (k:=(i:Int)+1) (by omega) (by omega);refine⟨⟨z1,z2,wd,x,o⟩,?_,List.mem_of_getElem? k1,List.mem_of_getElem? k2,jV nd k1 k2 (by omega),hw,fx,lx,ho⟩;rcases hoc with⟨h3,e⟩|⟨h3,e⟩
  .open_line with[dq,eY,List.length_map,i0,i1,i2,i3,i4,i5,i6,i7,i8,i9,i10,hn0,hn1,hb0,p6,j6,ey,gt_iff_lt,decide_eq_true hc.1,decide_eq_true hc.2,decide_eq_true h3,hx,hy,j1,j2,jw]
   rw[aI,e]
  .open_line with[dq,eY,List.length_map,i0,i1,i2,i3,i4,i5,i6,i7,i8,i9,i10,hn0,hn1,hb0,p6,j6,ey,gt_iff_lt,decide_eq_true hc.1,decide_eq_true hc.2,decide_eq_false h3,hx,hy,j1,j2,jw]
   rw[aI,e]
 .obtain⟨z1,k1,j1⟩:=kM (zs:=zs) f1.1 f1.2
  obtain⟨z2,k2,j2⟩:=kM (zs:=zs) hr.1 hr.2;refine⟨⟨z1,z2,wd,x,o⟩,?_,List.mem_of_getElem? k1,List.mem_of_getElem? k2,jV nd k1 k2 (by omega),hw,fx,lx,ho⟩
  by_cases hc1:(i:Int)<(zs.length:Int)-1
  .have hc2:¬0<d10:=λz=>hc ⟨hc1,z⟩
   rcases hoc with⟨h3,e⟩|⟨h3,e⟩
   .open_line with[dq,eY,List.length_map,i0,i1,i2,i3,i4,i5,i6,i7,i8,i9,i10,hn0,hn1,hb0,p6,j6,ey,gt_iff_lt,decide_eq_true hc1,decide_eq_false hc2,decide_eq_true h3,hx,hy,j1,j2,jw]
    rw[aI,e]
   .open_line with[dq,eY,List.length_map,i0,i1,i2,i3,i4,i5,i6,i7,i8,i9,i10,hn0,hn1,hb0,p6,j6,ey,gt_iff_lt,decide_eq_true hc1,decide_eq_false hc2,decide_eq_false h3,hx,hy,j1,j2,jw]
    rw[aI,e]
  .rcases hoc with⟨h3,e⟩|⟨h3,e⟩
   .open_line with[dq,eY,List.length_map,i0,i1,i2,i3,i4,i5,i6,i7,i8,i9,i10,hn0,hn1,hb0,p6,j6,ey,gt_iff_lt,decide_eq_false hc1,decide_eq_true h3,hx,hy,j1,j2,jw]
    rw[aI,e]
   .open_line with[dq,eY,List.length_map,i0,i1,i2,i3,i4,i5,i6,i7,i8,i9,i10,hn0,hn1,hb0,p6,j6,ey,gt_iff_lt,decide_eq_false hc1,decide_eq_false h3,hx,hy,j1,j2,jw]
    rw[aI,e]
def Cf{k:Int}:∃bd:Int,(0<bd/\bd<=(eI:Int)-1)/\∀(ρ:Ev),ρ[6]?=some (.sh (.int k))->(ae (ar (ag (ae (ae (dC (.int 10)) (dC (.int 60)) gP) (dC (.int 1)) lP) (ag (ae (dC (.int 10)) (dC (.int 6)) gP) ay)) cY) (ar (ag (ae (ae (ah 6) (dC (.int 7)) cp) (dC (.int 0)) sV) ay) (m1 gj)) aP) ρ=.ok (.int bd):=by
 by_cases h:0<k.fmod 7
 .refine⟨1000000,⟨by decide,by decide⟩,λρ hρ=>?_⟩
  have e:gj (.bl true)=.ok (.int 1):=rfl;open_line with[hρ,p6,decide_eq_true (show k.fmod 7 > 0 from h),decide_eq_true h,e]
 .refine⟨(eI:Int)-1,⟨by decide,by decide⟩,λρ hρ=>?_⟩
  have e:gj (.bl false)=.ok (.int 0):=rfl;open_line with[hρ,p6,decide_eq_false (show ¬k.fmod 7 > 0 from h),decide_eq_false h,e]
def Kl{zs:List Str}(h:2<=zs.length):∃z,zs[zs.length-1]?=some z/\aP (.lst (zs.map D.str)) (.int (-1))=.ok (.str z):=by
 refine⟨zs[zs.length-1]'(by omega),List.getElem?_eq_getElem (by omega),?_⟩;have e:L2.atI (zs.map D.str) (-1)=some (.str (zs[zs.length-1]'(by omega))):=by
  unfold L2.atI uA;rw[if_neg (by decide),if_pos (by rw[List.length_map];omega)];show(zs.map D.str)[((-1:Int)+((zs.map D.str).length:Nat)).toNat]?=_;rw[List.length_map,show((-1:Int)+(zs.length:Nat)).toNat=zs.length-1 by omega,List.getElem?_map,List.getElem?_eq_getElem (by omega)];rfl
 unfold aP;simp only[e]
def yK{ns:List Int}(hn:ns.length<=63):∃w,gL [.lst (ns.map D.int),.int 0]=.ok (cf w)/\cE w:=by
 obtain⟨c,hc⟩:=yD (ns:=ns) (by omega) (k:=0) (by decide) (by decide);obtain⟨vs,hd,W⟩:=lN c [6,15,7,3] (by decide) (by decide);have hd':bO [.int c,.lst [.int 6,.int 15,.int 7,.int 3]]=.ok (.lst (vs.map D.int)):=hd;obtain⟨d0,g0,b0,i0⟩:=W.ix 0 0 rfl rfl;obtain⟨d1,g1,b1,i1⟩:=W.ix 1 1 rfl rfl;obtain⟨d2,g2,b2,i2⟩:=W.ix 2 2 rfl rfl;obtain⟨d3,g3,b3,i3⟩:=W.ix 3 3 rfl rfl;obtain⟨m,rfl⟩:=Int.eq_ofNat_of_zero_le b0.1;obtain⟨zs,hz,hzl,nm⟩:=A8 (c.fdiv 1890) (2+m) (by omega);have hz':dR [.int (c.fdiv 1890),.int (2+(m:Int))]=.ok (.lst (zs.map D.str)):=hz;have hdiv:mn (.int c) (.int 1890)=.ok (.int (c.fdiv 1890)):=BM (yw (by decide) (Nat.lt_of_lt_of_le (show(1890:Int).natAbs<eI by decide) Ct));obtain⟨tn,rfl⟩:=Int.eq_ofNat_of_zero_le b1.1;obtain⟨ρ',hl,ts,hts,hall,x,y,rfl⟩:=sG (i:=6) (n:=tn)
  (ρ:=[.sh (.lst (ns.map D.int)),.sh (.int 0),.sh (.int c),.sh (.lst (vs.map D.int)),.sh (.lst (zs.map D.str)),.ow (.lst []),.no,.no,.no])
  (body:=(aw (bb 7 (ae (ar (ag (ae (ae (dC (.int 10)) (dC (.int 60)) gP) (dC (.int 1)) lP) (ag (ae (dC (.int 10)) (dC (.int 6)) gP) ay)) cY) (ar (ag (ae (ae (ah 6) (dC (.int 7)) cp) (dC (.int 0)) sV) ay) (m1 gj)) aP))
   (aw (er 5 (ar (ag (ah 4) (ag (ah 6) (ag (ar (ag (ar (ag (ah 0) (ag (ae (ae (ah 1) (dC (.int 1)) bC) (ah 6) bC) ay)) ck) ay) c9) (ag (ah 7) ay)))) dq))
   av)))
  (λk ρ=>∃ts:List ki,ts.length=k/\(∀t∈ts,gu zs t)/\∃x y,ρ=[.sh (.lst (ns.map D.int)),.sh (.int 0),.sh (.int c),.sh (.lst (vs.map D.int)),.sh (.lst (zs.map D.str)),.ow (.lst (ts.map aI)),x,y,.no]) (by
   rintro k hk ρ ⟨ts,rfl,hall,x,y,rfl⟩;obtain⟨bd,hb,hbd⟩:=Cf (k:=((ts.length:Nat):Int));obtain⟨c',hc'⟩:=yD (ns:=ns) (by omega) (k:=0+1+(ts.length:Int)) (by omega) (by omega);obtain⟨us,hu,U⟩:=zy c';obtain⟨t,ht,hT⟩:=yP (zs:=zs) (i:=ts.length) (bd:=bd) (by omega) (by omega) nm.nd hb U;refine⟨[.sh (.lst (ns.map D.int)),.sh (.int 0),.sh (.int c),.sh (.lst (vs.map D.int)),.sh (.lst (zs.map D.str)),.ow (.lst ((ts++[t]).map aI)),.sh (.int (ts.length:Int)),.sh (.int bd),.no],?_,ts++[t],by simp,λu hu=>?_,_,_,rfl⟩
   .rw[wB,BE,hbd _ rfl]
    have hc2:ck [.lst (ns.map D.int),.int (1+(ts.length:Int))]=.ok (.int c'):=by rw[←hc',Int.zero_add]
    open_line with[hc',hc2,Int.zero_add,hu,ht,kv (ds:=ts.map aI) (decide_eq_true (by rw[List.length_map];omega)),List.map_append]
   .rw[List.mem_append]at hu
    rcases hu with hu|hu
    .exact hall u hu
    .have:u=t:=by simpa using hu
     subst this;exact hT) ⟨[],rfl,λt ht=>(nomatch ht),_,_,rfl⟩
 have hn0:((zs.length:Int)==0)=false:=beq_eq_false_iff_ne.mpr (by omega);have f1:=gq (a:=d2) (b:=(zs.length:Int)) (by omega);obtain⟨q,hq⟩:=Int.eq_ofNat_of_zero_le f1.1;have hql:q<zs.length:=by omega
 have c1:gk (zs.map D.str) (some (q:Int)) none=(zs.drop q).map D.str:=by
  rw[nE,HT.sIx_none,HT.sIx_nat,Nat.min_eq_left (by omega),List.take_of_length_le (by simp)]
 have c2:gk (zs.map D.str) none (some (q:Int))=(zs.take q).map D.str:=wL (by omega);have cc:pW (.lst ((zs.drop q).map D.str)) (.lst ((zs.take q).map D.str))=.ok (.lst ((zs.drop q++zs.take q).map D.str)):=by
  show(if((zs.drop q).map D.str).length+((zs.take q).map D.str).length<=line then _ else _)=_;rw[if_pos (by simp only[List.length_map,List.length_drop,List.length_take];exact Nat.le_trans (show _<=20 by omega) (by decide)),List.map_append]
 have pm:(zs.drop q++zs.take q).Perm zs:=(List.perm_append_comm).trans (by rw[List.take_append_drop]);have nm':gD (zs.drop q++zs.take q):=⟨pm.nodup_iff.mpr nm.nd,λz h=>nm.nm z (pm.mem_iff.mp h)⟩
 have ln':(zs.drop q++zs.take q).length=zs.length:=pm.length_eq;have hall':∀t∈ts,gu (zs.drop q++zs.take q) t:=λt h=>by
  have T:=hall t h;exact⟨pm.mem_iff.mpr T.a,pm.mem_iff.mpr T.b,T.ne,T.w,T.l,T.l0,T.o⟩
 obtain⟨z1,k1,j1⟩:=kM (zs:=zs) (k:=0) (by decide) (by omega);obtain⟨z2,k2,j2⟩:=Kl (zs:=zs) (by omega);have nn:uV (.int 1)=.ok (.int (-1)):=rfl;have m1':z1∈zs.drop q++zs.take q:=pm.mem_iff.mpr (List.mem_of_getElem? k1);have m2':z2∈zs.drop q++zs.take q:=pm.mem_iff.mpr (List.mem_of_getElem? k2);have ne:z1≠z2:=jV nm.nd k1 k2 (by simp;omega)
 by_cases h3:d3=0
 .subst h3
  refine⟨⟨zs.drop q++zs.take q,ts,z2,z1⟩,?_,⟨by show 2<=(zs.drop q++zs.take q).length;omega,by show(zs.drop q++zs.take q).length<=7;omega,nm',by show ts.length<=14;omega,hall',m2',m1',Ne.symm ne⟩⟩;open_line with[gL,k7,hc,hd',hdiv,i0,hz',i1,nB,lH (k:=tn) (show tn<=1000000 by omega),hl,i2,i3,List.length_map,hn0,hq,Int.reduceBEq,c1,c2,cc,j1,j2,nn,ku,mh,qG,mf,me,BD,mQ,ka]
  rfl
 .have e3:(d3==0)=false:=beq_eq_false_iff_ne.mpr h3
  refine⟨⟨zs.drop q++zs.take q,ts,z1,z2⟩,?_,⟨by show 2<=(zs.drop q++zs.take q).length;omega,by show(zs.drop q++zs.take q).length<=7;omega,nm',by show ts.length<=14;omega,hall',m1',m2',ne⟩⟩;open_line with[gL,k7,hc,hd',hdiv,i0,hz',i1,nB,lH (k:=tn) (show tn<=1000000 by omega),hl,i2,i3,List.length_map,hn0,hq,e3,c1,c2,cc,j1,j2,nn,ku,mh,qG,mf,me,BD,mQ,ka]
  rfl
def zF{w:eH}(W:cE w){way k kd a b:Int}(hk:0<=k)(ha:0<=a/\a<(eI:Int)-1)(hb:0<=b/\b<(eI:Int)-1):∃c,bA [bx w,.lst [.int way,.int k,.int kd,.int a,.int b]]=.ok c/\Lu w c:=by
 have c5:gk [.int way,.int k,.int kd,.int a,.int b] none (some 5)=[.int way,.int k,.int kd,.int a,.int b]:=rfl;have u5:(([.int way,.int k,.int kd,.int a,.int b]:ac).length==[2,3,4,5,6].length)=true:=rfl;obtain⟨x,hx,fx,lx⟩:=gb (w:=kd) (a:=a) (b:=b) (l:=0) ha hb (by decide);obtain⟨y,hy,fy,ly⟩:=gb (w:=kd) (a:=a) (b:=b) (l:=1) ha hb (by decide);obtain⟨u,hu,fu,lu⟩:=gb (w:=kd) (a:=b) (b:=a) (l:=1) hb ha (by decide);have hp:=W.n2;have hp0:((w.ps.length:Int)==0)=false:=beq_eq_false_iff_ne.mpr (by omega);have hp1:((w.ps.length:Int)-1==0)=false:=beq_eq_false_iff_ne.mpr (by omega)
 by_cases hn:0<(w.ts.length:Int)
 .have hn0:((w.ts.length:Int)==0)=false:=beq_eq_false_iff_ne.mpr (by omega)
  by_cases h3:way<3
  .refine⟨_,?_,⟨[.str "length",.int (k.fmod w.ts.length),fr x],rfl,by simp,by simp,λz hz=>?_,.inr ⟨"length",_,rfl,by decide⟩⟩⟩
   .open_line with[bA,cy,c5,dk u5,bP,w1,List.length_map,ey,j6,gt_iff_lt,decide_eq_true h3,decide_eq_true hn,hn0,hx]
   .simp only[List.mem_cons,List.not_mem_nil,or_false]at hz
    rcases hz with rfl|rfl|rfl
    .exact gM
    .exact kY
    .exact F0 fx
  by_cases h6:way<6
  .by_cases h5:way=5/\kd<4
   .obtain⟨rfl,h4⟩:=h5
    refine⟨_,?_,⟨[.str "worth",.int (k.fmod w.ts.length),.non],rfl,by simp,by simp,λz hz=>?_,.inr ⟨"worth",_,rfl,by decide⟩⟩⟩
    .open_line with[bA,cy,c5,dk u5,bP,w1,List.length_map,ey,j6,gt_iff_lt,decide_eq_false h3,decide_eq_true h6,decide_eq_true hn,decide_eq_true h4,hn0,hy,Int.reduceBEq]
    .simp only[List.mem_cons,List.not_mem_nil,or_false]at hz
     rcases hz with rfl|rfl|rfl
     .exact gM
     .exact kY
     .exact wH
   .refine⟨_,?_,⟨[.str "worth",.int (k.fmod w.ts.length),fr y],rfl,by simp,by simp,λz hz=>?_,.inr ⟨"worth",_,rfl,by decide⟩⟩⟩
    .by_cases e5:way=5
     .have h4:¬kd<4:=λz=>h5 ⟨e5,z⟩
      subst e5;open_line with[bA,cy,c5,dk u5,bP,w1,List.length_map,ey,j6,gt_iff_lt,decide_eq_false h3,decide_eq_true h6,decide_eq_true hn,decide_eq_false h4,hn0,hy,Int.reduceBEq]
     .have e5':(way==5)=false:=beq_eq_false_iff_ne.mpr e5
      open_line with[bA,cy,c5,dk u5,bP,w1,List.length_map,ey,j6,gt_iff_lt,decide_eq_false h3,decide_eq_true h6,decide_eq_true hn,e5',hn0,hy]
    .simp only[List.mem_cons,List.not_mem_nil,or_false]at hz
     rcases hz with rfl|rfl|rfl
     .exact gM
     .exact kY
     .exact F0 fy
  by_cases h8:way<8
  .refine⟨_,?_,⟨[.str "gone",.int (k.fmod w.ts.length)],rfl,by simp,by simp,λz hz=>?_,.inr ⟨"gone",_,rfl,by decide⟩⟩⟩
   .open_line with[bA,cy,c5,dk u5,bP,w1,List.length_map,ey,j6,gt_iff_lt,decide_eq_false h3,decide_eq_false h6,decide_eq_true h8,decide_eq_true hn,hn0]
   .simp only[List.mem_cons,List.not_mem_nil,or_false]at hz
    rcases hz with rfl|rfl
    .exact gM
    .exact kY
  have n1:(ef (ae (ah 2) (dC (.int 3)) uW) (ae (ah 7) (dC (.int 0)) sV))=(ef (ae (ah 2) (dC (.int 3)) uW) (ae (ah 7) (dC (.int 0)) sV)):=rfl;exact change_tie W hk ha hb hx fx lx hu fu lu (.inl ⟨h3,h6,h8⟩)
 .exact change_tie W hk ha hb hx fx lx hu fu lu (.inr hn)
where
 change_tie {w:eH}(W:cE w) {way k kd a b:Int}{x u:nj}(hk:0<=k) (ha:0<=a/\a<(eI:Int)-1) (hb:0<=b/\b<(eI:Int)-1) (hx:Com.aV [.lst [.int kd,.int a,.int b],.int 0]=.ok (fr x)) (fx:gw x) (lx:0<=x.1)
   (hu:Com.aV [.lst [.int kd,.int b,.int a],.int 1]=.ok (fr u)) (fu:gw u) (lu:1<=u.1) (hc:(¬way<3/\¬way<6/\¬way<8)∨¬0<(w.ts.length:Int)):∃c,bA [bx w,.lst [.int way,.int k,.int kd,.int a,.int b]]=.ok c/\Lu w c:=by
  have c5:gk [.int way,.int k,.int kd,.int a,.int b] none (some 5)=[.int way,.int k,.int kd,.int a,.int b]:=rfl;have u5:(([.int way,.int k,.int kd,.int a,.int b]:ac).length==[2,3,4,5,6].length)=true:=rfl;have hp:=W.n2;have hp0:((w.ps.length:Int)==0)=false:=beq_eq_false_iff_ne.mpr (by omega);have hp1:((w.ps.length:Int)-1==0)=false:=beq_eq_false_iff_ne.mpr (by omega);have f1:=gq (a:=k) (b:=(w.ps.length:Int)) (by omega);have f2:=gq (a:=a) (b:=(w.ps.length:Int)-1) (by omega);obtain⟨hr,hne⟩:=qW (n:=(w.ps.length:Int)) (d:=k.fmod (w.ps.length:Int)) (e:=a.fmod ((w.ps.length:Int)-1)) (by omega) f1.1 f1.2 f2.1 f2.2;obtain⟨z1,k1,j1⟩:=kM (zs:=w.ps) f1.1 f1.2;obtain⟨z2,k2,j2⟩:=kM (zs:=w.ps) hr.1 hr.2;have f3:=gq (a:=b) (b:=2) (by decide);obtain⟨wd,hw,jw⟩:=w8 f3.1 f3.2;have dv:mn (.int a) (.int 60)=.ok (.int (a.fdiv 60)):=BM (yw (by decide) (Nat.lt_of_lt_of_le (show(60:Int).natAbs<eI by decide) Ct));have t1:∀T:ki,gu w.ps T->Lu w (.tup [.str "tie",aI T]):=λT hT=>⟨_,rfl,by simp,by simp,λz hz=>by
   simp only[List.mem_cons,List.not_mem_nil,or_false]at hz;rcases hz with rfl|rfl
   .exact gM
   .exact IC W hT,.inl ⟨T,hT,rfl⟩⟩
  have wo:∃o:Option nj,(∀v,o=some v->gw v/\0<v.1)/\(((a.fdiv 60).fmod 5=0/\bw o=.non)∨((a.fdiv 60).fmod 5≠0/\bw o=fr u)):=by
   by_cases h3:(a.fdiv 60).fmod 5=0
   .exact⟨none,λv hv=>(nomatch hv),.inl ⟨h3,rfl⟩⟩
   .exact⟨some u,λv hv=>by cases hv;exact⟨fu,by omega⟩,.inr ⟨h3,rfl⟩⟩
  obtain⟨o,ho,hoc⟩:=wo;have TT:gu w.ps ⟨z1,z2,wd,x,o⟩:=⟨List.mem_of_getElem? k1,List.mem_of_getElem? k2,jV W.nm.nd k1 k2 (by omega),hw,fx,lx,ho⟩
  refine⟨_,?_,t1 _ TT⟩;have eT:aI ⟨z1,z2,wd,x,o⟩=.tup [.str z1,.str z2,.str wd,fr x,bw o]:=rfl;rw[eT];rcases hoc with⟨h5,e⟩|⟨h5,e⟩
  .have e5:((a.fdiv 60).fmod 5==0)=true:=beq_iff_eq.mpr h5
   rw[e]
   by_cases hn:0<(w.ts.length:Int)
   .obtain⟨h3,h6,h8⟩:=hc.resolve_right λz=>z hn
    open_line with[bA,cy,c5,dk u5,bP,w0,w1,List.length_map,ey,j6,gt_iff_lt,decide_eq_false h3,decide_eq_false h6,decide_eq_false h8,hp0,hp1,j1,j2,jw,hu,hx,dv,e5,u7]
   .by_cases h3:way<3<;>by_cases h6:way<6<;>by_cases h8:way<8<;>open_line with[bA,cy,c5,dk u5,bP,w0,w1,List.length_map,ey,j6,gt_iff_lt,decide_eq_false hn,h3,h6,h8,decide_true,decide_false,hp0,hp1,j1,j2,jw,hu,hx,dv,e5,u7]
  .have e5:((a.fdiv 60).fmod 5==0)=false:=beq_eq_false_iff_ne.mpr h5
   rw[e]
   by_cases hn:0<(w.ts.length:Int)
   .obtain⟨h3,h6,h8⟩:=hc.resolve_right λz=>z hn
    open_line with[bA,cy,c5,dk u5,bP,w0,w1,List.length_map,ey,j6,gt_iff_lt,decide_eq_false h3,decide_eq_false h6,decide_eq_false h8,hp0,hp1,j1,j2,jw,hu,hx,dv,e5,u7]
   .by_cases h3:way<3<;>by_cases h6:way<6<;>by_cases h8:way<8<;>open_line with[bA,cy,c5,dk u5,bP,w0,w1,List.length_map,ey,j6,gt_iff_lt,decide_eq_false hn,h3,h6,h8,decide_true,decide_false,hp0,hp1,j1,j2,jw,hu,hx,dv,e5,u7]
def L5{vs:List Int}(h:vs.length=9):∃a b c d e f g i j,vs=[a,b,c,d,e,f,g,i,j]:=by
 match vs,h with
 |[a,b,c,d,e,f,g,i,j],_=>exact⟨a,b,c,d,e,f,g,i,j,rfl⟩
noncomputable abbrev xX:bv :=
 (aw (bb 4 (ar (ag (ae (ae (dC (.int 10)) (dC (.int 60)) gP) (dC (.int 1)) lP) (ag (ae (ae (dC (.int 10)) (dC (.int 60)) gP) (dC (.int 1)) lP) ay)) cY))
 (aw (bb 5 (ar (ag (ae (ah 2) (ah 3) aP) (ag (ae (ae (ar (ag (dC (.int 10)) (ag (dC (.int 14)) (ag (dC (.int 8)) (ag (dC (.int 16)) (ag (dC (.int 3)) (ag (dC (.int 18)) ay)))))) cY) (ah 4) bC) (ar (ag (ae (dC (.int 10)) (dC (.int 60)) gP) ay) cY) bC) ay)) bO))
 (aw (bb 6 (ar (ag (gr (ah 1)) (ag (ae (dY (ah 5) cT (bN (dC (.int 3)))) (dY (ah 5) (bN (dC (.int 6))) (bN (dC (.int 8)))) bC) ay)) bA))
 (aw (bb 7 (ar (ag (ah 6) (ag (ae (dY (ah 5) (bN (dC (.int 3))) (bN (dC (.int 6)))) (dY (ah 5) (bN (dC (.int 8))) cT) bC) ay)) cO))
 (aw (dJ (cC (ar (ag (ah 1) (ag (ah 7) ay)) fD))
 (aw (bG (dC (.bl false)))
 av)
 av)
 (aw (dJ (ef (ae (ae (ah 3) (dC (.int 3)) cp) (dC (.int 2)) fM) (ar (ag (gr (ah 1)) (ag (ah 7) ay)) ax))
 (aw (bb 1 (ar (ag (gr (ah 1)) (ag (ah 7) ay)) bz))
 av)
 av)
 av))))))
def C3{A C:D}{cs:List Int}{k:Nat}(hk:k<cs.length){w:eH}(W:cE w){x4 x5 x6 x7:Sl} :
  ∃w',cE w'/\∃y4 y5 y6 y7,xX [.sh A,.sh (cf w),.sh (.lst (cs.map D.int)),.sh (.int (k:Int)),x4,x5,x6,x7]=.ok (.nx [.sh A,.sh (cf w'),.sh (.lst (cs.map D.int)),.sh (.int (k:Int)),y4,y5,y6,y7]):=by
 have ix:aP (.lst (cs.map D.int)) (.int (k:Int))=.ok (.int cs[k]):=kU (by rw[List.getElem?_map,List.getElem?_eq_getElem hk];rfl);obtain⟨vs,hd,V⟩:=lN cs[k] [10,14,8,16,3,18,(eI:Int)-1,(eI:Int)-1,(eI:Int)] (by decide) (by decide);have hd':bO [.int cs[k],.lst [.int 10,.int 14,.int 8,.int 16,.int 3,.int 18,.int ((eI:Int)-1),.int ((eI:Int)-1),.int (eI:Int)]]=.ok (.lst (vs.map D.int)):=hd;obtain⟨v0,g0,b0,_⟩:=V.at 0 rfl;obtain⟨v1,g1,b1,_⟩:=V.at 1 rfl;obtain⟨v2,g2,b2,_⟩:=V.at 2 rfl;obtain⟨v3,g3,b3,_⟩:=V.at 3 rfl;obtain⟨v4,g4,b4,_⟩:=V.at 4 rfl;obtain⟨v5,g5,b5,_⟩:=V.at 5 rfl;obtain⟨v6,g6,b6,_⟩:=V.at 6 rfl;obtain⟨v7,g7,b7,_⟩:=V.at 7 rfl;obtain⟨v8,g8,b8,_⟩:=V.at 8 rfl;obtain⟨a0,a1,a2,a3,a4,a5,a6,a7,a8,rfl⟩:=L5 (vs:=vs) V.len;cases g0;cases g1;cases g2;cases g3;cases g4;cases g5;cases g6;cases g7;cases g8;obtain⟨c,hc,C'⟩:=zF W (way:=v0) (k:=v1) (kd:=v2) (a:=v6) (b:=v7) b1.1 b6 b7;obtain⟨b,hb,N⟩:=Fu W C' (way:=v3) (at_:=v4) (kd:=v5) (num:=v8) b3 b5;have hr:=AD W N;have s1:gk [.int v0,.int v1,.int v2,.int v3,.int v4,.int v5,.int v6,.int v7,.int v8] none (some 3)=[.int v0,.int v1,.int v2]:=rfl;have s2:gk [.int v0,.int v1,.int v2,.int v3,.int v4,.int v5,.int v6,.int v7,.int v8] (some 6) (some 8)=[.int v6,.int v7]:=rfl;have s3:gk [.int v0,.int v1,.int v2,.int v3,.int v4,.int v5,.int v6,.int v7,.int v8] (some 3) (some 6)=[.int v3,.int v4,.int v5]:=rfl;have s4:gk [.int v0,.int v1,.int v2,.int v3,.int v4,.int v5,.int v6,.int v7,.int v8] (some 8) none=[.int v8]:=rfl;rcases core W N.toNice with⟨w',W',_,c1,_,c3⟩|⟨c1,_⟩
 .cases h3:(((k:Int).fmod 3)==2) with
  |true=>
   refine⟨w',W',(.sh (.lst [.int ((eI:Int)-1),.int ((eI:Int)-1)])),(.sh (.lst [.int v0,.int v1,.int v2,.int v3,.int v4,.int v5,.int v6,.int v7,.int v8])),(.sh c),(.sh b),?_⟩;open_line with[ix,ic,hd',s1,s2,s3,s4,fF,cK,hc,hb,hr,Bool.not_true,h3,c1,c3]
  |false=>
   refine⟨w,W,(.sh (.lst [.int ((eI:Int)-1),.int ((eI:Int)-1)])),(.sh (.lst [.int v0,.int v1,.int v2,.int v3,.int v4,.int v5,.int v6,.int v7,.int v8])),(.sh c),(.sh b),?_⟩;open_line with[ix,ic,hd',s1,s2,s3,s4,fF,cK,hc,hb,hr,Bool.not_true,h3]
 .refine⟨w,W,(.sh (.lst [.int ((eI:Int)-1),.int ((eI:Int)-1)])),(.sh (.lst [.int v0,.int v1,.int v2,.int v3,.int v4,.int v5,.int v6,.int v7,.int v8])),(.sh c),(.sh b),?_⟩
  cases h3:(((k:Int).fmod 3)==2) with
  |true=>open_line with[ix,ic,hd',s1,s2,s3,s4,fF,cK,hc,hb,hr,Bool.not_true,h3,c1]
  |false=>open_line with[ix,ic,hd',s1,s2,s3,s4,fF,cK,hc,hb,hr,Bool.not_true,h3]
def Bg(ns:List Int)(hn:ns.length<=63):m_law [.lst (ns.map D.int)]=.ok (.bl true):=by
 obtain⟨w,hw,W⟩:=yK hn;have cl:gk (ns.map D.int) (some 15) (some 63)=((ns.drop 15).take 48).map D.int:=by
  rw[nE];have e1:HT.sIx ns.length 0 (some 15)=min 15 ns.length:=HT.sIx_nat ns.length 0 15;have e2:HT.sIx ns.length ns.length (some 63)=min 63 ns.length:=HT.sIx_nat ns.length ns.length 63;rw[e1,e2]
  by_cases h:15<=ns.length
  .rw[show min 15 ns.length=15 by omega,show min 63 ns.length=ns.length by omega]
   congr 1
   rw[List.take_of_length_le (by rw[List.length_drop];exact Nat.le_refl _),List.take_of_length_le (by rw[List.length_drop];omega)]
  .rw[List.drop_of_length_le (show ns.length<=min 15 ns.length by omega),List.drop_of_length_le (show ns.length<=15 by omega)];simp
 have ca:bC (.lst (((ns.drop 15).take 48).map D.int)) (.lst [.int 15])=.ok (.lst (((ns.drop 15).take 48++[15]).map D.int)):=by
  rw[ic (decide_eq_true (by simp;omega)),List.map_append];rfl
 have hl49:((ns.drop 15).take 48++[15]).length<=49:=by simp;omega
 generalize (ns.drop 15).take 48++[15]=cs at ca hl49;obtain⟨ρ',hl,w',W',y3,y4,y5,y6,y7,rfl⟩:=sG (i:=3) (n:=cs.length) (ρ:=[.sh (.lst (ns.map D.int)),.sh (cf w),.sh (.lst (cs.map D.int)),.no,.no,.no,.no,.no]) (body:=xX)
  (λ_ ρ=>∃w,cE w/\∃y3 y4 y5 y6 y7,ρ=[.sh (.lst (ns.map D.int)),.sh (cf w),.sh (.lst (cs.map D.int)),y3,y4,y5,y6,y7]) (by
   rintro k hk ρ ⟨w,W,y3,y4,y5,y6,y7,rfl⟩;obtain⟨w',W',z4,z5,z6,z7,h⟩:=C3 (A:=.lst (ns.map D.int)) (C:=.non) hk W (x4:=y4) (x5:=y5) (x6:=y6) (x7:=y7);exact⟨_,h,w',W',_,_,_,_,_,rfl⟩) ⟨w,W,_,_,_,_,_,rfl⟩
 open_line with[m_law,F8,hw,cl,ca,List.length_map,nB,lH (k:=cs.length) (show cs.length<=1000000 by omega),hl]
end K68
namespace K68
open PySem L2 DL
def sp_law(K:W.Frag)(H:Hp)(a:Addr)(ns:List Int)(hl:ns.length<=63)(hS:fL K H a (ns.map V.int)):spD K 1 m_law [.ref a] H (λv _=>v=.bl true) λ_ _ _=>False:=by
 refine⟨rfl,H,[.lst (ns.map D.int)],aE.refl _,Reps.cons (aC.mpr ⟨a,_,rfl,hS,qY ns⟩) Reps.nil,?_⟩;rw[Bg ns hl];exact λv H' Ha' _ r=>aH.mp r
end K68
structure PySem.W.Fast:Prop where(tw3719437179614594334 tw9059694255382243670 tw6372097348063529280 tw9497640411678871755 tw5416064012520095706 tw44767294395942644 tw4863187478962519284 tw8487549168328814285 tw10017453800222999704 tw7510723196631969360 tw7601662391409335602 tw1849772908763584556 tw4346506496361670035 tw18153544540264422670 tw15149094229648321475 tw6098934405180144 tw8125469447718332058 tw10814179707230780780 tw15851435199013036253 tw5497642392987166225 tw7617356251506763970 tw3645843900648934144 tw4108237807125541345 tw13459119328868324534 tw8825879266697558287 tw7952316125567618513 tw3694048849497969785 tw11060968225391011597 tw4778498938255476205 tw4009792793959193908 tw11749219214668509078 tw16592953850566347373 tw9273074391279867590 tw5852723412910760263 tw17477861733054978235 tw6381996308254330839 tw4163594841910980450 tw5741883007650302348 tw18296162312933687849 tw11463419671276076955 tw12191008398972445255 tw2843224158104816044 tw489937781733954408 tw6971518854964927831 tw1297638246096618750 tw12036767528006832663 tw953749351020427402 tw11531822555141316513 tw9142052177422579331 tw4779890182623801671 tw4374681474710855917 tw585077485925747861 tw13247643293652511863 tw10072093417107722896 tw7448114360838535385 tw2839470234367487304 tw10297350475401541113 tw6182837075208965407 tw9479175640834524417 tw3568226535344745016 tw13494735811677198372 tw9590637236086619935 tw3323317163259960394 tw15861869300421670784 tw3488693297272915583 tw6198681091656233621 tw3279701973161233760 tw15904602899105199085 tw11150718356425103265 tw7088621744681770803 tw17497940496796692077 tw924271151746809596 tw3783115514022247092 tw15771162301622582598 tw13625753312802959815 tw11377377650321925414 tw541626075435820041 tw7498970483323490266 tw15845849640246222977 tw9080628854749383358 tw16083751216756342106 tw1324272684653876459 tw13081882029806123527 tw8631631263741694434 tw8449598390707487266 tw9595113045920556479 tw18167912829076560710 tw15578205398713304190 tw3991597062495717243 tw14607616389002309991 tw6111850440858911816 tw1605083191125218765 tw16357265794657264045 tw9246309174556147187 tw15571308111609858821 tw16003021560217579642 tw11347467441137150320 tw17949174892771428529 tw15553135880301939094 tw11444734606377385907 tw12460384800755346629:True)
open PySem PySem.W PyProof.Rows
set_option maxRecDepth 100000 in
set_option maxHeartbeats 0 in
theorem PySem.Challenge.cw_farthestcut_k68_changes_made_holds : PySem.Challenge.rw_farthestcut_k68_changes_made.Holds := by
 w_on;o_law;k_head;(case hw=>w_witness2)
 k_fill
 refine L2.walk_ofK (l:=PySem.Challenge.rw_farthestcut_k68_changes_made) (n:=63) (k:=10) (x:="_law_script") (CX:=L2.CX0) (sp:=fun K=>DL.spD K 1 K68.m_law) ?I rfl (by decide) rfl ⟨rfl,by decide,by decide,rfl⟩ (fun w h Y=>W.kIn_of Y) ?F ?S ?C
 case S=>exact fun K H a ns hl _ hS=>K68.sp_law K H a ns hl hS
 case C=>exact fun _ _ _ _ h=>h
 case I=>rfl
 case F =>
  intro w mg fa h KX G hmg;have T:∃ t:K68.Adr,K68.Txt w (L2.KOf KX) mg t/\mg "law"=some (.ref (t.A 35))/\∃ kV doc pm an cdv ct,t.Q 35=W.fnOf "law" "law" (L2.defArgs (K68.top 63)) (L2.defBody (K68.top 63)) (L2.defScope (K68.top 63)) .none kV doc pm an cdv ct:=by
   dsimp only[L2.KOf];refine' K68.txt_wr (K68.txt_mk KX G ?QS ?_ ?_ ?_ ?_ ?_ ?_ ?_ ?_ ?_ ?_ ?_ ?_ ?_ ⟨?_,?_,?_,?_⟩ ⟨⟨?_,?_,?_,?_⟩,?_,?_,?_,?_,?_,?_,?_,?_,?_,?_,?_,?_,?_⟩ ⟨?_,?_,?_,?_⟩ ⟨?_,?_,?_,?_⟩ ⟨?_,?_,?_,?_⟩ ⟨⟨?_,?_,?_,?_⟩,?_,?_,?_,?_,?_,?_,?_,?_,?_,?_,?_,?_⟩ ⟨_,_,_,_,_,_,_,_,_,_,_,_,_,_,_,_,_,_,_,_,_,_,_,_,_,_,_,_,_,?_,?_,?_,?_,?_,?_,?_,?_,?_,?_,(DL.noL_cons ?_ (DL.noL_cons ?_ DL.noL_nil))⟩ ?_ ?_ ?_ ?_ (DL.sb_c ?_ (DL.sb_c ?_ (DL.sb_c ?_ (DL.sb_c ?_ (DL.sb_c ?_ (DL.sb_c ?_ trivial)))))) (DL.sb_c ?_ (DL.sb_c ?_ (DL.sb_c ?_ (DL.sb_c ?_ (DL.sb_c ?_ (DL.sb_c ?_ trivial)))))) ?_ ?_ ?_ ?_ ?_ ?_ ?_ ?_ ?_ ?_ ?_ ?_ ?_ ?_ ?_ ?_ ?_ ?_ ?_ ?_)
   case' QS=>iterate 36 refine DL.QAs.cons ⟨by k_is,by k_is,_,_,_,_,_,_,_,_,_,by k_is,by k_is⟩ ?_
   case QS=>trivial
   all_goals try first |k_is |k_exc |rfl
   exact⟨_,_,rfl,by decide,.cons rfl (.cons rfl (.cons rfl (.cons rfl (.nil)))),by decide⟩;exact⟨_,_,_,_,[.str "one",.str "both"],rfl,.cons ⟨_,rfl⟩ (.cons ⟨_,rfl⟩ (.nil)),by decide,fun H=>DL.Reps.cons (DL.Rep.str_iff.mpr rfl) (DL.Reps.cons (DL.Rep.str_iff.mpr rfl) (DL.Reps.nil))⟩
  obtain⟨t,T,e0,kV,doc,pm,an,cdv,ct,ed⟩:=T;have e1:=hmg.symm.trans e0;cases e1;refine⟨t.Q 35,fun s u=>?_,fun base kb nb=>(K68.ok_law T).F⟩;rw[ed];exact .of_eq rfl
