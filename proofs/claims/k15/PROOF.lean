import PyProof.Rows.All
import Wide.All
import OpenK.AllK
import Wide.FinOn
import PyProof.EqAt
import PyProof.EqKinds
import PyProof.NeKinds
import PyProof.TupleCall
import PyProof.StrWalks
import PyProof.EnumMake
import PyProof.WalksEnum
import PyProof.ZipIter
import PyProof.Rows.ZipGen
import PyProof.Rows.SortWalk
import KE.KSortedM
import PyProof.StrLawsIdx
import PyProof.StrLawsNeg
import PyProof.ExcInit
import PyProof.InstStoreFacts
import PyProof.AttrMissHeap
import PyProof.FactsAll.enumerate
import PyProof.FactsAll.dict_1
import KE.KDictOf
import KE.KItemsList
import PyProof.ReprRoads
import PyProof.FitsInt
import PySem.Challenge.RW_farthestcut_k15_whole_no_way_is_shorter
set_option compiler.extract_closed false
set_option bootstrap.genMatcherCode false
set_option Elab.async false
set_option linter.all false
set_option maxRecDepth 100000
set_option maxHeartbeats 4000000
noncomputable section
namespace L2
open PySem PySem.Spec PyProof.Rows
noncomputable abbrev dM:=Sum Int Str
noncomputable def sX:dM->Value->Bool
 |.inl k,v=>Value.isInt k v
 |.inr x,v=>Value.isStrOf x v
noncomputable def L7(w:World):dM->Int
 |.inl k=>hashInt k
 |.inr x=>hashStr w x
theorem cB:∀{k:dM}{v:Value},sX k v=true->(∃i t,k=Sum.inl i/\v=Value.int i t)∨(∃x t,k=Sum.inr x/\v=Value.str x t)
 |.inl i,v,h=>by
  obtain⟨t,e⟩:=Value.isInt_shape (k:=i) (v:=v) h;exact .inl ⟨i,t,rfl,e⟩
 |.inr x,v,h=>by
  obtain⟨t,e⟩:=Value.isStrOf_shape (x:=x) (v:=v) h;exact .inr ⟨x,t,rfl,e⟩
theorem Bp(i:Int)(t:Tok):sX (.inl i) (.int i t)=true:=by simp [sX,Value.isInt]
theorem Bo(x:Str)(t:Tok):sX (.inr x) (.str x t)=true:=by simp [sX,Value.isStrOf]
theorem IA(a b:Int):decide ((Sum.inl a:dM)=Sum.inl b)=(a==b):=by
 by_cases e:a=b
 .subst e;simp
 .have h:¬(Sum.inl a:dM)=Sum.inl b:=λq=>e (Sum.inl.inj q)
  rw[decide_eq_false h];exact(beq_eq_false_iff_ne.mpr e).symm
theorem Iw(a b:Str):decide ((Sum.inr a:dM)=Sum.inr b)=decide (a=b):=by
 by_cases e:a=b
 .subst e;simp
 .have h:¬(Sum.inr a:dM)=Sum.inr b:=λq=>e (Sum.inr.inj q)
  rw[decide_eq_false h,decide_eq_false e]
theorem Iz(a:Int)(b:Str):decide ((Sum.inl a:dM)=Sum.inr b)=false:=decide_eq_false (λq=>nomatch q)
theorem Iy(a:Str)(b:Int):decide ((Sum.inr a:dM)=Sum.inl b)=false:=decide_eq_false (λq=>nomatch q)
noncomputable def cN(prog:Program) (w:World):PySem.KeyKind prog w dM where
 is:=sX
 hash:=L7 w
 inj:=λv a b ha hb=>by
  rcases cB ha with⟨i,t,rfl,rfl⟩|⟨x,t,rfl,rfl⟩
  .rcases cB hb with⟨j,u,rfl,e⟩|⟨y,u,rfl,e⟩
   .injection e with e1 _;rw[e1]
   .exact nomatch e
  .rcases cB hb with⟨j,u,rfl,e⟩|⟨y,u,rfl,e⟩
   .exact nomatch e
   .injection e with e1 _;rw[e1]
 byValue:=λk v h=>by
  rcases cB h with⟨i,t,rfl,rfl⟩|⟨x,t,rfl,rfl⟩<;>rfl
 pyHash:=λhv h=>by
  rcases cB hv with⟨i,t,rfl,rfl⟩|⟨x,t,rfl,rfl⟩
  .exact wpAny_pyHash_int h
  .exact wpAny_pyHash_str h
 eqBool:=λhu hv h=>by
  rcases cB hu with⟨i,t,rfl,rfl⟩|⟨x,t,rfl,rfl⟩
  .rcases cB hv with⟨j,u,rfl,rfl⟩|⟨y,u,rfl,rfl⟩
   .rw[IA] at h;exact wpAny_eqBool_int h
   .rw[Iz] at h;exact SeqAt.EqAt.int_str i t y u _ _ _ _ h
  .rcases cB hv with⟨j,u,rfl,rfl⟩|⟨y,u,rfl,rfl⟩
   .rw[Iy] at h;exact SeqAt.EqAt.str_int x t j u _ _ _ _ h
   .rw[Iw] at h;exact wpAny_eqBool_str h
 «strs»:=λk x t v h=>by
  rcases cB h with⟨i,u,rfl,e⟩|⟨y,u,rfl,e⟩
  .exact nomatch e
  .injection e with e1 _
   subst e1;cases v<;>rfl
theorem wm(prog:Program)(w:World)(i:Int)(t:Tok):(cN prog w).is (.inl i) (.int i t)=true:=Bp i t
theorem wj(prog:Program)(w:World)(x:Str)(t:Tok):(cN prog w).is (.inr x) (.str x t)=true:=Bo x t
inductive V where
 |non|bl (b:Bool)|int (i:Int)|str (x:Str)|byt (b:Array UInt8)|flt (b:UInt64)|ref (a:Addr)|ty (n:String)
 deriving DecidableEq
noncomputable def bz:V->Value->Prop
 |.non,u=>u=Value.none
 |.bl b,u=>u=Value.bool b
 |.int i,u=>∃t,u=Value.int i t
 |.str x,u=>∃t,u=Value.str x t
 |.byt b,u=>∃t,u=Value.bytes b t
 |.flt b,u=>∃t,u=Value.float b t
 |.ref a,u=>u=Value.ref a
 |.ty n,u=>u=Value.type n
noncomputable abbrev bF:List V->List Value->Prop:=Paired bz
theorem bF.length{xs:List V}{us:List Value}(r:bF xs us):xs.length=us.length:=Paired.length r
theorem bF.get:∀{xs:List V}{us:List Value}{i:Nat}{x:V},bF xs us->xs[i]?=some x->∃u,us[i]?=some u/\bz x u
 |_,_,_,_,.nil,e=>by simp at e
 |_,_,0,_,.cons r _,e=>by simp at e;subst e;exact⟨_,rfl,r⟩
 |_,_,i+1,x,.cons _ t,e=>by
  obtain⟨u,h1,h2⟩:=bF.get (i:=i) (x:=x) t (by simpa using e);exact⟨u,by simpa using h1,h2⟩
theorem bF.set{x:V}{u:Value}(r:bz x u):∀{xs:List V}{us:List Value}(i:Nat),bF xs us->bF (xs.set i x) (us.set i u)
 |_,_,_,.nil=>.nil
 |_,_,0,.cons _ t=>.cons r t
 |_,_,i+1,.cons q t=>.cons q (bF.set r i t)
theorem bF.append:∀{xs ys:List V}{us ws:List Value},bF xs us->bF ys ws->bF (xs++ys) (us++ws)
 |_,_,_,_,.nil,s=>s
 |_,_,_,_,.cons r t,s=>.cons r (bF.append t s)
theorem bF.take:∀{xs:List V}{us:List Value}(n:Nat),bF xs us->bF (xs.take n) (us.take n)
 |_,_,0,_=>.nil
 |_,_,_+1,.nil=>.nil
 |_,_,n+1,.cons r t=>.cons r (bF.take n t)
theorem bF.drop:∀{xs:List V}{us:List Value}(n:Nat),bF xs us->bF (xs.drop n) (us.drop n)
 |_,_,0,r=>r
 |_,_,_+1,.nil=>.nil
 |_,_,n+1,.cons _ t=>bF.drop n t
noncomputable def xG:Option V->Option Value->Prop
 |some v,some u=>bz v u
 |none,none=>True
 |_,_=>False
noncomputable def KV{κ:Type}:List (κ×V)->List (κ×Value)->Prop:=Paired λ(p:κ×V) (q:κ×Value)=>p.1=q.1/\bz p.2 q.2
noncomputable def kV:dM->V
 |.inl i=>.int i
 |.inr x=>.str x
inductive HO where
 |lst (xs:List V)
 |tup (xs:List V)
 |dK (kvs:List (dM×V))|dT (kvs:List (List dM×V))
 |set (S:Int->Bool) (n:Nat)
 |ins (C dx:Addr) (fs:List (Str×V))
 |own (x:Addr)
 |xd (fs:List (Str×V))
 |met (f x:Addr)
 |rng (lo hi:Int)
 |frz (o:Obj) (u:HO)
 |tbl (ps:Array Value)
 |ext (φ:Heap->Prop)
noncomputable abbrev Hp:=Addr->Option HO
noncomputable def upd(H:Hp) (a:Addr) (o:HO):Hp:=λb=>if b=a then some o else H b
theorem aI{H:Hp}{a:Addr}{o:HO}:upd H a o a=some o:=by unfold upd;rw[if_pos rfl]
theorem aA{H:Hp}{a b:Addr}{o:HO}(h:b≠a):upd H a o b=H b:=by unfold upd;rw[if_neg h]
theorem Ku{H:Hp}{a b:Addr}{o u:HO}(h:H a=some o)(h':H b=some u)(d:o≠u):a≠b:=by
 intro e;subst e;rw[h] at h';exact d (Option.some.inj h')
theorem bC{H:Hp}{a b:Addr}{o:HO}(h:H a=some o)(h':H b=none):a≠b:=by
 intro e;subst e;rw[h] at h';cases h'
section
variable (P:Program) (w:World)
noncomputable def cW(H:Hp) (h:Heap) (a:Addr):HO->Prop
 |.lst xs=>xs.length<=sizeLine/\∃(its:List Value) (n:Nat),bF xs its/\h.get? a=some { cls:=.type "list",data:=.seq its.toArray n }
 |.tup xs=>xs.length<=sizeLine/\∃its:List Value,bF xs its/\IsTup h a its.toArray
 |.dK kvs=>kvs.length<=sizeLine/\(a==sysModules)=false/\∃vs,KV kvs vs/\h.DictOf (cN P w) a vs
 |.dT kvs=>kvs.length<=sizeLine/\(a==sysModules)=false/\∃xs:List (List dM×Addr×Value),
   Paired (λ(p:List dM×V) (q:List dM×Addr×Value)=>p.1=q.1/\H q.2.1=some (.tup (p.1.map kV))/\bz p.2 q.2.2) kvs xs /\
   ∃o es ep,h.get? a=some o/\o.ExactDict/\o.data=.dict es ep/\es.toList=xs.map (entryOfKey (tupleKind (cN P w)))/\(xs.map (·.1)).Nodup
 |.set S n=>h.SetOf (intKind P w) a S n
 |.ins C dx fs=>H dx=some (.own a)/\fs.length<=1000/\dx≠a/\h.get? a=some (W.instObj C dx) /\
   ∃mA,h.Ns1 dx mA/\(∀f,xG (fs.lookup f) (mA f))/\PySem.Within mA (fs.map (·.1))
 |.own _=>∃o,h.get? a=some o
 |.xd fs=>∃mA,h.Ns1 a mA/\∀f,xG (fs.lookup f) (mA f)
 |.rng lo hi=>∃t u v,h.get? a=some { cls:=.type "range",data:=.fields #[.int lo t,.int hi u,.int 1 v] }
 |.frz o u=>h.get? a=some o/\cW H h a u
 |.tbl ps=>h.get? a=some { cls:=.none,data:=.fields ps }
 |.met f x=>h.get? a=some (W.methodObj (.ref f) (.ref x))
 |.ext φ=>φ h/\(∃o,h.get? a=some o)/\∀h1 h2:Heap,φ h1->(∀o,h1.get? a=some o->h2.get? a=some o)->φ h2
noncomputable def kI(H:Hp) (h:Heap):Prop:=∀a o,H a=some o->cW P w H h a o
end
section
variable {P:Program}{w:World}{H H':Hp}{h h':Heap}{a:Addr}{o:HO}
theorem cW.lt(x:cW P w H h a o):a<h.objs.size:=by
 cases o with|lst xs=>obtain⟨_,_,_,_,e⟩:=x;exact Heap.lt_size e|tup xs=>obtain⟨_,_,_,p⟩:=x;exact p.lt|dK kvs|dT kvs=>obtain⟨_,_,_,_,o,_,_,e,_⟩:=x;exact Heap.lt_size e|set S n=>obtain⟨o,_,_,_,e,_⟩:=x;exact Heap.lt_size e|ins C dx fs=>obtain⟨_,_,_,e,_⟩:=x;exact Heap.lt_size e|own y=>obtain⟨_,e⟩:=x;exact Heap.lt_size e|xd fs=>obtain⟨_,⟨_,_,_,e,_⟩,_⟩:=x;exact Heap.lt_size e|rng lo hi=>obtain⟨_,_,_,e⟩:=x;exact Heap.lt_size e|frz ob u=>obtain⟨e,_⟩:=x;exact Heap.lt_size e|tbl ps|met f y=>exact Heap.lt_size (show h.get? a=some _ from x)|ext φ=>obtain⟨_,⟨_,e⟩,_⟩:=x;exact Heap.lt_size e
theorem jn{α β:Type}{F G:α->β->Prop}:∀{lb:List α}{lc:List β},Paired F lb lc->(∀a b,F a b->G a b)->Paired G lb lc
 |_,_,.nil,_=>.nil
 |_,_,.cons r t,f=>.cons (f _ _ r) (jn t f)
theorem cW.stay(x:cW P w H h a o)(k:∀b u,(b=a∨H b=some (.own a))->h.get? b=some u->h'.get? b=some u)
  (ho:∀b,H b=some (.own a)->H' b=some (.own a))(ht:∀b xs,H b=some (.tup xs)->H' b=some (.tup xs)):cW P w H' h' a o:=by
 induction o with
 |lst xs=>obtain⟨z,its,n,r,e⟩:=x;exact⟨z,its,n,r,k _ _ (.inl rfl) e⟩|tup xs=>obtain⟨z,its,r,ob,e,c⟩:=x;exact⟨z,its,r,ob,k _ _ (.inl rfl) e,c⟩|dK kvs=>obtain⟨z,y,vs,r,ob,es,ep,e,c⟩:=x;exact⟨z,y,vs,r,ob,es,ep,k _ _ (.inl rfl) e,c⟩
 |dT kvs =>
  obtain⟨z,y,xs,r,ob,es,ep,e,c⟩:=x;exact⟨z,y,xs,jn r λp q z=>⟨z.1,ht _ _ z.2.1,z.2.2⟩,ob,es,ep,k _ _ (.inl rfl) e,c⟩
 |set S n=>obtain⟨ob,es,ep,t,e,c⟩:=x;exact⟨ob,es,ep,t,k _ _ (.inl rfl) e,c⟩
 |ins C dx fs =>
  obtain⟨d,z,ne,e,mA,⟨od,es,ep,e2,c⟩,r⟩:=x;exact⟨ho _ d,z,ne,k _ _ (.inl rfl) e,mA,⟨od,es,ep,k _ _ (.inr d) e2,c⟩,r⟩
 |own y=>obtain⟨ob,e⟩:=x;exact⟨ob,k _ _ (.inl rfl) e⟩|xd fs=>obtain⟨mA,⟨od,es,ep,e,c⟩,r⟩:=x;exact⟨mA,⟨od,es,ep,k _ _ (.inl rfl) e,c⟩,r⟩|rng lo hi=>obtain⟨t,u,v,e⟩:=x;exact⟨t,u,v,k _ _ (.inl rfl) e⟩|frz ob u ih=>obtain⟨e,q⟩:=x;exact⟨k _ _ (.inl rfl) e,ih q⟩
 |tbl ps =>
  have e:h.get? a=some { cls:=.none,data:=.fields ps }:=x;show h'.get? a=some { cls:=.none,data:=.fields ps };exact k a _ (.inl rfl) e
 |met f y =>
  have e:h.get? a=some (W.methodObj (.ref f) (.ref y)):=x;show h'.get? a=some (W.methodObj (.ref f) (.ref y));exact k a _ (.inl rfl) e
 |ext φ=>obtain⟨p,⟨o,e⟩,st⟩:=x;exact⟨st _ _ p λo q=>k _ _ (.inl rfl) q,⟨o,k _ _ (.inl rfl) e⟩,st⟩
theorem kI.lt(x:kI P w H h)(e:H a=some o):a<h.objs.size:=(x a o e).lt
theorem kI.fresh(x:kI P w H h)(e:h.objs.size<=a):H a=none:=by
 cases q:H a with|none=>rfl|some u=>exact absurd (Nat.lt_of_lt_of_le (x.lt q) e) (Nat.lt_irrefl _)
theorem kI.kept(x:kI P w H h)(k:∀b u,h.get? b=some u->h'.get? b=some u):kI P w H h':=λa o e =>
 (x a o e).stay (λb u _ q=>k b u q) (λ_ q=>q) λ_ _ q=>q
theorem kI.laid(x:kI P w H h)(k:∀b u,h.get? b=some u->h'.get? b=some u)(hp:h.objs.size<=a)(new:cW P w (upd H a o) h' a o):kI P w (upd H a o) h':=λb u e=>by
 have hn:=x.fresh hp
 by_cases hb:b=a
 .subst hb;rw[aI] at e;cases e;exact new
 .rw[aA hb] at e
  exact(x b u e).stay (λc v _ q=>k c v q) (λc q=>by rw[aA (bC q hn)];exact q) λc xs q=>by rw[aA (bC q hn)];exact q
end
noncomputable def Rd(H:Hp) (a:Addr) (u:HO):Prop:=H a=some u∨∃o,H a=some (.frz o u)
theorem Rd.ok{P:Program}{w:World}{H:Hp}{h:Heap}{a:Addr}{u:HO}(r:Rd H a u)(x:kI P w H h):cW P w H h a u:=by
 rcases r with r|⟨o,r⟩
 .exact x a u r
 .obtain⟨_,q⟩:=x a _ r
  exact q
noncomputable def Lc:Option HO->Prop
 |some (.lst _)=>True
 |some (.dK _)=>True
 |some (.dT _)=>True
 |some (.set _ _)=>True
 |some (.ins _ _ _)=>True
 |some (.ext _)=>True
 |_=>False
section
variable {P:Program}{w:World}{H:Hp}{h h':Heap}{x e:Addr}{o':HO}
theorem kI.write(ok:kI P w H h)(mu:Lc (H x))(he:e=x∨H e=some (.own x))(k:∀b u,b≠e->h.get? b=some u->h'.get? b=some u)(heo:∃u,h'.get? e=some u)
  (new:cW P w (upd H x o') h' x o'):kI P w (upd H x o') h':=λb u q=>by
 have nown:∀c y,H c=some (.own y)->c≠x:=λc y r z=>by subst z;rw[r] at mu;exact mu
 have ntup:∀c xs,H c=some (.tup xs)->c≠x:=λc xs r z=>by subst z;rw[r] at mu;exact mu
 by_cases hb:b=x
 .subst hb;rw[aI] at q;cases q;exact new
 .rw[aA hb] at q
  by_cases hbe:b=e
  .have q':H b=some (.own x):=by
    rcases he with z|z
    .exact absurd (hbe.trans z) hb
    .rw[hbe];exact z
   rw[q] at q';cases q';obtain⟨v,hv⟩:=heo;exact⟨v,by rw[hbe];exact hv⟩
  .refine(ok b u q).stay (λc v hc r=>k c v ?_ r) (λc r=>by rw[aA (nown c b r)];exact r) λc xs r=>by rw[aA (ntup c xs r)];exact r
   rcases hc with rfl|hc
   .exact hbe
   .rintro rfl
    rcases he with z|z
    .exact nown c b hc z
    .rw[hc] at z;cases z;exact hb rfl
end
structure Un (fs ex:List Addr) (H H':Hp) (h h':Heap):Prop where
 keep:∀b o,h.get? b=some o->H b=none->b∉fs->b∉ex->h'.get? b=some o
 slot:∀b o,h.get? b=some o->H b=none->b∈fs->b∉ex->∃sl,h'.get? b=some { o with slots:=sl }
 free:∀b o,h.get? b=some o->H b=none->b∉ex->H' b=none
 there:∀b o,h.get? b=some o->b∉ex->∃o',h'.get? b=some o'
 tups:∀b xs,H b=some (.tup xs)->H' b=some (.tup xs)
 frzs:∀b o u,H b=some (.frz o u)->H' b=some (.frz o u)
 tbls:∀b ps,H b=some (.tbl ps)->∃more,H' b=some (.tbl (ps++more))
section
variable {fs fs' ex ex':List Addr}{H H1 H2:Hp}{h h1 h2 h':Heap}{a x e:Addr}{o:HO}
theorem Un.any(u:Un fs ex H H1 h h1){b:Addr}{ob:Obj}(q:h.get? b=some ob)(n:H b=none)(hx:b∉ex):∃sl,h1.get? b=some { ob with slots:=sl }:=by
 by_cases hb:b∈fs
 .exact u.slot b ob q n hb hx
 .exact⟨ob.slots,u.keep b ob q n hb hx⟩
theorem Un.kept(k:∀b u,h.get? b=some u->h'.get? b=some u):Un fs ex H H h h' :=
 ⟨λb ob q _ _ _=>k b ob q,λb ob q _ _ _=>⟨ob.slots,k b ob q⟩,λ_ _ _ n _=>n,λb ob q _=>⟨ob,k b ob q⟩,λ_ _ q=>q,λ_ _ _ q=>q,λ_ ps q=>⟨#[],by rw[q];simp⟩⟩
theorem Un.refl:Un fs ex H H h h:=Un.kept λ_ _ q=>q
theorem Un.laid(k:∀b u,h.get? b=some u->h'.get? b=some u)(hp:h.objs.size<=a)(hn:H a=none):Un fs ex H (upd H a o) h h' where
 keep:=λb u q _ _ _=>k b u q
 slot:=λb u q _ _ _=>⟨u.slots,k b u q⟩
 free:=λb u q n _=>by rw[aA (Nat.ne_of_lt (Nat.lt_of_lt_of_le (Heap.lt_size q) hp))];exact n
 there:=λb u q _=>⟨u,k b u q⟩
 tups:=λb xs q=>by rw[aA (bC q hn)];exact q
 frzs:=λb u xs q=>by rw[aA (bC q hn)];exact q
 tbls:=λb ps q=>⟨#[],by rw[aA (bC q hn),q];simp⟩
theorem Un.write(mu:Lc (H x))(he:e=x∨H e=some (.own x))(k:∀b u,b≠e->h.get? b=some u->h'.get? b=some u)(heo:∃u,h'.get? e=some u):Un fs ex H (upd H x o) h h':=by
 have hx:∀b,H b=none->b≠x:=λb n z=>by subst z;rw[n] at mu;exact mu
 have hb:∀b,H b=none->b≠e:=λb n z=>by
  subst z;rcases he with r|r
  .exact hx b n r
  .rw[n] at r;cases r
 have hm:∀b u,H b=some u->¬Lc (some u)->b≠x:=λb u q nm z=>by subst z;rw[q] at mu;exact nm mu
 refine⟨λb u q n _ _=>k b u (hb b n) q,λb u q n _ _=>⟨u.slots,k b u (hb b n) q⟩,λb u q n _=>by rw[aA (hx b n)];exact n,λb u q _=>?_,
  λb xs q=>by rw[aA (hm b _ q λz=>z)];exact q,λb u xs q=>by rw[aA (hm b _ q λz=>z)];exact q,λb ps q=>⟨#[],by rw[aA (hm b _ q λz=>z),q];simp⟩⟩
 by_cases hbe:b=e
 .subst hbe;exact heo
 .exact⟨u,k b u hbe q⟩
end
noncomputable def Lk(h:Heap) (H:Hp):List Addr:=(List.range h.objs.size).filter λa=>(H a).isSome
noncomputable def uP(h:Heap) (H:Hp):Heap:=W.hideAll h (Lk h H)
theorem Bs(h:Heap)(H:Hp):(uP h H).objs.size=h.objs.size:=W.hideAll_size _ _
theorem Dv{h:Heap}{H:Hp}{b:Addr}{o:Obj}(e:h.get? b=some o)(n:H b=none):(uP h H).get? b=some o :=
 W.hideAll_get _ e λhm=>by
  have q:(H b).isSome=true:=(List.mem_filter.mp hm).2;rw[n] at q;simp at q
theorem Fz{h:Heap}{H:Hp}{b:Addr}{o:Obj}(e:(uP h H).get? b=some o):h.get? b=some o/\H b=none:=by
 have e':h.get? b=some o:=W.of_hideAll (Lk h H) e;refine⟨e',?_⟩;cases q:H b with
 |none=>rfl
 |some x =>
  have hm:b∈Lk h H:=List.mem_filter.mpr ⟨List.mem_range.mpr (Heap.lt_size e'),by simp [q]⟩;have z:(uP h H).get? b=none:=W.hideAll_none (Lk h H) hm;rw[z] at e;cases e
structure Mod (K:W.Frag) (mg:Str->Option Value) (base:Heap):Prop where
 kin:K.In base
 glob:base.Ns mainGlobals mg
 blt:∃mb,base.Ns builtinsNs mb/\∀x:Str,x≠"__name__"->mb x=bootBuiltins x
 nolimit:base.NoLimit
 sm:∃mm,base.Ns sysModules mm
structure Cx where
 prog:Program
 w:World
 K:W.Frag
 mg:Str->Option Value
 base:Heap
 A:Around
 N:List Str
 sf:Shared
 Ha:Hp
 env:Env
 outer:List Env
 stack:List Env
 ex:List Addr
 fn:Str->Bool
 calm:Bool
 pn:List (Addr×Obj)
 xe:Value->Shared->Prop
noncomputable def BQ(l:List Env):List Addr:=l.filterMap (·.frame)
noncomputable abbrev Cx.fs(X:Cx):List Addr:=BQ X.outer
noncomputable def BO(sc:Scope) (x:Str):Prop:=sc.names.lookup x=some .local ∨ sc.names.lookup x=some .cell∨sc.names.lookup x=some .free
noncomputable def BR(sc:Scope) (x:Str):Prop:=sc.names.lookup x=some .local ∨ sc.names.lookup x=some .cell
noncomputable def Mw(env:Env) (h:Heap) (m:Str->Option Value) (x:Str) (u:Value):Prop :=
 (env.kindOf x=some .local /\ m x=some u)∨((env.kindOf x=some .cell∨env.kindOf x=some .free)/\∃c,env.cells.lookup x=some c/\h.IsCell c (some u))
structure Cx.Ok (X:Cx):Prop where
 mod:Mod X.K X.mg X.base
 kind:X.env.scope.kind=.function
 glob:X.env.globals=mainGlobals
 blt:X.env.builtins=builtinsNs
 above:X.sf.heap.objs.size<=X.env.locals
 inj:∀x y c,X.env.cells.lookup x=some c->X.env.cells.lookup y=some c->x=y
 has:∀x,(X.env.kindOf x=some .cell∨X.env.kindOf x=some .free)->∃c,X.env.cells.lookup x=some c
 cab:∀x c,X.fn x=true->X.env.cells.lookup x=some c->X.sf.heap.objs.size<=c
 hd:X.calm=true->X.A.handled=none
 frames:X.A.frames=some X.stack
 stk:X.stack=X.outer∨(X.stack=X.env::X.outer/\X.env.frame=some X.env.locals)
 exf:∀b∈X.ex,b≠X.env.locals/\∀x c,X.env.cells.lookup x=some c->c≠b
 bs:∀b o,X.base.get? b=some o->X.sf.heap.get? b=some o/\X.Ha b=none
 bsz:X.base.objs.size<=X.sf.heap.objs.size
 noex:∀b o,X.base.get? b=some o->b∉X.ex
 exfs:∀b∈X.ex,b∉X.fs
 funs:X.sf.heap.FunFrames X.base X.outer
 frf:∀b∈X.fs,X.Ha b=none
structure Inv (X:Cx) (pins:List (Addr×Obj)) (σ:List (Option V)) (H:Hp) (s:Shared):Prop where
 ok:X.Ok
 os:s.os=X.sf.os
 bare:AllBare s.gens
 base:Un X.fs X.ex X.Ha H X.sf.heap s.heap
 loc:∃m,s.heap.Ns X.env.locals m/\∀(i:Nat) (x:Str) (v:V),X.N[i]?=some x->σ[i]?=some (some v)->BO X.env.scope x->∃u,bz v u/\Mw X.env s.heap m x u
 cell:∀x c,X.env.cells.lookup x=some c->∃v,s.heap.IsCell c v
 free:H X.env.locals=none
 freeC:∀x c,X.env.cells.lookup x=some c->H c=none
 pin:∀p∈X.pn++pins,s.heap.get? p.1=some p.2/\H p.1=none/\p.1≠X.env.locals/\p.1∉X.fs/\∀v,p.2.data≠.cell v
 hok:kI X.prog X.w H s.heap
 len:σ.length=X.N.length
section
variable {X:Cx}{pins:List (Addr×Obj)}{σ:List (Option V)}{H H':Hp}{s:Shared}{h':Heap}
theorem Cx.Ok.nofr(ok:X.Ok){b:Addr}{o:Obj}(e:X.base.get? b=some o):b∉X.fs:=λhb=>by
 have:=(ok.funs.mem hb).1;rw[e] at this;cases this
theorem Inv.bs(I:Inv X pins σ H s):∀b o,X.base.get? b=some o->s.heap.get? b=some o/\H b=none:=λb o e =>
 ⟨I.base.keep b o (I.ok.bs b o e).1 (I.ok.bs b o e).2 (I.ok.nofr e) (I.ok.noex b o e),I.base.free b o (I.ok.bs b o e).1 (I.ok.bs b o e).2 (I.ok.noex b o e)⟩
theorem Inv.bk(I:Inv X pins σ H s):∀b o,X.base.get? b=some o->s.heap.get? b=some o:=λb o e=>(I.bs b o e).1
theorem Inv.mod(I:Inv X pins σ H s):Mod X.K X.mg X.base:=I.ok.mod
theorem Inv.kIn(I:Inv X pins σ H s):X.K.In s.heap:=I.ok.mod.kin.keeps I.bk
theorem Inv.lt(I:Inv X pins σ H s):X.env.locals<s.heap.objs.size:=let ⟨_,hn,_⟩:=I.loc;hn.lt
theorem Inv.sz(I:Inv X pins σ H s):X.sf.heap.objs.size<=s.heap.objs.size:=Nat.le_trans I.ok.above (Nat.le_of_lt I.lt)
theorem Inv.nofs(I:Inv X pins σ H s){a:Addr}(h:s.heap.objs.size<=a):a∉X.fs:=λhb=>by
 obtain⟨_,o,ho,_⟩:=I.ok.funs.mem hb;exact absurd (Nat.lt_of_lt_of_le (Heap.lt_size ho) (Nat.le_trans I.sz h)) (Nat.lt_irrefl _)
theorem Inv.cne(I:Inv X pins σ H s):∀x c,X.env.cells.lookup x=some c->c≠X.env.locals:=λx c e z=>by
 obtain⟨v,o,ho,hd⟩:=I.cell x c e;obtain⟨m,⟨o',es,ep,ho',hd',_⟩,_⟩:=I.loc;rw[z,ho'] at ho;cases ho;rw[hd'] at hd;cases hd
theorem Inv.funs(I:Inv X pins σ H s):s.heap.FunFrames X.base X.outer:=by
 have all:∀(l:List Env),(∀b∈BQ l,b∈X.fs)->X.sf.heap.FunFrames X.base l->s.heap.FunFrames X.base l:=by
  intro l
  induction l with
  |nil=>intro _ _;trivial
  |cons env r ih =>
   intro hs hl;obtain⟨hk,⟨L,o,hf,hn,ho,hd⟩,hr⟩:=hl;have hL:L∈X.fs:=hs L (by unfold BQ;rw[List.filterMap_cons,hf];exact List.mem_cons_self);obtain⟨sl,e⟩:=I.base.slot L o ho (I.ok.frf L hL) hL λz=>I.ok.exfs L z hL;exact⟨hk,⟨L,_,hf,hn,e,hd⟩,ih (λb hb=>hs b (by unfold BQ;rw[List.filterMap_cons,hf];exact List.mem_cons_of_mem _ hb)) hr⟩
 exact all X.outer (λ_ hb=>hb) I.ok.funs
theorem Inv.stack(I:Inv X pins σ H s):s.heap.FunFrames X.base X.stack:=by
 rcases I.ok.stk with e|⟨e,hf⟩
 .rw[e];exact I.funs
 .rw[e]
  obtain⟨m,hn,_⟩:=I.loc;refine .cons (by rw[I.ok.kind];decide) hf hn ?_ I.funs;exact Heap.get?_none_of_le (Nat.le_trans I.ok.bsz I.ok.above)
theorem Inv.stkSub(I:Inv X pins σ H s):∀b∈BQ X.stack,b∈X.env.locals::X.fs:=λb hb=>by
 rcases I.ok.stk with e|⟨e,hf⟩
 .rw[e] at hb;exact List.mem_cons_of_mem _ hb
 .rw[e] at hb
  unfold BQ at hb;rw[List.filterMap_cons,hf] at hb;exact hb
theorem Inv.stkFree(I:Inv X pins σ H s):∀b∈BQ X.stack,H b=none:=λb hb=>by
 rcases List.mem_cons.mp (I.stkSub b hb) with e|hb
 .rw[e];exact I.free
 .obtain⟨_,o,ho,_⟩:=I.ok.funs.mem hb
  exact I.base.free b o ho (I.ok.frf b hb) λz=>I.ok.exfs b z hb
theorem Inv.step{g':Array GenState}{t':Nat}{d':Drawn}{ch:List Addr}(I:Inv X pins σ H s)
  (hch:∀b∈ch,(b∈X.ex∨X.sf.heap.objs.size<=b)/\b≠X.env.locals/\(∀x c,X.env.cells.lookup x=some c->c≠b)/\∀p∈X.pn++pins,p.1≠b)
  (keep:∀b o,b≠X.env.locals->b∉X.fs->b∉ch->s.heap.get? b=some o->H b=none->h'.get? b=some o)
  (slot:∀b o,b≠X.env.locals->b∈X.fs->b∉ch->s.heap.get? b=some o->H b=none->∃sl,h'.get? b=some { o with slots:=sl })(free:∀b o,b∉ch->s.heap.get? b=some o->H b=none->H' b=none)
  (there:∀b o,b∉ch->s.heap.get? b=some o->∃o',h'.get? b=some o')
  (tups:∀b xs,H b=some (.tup xs)->H' b=some (.tup xs))(frzs:∀b o u,H b=some (.frz o u)->H' b=some (.frz o u))(tbls:∀b ps,H b=some (.tbl ps)->∃more,H' b=some (.tbl (ps++more)))
  (ns:∀m,s.heap.Ns X.env.locals m->h'.Ns X.env.locals m)(hok:kI X.prog X.w H' h')(hg:AllBare g') :
  Inv X pins σ H' { s with heap:=h',gens:=g',drawn:=d',toks:=t' }:=by
 have neL:∀b o,X.sf.heap.get? b=some o->b≠X.env.locals:=λb o e=>Nat.ne_of_lt (Nat.lt_of_lt_of_le (Heap.lt_size e) I.ok.above);have neC:∀b o,X.sf.heap.get? b=some o->b∉X.ex->b∉ch:=λb o e hx hb=>by
  rcases(hch b hb).1 with z|z
  .exact hx z
  .exact absurd (Nat.lt_of_lt_of_le (Heap.lt_size e) z) (Nat.lt_irrefl _)
 have cellK:∀x c,X.env.cells.lookup x=some c->∀v,s.heap.IsCell c v->h'.IsCell c v:=λx c e v ⟨o,ho,hd⟩=>by
  have nch:c∉ch:=λz=>(hch c z).2.2.1 x c e rfl
  by_cases hc:c∈X.fs
  .obtain⟨sl,q⟩:=slot c o (I.cne x c e) hc nch ho (I.freeC x c e)
   exact⟨_,q,hd⟩
  .exact⟨o,keep c o (I.cne x c e) hc nch ho (I.freeC x c e),hd⟩
 refine⟨I.ok,I.os,hg,⟨λb o e n hb hx=>?_,λb o e n hb hx=>?_,λb o e n hx=>?_,λb o e hx=>?_,λb xs e=>tups b xs (I.base.tups b xs e),λb o xs e=>frzs b o xs (I.base.frzs b o xs e),λb ps e=>?_⟩,?_,λx c e=>?_,?_,λx c e=>?_,λp hp=>?_,hok,I.len⟩
 .exact keep b o (neL b o e) hb (neC b o e hx) (I.base.keep b o e n hb hx) (I.base.free b o e n hx)
 .obtain⟨sl,e1⟩:=I.base.slot b o e n hb hx
  obtain⟨sl',e2⟩:=slot b _ (neL b o e) hb (neC b o e hx) e1 (I.base.free b o e n hx);exact⟨sl',e2⟩
 .obtain⟨o',e1⟩:=I.base.there b o e hx
  exact free b o' (neC b o e hx) e1 (I.base.free b o e n hx)
 .obtain⟨o',e1⟩:=I.base.there b o e hx
  exact there b o' (neC b o e hx) e1
 .obtain⟨m1,e1⟩:=I.base.tbls b ps e
  obtain⟨m2,e2⟩:=tbls b _ e1;exact⟨m1++m2,by rw[e2,Array.append_assoc]⟩
 .obtain⟨m,hn,hl⟩:=I.loc
  refine⟨m,ns m hn,λi x v e1 e2 e3=>?_⟩;obtain⟨u,r,l⟩:=hl i x v e1 e2 e3;refine⟨u,r,?_⟩;rcases l with l|⟨k,c,e,z⟩
  .exact .inl l
  .exact .inr ⟨k,c,e,cellK x c e _ z⟩
 .obtain⟨v,z⟩:=I.cell x c e
  exact⟨v,cellK x c e v z⟩
 .obtain⟨m,⟨o,_,_,ho,_⟩,_⟩:=I.loc
  exact free _ o (λz=>(hch _ z).2.1 rfl) ho I.free
 .obtain⟨v,o,ho,hd⟩:=I.cell x c e
  exact free c o (λz=>(hch c z).2.2.1 x c e rfl) ho (I.freeC x c e)
 .obtain⟨e,n,ne,nf,d⟩:=I.pin p hp
  have nch:p.1∉ch:=λz=>(hch p.1 z).2.2.2 p hp rfl;exact⟨keep p.1 p.2 ne nf nch e n,free p.1 p.2 nch e n,ne,nf,d⟩
theorem Inv.un{t':Nat}(I:Inv X pins σ H s)(u:Un X.fs [] H H' s.heap h')(hok:kI X.prog X.w H' h'):Inv X pins σ H' { s with heap:=h',toks:=t' }:=by
 obtain⟨m,⟨o,es,ep,ho,r⟩,_⟩:=id I.loc;obtain⟨sl,hL⟩:=u.any ho I.free (by simp);exact I.step (g':=s.gens) (d':=s.drawn) (ch:=[]) (λ_ z=>nomatch z) (λb o _ hb _ e n=>u.keep b o e n hb (by simp)) (λb o _ hb _ e n=>u.slot b o e n hb (by simp)) (λb o _ e n=>u.free b o e n (by simp)) (λb o _ e=>u.there b o e (by simp)) u.tups u.frzs u.tbls (λm' hm=>by
  obtain⟨o',es',ep',ho',r'⟩:=hm;rw[ho] at ho';cases ho';exact⟨_,es',ep',hL,r'⟩) hok I.bare
theorem Inv.call{g':Array GenState}{t':Nat}{d':Drawn}{ch:List Addr}(I:Inv X pins σ H s)(u:Un (BQ X.stack) ch H H' s.heap h')(hok:kI X.prog X.w H' h')(hg:AllBare g')
  (hch:∀b∈ch,(b∈X.ex∨X.sf.heap.objs.size<=b)/\b≠X.env.locals/\(∀x c,X.env.cells.lookup x=some c->c≠b)/\∀p∈X.pn++pins,p.1≠b) :
  Inv X pins σ H' { s with heap:=h',gens:=g',drawn:=d',toks:=t' }:=by
 obtain⟨m,⟨o,es,ep,ho,r⟩,_⟩:=id I.loc;obtain⟨sl,hL⟩:=u.any ho I.free λz=>(hch _ z).2.1 rfl;exact I.step (ch:=ch) hch (λb o hL hb hc e n=>u.keep b o e n (λz=>(List.mem_cons.mp (I.stkSub b z)).elim hL hb) hc) (λb o _ _ hc e n=>u.any e n hc) (λb o hc e n=>u.free b o e n hc) (λb o hc e=>u.there b o e hc) u.tups u.frzs u.tbls (λm' hm=>by
  obtain⟨o',es',ep',ho',r'⟩:=hm;rw[ho] at ho';cases ho';exact⟨_,es',ep',hL,r'⟩) hok hg
theorem Inv.turned{t':Nat}{it:Addr}(I:Inv X pins σ H s)(k:∀b o,b≠it->s.heap.get? b=some o->h'.get? b=some o)(hn:H it=none)(hL:it≠X.env.locals)
  (h1:it∈X.ex∨X.sf.heap.objs.size<=it)(h2:∀x c,X.env.cells.lookup x=some c->c≠it)(h3:∀p∈X.pn++pins,p.1≠it):Inv X pins σ H { s with heap:=h',toks:=t' }:=by
 have nit:∀b u,H b=some u->b≠it:=λb u e z=>by rw[z,hn] at e;cases e
 refine I.step (g':=s.gens) (d':=s.drawn) (ch:=[it]) (λb hb=>?_) (λb o _ _ hc e _=>k b o (λz=>hc (by simp [z])) e) (λb o _ _ hc e _=>⟨o.slots,k b o (λz=>hc (by simp [z])) e⟩) (λ_ _ _ _ n=>n)
  (λb o hc e=>⟨o,k b o (λz=>hc (by simp [z])) e⟩) (λ_ _ e=>e) (λ_ _ _ e=>e) (λb ps e=>⟨#[],by rw[e];simp⟩) (λm hm=>?_) (λb u e=>?_) I.bare
 .have e:b=it:=by simpa using hb
  subst e;exact⟨h1,hL,h2,h3⟩
 .obtain⟨o,es,ep,ho,r⟩:=hm
  exact⟨o,es,ep,k _ o (Ne.symm hL) ho,r⟩
 .refine(I.hok b u e).stay (λc v hc q=>k c v ?_ q) (λ_ q=>q) λ_ _ q=>q
  rcases hc with z|z
  .rw[z];exact nit b u e
  .exact nit c _ z
theorem Inv.tok(I:Inv X pins σ H s)(t:Nat):Inv X pins σ H { s with toks:=t }:=I.un (h':=s.heap) (t':=t) Un.refl I.hok
theorem Inv.kept{t':Nat}(I:Inv X pins σ H s)(k:∀b u,s.heap.get? b=some u->h'.get? b=some u):Inv X pins σ H { s with heap:=h',toks:=t' }:=I.un (Un.kept k) (I.hok.kept k)
theorem Inv.laid{a:Addr}{o:HO}{t':Nat}(I:Inv X pins σ H s)(k:∀b u,s.heap.get? b=some u->h'.get? b=some u)(hp:s.heap.objs.size<=a)(new:cW X.prog X.w (upd H a o) h' a o) :
  Inv X pins σ (upd H a o) { s with heap:=h',toks:=t' }:=I.un (Un.laid k hp (I.hok.fresh hp)) (I.hok.laid k hp new)
theorem Inv.write{x e:Addr}{o:HO}{t':Nat}(I:Inv X pins σ H s)(mu:Lc (H x))(he:e=x∨H e=some (.own x))(k:∀b u,b≠e->s.heap.get? b=some u->h'.get? b=some u)(heo:∃u,h'.get? e=some u)
  (new:cW X.prog X.w (upd H x o) h' x o):Inv X pins σ (upd H x o) { s with heap:=h',toks:=t' }:=I.un (Un.write mu he k heo) (I.hok.write mu he k heo new)
theorem Inv.pins_of{pins':List (Addr×Obj)}(I:Inv X pins σ H s)(h:∀p∈pins',s.heap.get? p.1=some p.2/\H p.1=none/\p.1≠X.env.locals/\p.1∉X.fs/\∀v,p.2.data≠.cell v):Inv X pins' σ H s :=
 ⟨I.ok,I.os,I.bare,I.base,I.loc,I.cell,I.free,I.freeC,λp hp=>(List.mem_append.mp hp).elim (λz=>I.pin p (List.mem_append_left _ z)) (h p),I.hok,I.len⟩
theorem v9{N:List Str}(hN:N.Nodup){i j:Nat}{x:Str}(a:N[i]?=some x)(b:N[j]?=some x):i=j:=by
 obtain⟨h1,e1⟩:=List.getElem?_eq_some_iff.mp a;obtain⟨h2,e2⟩:=List.getElem?_eq_some_iff.mp b;exact(List.getElem_inj hN).mp (e1.trans e2.symm)
theorem mU{M:Model}{A:Around}{E:Value->Shared->Prop}{i:Nat}{x:Str}{v:V}{u:Value}{Q:Unit->Shared->Prop}(I:Inv X pins σ H s)(hN:X.N.Nodup)(hi:X.N[i]?=some x)(hx:BR X.env.scope x)(r:bz v u)
  (h:∀s',Inv X pins (σ.set i (some v)) H s'->(∃a,Heap.SameBut a s.heap s'.heap/\(a=X.env.locals∨X.env.cells.lookup x=some a))->Q () s')(hf:X.fn x=true∨X.env.scope.names.lookup x=some .local := by first|exact .inl rfl|exact .inr rfl|assumption):wpAny M A (storeName X.env x u) Q E s:=by
 obtain⟨m,hn,hl⟩:=id I.loc;have hcls:(X.env.scope.kind==.class||(X.env.scope.kind==.module&&X.env.locals != X.env.globals))=false:=by rw[I.ok.kind];rfl
 have hiσ:i<σ.length:=by rw[I.len];exact(List.getElem?_eq_some_iff.mp hi).1
 have cne:=I.cne;have tracked:∀{a:Addr}{h':Heap},(∃o,s.heap.get? a=some o/\H a=none)->Heap.SameBut a s.heap h'->kI X.prog X.w H h':=λ{a h'} ha hs b ob e=>by
  obtain⟨_,_,hfree⟩:=ha;refine(I.hok b ob e).stay (λc w' hc q=>(hs.2 c ?_).trans q) (λ_ q=>q) λ_ _ q=>q;rintro rfl;rcases hc with rfl|hc
  .rw[hfree] at e;cases e
  .rw[hfree] at hc;cases hc
 rcases hx with hk|hk
 .refine wpAny_storeName_local hk hn (λh' hn' hs=>?_) hcls
  obtain⟨oL,_,_,hoL,_⟩:=id hn;refine h _ ⟨I.ok,I.os,I.bare,⟨λb o e n hb hx=>?_,λb o e n hb hx=>?_,I.base.free,λb o e hx=>?_,I.base.tups,I.base.frzs,I.base.tbls⟩,⟨_,hn',λj y v' e1 e2 e3=>?_⟩,λy c e=>?_,I.free,I.freeC,λp hp=>?_,tracked ⟨oL,hoL,I.free⟩ hs,by simpa using I.len⟩ ⟨_,hs,.inl rfl⟩
  .exact(hs.2 b (Nat.ne_of_lt (Nat.lt_of_lt_of_le (Heap.lt_size e) I.ok.above))).trans (I.base.keep b o e n hb hx)
  .obtain⟨sl,e1⟩:=I.base.slot b o e n hb hx
   exact⟨sl,(hs.2 b (Nat.ne_of_lt (Nat.lt_of_lt_of_le (Heap.lt_size e) I.ok.above))).trans e1⟩
  .obtain⟨o',e1⟩:=I.base.there b o e hx
   exact⟨o',(hs.2 b (Nat.ne_of_lt (Nat.lt_of_lt_of_le (Heap.lt_size e) I.ok.above))).trans e1⟩
  .by_cases hj:j=i
   .subst hj
    rw[hi] at e1;cases e1;rw[List.getElem?_set_self hiσ] at e2;cases e2;exact⟨u,r,.inl ⟨hk,by simp⟩⟩
   .rw[List.getElem?_set_ne (Ne.symm hj)] at e2
    obtain⟨u',r',q⟩:=hl j y v' e1 e2 e3;refine⟨u',r',?_⟩;rcases q with⟨k,e⟩|⟨k,c,e,z⟩
    .refine .inl ⟨k,?_⟩
     have:y≠x:=λe=>hj (v9 hN e1 (e▸hi));simp [this,e]
    .exact .inr ⟨k,c,e,z.sameBut hs (cne y c e)⟩
  .obtain⟨w',z⟩:=I.cell y c e
   exact⟨w',z.sameBut hs (cne y c e)⟩
  .obtain⟨e,n,ne,nf,d⟩:=I.pin p hp
   exact⟨(hs.2 p.1 ne).trans e,n,ne,nf,d⟩
 .have hfn:X.fn x=true:=by
   rcases hf with z|z
   .exact z
   .rw[z] at hk;cases hk
  obtain⟨c,hc⟩:=I.ok.has x (.inl hk);obtain⟨w',z⟩:=I.cell x c hc;refine wpAny_storeName_cell I.ok.kind hk hc z (λh' hc' hs=>?_);obtain⟨oc,hoc,hocd⟩:=id z;refine h { s with heap:=h' } ⟨I.ok,I.os,I.bare,⟨λb o e n hb hx=>?_,λb o e n hb hx=>?_,I.base.free,λb o e hx=>?_,I.base.tups,I.base.frzs,I.base.tbls⟩,⟨m,hn.sameBut hs (Ne.symm (cne x c hc)),λj y v' e1 e2 e3=>?_⟩,λy c' e=>?_,I.free,I.freeC,λp hp=>?_,tracked ⟨oc,hoc,I.freeC x c hc⟩ hs,by simpa using I.len⟩ ⟨c,hs,.inr hc⟩
  .exact(hs.2 b (Nat.ne_of_lt (Nat.lt_of_lt_of_le (Heap.lt_size e) (I.ok.cab x c hfn hc)))).trans (I.base.keep b o e n hb hx)
  .obtain⟨sl,e1⟩:=I.base.slot b o e n hb hx
   exact⟨sl,(hs.2 b (Nat.ne_of_lt (Nat.lt_of_lt_of_le (Heap.lt_size e) (I.ok.cab x c hfn hc)))).trans e1⟩
  .obtain⟨o',e1⟩:=I.base.there b o e hx
   exact⟨o',(hs.2 b (Nat.ne_of_lt (Nat.lt_of_lt_of_le (Heap.lt_size e) (I.ok.cab x c hfn hc)))).trans e1⟩
  .by_cases hj:j=i
   .subst hj
    rw[hi] at e1;cases e1;rw[List.getElem?_set_self hiσ] at e2;cases e2;exact⟨u,r,.inr ⟨.inl hk,c,hc,hc'⟩⟩
   .rw[List.getElem?_set_ne (Ne.symm hj)] at e2
    obtain⟨u',r',q⟩:=hl j y v' e1 e2 e3;refine⟨u',r',?_⟩;rcases q with q|⟨k,c',e,z'⟩
    .exact .inl q
    .refine .inr ⟨k,c',e,z'.sameBut hs ?_⟩
     rintro rfl;exact hj (v9 hN e1 (I.ok.inj _ _ _ e hc▸hi))
  .by_cases hcc:c'=c
   .subst hcc;exact⟨_,hc'⟩
   .obtain⟨w2,z2⟩:=I.cell y c' e
    exact⟨w2,z2.sameBut hs hcc⟩
  .obtain⟨e,n,ne,nf,d⟩:=I.pin p hp
   refine⟨(hs.2 p.1 ?_).trans e,n,ne,nf,d⟩;intro q;rw[q,hoc] at e;have q':oc=p.2:=Option.some.inj e;exact d w' (by rw[←q'];exact hocd)
theorem kN{M:Model}{A:Around}{E:Value->Shared->Prop}{i:Nat}{x:Str}{v:V}{u:Value}{Q:Unit->Shared->Prop}(I:Inv X pins σ H s)(hN:X.N.Nodup)(hi:X.N[i]?=some x)(hx:BR X.env.scope x)(r:bz v u)
  (h:∀s',Inv X pins (σ.set i (some v)) H s'->Q () s')(hf:X.fn x=true∨X.env.scope.names.lookup x=some .local := by first|exact .inl rfl|exact .inr rfl|assumption):wpAny M A (storeName X.env x u) Q E s :=
 mU I hN hi hx r (λs' I' _=>h s' I') hf
theorem Inv.call'{s':Shared}{ch:List Addr}(I:Inv X pins σ H s)(ho:s'.os=s.os)(u:Un (BQ X.stack) ch H H' s.heap s'.heap)(hok:kI X.prog X.w H' s'.heap)(hg:AllBare s'.gens)
  (hch:∀b∈ch,(b∈X.ex∨X.sf.heap.objs.size<=b)/\b≠X.env.locals/\(∀x c,X.env.cells.lookup x=some c->c≠b)/\∀p∈X.pn++pins,p.1≠b):Inv X pins σ H' s':=by
 obtain⟨h',g',d',t',o'⟩:=s';have e:o'=s.os:=ho;subst e;exact I.call (g':=g') (t':=t') (d':=d') u hok hg hch
end
noncomputable abbrev XK:=Value->Option Addr->Hp->Prop
noncomputable abbrev St:=List (Option V)
noncomputable abbrev VK:=V->Hp->Prop
noncomputable abbrev TE:=St->Hp->VK->Prop
noncomputable abbrev TT:=St->Hp->(Bool->Hp->Prop)->Prop
noncomputable abbrev TA:=St->Hp->(List V->Hp->Prop)->Prop
structure e7 where
 nx:St->Hp->Prop
 rt:VK
 bk:St->Hp->Prop:=λ_ _=>False
 ct:St->Hp->Prop:=λ_ _=>False
noncomputable abbrev TS:=e7->St->Hp->Prop
noncomputable def EP(X:Cx) (pins:List (Addr×Obj)) (σ:St) (Q:VK) (u:Value) (s':Shared):Prop:=∃v H',Inv X pins σ H' s'/\bz v u/\Q v H'
noncomputable def TP(X:Cx) (pins:List (Addr×Obj)) (σ:St) (Q:Bool->Hp->Prop) (b:Bool) (s':Shared):Prop:=∃H',Inv X pins σ H' s'/\Q b H'
noncomputable def AP(X:Cx) (pins:List (Addr×Obj)) (σ:St) (Q:List V->Hp->Prop) (us:List Value) (s':Shared):Prop:=∃vs H',Inv X pins σ H' s'/\bF vs us/\Q vs H'
noncomputable def SP(X:Cx) (pins:List (Addr×Obj)) (D:e7) (f:Flow) (s':Shared):Prop :=
 match f with
 |.next=>∃σ' H',Inv X pins σ' H' s'/\D.nx σ' H'
 |.brk=>∃σ' H',Inv X pins σ' H' s'/\D.bk σ' H'
 |.cont=>∃σ' H',Inv X pins σ' H' s'/\D.ct σ' H'
 |.ret u=>∃v σ' H',Inv X pins σ' H' s'/\bz v u/\D.rt v H'
noncomputable def PE(X:Cx) (e:Expr) (t:TE):Prop :=
 ∀(pins:List (Addr×Obj)) (s:Shared) (σ:St) (H:Hp) (Q:VK),Inv X pins σ H s->t σ H Q->wpAny (model X.prog X.w) X.A (eval e X.env) (EP X pins σ Q) X.xe s
noncomputable def PT(X:Cx) (e:Expr) (t:TT):Prop :=
 ∀(pins:List (Addr×Obj)) (s:Shared) (σ:St) (H:Hp) (Q:Bool->Hp->Prop),Inv X pins σ H s->t σ H Q->wpAny (model X.prog X.w) X.A (isTrue e X.env (eval e X.env)) (TP X pins σ Q) X.xe s
noncomputable def PW(X:Cx) (e:Expr) (t:TT):Prop :=
 ∀(whole:Sem Value) (pins:List (Addr×Obj)) (s:Shared) (σ:St) (H:Hp) (Q:Bool->Hp->Prop),Inv X pins σ H s->t σ H Q->wpAny (model X.prog X.w) X.A (isTrue e X.env whole) (TP X pins σ Q) X.xe s
theorem PW.pt{X:Cx}{e:Expr}{t:TT}(h:PW X e t):PT X e t:=h _
noncomputable def PA(X:Cx) (es:List Expr) (t:TA):Prop :=
 ∀(pos:Pos) (pins:List (Addr×Obj)) (s:Shared) (σ:St) (H:Hp) (Q:List V->Hp->Prop),Inv X pins σ H s->t σ H Q->wpAny (model X.prog X.w) X.A (spliced (backTo pos (starEach es X.env))) (AP X pins σ Q) X.xe s
noncomputable def PS(X:Cx) (st:Stmt) (t:TS):Prop :=
 ∀(pins:List (Addr×Obj)) (s:Shared) (σ:St) (H:Hp) (D:e7),Inv X pins σ H s->t D σ H->wpAny (model X.prog X.w) X.A (exec st X.env) (SP X pins D) X.xe s
noncomputable def vm(X:Cx) (st:List Stmt) (t:TS):Prop :=
 ∀(pins:List (Addr×Obj)) (s:Shared) (σ:St) (H:Hp) (D:e7),Inv X pins σ H s->t D σ H->wpAny (model X.prog X.w) X.A (execs st X.env) (SP X pins D) X.xe s
theorem cy{α:Type}{t:Sem α}{Q Q':α->Shared->Prop}{M:Model}{A:Around}{E:Value->Shared->Prop}{s:Shared}(h:wpAny M A t Q E s)(hQ:∀a s,Q a s->Q' a s):wpAny M A t Q' E s:=wpAny_mono h hQ λ_ _ x=>x
section
variable {X:Cx}
theorem Nt{a b:Expr}{ta tb:TE}(ha:PE X a ta)(hb:PE X b tb){pins:List (Addr×Obj)}{s:Shared}{σ:St}{H:Hp}{R:V->V->Hp->Prop}(I:Inv X pins σ H s)(h:ta σ H λx H1=>tb σ H1 λy H2=>R x y H2)
  {α:Type}{Q:α->Shared->Prop}{f:Value->Value->Sem α}
  (hf:∀v u s2 x y H2,Inv X pins σ H2 s2->bz x v->bz y u->R x y H2->wpAny (model X.prog X.w) X.A (f v u) Q X.xe s2) :
  wpAny (model X.prog X.w) X.A (eval a X.env) (λv sg=>wpAny (model X.prog X.w) X.A (eval b X.env) (λu si=>wpAny (model X.prog X.w) X.A (f v u) Q X.xe si) X.xe sg) X.xe s:=by
 refine cy (ha pins s σ H _ I h) λv s1 ⟨x,H1,I1,r1,q1⟩=>?_;refine cy (hb pins s1 σ H1 _ I1 q1) λu s2 ⟨y,H2,I2,r2,q2⟩=>?_;exact hf v u s2 x y H2 I2 r1 r2 q2
noncomputable def LA(i:Nat):TE:=λσ H Q=>∃v,σ[i]?=some (some v)/\Q v H
noncomputable def tC(v:V):TE:=λ_ H Q=>Q v H
theorem gX{i:Nat}{x:Str}{pos:Pos}(hN:X.N[i]?=some x)(hv:BO X.env.scope x)(hd:(x==("__debug__":Str))=false:=by decide)(hcd:(x==("__classdict__":Str))=false:=by decide):PE X (.Name x pos) (LA i):=by
 intro pins s σ H Q I h;obtain⟨v,e,h⟩:=h;obtain⟨m,hn,hl⟩:=I.loc;obtain⟨u,r,l⟩:=hl i x v hN e hv;have fin:EP X pins σ Q u s:=⟨v,H,I,r,h⟩
 rcases l with⟨hk,hm⟩|⟨hk,c,hc,hcell⟩
 .exact wpAny_Name (wpAny_loadName_local I.ok.kind hk hn hm fin) hd
 .rcases hk with hk|hk
  .exact wpAny_Name (wpAny_loadName_cell I.ok.kind hk hc hcell fin) hd
  .exact wpAny_Name (wpAny_loadName_free I.ok.kind hk hc hcell fin hcd) hd
theorem Ib{i j pos}:PE X (.Constant (.int i) j pos) (tC (.int i)):=λ_ _ _ H _ I h=>wpAny_Constant_int ⟨.int i,H,I.tok _,⟨_,rfl⟩,h⟩
theorem Kl{b j pos}:PE X (.Constant (.bool b) j pos) (tC (.bl b)):=λ_ _ _ H _ I h=>Constant_bool ⟨.bl b,H,I,rfl,h⟩
theorem Ia{j pos}:PE X (.Constant .none j pos) (tC .non):=λ_ _ _ H _ I h=>Constant_none ⟨.non,H,I,rfl,h⟩
theorem HY{x j pos}:PE X (.Constant (.str x) j pos) (tC (.str x)):=λ_ _ _ H _ I h=>Calls.Constant_str ⟨.str x,H,I.tok _,⟨_,rfl⟩,h⟩
noncomputable def Gl(X:Cx) (x:Str):Prop:=X.env.kindOf x=some .globalImplicit
theorem zI{E:Value->Shared->Prop}{pins:List (Addr×Obj)}{s:Shared}{σ:St}{H:Hp}{x:Str}{u:Value}{pos:Pos}{Q:Value->Shared->Prop}(I:Inv X pins σ H s)(hg:Gl X x)(hm:X.mg x=some u)(h:Q u s)
  (hd:(x==("__debug__":Str))=false:=by decide):wpAny (model X.prog X.w) X.A (eval (.Name x pos) X.env) Q E s :=
 Calls.Name_function_global I.ok.kind hg (Calls.loadGlobal_global (by rw[I.ok.glob];exact I.mod.glob.keeps I.bk) hm h) hd
theorem pS{E:Value->Shared->Prop}{pins:List (Addr×Obj)}{s:Shared}{σ:St}{H:Hp}{x:Str}{u:Value}{pos:Pos}{Q:Value->Shared->Prop}(I:Inv X pins σ H s)(hg:Gl X x)(hm:X.mg x=none)(hv:bootBuiltins x=some u)(h:Q u s)
  (hn:x≠"__name__":=by decide)(hd:(x==("__debug__":Str))=false:=by decide):wpAny (model X.prog X.w) X.A (eval (.Name x pos) X.env) Q E s:=by
 obtain⟨mb,h1,h2⟩:=I.mod.blt;exact Calls.Name_function_global I.ok.kind hg (Calls.loadGlobal_builtin (by rw[I.ok.glob];exact I.mod.glob.keeps I.bk) hm (by rw[I.ok.blt];exact h1.keeps I.bk) ((h2 x hn).trans hv) h) hd
theorem Fp{x:Str}{v:V}{u:Value}{pos:Pos}(hg:Gl X x)(hm:X.mg x=some u)(r:bz v u)(hd:(x==("__debug__":Str))=false:=by decide):PE X (.Name x pos) (tC v) :=
 λ_ _ _ H _ I h=>zI I hg hm ⟨v,H,I,r,h⟩ hd
theorem Ft{x:Str}{v:V}{u:Value}{pos:Pos}(hg:Gl X x)(hm:X.mg x=none)(hv:bootBuiltins x=some u)(r:bz v u)(hn:x≠"__name__":=by decide)(hd:(x==("__debug__":Str))=false:=by decide):PE X (.Name x pos) (tC v) :=
 λ_ _ _ H _ I h=>pS I hg hm hv ⟨v,H,I,r,h⟩ hn hd
variable {a b:Expr}{ta tb:TE}{pos:Pos}
noncomputable def PC(X:Cx) (op:CmpOp) (a b:Expr) (t:TE):Prop :=
 ∀(pins:List (Addr×Obj)) (s:Shared) (σ:St) (H:Hp) (Q:VK),Inv X pins σ H s->t σ H Q ->
  wpAny (model X.prog X.w) X.A (eval a X.env) (λv sg=>wpAny (model X.prog X.w) X.A (eval b X.env) (λu si=>wpAny (model X.prog X.w) X.A (compareOp op v u) (EP X pins σ Q) X.xe si) X.xe sg) X.xe s
theorem we(b:Expr){op:CmpOp}(h:op≠.In)(h2:op≠.NotIn):behindInMarks op b=false:=by
 have e1:(op==CmpOp.In)=false:=by cases op<;>first|rfl|exact absurd rfl h
 have e2:(op==CmpOp.NotIn)=false:=by cases op<;>first|rfl|exact absurd rfl h2
 cases b<;>simp [behindInMarks,e1,e2]
noncomputable def tB(t:TE):TT:=λσ H Q=>t σ H λx H1=>∃c,x=.bl c/\Q c H1
theorem L3{op:CmpOp}{t:TE}(h:PC X op a b t)(h1:behindInMarks op b=false:=by first|exact we _ (by decide) (by decide)|rfl):PT X (.Compare a [op] [b] pos) (tB t):=by
 intro pins s σ H Q I hw;refine wpAny_isTrue_Compare1 (cy (h pins s σ H _ I hw) λv s1 h1=>cy h1 λu s2 h2=>cy h2 λc s3 ⟨x,H1,I1,r1,q1⟩=>?_) h1;obtain⟨d,rfl,q⟩:=q1;cases r1;exact wpAny_truthy_bool ⟨H1,I1,q⟩
theorem CG{e:Expr}{t:TE}(h:PE X e t)(he:∀whole,isTrue e X.env whole=(do let v ←whole;standAt e.pos;holding [v] (truthy v)):=by intro _;rfl):PT X e (tB t):=by
 intro pins s σ H Q I hw;refine isTrue_plain (cy (h pins s σ H _ I hw) λv s1 ⟨x,H1,I1,r1,q1⟩=>?_) (he _);obtain⟨d,rfl,q⟩:=q1;cases r1;exact wpAny_truthy_bool ⟨H1,I1,q⟩
variable {tA tB':TT}{rest:List Expr}
noncomputable def LR(t u:TT):TT:=λσ H Q=>t σ H λc H1=>if c=true then u σ H1 Q else Q false H1
noncomputable def M7(t u:TT):TT:=λσ H Q=>t σ H λc H1=>if c=true then Q true H1 else u σ H1 Q
noncomputable def LI(t:TT):TT:=λσ H Q=>t σ H λc H1=>Q (!c) H1
theorem zh(ha:PT X a tA):PW X (.BoolOp .And [a] pos) tA:=by
 intro wh pins s σ H Q I h;refine isTrue_and (cy (ha pins s σ H Q I h) λc s1 e=>?_);cases c with|true=>exact isTrue_and_nil e|false=>exact e
theorem HP(ha:PT X a tA):PW X (.BoolOp .Or [a] pos) tA:=by
 intro wh pins s σ H Q I h;refine isTrue_or (cy (ha pins s σ H Q I h) λc s1 e=>?_);cases c with|false=>exact isTrue_or_nil e|true=>exact e
theorem Cz(ha:PT X a tA)(hb:PW X (.BoolOp .And (b::rest) pos) tB'):PW X (.BoolOp .And (a::b::rest) pos) (LR tA tB'):=by
 intro wh pins s σ H Q I h;refine isTrue_and (cy (ha pins s σ H _ I h) λc s1 ⟨H1,I1,q1⟩=>?_);cases c with|true=>exact hb wh pins s1 σ H1 Q I1 q1|false=>exact⟨H1,I1,q1⟩
theorem Kc(ha:PT X a tA)(hb:PW X (.BoolOp .Or (b::rest) pos) tB'):PW X (.BoolOp .Or (a::b::rest) pos) (M7 tA tB'):=by
 intro wh pins s σ H Q I h;refine isTrue_or (cy (ha pins s σ H _ I h) λc s1 ⟨H1,I1,q1⟩=>?_);cases c with|true=>exact⟨H1,I1,q1⟩|false=>exact hb wh pins s1 σ H1 Q I1 q1
theorem CH(ha:PT X a tA):PT X (.UnaryOp .Not a pos) (LI tA):=by
 intro pins s σ H Q I h;exact isTrue_not (ha pins s σ H (λc H1=>Q (!c) H1) I h)
noncomputable def JW(ta tb:TE):TE:=λσ H Q=>ta σ H λx H1=>∃c,x=.bl c/\if c=true then tb σ H1 Q else Q (.bl false) H1
noncomputable def LH(ta tb:TE):TE:=λσ H Q=>ta σ H λx H1=>∃c,x=.bl c/\if c=true then Q (.bl true) H1 else tb σ H1 Q
noncomputable def JP(ta:TE):TE:=λσ H Q=>ta σ H λx H1=>∃c,x=.bl c/\Q (.bl (!c)) H1
theorem HZ{op}{t:TE}(h:PE X a t):PE X (.BoolOp op [a] pos) t:=λpins s σ H Q I hw=>BoolOp_one (h pins s σ H Q I hw)
theorem Ie(ha:PE X a ta)(hb:PE X (.BoolOp .And (b::rest) pos) tb):PE X (.BoolOp .And (a::b::rest) pos) (JW ta tb):=by
 intro pins s σ H Q I h;refine BoolOp_and (cy (ha pins s σ H _ I h) λv s1 ⟨x,H1,I1,r1,q1⟩=>?_);obtain⟨c,rfl,q1⟩:=q1;cases r1;refine wpAny_truthy_bool ?_;cases c with|true=>exact hb pins s1 σ H1 Q I1 q1|false=>exact⟨.bl false,H1,I1,rfl,q1⟩
theorem Kk(ha:PE X a ta)(hb:PE X (.BoolOp .Or (b::rest) pos) tb):PE X (.BoolOp .Or (a::b::rest) pos) (LH ta tb):=by
 intro pins s σ H Q I h;refine BoolOp_or (cy (ha pins s σ H _ I h) λv s1 ⟨x,H1,I1,r1,q1⟩=>?_);obtain⟨c,rfl,q1⟩:=q1;cases r1;refine wpAny_truthy_bool ?_;cases c with|false=>exact hb pins s1 σ H1 Q I1 q1|true=>exact⟨.bl true,H1,I1,rfl,q1⟩
theorem H0(ha:PE X a ta):PE X (.UnaryOp .Not a pos) (JP ta):=by
 intro pins s σ H Q I h;refine UnaryOp_ (cy (ha pins s σ H _ I h) λv s1 ⟨x,H1,I1,r1,q1⟩=>?_);obtain⟨c,rfl,q1⟩:=q1;cases r1;exact not_of (wpAny_truthy_bool ⟨.bl (!c),H1,I1,rfl,q1⟩)
noncomputable def M9(t:TT) (ta tb:TE):TE:=λσ H Q=>t σ H λc H1=>if c=true then ta σ H1 Q else tb σ H1 Q
theorem CT{c:Expr}(hc:PT X c tA)(ha:PE X a ta)(hb:PE X b tb):PE X (.IfExp c a b pos) (M9 tA ta tb):=by
 intro pins s σ H Q I h;refine wpAny_IfExp (cy (hc pins s σ H _ I h) λd s1 ⟨H1,I1,q1⟩=>?_);cases d with|true=>exact ha pins s1 σ H1 Q I1 q1|false=>exact hb pins s1 σ H1 Q I1 q1
end
noncomputable def eZ(K:W.Frag) (H:Hp) (a:Addr) (xs:List V):Prop :=
 Rd H a (.lst xs) ∨
  ∃(o:Obj) (its:Array Value) (n:Nat),K.lookup a=some o/\o.cls=.type "list"/\o.dict=none/\o.data=.seq its n/\its.size<=sizeLine/\bF xs its.toList
noncomputable def jO(K:W.Frag) (H:Hp) (a:Addr) (xs:List V):Prop :=
 Rd H a (.tup xs) ∨
  ∃(o:Obj) (its:Array Value) (n:Nat),K.lookup a=some o/\o.cls=.type "tuple"/\o.data=.seq its n/\its.size<=sizeLine/\bF xs its.toList
noncomputable def Mo:Value->Option V
 |.none=>some .non
 |.bool b=>some (.bl b)
 |.int i _=>some (.int i)
 |.str x _=>some (.str x)
 |.bytes b _=>some (.byt b)
 |.float b _=>some (.flt b)
 |.ref a=>some (.ref a)
 |.type n=>some (.ty n)
 |_=>none
theorem bz.abs{x:V}{u:Value}(r:bz x u):Mo u=some x:=by
 cases x with|non|bl _=>cases r;rfl|int _|str _|byt _|flt _=>obtain⟨t,rfl⟩:=r;rfl|ref _|ty _=>cases r;rfl
theorem bz.inj{x y:V}{u:Value}(r:bz x u)(q:bz y u):x=y:=Option.some.inj (r.abs.symm.trans q.abs)
theorem bF.inj:∀{xs ys:List V}{us:List Value},bF xs us->bF ys us->xs=ys
 |_,_,_,.nil,.nil=>rfl
 |_,_,_,.cons r t,.cons r' t'=>by rw[r.inj r',bF.inj t t']
section
variable {X:Cx}{pins:List (Addr×Obj)}{σ:St}{H:Hp}{s:Shared}{a:Addr}{xs ys:List V}
theorem eZ.of{K:W.Frag}(h:H a=some (.lst xs)):eZ K H a xs:=.inl (.inl h)
theorem jO.of{K:W.Frag}(h:H a=some (.tup xs)):jO K H a xs:=.inl (.inl h)
theorem Inv.list(I:Inv X pins σ H s)(h:eZ X.K H a xs):∃its:List Value,bF xs its/\PlainL s.heap a its.toArray/\xs.length<=sizeLine:=by
 rcases h with h|⟨o,its,n,hk,hc,hd,hs,hz,r⟩
 .obtain⟨z,its,n,r,e⟩:=h.ok I.hok
  exact⟨its,r,⟨_,n,e,rfl,rfl,rfl⟩,z⟩
 .refine⟨its.toList,r,⟨o,n,I.kIn a o hk,hc,hd,by simpa using hs⟩,?_⟩
  have e:=r.length;simp only[Array.length_toList] at e;omega
theorem Inv.tuple(I:Inv X pins σ H s)(h:jO X.K H a xs):∃its:List Value,bF xs its/\IsTup s.heap a its.toArray/\xs.length<=sizeLine:=by
 rcases h with h|⟨o,its,n,hk,hc,hs,hz,r⟩
 .obtain⟨z,its,r,p⟩:=h.ok I.hok
  exact⟨its,r,p,z⟩
 .refine⟨its.toList,r,⟨o,I.kIn a o hk,hc,n,by simpa using hs⟩,?_⟩
  have e:=r.length;simp only[Array.length_toList] at e;omega
theorem Inv.list_inj(I:Inv X pins σ H s)(h:eZ X.K H a xs)(h':eZ X.K H a ys):xs=ys:=by
 obtain⟨its,r,⟨o,n,e,_,_,d⟩,_⟩:=I.list h;obtain⟨its',r',⟨o',n',e',_,_,d'⟩,_⟩:=I.list h';rw[e] at e';cases e';rw[d] at d';injection d' with d1 _;have:its=its':=by simpa using congrArg Array.toList d1
 subst this;exact r.inj r'
theorem Inv.tuple_inj(I:Inv X pins σ H s)(h:jO X.K H a xs)(h':jO X.K H a ys):xs=ys:=by
 obtain⟨its,r,⟨o,e,_,n,d⟩,_⟩:=I.tuple h;obtain⟨its',r',⟨o',e',_,n',d'⟩,_⟩:=I.tuple h';rw[e] at e';cases e';rw[d] at d';injection d' with d1 _;have:its=its':=by simpa using congrArg Array.toList d1
 subst this;exact r.inj r'
end
noncomputable abbrev Cx.wish(X:Cx) (E:Value->Shared->Prop):Cx:={ X with xe:=E }
noncomputable abbrev Cx.nox(X:Cx):Cx:=X.wish λ_ _=>False
theorem Cx.Ok.wish{X:Cx}(ok:X.Ok)(E:Value->Shared->Prop):(X.wish E).Ok :=
 ⟨ok.mod,ok.kind,ok.glob,ok.blt,ok.above,ok.inj,ok.has,ok.cab,ok.hd,ok.frames,ok.stk,ok.exf,ok.bs,ok.bsz,ok.noex,ok.exfs,ok.funs,ok.frf⟩
theorem Cx.Ok.unwish{X:Cx}{E:Value->Shared->Prop}(ok:(X.wish E).Ok):X.Ok :=
 ⟨ok.mod,ok.kind,ok.glob,ok.blt,ok.above,ok.inj,ok.has,ok.cab,ok.hd,ok.frames,ok.stk,ok.exf,ok.bs,ok.bsz,ok.noex,ok.exfs,ok.funs,ok.frf⟩
section
variable {X:Cx}{pins:List (Addr×Obj)}{σ:St}{H:Hp}{s:Shared}{E:Value->Shared->Prop}
theorem Inv.wish(I:Inv X pins σ H s)(E:Value->Shared->Prop):Inv (X.wish E) pins σ H s:=⟨I.ok.wish E,I.os,I.bare,I.base,I.loc,I.cell,I.free,I.freeC,I.pin,I.hok,I.len⟩
theorem Inv.unwish(I:Inv (X.wish E) pins σ H s):Inv X pins σ H s:=⟨I.ok.unwish,I.os,I.bare,I.base,I.loc,I.cell,I.free,I.freeC,I.pin,I.hok,I.len⟩
theorem SP.unwish{D:e7}{f:Flow}{s':Shared}(h:SP (X.wish E) pins D f s'):SP X pins D f s':=by
 cases f with|next|brk|cont=>obtain⟨σ',H',I,q⟩:=h;exact⟨σ',H',I.unwish,q⟩|ret u=>obtain⟨v,σ',H',I,r,q⟩:=h;exact⟨v,σ',H',I.unwish,r,q⟩
theorem vm.nox{st:List Stmt}{t:TS}(h:vm X.nox st t):vm X st t:=λpins s σ H D I hw =>
 wpAny_mono (h pins s σ H D (I.wish _) hw) (λ_ _ q=>q.unwish) λ_ _ z=>False.elim z
end
section
variable {X:Cx}{st:Stmt}{rest:List Stmt}{t u:TS}{e:Expr}{te:TE}{pos:Pos}
noncomputable def JQ:TS:=λD σ H=>D.nx σ H
noncomputable def LD(t u:TS):TS:=λD σ H=>t { D with nx:=u D } σ H
theorem uy:vm X [] JQ:=λ_ _ σ H _ I h=>wpAny_execs_nil ⟨σ,H,I,h⟩
theorem iN(h1:PS X st t)(h2:vm X rest u):vm X (st::rest) (LD t u):=by
 intro pins s σ H D I h;refine wpAny_execs_cons (cy (h1 pins s σ H { D with nx:=u D } I h) λf s1 q=>?_);cases f with
 |next =>
  obtain⟨σ',H',I',q⟩:=q;exact h2 pins s1 σ' H' D I' q
 |ret v|brk|cont=>exact q
theorem Inv.quiet{pins:List (Addr×Obj)}{σ:St}{H:Hp}{s:Shared}(I:Inv X pins σ H s):interactive X.env=false:=by simp [interactive,I.ok.kind]
noncomputable def JR(te:TE):TS:=λD σ H=>te σ H λ_ H1=>D.nx σ H1
theorem uB(he:PE X e te)(hs:swapsWith e none pos.line X.env=pure false:=by rfl):PS X (.Expr e pos) (JR te):=by
 intro pins s σ H D I h;exact wpAny_Expr_any (cy (he pins s σ H _ I h) λv s1 ⟨x,H1,I1,r1,q1⟩=>⟨σ,H1,I1,q1⟩) I.quiet hs
noncomputable def LF(te:TE):TS:=λD σ H=>te σ H D.rt
theorem uz(he:PE X e te):PS X (.Return (some e) pos) (LF te):=by
 intro pins s σ H D I h;exact wpAny_Return_some (cy (he pins s σ H _ I h) λv s1 ⟨x,H1,I1,r1,q1⟩=>⟨x,σ,H1,I1,r1,q1⟩)
noncomputable def LM(c:TT) (t u:TS):TS:=λD σ H=>c σ H λb H1=>if b=true then t D σ H1 else u D σ H1
theorem GK{c:Expr}{a b:List Stmt}{tc:TT}(hc:PT X c tc)(ha:vm X a t)(hb:vm X b u):PS X (.If c a b pos) (LM tc t u):=by
 intro pins s σ H D I h;refine wpAny_If (cy (hc pins s σ H _ I h) λd s1 ⟨H1,I1,q1⟩=>?_);cases d with|true=>exact ha pins s1 σ H1 D I1 q1|false=>exact hb pins s1 σ H1 D I1 q1
noncomputable def Hz:TS:=λ_ _ _=>False
theorem CK:PS X st Hz:=λ_ _ _ _ _ _ h=>h.elim
end
noncomputable abbrev TG:=V->St->Hp->(St->Hp->Prop)->Prop
noncomputable abbrev EA:=List V->St->Hp->(St->Hp->Prop)->Prop
noncomputable def PG(X:Cx) (target:Expr) (t:TG):Prop :=
 ∀(pins:List (Addr×Obj)) (s:Shared) (σ:St) (H:Hp) (v:V) (u:Value) (Q:St->Hp->Prop),Inv X pins σ H s->bz v u->t v σ H Q ->
  wpAny (model X.prog X.w) X.A (assign target X.env u) (λ_ s'=>∃σ' H',Inv X pins σ' H' s'/\Q σ' H') X.xe s
noncomputable def BP(X:Cx) (ts:List Expr) (t:EA):Prop :=
 ∀(pins:List (Addr×Obj)) (s:Shared) (σ:St) (H:Hp) (vs:List V) (us:List Value) (Q:St->Hp->Prop),Inv X pins σ H s->bF vs us->t vs σ H Q ->
  wpAny (model X.prog X.w) X.A (assignInOrder ((assignEach ts X.env).map (·.2)) us) (λ_ s'=>∃σ' H',Inv X pins σ' H' s'/\Q σ' H') X.xe s
noncomputable abbrev Jr:=V->V->V->Hp->(Hp->Prop)->Prop
noncomputable def La(X:Cx) (t:Jr):Prop :=
 ∀(pins:List (Addr×Obj)) (s:Shared) (σ:St) (H:Hp) (o i v:V) (ov iv u:Value) (Q:Hp->Prop),Inv X pins σ H s->bz o ov->bz i iv->bz v u->t o i v H Q ->
  wpAny (model X.prog X.w) X.A (setItem ov iv u) (λ_ s'=>∃H',Inv X pins σ H' s'/\Q H') X.xe s
section
variable {X:Cx}{pos:Pos}
noncomputable def zV(i:Nat):TG:=λv σ H Q=>Q (σ.set i (some v)) H
theorem zp{i:Nat}{x:Str}(hN:X.N.Nodup)(hi:X.N[i]?=some x)(hx:BR X.env.scope x)(hf:X.fn x=true∨X.env.scope.names.lookup x=some .local := by first|exact .inl rfl|exact .inr rfl|assumption):PG X (.Name x pos) (zV i):=by
 intro pins s σ H v u Q I r h;exact wpAny_assign_Name (kN I hN hi hx r (λs' I'=>⟨_,H,I',h⟩) hf)
noncomputable def Me:EA:=λvs σ H Q=>vs=[]/\Q σ H
noncomputable def KN(t:TG) (u:EA):EA:=λvs σ H Q=>∃v r,vs=v::r/\t v σ H λσ' H'=>u r σ' H' Q
theorem Fn:BP X [] Me:=by
 intro pins s σ H vs us Q I r h;obtain⟨e,h⟩:=h;subst e;cases r;exact assignInOrder_nil ⟨σ,H,I,h⟩
theorem CO{e:Expr}{es:List Expr}{t:TG}{u:EA}(h1:PG X e t)(h2:BP X es u)
  (hs:(assignEach (e::es) X.env).map (·.2)=assign e X.env::(assignEach es X.env).map (·.2):=by rfl):BP X (e::es) (KN t u):=by
 intro pins s σ H vs us Q I r h;obtain⟨v,vr,e1,h⟩:=h;subst e1;cases r with
 |cons r rr =>
  rw[hs];refine assignInOrder_cons (cy (h1 pins s σ H _ _ _ I r h) λ_ s1 ⟨σ1,H1,I1,q1⟩=>?_);exact h2 pins s1 σ1 H1 _ _ Q I1 rr q1
noncomputable def Mc(K:W.Frag) (n:Nat) (t:EA):TG:=λv σ H Q=>∃a xs,v=.ref a/\jO K H a xs/\xs.length=n/\t xs σ H Q
theorem HV{es:List Expr}{k:Nat}{t:EA}{n:Nat}(hc:X.calm=true)(h:BP X es t)
  (hn:(assignEach es X.env).length=n:=by rfl)(hst:(assignEach es X.env).findIdx? (·.1)=none:=by rfl):PG X (.Tuple es k pos) (Mc X.K n t):=by
 intro pins s σ H v u Q I r hw;obtain⟨a,xs,e1,hq,hl,hw⟩:=hw;subst e1;cases r;obtain⟨its,rv,ht,hz⟩:=I.tuple hq;refine assign_Tuple_tuple (I.ok.hd hc) ht (by simp [hn,←hl,rv.length]) hst λh' hx=>?_;have I1:Inv X pins σ H { s with heap:=h' }:=I.kept (t':=s.toks) λb o e=>hx b o (Nat.ne_of_lt (Heap.lt_size e)) e;exact h pins _ σ H xs _ Q I1 (by simpa using rv) hw
noncomputable def Md(to ti:TE) (t:Jr):TG:=λv σ H Q=>to σ H λo H1=>ti σ H1 λi H2=>t o i v H2 λH3=>Q σ H3
theorem CP{o i:Expr}{to ti:TE}{t:Jr}(ho:PE X o to)(hi:PE X i ti)(hs:La X t)
  (ha:∀v,assign (.Subscript o i pos) X.env v=(do
   let ov ←holding [v] (eval o X.env)
   let iv ←holding [v,ov] (eval i X.env)
   standAt pos
   holding [v,ov,iv] (setItem ov iv v)
   release [v,ov,iv] []):=by intro _;rfl):PG X (.Subscript o i pos) (Md to ti t):=by
 intro pins s σ H v u Q I r h;rw[ha];refine wpAny_bind (wpAny_holding (cy (ho pins s σ H _ I h) λov s1 ⟨x,H1,I1,r1,q1⟩=>?_));refine wpAny_bind (wpAny_holding (cy (hi pins s1 σ H1 _ I1 q1) λiv s2 ⟨y,H2,I2,r2,q2⟩=>?_));refine wpAny_bind (wpAny_standAt (wpAny_bind (wpAny_holding (cy (hs pins s2 σ H2 x y v ov iv u _ I2 r1 r2 r q2) λ_ s3 ⟨H3,I3,q3⟩=>?_))));exact wpAny_release ⟨σ,H3,I3,q3⟩
noncomputable def E2(te:TE) (g:TG):TS:=λD σ H=>te σ H λx H1=>g x σ H1 D.nx
theorem yd{tg e:Expr}{te:TE}{g:TG}(he:PE X e te)(hg:PG X tg g)(hs:swapsWithSole [tg] e pos.line X.env=pure false:=by rfl)(hw:swappedStores [tg] e X.env=pure none:=by rfl)
  (h1:(assignEach [tg] X.env).map (·.2)=[assign tg X.env]:=by rfl):PS X (.Assign [tg] e pos) (E2 te g):=by
 intro pins s σ H D I h;refine wpAny_Assign_stores (cy (he pins s σ H _ I h) λv s1 ⟨x,H1,I1,r1,q1⟩=>?_) hs hw;rw[h1];exact cy (hg pins s1 σ H1 x v _ I1 r1 q1) λ_ s2 q=>q
theorem mY{i:Nat}{x:Str}{e:Expr}{te:TE}{pos':Pos}(hN:X.N.Nodup)(hi:X.N[i]?=some x)(hx:BR X.env.scope x)(he:PE X e te)(hs:swapsWith e (some (.Name x pos')) pos.line X.env=pure false:=by rfl)(hf:X.fn x=true∨X.env.scope.names.lookup x=some .local := by first|exact .inl rfl|exact .inr rfl|assumption) :
  PS X (.Assign [.Name x pos'] e pos) (E2 te (zV i)):=by
 intro pins s σ H D I h;refine wpAny_Assign_Name (cy (he pins s σ H _ I h) λv s1 ⟨y,H1,I1,r1,q1⟩=>?_) hs;exact kN I1 hN hi hx r1 (λs2 I2=>⟨_,H1,I2,q1⟩) hf
noncomputable def LG(i j:Nat) (ta:TA):TS:=λD σ H=>ta σ H λvs H1=>∃v w,vs=[v,w]/\D.nx ((σ.set i (some v)).set j (some w)) H1
theorem HQ{i j:Nat}{x y:Str}{a b:Expr}{ta:TA}{px py pt:Pos}{kt k2 pt2}(hc:X.calm=true)(hN:X.N.Nodup)(hi:X.N[i]?=some x)(hj:X.N[j]?=some y)(hij:i≠j)
  (hx:X.env.scope.names.lookup x=some .local)(hy:X.env.scope.names.lookup y=some .local)(ha:PA X [a,b] ta)
  (hw:swappedStores [.Tuple [.Name x px,.Name y py] kt pt] (.Tuple [a,b] k2 pt2) X.env=pure (some [x,y]))
  (hs:swapsWithSole [.Tuple [.Name x px,.Name y py] kt pt] (.Tuple [a,b] k2 pt2) pos.line X.env=pure false:=by rfl) :
  PS X (.Assign [.Tuple [.Name x px,.Name y py] kt pt] (.Tuple [a,b] k2 pt2) pos) (LG i j ta):=by
 intro pins s σ H D I h;rw[exec_Assign_arm];refine wpAny_bind (wpAny_standAt ?_);rw[hs];refine wpAny_bind (wpAny_pure ?_);rw[if_neg (by decide)];refine wpAny_bind (Tuple_ (cy (ha _ pins s σ H _ I h) λus s1 ⟨vs,H1,I1,r1,q1⟩=>?_));obtain⟨v,w,e1,q1⟩:=q1;subst e1;obtain⟨u1,u2,rfl,rv,rw'⟩:∃u1 u2,us=[u1,u2]/\bz v u1/\bz w u2:=by
  cases r1 with
  |cons p q =>
   cases q with
   |cons p' q' =>
    cases q';exact⟨_,_,rfl,p,p'⟩
 refine wpAny_newObj_type ?_ (by show 2<=sizeLine;decide);have I2:Inv X pins σ H1 { s1 with heap:=s1.heap.push { cls:=.type "tuple",data:=.seq [u1,u2].toArray } }:=I1.kept (t':=s1.toks) λb o e=>Heap.get?_push_of_some _ e;rw[hw];refine wpAny_bind (wpAny_pure ?_);show wpAny (model X.prog X.w) X.A (do rule "assign.swapped-stores";let items ←unpackItems (.ref s1.heap.objs.size) 2 none;assignInOrder [λv=>bindName X.env y v,λv=>bindName X.env x v] items.reverse;pure Flow.next) _ _ _;refine wpAny_bind (wpAny_rule (wpAny_bind (unpackItems_tuple (items:=#[u1,u2]) (I.ok.hd hc) (IsTup.new s1.heap _) λh' hx'=>?_)));have I3:=I2.kept (h':=h') (t':=s1.toks) λb o e=>hx' b o (Nat.ne_of_lt (Heap.lt_size e)) e;show wpAny _ _ (assignInOrder [λv=>bindName X.env y v,λv=>bindName X.env x v] [u2,u1] >>= λ_=>pure Flow.next) _ _ _;refine wpAny_bind (assignInOrder_cons (wpAny_bindName (kN I3 hN hj (.inl hy) rw' (λs2 I4=>?_) (.inr hy))));refine assignInOrder_cons (wpAny_bindName (kN I4 hN hi (.inl hx) rv (λs3 I5=>assignInOrder_nil (wpAny_pure ?_)) (.inr hx)));rw[List.set_comm _ _ (Ne.symm hij)] at I5;exact⟨_,H1,I5,q1⟩
end
section
variable {X:Cx}{pos:Pos}
noncomputable def Hy(c:TT) (tb:TS):TS:=λD σ H=>∃W:Nat->St->Hp->Prop,(∃m,W m σ H)/\∀m σ H,W m σ H ->
 c σ H λb H1=>if b=true then ∃N:St->Hp->Prop,(∀σ' H',N σ' H'->∃m',m' < m/\W m' σ' H')/\tb { D with nx:=N,ct:=N,bk:=D.nx } σ H1 else D.nx σ H1
theorem CJ{c:Expr}{body:List Stmt}{tc:TT}{tb:TS}(hp:PassesOwn (model X.prog X.w) X.A X.env X.xe)(hc:PT X c tc)(hb:vm X body tb):PS X (.While c body [] pos) (Hy tc tb):=by
 intro pins s σ H D I h;obtain⟨W,⟨m0,w0⟩,turn⟩:=h;refine wpAny_While (codeAny_whileLoop (λn s'=>∃σ' H',Inv X pins σ' H' s'/\W n σ' H') ?_ m0 ⟨σ,H,I,w0⟩);rintro n s1 ⟨σ1,H1,I1,w1⟩;refine wpAny_passesOwn hp (cy (hc pins s1 σ1 H1 _ I1 (turn n σ1 H1 w1)) λb s2 ⟨H2,I2,q2⟩=>?_);cases b with
 |true =>
  obtain⟨N,hN,q2⟩:=q2;rw[if_pos rfl];refine wpAny_passesOwn hp (cy (hb pins s2 σ1 H2 _ I2 q2) λf s3 q3=>?_);cases f with
  |next =>
   obtain⟨σ3,H3,I3,n3⟩:=q3;obtain⟨m',hm,w3⟩:=hN σ3 H3 n3;exact⟨m',hm,σ3,H3,I3,w3⟩
  |cont =>
   obtain⟨σ3,H3,I3,n3⟩:=q3;obtain⟨m',hm,w3⟩:=hN σ3 H3 n3;exact⟨m',hm,σ3,H3,I3,w3⟩
  |brk|ret v=>exact q3
 |false =>
  rw[if_neg Bool.false_ne_true];exact wpAny_execs_nil ⟨σ1,H2,I2,q2⟩
end
structure It where
 go:Nat->Hp->Prop
 yld:Nat->Hp->V->Hp->Prop
 stop:Nat->Hp->Prop
noncomputable def mL(X:Cx) (pins:List (Addr×Obj)) (H:Hp) (b:Addr):Prop :=
 H b=none/\b≠X.env.locals/\b∉X.fs/\(b∈X.ex∨X.sf.heap.objs.size<=b)/\(∀x c,X.env.cells.lookup x=some c->c≠b)/\∀p∈X.pn++pins,p.1≠b
theorem Inv.fpOk{X:Cx}{pins:List (Addr×Obj)}{σ:St}{H H':Hp}{s:Shared}{b:Addr}(I:Inv X pins σ H s)(hb:s.heap.objs.size<=b)(hn:H' b=none):mL X pins H' b:=by
 refine⟨hn,Nat.ne_of_gt (Nat.lt_of_lt_of_le I.lt hb),I.nofs hb,.inr (Nat.le_trans I.sz hb),λx c e z=>?_,λp hp z=>?_⟩
 .obtain⟨v,q⟩:=I.cell x c e
  exact absurd (Nat.lt_of_lt_of_le q.lt (by rw[z];exact hb)) (Nat.lt_irrefl _)
 .exact absurd (Nat.lt_of_lt_of_le (Heap.lt_size (I.pin p hp).1) (by rw[z];exact hb)) (Nat.lt_irrefl _)
structure yV (P:Program) (w:World) (K:W.Frag) (tg:Expr) (J:It) (fp:List Addr) (it:Addr) (tn:Nat->Heap->Prop):Prop where
 mem:it∈fp
 obj:∀i h,tn i h->∀b∈fp,∃o,h.get? b=some o/\∀v,o.data≠.cell v
 keep:∀i h h',tn i h->(∀b∈fp,∀o,h.get? b=some o->h'.get? b=some o)->tn i h'
 item:∀(X:Cx),X.prog=P->X.w=w->X.K=K->X.calm=true->∀(i:Nat) (pins:List (Addr×Obj)) (s:Shared) (σ:St) (H:Hp) (E:Value->Shared->Prop),Inv X pins σ H s->(∀b∈fp,mL X pins H b)->tn i s.heap->J.go i H ->
  wpAny (model P w) X.A (pyNext (.ref it)) (λr s1=>∃u,r=some u /\
   wpAny (model P w) X.A (letOwnedTupleGo tg (.ref it) u) (λ_ s2=>∃x H',Inv X pins σ H' s2/\bz x u/\J.yld i H x H'/\tn (i+1) s2.heap/\∀b∈fp,H' b=none) E s1) E s
 done:∀(X:Cx),X.prog=P->X.w=w->X.K=K->X.calm=true->∀(i:Nat) (pins:List (Addr×Obj)) (s:Shared) (σ:St) (H:Hp) (E:Value->Shared->Prop),Inv X pins σ H s->(∀b∈fp,mL X pins H b)->tn i s.heap->J.stop i H ->
  wpAny (model P w) X.A (pyNext (.ref it)) (λr s1=>r=none/\Inv X pins σ H s1) E s
 self:∀(A:Around) (i:Nat) (s:Shared) (Q:Value->Shared->Prop) (E:Value->Shared->Prop),tn i s.heap->Q (.ref it) s->wpAny (model P w) A (pyIter (.ref it)) Q E s
noncomputable abbrev TI:=St->Hp->(It->Hp->Prop)->Prop
noncomputable def Mt(X:Cx) (pins:List (Addr×Obj)) (σ:St) (tg:Expr) (R:It->Hp->Prop) (itv:Value) (s2:Shared):Prop :=
 ∃(it:Addr) (fp:List Addr) (tn:Nat->Heap->Prop) (J:It) (H':Hp),itv=.ref it/\Inv X pins σ H' s2/\yV X.prog X.w X.K tg J fp it tn/\tn 0 s2.heap/\(∀b∈fp,mL X pins H' b)/\R J H'
noncomputable def PI(X:Cx) (tg iter:Expr) (wi:TI):Prop :=
 ∀(pins:List (Addr×Obj)) (s:Shared) (σ:St) (H:Hp) (R:It->Hp->Prop),Inv X pins σ H s->wi σ H R ->
  wpAny (model X.prog X.w) X.A (eval iter X.env) (λv s1=>wpAny (model X.prog X.w) X.A (pyIter v) (Mt X pins σ tg R) X.xe s1) X.xe s
theorem wH{M:Model}{A:Around}{E:Value->Shared->Prop}{s:Shared}{tg:Expr}{it:Addr}{u:Value}{o:Obj}{n:String}{vs:Array Value}{Q:Unit->Shared->Prop}(ho:s.heap.get? it=some o)(hc:o.cls=.type n)(hd:o.data=.fields vs)
  (hn:["enumerate","zip","dict_itemiterator","dict_reverseitemiterator","odict_iterator","itertools.zip_longest","itertools.pairwise"].contains n=false)(hQ:Q () s):wpAny M A (letOwnedTupleGo tg (.ref it) u) Q E s:=by
 unfold letOwnedTupleGo;cases tg<;>first
  |exact wpAny_pure hQ
  |(cases u<;>first
    |exact wpAny_pure hQ
    |(refine wpAny_bind (wpAny_load ho ?_);rw[hc,hd];show wpAny M A (if(["enumerate","zip","dict_itemiterator","dict_reverseitemiterator","odict_iterator","itertools.zip_longest","itertools.pairwise"].contains n&&vs[0]?==some (rawInt _))=true then _ else _) Q E s;rw[if_neg (by intro h;rw[hn,Bool.false_and] at h;cases h)];exact wpAny_pure hQ))
noncomputable def Lg(K:W.Frag) (a:Addr):It :=
 ⟨λi H=>∃xs x,eZ K H a xs/\xs[i]?=some x,λi H x H'=>H'=H/\∀xs,eZ K H a xs->xs[i]?=some x,λi H=>∃xs,eZ K H a xs/\xs.length<=i⟩
noncomputable def MZ(K:W.Frag) (a:Addr):It :=
 ⟨λi H=>∃xs x,jO K H a xs/\xs[i]?=some x,λi H x H'=>H'=H/\∀xs,jO K H a xs->xs[i]?=some x,λi H=>∃xs,jO K H a xs/\xs.length<=i⟩
noncomputable def Jx(lo:Int) (n:Nat):It:=⟨λi _=>i<n,λi H x H'=>H'=H/\x=.int (lo+i),λi _=>n<=i⟩
theorem AS{P:Program}{w:World}{K:W.Frag}{tg:Expr}(a it:Addr):yV P w K tg (Lg K a) [it] it (λi h=>h.IsListIter it a i) where
 mem:=by simp
 obj:=λi h st b hb=>by
  have e:b=it:=by simpa using hb
  subst e;obtain⟨o,e,c,d⟩:=st;exact⟨o,e,λv z=>by rw[d] at z;cases z⟩
 keep:=λi h h' st k=>st.at λo e=>k it (by simp) o e
 item:=by
  intro X hP hw hK hc i pins s σ H E I hf st hg;subst hP hw hK;obtain⟨xs,x,hq,hx⟩:=hg;obtain⟨its,rv,p,hz⟩:=I.list hq;obtain⟨u,hu,ru⟩:=rv.get hx;obtain⟨f0,f1,f2,f3,f4,f5⟩:=hf it (by simp);refine wpAny_pyNext_list_item st p.isList (x:=u) (by simpa using hu) λh' st' sb=>?_;have I1:Inv X pins σ H { s with heap:=h' }:=I.turned (t':=s.toks) (λb o hb e=>(sb.2 b hb).trans e) f0 f1 f3 f4 f5;obtain⟨o,e,c,d⟩:=id st';exact⟨u,rfl,wH (s:={ s with heap:=h' }) e c d (by decide) ⟨x,H,I1,ru,⟨rfl,λys hy=>by rw[I.list_inj hy hq];exact hx⟩,st',λb hb=>(hf b hb).1⟩⟩
 done:=by
  intro X hP hw hK hc i pins s σ H E I hf st hg;subst hP hw hK;obtain⟨xs,hq,hx⟩:=hg;obtain⟨its,rv,p,hz⟩:=I.list hq;obtain⟨f0,f1,f2,f3,f4,f5⟩:=hf it (by simp);have hl:=rv.length;exact wpAny_pyNext_list_end (I.ok.hd hc) st p.isList (by simp;omega) λh' eb=>⟨rfl,I.turned (t':=s.toks) (λb o hb e=>eb b o hb e) f0 f1 f3 f4 f5⟩
 self:=λ_ _ _ _ _ st h=>wpAny_pyIter_listiter st h
theorem xP{P:Program}{w:World}{K:W.Frag}{tg:Expr}(a it:Addr):yV P w K tg (MZ K a) [it] it (λi h=>h.IsTupleIter it a i) where
 mem:=by simp
 obj:=λi h st b hb=>by
  have e:b=it:=by simpa using hb
  subst e;obtain⟨o,e,c,d⟩:=st;exact⟨o,e,λv z=>by rw[d] at z;cases z⟩
 keep:=λi h h' st k=>st.at λo e=>k it (by simp) o e
 item:=by
  intro X hP hw hK hc i pins s σ H E I hf st hg;subst hP hw hK;obtain⟨xs,x,hq,hx⟩:=hg;obtain⟨its,rv,p,hz⟩:=I.tuple hq;obtain⟨u,hu,ru⟩:=rv.get hx;obtain⟨f0,f1,f2,f3,f4,f5⟩:=hf it (by simp);refine wpAny_pyNext_tuple_item st (show s.heap.IsTuple a its.toArray from p) (x:=u) (by simpa using hu) λh' st' sb=>?_;have I1:Inv X pins σ H { s with heap:=h' }:=I.turned (t':=s.toks) (λb o hb e=>(sb.2 b hb).trans e) f0 f1 f3 f4 f5;obtain⟨o,e,c,d⟩:=id st';exact⟨u,rfl,wH (s:={ s with heap:=h' }) e c d (by decide) ⟨x,H,I1,ru,⟨rfl,λys hy=>by rw[I.tuple_inj hy hq];exact hx⟩,st',λb hb=>(hf b hb).1⟩⟩
 done:=by
  intro X hP hw hK hc i pins s σ H E I hf st hg;subst hP hw hK;obtain⟨xs,hq,hx⟩:=hg;obtain⟨its,rv,p,hz⟩:=I.tuple hq;obtain⟨f0,f1,f2,f3,f4,f5⟩:=hf it (by simp);have hl:=rv.length;exact wpAny_pyNext_tuple_end (I.ok.hd hc) st (show s.heap.IsTuple a its.toArray from p) (by simp;omega) λh' eb=>⟨rfl,I.turned (t':=s.toks) (λb o hb e=>eb b o hb e) f0 f1 f3 f4 f5⟩
 self:=λ_ _ _ _ _ st h=>wpAny_pyIter_tupleiter st h
theorem xQ{P:Program}{w:World}{K:W.Frag}{tg:Expr}(it:Addr)(lo:Int)(n:Nat):yV P w K tg (Jx lo n) [it] it (λi h=>IsRangeIter h it (lo+(i:Nat)*1) ((n:Int)-(i:Nat)) 1) where
 mem:=by simp
 obj:=λi h st b hb=>by
  have e:b=it:=by simpa using hb
  subst e;exact⟨_,st,λv z=>by
   have z':Data.fields _=Data.cell v:=z;cases z'⟩
 keep:=λi h h' st k=>k it (by simp) _ st
 item:=by
  intro X hP hw hK hc i pins s σ H E I hf st hg;subst hP hw hK;obtain⟨f0,f1,f2,f3,f4,f5⟩:=hf it (by simp);have W:=Walks.range (prog:=X.prog) (w:=X.w) (I.ok.hd hc) it lo 1 n;refine W.item i s _ _ hg st λv h' tk hv st' kk=>?_;obtain⟨t,rfl⟩:=hv;have I1:Inv X pins σ H { s with heap:=h',toks:=tk }:=I.turned (λb o hb e=>kk b o (by simpa using hb) e) f0 f1 f3 f4 f5;refine⟨_,rfl,wH (s:={ s with heap:=h',toks:=tk }) (n:="range_iterator") st' rfl rfl (by decide) ⟨.int (lo+i),H,I1,⟨t,?_⟩,⟨rfl,rfl⟩,st',λb hb=>(hf b hb).1⟩⟩;rw[Int.mul_one]
 done:=by
  intro X hP hw hK hc i pins s σ H E I hf st hg;subst hP hw hK;obtain⟨f0,f1,f2,f3,f4,f5⟩:=hf it (by simp);exact wpAny_pyNext_range_end (I.ok.hd hc) st (by have:n<=i:=hg;omega) λh' eb=>⟨rfl,I.turned (t':=s.toks) (λb o hb e=>eb b o hb e) f0 f1 f3 f4 f5⟩
 self:=λ_ _ _ _ _ st h=>wpAny_pyIter_rangeiter st h
section
variable {X:Cx}{tg:Expr}
noncomputable def KJ(K:W.Frag) (tl:TE):TI:=λσ H R=>tl σ H λx H1=>∃a,x=.ref a/\(∃xs,eZ K H1 a xs)/\R (Lg K a) H1
noncomputable def Ma(K:W.Frag) (tl:TE):TI:=λσ H R=>tl σ H λx H1=>∃a,x=.ref a/\(∃xs,jO K H1 a xs)/\R (MZ K a) H1
theorem zo{l:Expr}{tl:TE}(hl:PE X l tl):PI X tg l (KJ X.K tl):=by
 intro pins s σ H R I h;refine cy (hl pins s σ H _ I h) λv s1 ⟨x,H1,I1,r1,q1⟩=>?_;obtain⟨a,e,⟨xs,hq⟩,q⟩:=q1;subst e;cases r1;obtain⟨its,rv,p,hz⟩:=I1.list hq;refine wpAny_pyIter_list p.isList ?_;refine⟨s1.heap.objs.size,[s1.heap.objs.size],_,_,H1,rfl,I1.kept (t':=s1.toks) λb o e=>Heap.get?_push_of_some _ e,AS a _,⟨_,Heap.get?_push_size _ rfl,rfl,rfl⟩,λb hb=>?_,q⟩;have e:b=s1.heap.objs.size:=by simpa using hb
 subst e;exact I1.fpOk (Nat.le_refl _) (I1.hok.fresh (Nat.le_refl _))
theorem HS{l:Expr}{tl:TE}(hl:PE X l tl):PI X tg l (Ma X.K tl):=by
 intro pins s σ H R I h;refine cy (hl pins s σ H _ I h) λv s1 ⟨x,H1,I1,r1,q1⟩=>?_;obtain⟨a,e,⟨xs,hq⟩,q⟩:=q1;subst e;cases r1;obtain⟨its,rv,p,hz⟩:=I1.tuple hq;refine wpAny_pyIter_tuple (show s1.heap.IsTuple a its.toArray from p) ?_;refine⟨s1.heap.objs.size,[s1.heap.objs.size],_,_,H1,rfl,I1.kept (t':=s1.toks) λb o e=>Heap.get?_push_of_some _ e,xP a _,⟨_,Heap.get?_push_size _ rfl,rfl,rfl⟩,λb hb=>?_,q⟩;have e:b=s1.heap.objs.size:=by simpa using hb
 subst e;exact I1.fpOk (Nat.le_refl _) (I1.hok.fresh (Nat.le_refl _))
theorem Cv{pins:List (Addr×Obj)}{σ:St}{H:Hp}{s:Shared}{R:It->Hp->Prop}{E:Value->Shared->Prop}{lo hi:Int}{t u v:Tok}{tk:Nat}(I:Inv X pins σ H s)(h1:-(2 ^ 62)<=lo)(h2:lo<2 ^ 62)(h3:-(2 ^ 62)<=hi)(h4:hi<2 ^ 62)
  (q:R (Jx lo (hi-lo).toNat) H):wpAny (model X.prog X.w) X.A (pyIter (.ref s.heap.objs.size)) (Mt X pins σ tg R) E { s with heap:=s.heap.push { cls:=.type "range",data:=.fields #[.int lo t,.int hi u,.int 1 v] },toks:=tk }:=by
 refine wpAny_pyIter_range (IsRange.new ..) (small_one h1 h2 h3 h4) ?_;have I1:Inv X pins σ H { s with heap:=s.heap.push { cls:=.type "range",data:=.fields #[.int lo t,.int hi u,.int 1 v] },toks:=tk }:=I.kept λb o e=>Heap.get?_push_of_some _ e;refine⟨(s.heap.push { cls:=.type "range",data:=.fields #[.int lo t,.int hi u,.int 1 v] }).objs.size,[(s.heap.push { cls:=.type "range",data:=.fields #[.int lo t,.int hi u,.int 1 v] }).objs.size],_,_,H,rfl,
  I1.kept (t':=tk) λb o e=>Heap.get?_push_of_some _ e,xQ _ lo (hi-lo).toNat,?_,λb hb=>?_,q⟩
 .have e1:lo+((0:Nat):Int)*1=lo:=by simp
  have e2:(((hi-lo).toNat:Nat):Int)-((0:Nat):Int)=Builtin.Range.rangeSize lo hi 1:=by rw[rangeSize_one];split<;>omega
  show IsRangeIter _ _ (lo+((0:Nat):Int)*1) ((((hi-lo).toNat:Nat):Int)-((0:Nat):Int)) 1;rw[e1,e2];exact Heap.get?_push_size _ rfl
 .have e:b=(s.heap.push { cls:=.type "range",data:=.fields #[.int lo t,.int hi u,.int 1 v] }).objs.size:=by simpa using hb
  subst e;exact I1.fpOk (Nat.le_refl _) (I1.hok.fresh (Nat.le_refl _))
noncomputable def KI(ta:TA):TI:=λσ H R=>ta σ H λvs H1=>∃j:Int,vs=[.int j]/\-(2 ^ 62)<=j/\j<2 ^ 62/\R (Jx 0 j.toNat) H1
theorem mZ{a:Expr}{ta:TA}{p pos:Pos}(hg:Gl X "range")(hm:X.mg "range"=none)(ha:PA X [a] ta)(hs:starEach [a] X.env=[(false,eval a X.env)]:=by rfl):PI X tg (.Call (.Name "range" p) [a] [] pos) (KI ta):=by
 intro pins s σ H R I h;refine Call_ (pS I hg hm boot_range (PyProof.Rows.callWith_type1 (cy (ha pos pins s σ H _ I h) λus s1 ⟨vs,H1,I1,r1,q1⟩=>?_) hs rfl));obtain⟨j,e,q1,q2,q⟩:=q1;subst e;cases r1 with
 |cons r rr =>
  cases rr;obtain⟨t,rfl⟩:=r;exact call_range_1 (Cv I1 (by omega) (by omega) q1 q2 (by simpa using q))
noncomputable def LO(wi:TI) (g:TG) (tb:TS):TS:=λD σ H=>wi σ H λJ H1=>∃W:Nat->Nat->St->Hp->Prop,(∃m,W 0 m σ H1)/\∀i m σ H,W i m σ H ->
 (J.stop i H/\D.nx σ H)∨(J.go i H/\∃N:St->Hp->Prop,(∀σ' H',N σ' H'->∃m',m' < m/\W (i+1) m' σ' H')/\∀x H',J.yld i H x H'->g x σ H' λσ2 H2=>tb { D with nx:=N,ct:=N,bk:=D.nx } σ2 H2)
noncomputable def pC(fp:List Addr) (h:Heap):List (Addr×Obj):=fp.filterMap λb=>(h.get? b).map λo=>(b,o)
theorem ib{fp:List Addr}{h:Heap}{b:Addr}{o:Obj}(hb:b∈fp)(e:h.get? b=some o):(b,o)∈pC fp h:=List.mem_filterMap.mpr ⟨b,hb,by rw[e];rfl⟩
theorem Bf{fp:List Addr}{h:Heap}{p:Addr×Obj}(hp:p∈pC fp h):p.1∈fp/\h.get? p.1=some p.2:=by
 obtain⟨b,hb,e⟩:=List.mem_filterMap.mp hp;cases q:h.get? b with
 |none=>rw[q] at e;cases e
 |some o =>
  rw[q] at e;have e':(b,o)=p:=Option.some.inj e;subst e';exact⟨hb,q⟩
theorem Inv.pinned{pins:List (Addr×Obj)}{σ:St}{H:Hp}{s:Shared}{fp:List Addr}(I:Inv X pins σ H s)(hf:∀b∈fp,mL X pins H b)(ho:∀b∈fp,∃o,s.heap.get? b=some o/\∀v,o.data≠.cell v):Inv X (pins++pC fp s.heap) σ H s :=
 I.pins_of λp hp=>(List.mem_append.mp hp).elim (λz=>I.pin p (List.mem_append_right _ z)) λz=>by
  obtain⟨hb,e⟩:=Bf z;obtain⟨f0,f1,f2,_⟩:=hf p.1 hb;obtain⟨o,e',d⟩:=ho p.1 hb;rw[e] at e';cases e';exact⟨e,f0,f1,f2,d⟩
theorem Inv.unpinned{pins pl:List (Addr×Obj)}{σ:St}{H:Hp}{s:Shared}(I:Inv X (pins++pl) σ H s):Inv X pins σ H s:=I.pins_of λp hp=>I.pin p (List.mem_append_right _ (List.mem_append_left _ hp))
theorem uA{iter:Expr}{body:List Stmt}{wi:TI}{g:TG}{tb:TS}{pos:Pos}(hp:PassesOwn (model X.prog X.w) X.A X.env X.xe)(hc:X.calm=true)(hi:PI X tg iter wi)(hg:PG X tg g)(hb:vm X body tb)
  (hs:∀x,foldedSetIterable iter X.env x=pure x:=by intro _;rfl):PS X (.For tg iter body [] pos) (LO wi g tb):=by
 intro pins s σ H D I h;refine wpAny_For (cy (hi pins s σ H _ I h) λv s1 h1=>cy h1 λitv s2 h2=>?_) hs;obtain⟨it,fp,tn,J,H2,e,I2,T,st2,f2,W,⟨m0,w0⟩,turn⟩:=h2;subst e;have stat:∀{H':Hp},(∀b∈fp,H' b=none)->∀b∈fp,mL X pins H' b:=λhn b hb=>⟨hn b hb,(f2 b hb).2⟩
 refine codeAny_forLoop_any (λn s'=>∃i σ' H',Inv X pins σ' H' s'/\tn i s'.heap/\(∀b∈fp,H' b=none)/\W i n σ' H') ?_ m0 ⟨0,σ,H2,I2,st2,λb hb=>(f2 b hb).1,w0⟩;rintro n s3 ⟨i,σ3,H3,I3,st3,fr3,w3⟩;rcases turn i n σ3 H3 w3 with⟨stop,qn⟩|⟨go,N,hN,step⟩
 .refine wpAny_passesOwn hp (cy (T.done X rfl rfl rfl hc i pins s3 σ3 H3 X.xe I3 (stat fr3) st3 stop) λr s4 ⟨hr,I4⟩=>?_)
  subst hr;exact wpAny_execs_nil ⟨σ3,H3,I4,qn⟩
 .refine wpAny_passesOwn hp (cy (T.item X rfl rfl rfl hc i pins s3 σ3 H3 X.xe I3 (stat fr3) st3 go) λr s4 ⟨u,hr,h4⟩=>?_)
  subst hr;refine wpAny_passesOwn hp (cy h4 λ_ s5 ⟨x,H5,I5,r5,y5,st5,fr5⟩=>?_);have I5':=I5.pinned (stat fr5) (T.obj _ _ st5);refine wpAny_passesOwn hp (cy (hg _ s5 σ3 H5 x u _ I5' r5 (step x H5 y5)) λ_ s6 ⟨σ6,H6,I6,q6⟩=>?_);refine wpAny_passesOwn hp (cy (hb _ s6 σ6 H6 _ I6 q6) λf s7 q7=>?_);have again:∀{σ7:St}{H7:Hp},Inv X (pins++pC fp s5.heap) σ7 H7 s7->N σ7 H7->∃m,m<n/\∃i σ' H',Inv X pins σ' H' s7/\tn i s7.heap/\(∀b∈fp,H' b=none)/\W i m σ' H':=λ{σ7 H7} I7 n7=>by
   obtain⟨m',hm,w7⟩:=hN σ7 H7 n7;refine⟨m',hm,i+1,σ7,H7,I7.unpinned,T.keep _ _ _ st5 λb hb o e=>(I7.pin (b,o) (List.mem_append_right _ (List.mem_append_right _ (ib hb e)))).1,λb hb=>?_,w7⟩;obtain⟨o,e,d⟩:=T.obj _ _ st5 b hb;exact(I7.pin (b,o) (List.mem_append_right _ (List.mem_append_right _ (ib hb e)))).2.1
  cases f with|next|cont=>obtain⟨σ7,H7,I7,n7⟩:=q7;exact again I7 n7|brk=>obtain⟨σ7,H7,I7,q7⟩:=q7;exact⟨σ7,H7,I7.unpinned,q7⟩|ret v=>obtain⟨x7,σ7,H7,I7,r7,q7⟩:=q7;exact⟨x7,σ7,H7,I7.unpinned,r7,q7⟩
end
theorem Dy{K:W.Frag}{a:Addr}{xs:List V}{g:TG}{tb:TS}{D:e7}{σ:St}{H:Hp}(Pv:Nat->St->Hp->Prop)(h0:Pv 0 σ H)(hl:∀i σ H,i<=xs.length->Pv i σ H->eZ K H a xs)
  (hs:∀i x σ H,xs[i]?=some x->Pv i σ H->g x σ H λσ2 H2=>tb { D with nx:=Pv (i+1),ct:=Pv (i+1),bk:=D.nx } σ2 H2)(hd:∀σ H,Pv xs.length σ H->D.nx σ H) :
  ∃W:Nat->Nat->St->Hp->Prop,(∃m,W 0 m σ H)/\∀i m σ H,W i m σ H ->
   ((Lg K a).stop i H/\D.nx σ H)∨((Lg K a).go i H/\∃N:St->Hp->Prop,(∀σ' H',N σ' H'->∃m',m' < m/\W (i+1) m' σ' H')/\∀x H',(Lg K a).yld i H x H'->g x σ H' λσ2 H2=>tb { D with nx:=N,ct:=N,bk:=D.nx } σ2 H2):=by
 refine⟨λi m σ H=>m=xs.length-i/\i<=xs.length/\Pv i σ H,⟨xs.length,by simp,Nat.zero_le _,h0⟩,?_⟩;rintro i m σ H ⟨rfl,hi,p⟩;have q:=hl i σ H hi p
 by_cases hlt:i<xs.length
 .refine .inr ⟨⟨xs,xs[i],q,by simp [hlt]⟩,Pv (i+1),λσ' H' p'=>⟨xs.length-(i+1),by omega,rfl,hlt,p'⟩,λx H' y=>?_⟩
  obtain⟨e,y⟩:=y;subst e;exact hs i x σ _ (y xs q) p
 .have e:i=xs.length:=by omega
  subst e;exact .inl ⟨⟨xs,q,Nat.le_refl _⟩,hd σ H p⟩
theorem Bu{lo:Int}{n:Nat}{g:TG}{tb:TS}{D:e7}{σ:St}{H:Hp}(Pv:Nat->St->Hp->Prop)(h0:Pv 0 σ H)
  (hs:∀i σ H,i<n->Pv i σ H->g (.int (lo+i)) σ H λσ2 H2=>tb { D with nx:=Pv (i+1),ct:=Pv (i+1),bk:=D.nx } σ2 H2)(hd:∀σ H,Pv n σ H->D.nx σ H) :
  ∃W:Nat->Nat->St->Hp->Prop,(∃m,W 0 m σ H)/\∀i m σ H,W i m σ H ->
   ((Jx lo n).stop i H/\D.nx σ H)∨((Jx lo n).go i H/\∃N:St->Hp->Prop,(∀σ' H',N σ' H'->∃m',m' < m/\W (i+1) m' σ' H')/\∀x H',(Jx lo n).yld i H x H'->g x σ H' λσ2 H2=>tb { D with nx:=N,ct:=N,bk:=D.nx } σ2 H2):=by
 refine⟨λi m σ H=>m=n-i/\i<=n/\Pv i σ H,⟨n,by simp,Nat.zero_le _,h0⟩,?_⟩;rintro i m σ H ⟨rfl,hi,p⟩
 by_cases hlt:i<n
 .refine .inr ⟨hlt,Pv (i+1),λσ' H' p'=>⟨n-(i+1),by omega,rfl,hlt,p'⟩,λx H' y=>?_⟩
  obtain⟨e,y⟩:=y;subst e y;exact hs i σ _ hlt p
 .have e:i=n:=by omega
  subst e;exact .inl ⟨Nat.le_refl _,hd σ H p⟩
noncomputable abbrev R2:=V->V->Hp->VK->Prop
noncomputable def ez(X:Cx) (f:Value->Value->Sem Value) (r:R2):Prop :=
 ∀(pins:List (Addr×Obj)) (s:Shared) (σ:St) (H:Hp) (x y:V) (v u:Value) (Q:VK),Inv X pins σ H s->bz x v->bz y u->r x y H Q ->
  wpAny (model X.prog X.w) X.A (f v u) (EP X pins σ Q) X.xe s
noncomputable def Lr(X:Cx) (f:Value->Sem Value) (r:V->Hp->VK->Prop):Prop :=
 ∀(pins:List (Addr×Obj)) (s:Shared) (σ:St) (H:Hp) (x:V) (v:Value) (Q:VK),Inv X pins σ H s->bz x v->r x H Q ->
  wpAny (model X.prog X.w) X.A (f v) (EP X pins σ Q) X.xe s
noncomputable def jo(X:Cx) (f:Value) (r:List V->Hp->VK->Prop):Prop :=
 ∀(pins:List (Addr×Obj)) (s:Shared) (σ:St) (H:Hp) (xs:List V) (us:List Value) (Q:VK),Inv X pins σ H s->bF xs us->r xs H Q ->
  wpAny (model X.prog X.w) X.A (call f us) (EP X pins σ Q) X.xe s
noncomputable def Mq(X:Cx) (r:V->Hp->(Bool->Hp->Prop)->Prop):Prop :=
 ∀(pins:List (Addr×Obj)) (s:Shared) (σ:St) (H:Hp) (x:V) (v:Value) (Q:Bool->Hp->Prop),Inv X pins σ H s->bz x v->r x H Q ->
  wpAny (model X.prog X.w) X.A (truthy v) (TP X pins σ Q) X.xe s
noncomputable def JA(r:R2) (ta tb:TE):TE:=λσ H Q=>ta σ H λx H1=>tb σ H1 λy H2=>r x y H2 Q
noncomputable def M5(r:V->Hp->VK->Prop) (ta:TE):TE:=λσ H Q=>ta σ H λx H1=>r x H1 Q
noncomputable def rI(C:Int->Int->Prop) (g:Int->Int->V):R2:=λx y H Q=>∃i j,x=.int i/\y=.int j/\C i j/\Q (g i j) H
noncomputable def Ey(g:Int->Int->V):R2:=λx y H Q=>∃i j,x=.int i/\y=.int j/\Q (g i j) H
noncomputable def rU(g:Int->V):V->Hp->VK->Prop:=λx H Q=>∃i,x=.int i/\Q (g i) H
section
variable {X:Cx}{a b c:Expr}{ta tb tc:TE}{pos:Pos}
theorem Jk(ha:PE X a ta)(hb:PE X b tb){pins:List (Addr×Obj)}{s:Shared}{σ:St}{H:Hp}{R:V->V->Hp->Prop}(I:Inv X pins σ H s)
  (h:ta σ H λx H1=>tb σ H1 λy H2=>R x y H2){Q:Value->Shared->Prop}{f:Value->Value->Sem Value}
  (hf:∀v u s2 x y H2,Inv X pins σ H2 s2->bz x v->bz y u->R x y H2->wpAny (model X.prog X.w) X.A (f v u) Q X.xe s2) :
  wpAny (model X.prog X.w) X.A (eval a X.env) (λv sg=>wpAny (model X.prog X.w) X.A (eval b X.env) (λu si=>wpAny (model X.prog X.w) X.A (f v u) Q X.xe si) X.xe sg) X.xe s:=by
 refine cy (ha pins s σ H _ I h) λv s1 ⟨x,H1,I1,r1,q1⟩=>?_;refine cy (hb pins s1 σ H1 _ I1 q1) λu s2 ⟨y,H2,I2,r2,q2⟩=>?_;exact hf v u s2 x y H2 I2 r1 r2 q2
theorem GN{op:Operator}{r:R2}(ho:ez X (binaryOp op) r)(ha:PE X a ta)(hb:PE X b tb):PE X (.BinOp a op b pos) (JA r ta tb):=by
 intro pins s σ H Q I h;exact wpAny_BinOp (Jk ha hb I h λv u s2 x y H2 I2 rx ry q=>ho pins s2 σ H2 x y v u Q I2 rx ry q)
theorem Kj{op:UnaryOp}{r:V->Hp->VK->Prop}(ho:Lr X (unaryOp op) r)(ha:PE X a ta):PE X (.UnaryOp op a pos) (M5 r ta):=by
 intro pins s σ H Q I h;exact UnaryOp_ (cy (ha pins s σ H _ I h) λv s1 ⟨x,H1,I1,r1,q1⟩=>ho pins s1 σ H1 x v Q I1 r1 q1)
theorem Lm{f:Value->Value->Sem Value}{C:Int->Int->Prop}{g:Int->Int->Int}
  (rule:∀(i j:Int) (t u:Tok) (s:Shared) (Q:Value->Shared->Prop) (E:Value->Shared->Prop),C i j->Q (.int (g i j) s.toks) { s with toks:=s.toks+1 }->wpAny (model X.prog X.w) X.A (f (.int i t) (.int j u)) Q E s) :
  ez X f (rI C λi j=>.int (g i j)):=by
 intro pins s σ H x y v u Q I rx ry h;obtain⟨i,j,rfl,rfl,hc,q⟩:=h;obtain⟨t,rfl⟩:=rx;obtain⟨t',rfl⟩:=ry;exact rule i j t t' s _ _ hc ⟨.int (g i j),H,I.tok _,⟨_,rfl⟩,q⟩
theorem Kp{f:Value->Value->Sem Value}{g:Int->Int->Int}
  (rule:∀(i j:Int) (t u:Tok) (s:Shared) (Q:Value->Shared->Prop) (E:Value->Shared->Prop),Q (.int (g i j) s.toks) { s with toks:=s.toks+1 }->wpAny (model X.prog X.w) X.A (f (.int i t) (.int j u)) Q E s) :
  ez X f (Ey λi j=>.int (g i j)):=by
 intro pins s σ H x y v u Q I rx ry h;obtain⟨i,j,rfl,rfl,q⟩:=h;obtain⟨t,rfl⟩:=rx;obtain⟨t',rfl⟩:=ry;exact rule i j t t' s _ _ ⟨.int (g i j),H,I.tok _,⟨_,rfl⟩,q⟩
theorem Fx{f:Value->Value->Sem Value}{g:Int->Int->Bool}
  (rule:∀(i j:Int) (t u:Tok) (s:Shared) (Q:Value->Shared->Prop) (E:Value->Shared->Prop),Q (.bool (g i j)) s->wpAny (model X.prog X.w) X.A (f (.int i t) (.int j u)) Q E s) :
  ez X f (Ey λi j=>.bl (g i j)):=by
 intro pins s σ H x y v u Q I rx ry h;obtain⟨i,j,rfl,rfl,q⟩:=h;obtain⟨t,rfl⟩:=rx;obtain⟨t',rfl⟩:=ry;exact rule i j t t' s _ _ ⟨.bl (g i j),H,I,rfl,q⟩
noncomputable def Mz(i j:Int):Prop:=0<=j/\j<=1000000/\i.natAbs<2 ^ 64
noncomputable def Li(i j:Int):Prop:=(-(2 ^ 64)<i/\i<2 ^ 64)∨(-(2 ^ 64)<j/\j<2 ^ 64)
theorem Li.ok{i j:Int}(h:Li i j):IntMulOk i j:=by
 rcases h with⟨h1,h2⟩|⟨h1,h2⟩
 .exact .of_left (intBits_le_64 h1 h2)
 .exact .of_right (intBits_le_64 h1 h2)
theorem C2:ez X (binaryOp .Add) (Ey λi j=>.int (i+j)):=Kp λ_ _ _ _ _ _ _ q=>add_int q
theorem Ii:ez X (binaryOp .Sub) (Ey λi j=>.int (i-j)):=Kp λ_ _ _ _ _ _ _ q=>sub_int q
theorem zv:ez X (binaryOp .Mod) (rI (λ_ j=>j≠0) λi j=>.int (i.fmod j)):=Lm λ_ _ _ _ _ _ _ hc q=>mod_int' hc q
theorem Ij:ez X (binaryOp .Pow) (rI Mz λi j=>.int (i ^ j.toNat)):=Lm λ_ _ _ _ _ _ _ hc q=>pow_int_small hc.1 hc.2.1 hc.2.2 q
theorem M4{f:Value->Sem Value}{g:Int->Int}
  (rule:∀(i:Int) (t:Tok) (s:Shared) (Q:Value->Shared->Prop) (E:Value->Shared->Prop),Q (.int (g i) s.toks) { s with toks:=s.toks+1 }->wpAny (model X.prog X.w) X.A (f (.int i t)) Q E s) :
  Lr X f (rU λi=>.int (g i)):=by
 intro pins s σ H x v Q I rx h;obtain⟨i,rfl,q⟩:=h;obtain⟨t,rfl⟩:=rx;exact rule i t s _ _ ⟨.int (g i),H,I.tok _,⟨_,rfl⟩,q⟩
theorem Hr:Lr X (unaryOp .USub) (rU λi=>.int (-i)):=M4 λ_ _ _ _ _ q=>neg_int q
end
section
variable {X:Cx}{a b c:Expr}{ta tb tc:TE}{pos:Pos}
theorem yE{pins:List (Addr×Obj)}{σ:St}{H:Hp}{s:Shared}{Q:VK}{k k':Bool}(I:Inv X pins σ H s)(q:Q (.bl k) H)(e:k=k'):EP X pins σ Q (.bool k') s:=by
 subst e;exact⟨.bl k,H,I,rfl,q⟩
theorem sR:ez X (compareOp .Lt) (Ey λi j=>.bl (decide (i<j))):=Fx λ_ _ _ _ _ _ _ q=>lt_int q
theorem sS:ez X (compareOp .LtE) (Ey λi j=>.bl (decide (i<=j))):=Fx λ_ _ _ _ _ _ _ q=>le_int q
theorem zw:ez X (compareOp .Gt) (Ey λi j=>.bl (decide (j<i))):=Fx λ_ _ _ _ _ _ _ q=>gt_int q
theorem C1:ez X (compareOp .GtE) (Ey λi j=>.bl (decide (j<=i))):=Fx λ_ _ _ _ _ _ _ q=>ge_int q
theorem Bb:ez X (compareOp .In) (λx y H Q=>∃i j,x=.str i/\y=.str j/\Q (.bl (!(Builtin.Str.occurrences j i 0 j.length 1).isEmpty)) H):=by
 intro pins s σ H x y v u Q I rx ry h;obtain⟨i,j,rfl,rfl,q⟩:=h;obtain⟨t,rfl⟩:=rx;obtain⟨t',rfl⟩:=ry;exact in_str (yE I q rfl)
theorem kh:ez X (compareOp .Is) (λx y H Q=>y=.non/\Q (.bl (decide (x=.non))) H):=by
 intro pins s σ H x y v u Q I rx ry h;obtain⟨rfl,q⟩:=h;cases ry;refine is_none_gen (yE I q ?_);cases x<;>first
  |(cases rx;rfl)
  |(obtain⟨t,rfl⟩:=rx;rfl)
theorem gh:ez X (compareOp .IsNot) (λx y H Q=>y=.non/\Q (.bl (!decide (x=.non))) H):=by
 intro pins s σ H x y v u Q I rx ry h;obtain⟨rfl,q⟩:=h;cases ry;refine isnot_none_gen (yE I q ?_);cases x<;>first
  |(cases rx;rfl)
  |(obtain⟨t,rfl⟩:=rx;rfl)
theorem ez.or{f:Value->Value->Sem Value}{r r':R2}(h:ez X f r)(h':ez X f r'):ez X f (λx y H Q=>r x y H Q∨r' x y H Q):=by
 intro pins s σ H x y v u Q I rx ry q;rcases q with q|q
 .exact h pins s σ H x y v u Q I rx ry q
 .exact h' pins s σ H x y v u Q I rx ry q
theorem zq{op:CmpOp}{r:R2}(ho:ez X (compareOp op) r)(ha:PE X a ta)(hb:PE X b tb)(hm:behindInMarks op b=false):PE X (.Compare a [op] [b] pos) (JA r ta tb):=by
 intro pins s σ H Q I h;exact wpAny_Compare1 (Jk ha hb I h λv u s2 x y H2 I2 rx ry q=>ho pins s2 σ H2 x y v u Q I2 rx ry q) hm
noncomputable def GB(t:TE):TT:=λσ H Q=>t σ H λx H'=>∃k,x=.bl k/\Q k H'
theorem zj{op:CmpOp}{r:R2}(ho:ez X (compareOp op) r)(ha:PE X a ta)(hb:PE X b tb)(hm:behindInMarks op b=false):PT X (.Compare a [op] [b] pos) (GB (JA r ta tb)):=by
 intro pins s σ H Q I h;refine wpAny_isTrue_Compare1 (cy (ha pins s σ H _ I h) λv s1 ⟨x,H1,I1,r1,q1⟩=>cy (hb pins s1 σ H1 _ I1 q1) λu s2 ⟨y,H2,I2,r2,q2⟩ =>
  cy (ho pins s2 σ H2 x y v u _ I2 r1 r2 q2) λc s3 ⟨z,H3,I3,r3,k,e,q3⟩=>?_) hm
 subst e;cases r3;exact wpAny_truthy_bool ⟨H3,I3,q3⟩
noncomputable def xT(r r':R2) (ta tb tc:TE):TE:=λσ H Q=>ta σ H λx H1=>tb σ H1 λy H2=>r x y H2 λz H3=>∃k,z=.bl k /\
 (if k=true then tc σ H3 λw' H4=>r' y w' H4 Q else Q (.bl false) H3)
theorem CV{op op':CmpOp}{r r':R2}(ho:ez X (compareOp op) r)(ho':ez X (compareOp op') r')(ha:PE X a ta)(hb:PE X b tb)(hc:PE X c tc)
  (hm:lastMarks [op,op'] [b,c]=false:=by with_unfolding_all rfl):PE X (.Compare a [op,op'] [b,c] pos) (xT r r' ta tb tc):=by
 intro pins s σ H Q I h;refine Compare_chain (cy (ha pins s σ H _ I h) λv s1 ⟨x,H1,I1,r1,q1⟩=>chain_link (cy (hb pins s1 σ H1 _ I1 q1) λu s2 ⟨y,H2,I2,r2,q2⟩ =>
  cy (ho pins s2 σ H2 x y v u _ I2 r1 r2 q2) λd s3 ⟨z,H3,I3,r3,k,e,q3⟩=>?_)) hm
 subst e;cases r3;refine wpAny_truthy_bool ?_;cases k with|false=>exact ite_ff ⟨.bl false,H3,I3,rfl,q3⟩|true=>exact ite_tt (chain_last (cy (hc pins s3 σ H3 _ I3 q3) λw' s4 ⟨z',H4,I4,r4,q4⟩=>ho' pins s4 σ H4 y z' u w' Q I4 r2 r4 q4))
theorem CI{op op':CmpOp}{r r':R2}(ho:ez X (compareOp op) r)(ho':ez X (compareOp op') r')(ha:PE X a ta)(hb:PE X b tb)(hc:PE X c tc)
  (hm:lastMarks [op,op'] [b,c]=false:=by with_unfolding_all rfl):PT X (.Compare a [op,op'] [b,c] pos) (GB (xT r r' ta tb tc)):=by
 intro pins s σ H Q I h;refine isTrue_chain (cy (ha pins s σ H _ I h) λv s1 ⟨x,H1,I1,r1,q1⟩=>test_link (cy (hb pins s1 σ H1 _ I1 q1) λu s2 ⟨y,H2,I2,r2,q2⟩ =>
  cy (ho pins s2 σ H2 x y v u _ I2 r1 r2 q2) λd s3 ⟨z,H3,I3,r3,k,e,q3⟩=>?_)) hm
 subst e;cases r3;refine wpAny_truthy_bool ?_;cases k with
 |false =>
  obtain⟨k',e',q'⟩:=q3;cases e';exact ite_ff ⟨H3,I3,q'⟩
 |true =>
  refine ite_tt (test_last (cy (hc pins s3 σ H3 _ I3 q3) λw' s4 ⟨z',H4,I4,r4,q4⟩=>cy (ho' pins s4 σ H4 y z' u w' _ I4 r2 r4 q4) λd' s5 ⟨z2,H5,I5,r5,k2,e2,q5⟩=>?_));subst e2;cases r5;exact wpAny_truthy_bool ⟨H5,I5,q5⟩
noncomputable def Mp(K:W.Frag) (x:V) (H:Hp) (k:Bool):Prop :=
 match x with
 |.non=>k=false
 |.bl b=>k=b
 |.int i=>k=(i != 0)
 |.str y=>y.length<=sizeLine/\k=((y.length:Int) != 0)
 |.byt y=>y.size<=sizeLine/\k=((y.size:Int) != 0)
 |.ref p=>(∃xs,eZ K H p xs/\k=!xs.isEmpty)∨(∃xs,jO K H p xs/\k=!xs.isEmpty)∨∃kvs,H p=some (.dK kvs)/\k=!kvs.isEmpty
 |_=>False
theorem yB{κ:Type}{kvs:List (κ×V)}{vs:List (κ×Value)}(r:KV kvs vs):(!vs.isEmpty)=!kvs.isEmpty:=by
 cases r<;>rfl
theorem pW{xs:List V}{its:List Value}(r:bF xs its):(!its.toArray.isEmpty)=!xs.isEmpty:=by
 cases r<;>simp
theorem ng:(sizeLine:Nat)<2 ^ 63:=by rw[sizeLine_eq];decide
theorem Lz:Mq X (λx H Q=>∃k,Mp X.K x H k/\Q k H):=by
 intro pins s σ H x v Q I rx h;obtain⟨k,e,q⟩:=h;have hl:=ng;have hs:sizeLine=16777216:=sizeLine_eq;cases x with
 |non =>
  cases rx;have e':k=false:=e;subst e';exact truthy_none ⟨H,I,q⟩
 |bl b =>
  cases rx;have e':k=b:=e;subst e';exact wpAny_truthy_bool ⟨H,I,q⟩
 |int i =>
  obtain⟨t,rfl⟩:=rx;have e':k=(i != 0):=e;subst e';exact PySem.P.truthy_int ⟨H,I,q⟩
 |str y =>
  obtain⟨t,rfl⟩:=rx;obtain⟨hy,e'⟩:y.length<=sizeLine/\k=((y.length:Int) != 0):=e;subst e';exact PySem.P.truthy_str (by omega) ⟨H,I.tok _,q⟩
 |byt y =>
  obtain⟨t,rfl⟩:=rx;obtain⟨hy,e'⟩:y.size<=sizeLine/\k=((y.size:Int) != 0):=e;subst e';exact W.truthy_bytes (by omega) ⟨H,I.tok _,q⟩
 |ref p =>
  cases rx;have e':(∃xs,eZ X.K H p xs/\k=!xs.isEmpty)∨(∃xs,jO X.K H p xs/\k=!xs.isEmpty)∨∃kvs,H p=some (.dK kvs)/\k=!kvs.isEmpty:=e;rcases e' with⟨xs,hx,e'⟩|⟨xs,hx,e'⟩|⟨kvs,hx,e'⟩
  .subst e'
   obtain⟨its,r,pl,hz⟩:=I.list hx;have hlen:=r.length;exact wpAny_truthy_list pl.isList (by simp only[List.size_toArray];omega) ⟨H,I.tok _,by rw[pW r];exact q⟩
  .subst e'
   obtain⟨its,r,pl,hz⟩:=I.tuple hx;have hlen:=r.length;exact truthy_tuple pl (by simp only[List.size_toArray];omega) ⟨H,I.tok _,by rw[pW r];exact q⟩
  .subst e'
   obtain⟨hz,hS,vs,r,m⟩:kvs.length<=sizeLine/\(p==sysModules)=false/\∃vs,KV kvs vs/\s.heap.DictOf (cN X.prog X.w) p vs:=I.hok p _ hx;have hlen:kvs.length=vs.length:=Paired.length r;exact wpAny_truthy_dict hS m (by omega) ⟨H,I.tok _,by rw[yB r];exact q⟩
 |_=>exact(show False from e).elim
theorem pE:ez X (binaryOp .Add) (λx y H Q=>∃i j,x=.str i/\y=.str j/\i.length+j.length<=sizeLine/\Q (.str (i++j)) H):=by
 intro pins s σ H x y v u Q I rx ry h;obtain⟨i,j,rfl,rfl,hz,q⟩:=h;obtain⟨t,rfl⟩:=rx;obtain⟨t',rfl⟩:=ry;exact add_str (λt' tk=>⟨.str (i++j),H,I.tok _,⟨_,rfl⟩,q⟩) hz
theorem sJ{x:V}{us:List Value}(r:bF [x] us):∃u,us=[u]/\bz x u:=by
 cases r with|cons r1 r2=>cases r2;exact⟨_,rfl,r1⟩
theorem Gz{x y:V}{us:List Value}(r:bF [x,y] us):∃u w',us=[u,w']/\bz x u/\bz y w':=by
 cases r with
 |cons r1 r2 =>
  cases r2 with|cons r3 r4=>cases r4;exact⟨_,_,rfl,r1,r3⟩
theorem rD:jo X (.builtin "abs") (λxs H Q=>∃i,xs=[.int i]/\Q (.int (if i<0 then -i else i)) H):=by
 intro pins s σ H xs us Q I r h;obtain⟨i,rfl,q⟩:=h;obtain⟨u,rfl,t,rfl⟩:=sJ r;exact call_abs_int λu tk=>⟨.int (if i<0 then -i else i),H,I.tok _,⟨_,rfl⟩,q⟩
theorem BI(hc:X.calm=true):jo X (.builtin "max") (λxs H Q=>∃i j,xs=[.int i,.int j]/\Q (.int (if j > i then j else i)) H):=by
 intro pins s σ H xs us Q I r h;obtain⟨i,j,rfl,q⟩:=h;obtain⟨u,w',rfl,⟨t,rfl⟩,⟨t',rfl⟩⟩:=Gz r;refine max_two_ints (I.ok.hd hc) λh' tk k=>⟨_,H,I.kept k,?_,q⟩
 by_cases hj:j > i
 .rw[if_pos hj,if_pos hj];exact⟨_,rfl⟩
 .rw[if_neg hj,if_neg hj];exact⟨_,rfl⟩
theorem BH(hc:X.calm=true):jo X (.builtin "min") (λxs H Q=>∃i j,xs=[.int i,.int j]/\Q (.int (if j<i then j else i)) H):=by
 intro pins s σ H xs us Q I r h;obtain⟨i,j,rfl,q⟩:=h;obtain⟨u,w',rfl,⟨t,rfl⟩,⟨t',rfl⟩⟩:=Gz r;refine min_two_ints (I.ok.hd hc) λh' tk k=>⟨_,H,I.kept k,?_,q⟩
 by_cases hj:j<i
 .rw[if_pos hj,if_pos hj];exact⟨_,rfl⟩
 .rw[if_neg hj,if_neg hj];exact⟨_,rfl⟩
theorem BK:jo X (.type "int") (λxs H Q=>(∃i,xs=[.int i]/\Q (.int i) H)∨∃k,xs=[.bl k]/\Q (.int (if k then 1 else 0)) H):=by
 intro pins s σ H xs us Q I r h;rcases h with⟨i,rfl,q⟩|⟨k,rfl,q⟩
 .obtain⟨u,rfl,t,rfl⟩:=sJ r
  exact call_int_int ⟨.int i,H,I,⟨_,rfl⟩,q⟩
 .obtain⟨u,rfl,r1⟩:=sJ r
  cases r1;exact call_int_bool ⟨.int (if k then 1 else 0),H,I.tok _,⟨_,rfl⟩,q⟩
noncomputable def Jw(K:W.Frag) (x:V) (H:Hp) (n:Nat):Prop :=
 match x with
 |.str y=>y.length<=sizeLine/\n=y.length
 |.byt y=>y.size<=sizeLine/\n=y.size
 |.ref p=>(∃xs,eZ K H p xs/\n=xs.length)∨∃xs,jO K H p xs/\n=xs.length
 |_=>False
theorem cc:jo X (.builtin "len") (λxs H Q=>∃x n,xs=[x]/\Jw X.K x H n/\Q (.int n) H):=by
 intro pins s σ H xs us Q I r h;obtain⟨x,n,rfl,e,q⟩:=h;obtain⟨u,rfl,rx⟩:=sJ r;have hl:=ng;have hs:sizeLine=16777216:=sizeLine_eq;cases x with
 |str y =>
  obtain⟨t,rfl⟩:=rx;obtain⟨hy,e'⟩:y.length<=sizeLine/\n=y.length:=e;subst e';exact len_str (by omega) ⟨.int _,H,I.tok _,⟨_,rfl⟩,q⟩
 |byt y =>
  obtain⟨t,rfl⟩:=rx;obtain⟨hy,e'⟩:y.size<=sizeLine/\n=y.size:=e;subst e';exact W.len_bytes (by omega) ⟨.int _,H,I.tok _,⟨_,rfl⟩,q⟩
 |ref p =>
  cases rx;have e':(∃xs,eZ X.K H p xs/\n=xs.length)∨∃xs,jO X.K H p xs/\n=xs.length:=e;rcases e' with⟨xs,hx,e'⟩|⟨xs,hx,e'⟩
  .subst e'
   obtain⟨its,r',pl,hz⟩:=I.list hx;have hlen:=r'.length;exact Calls.call_len_list pl.isList (by simp only[List.size_toArray];omega) ⟨.int xs.length,H,I.tok _,⟨_,by simp only[List.size_toArray];rw[hlen]⟩,q⟩
  .subst e'
   obtain⟨its,r',pl,hz⟩:=I.tuple hx;have hlen:=r'.length;exact len_tuple pl (by simp only[List.size_toArray];omega) ⟨.int xs.length,H,I.tok _,⟨_,by simp only[List.size_toArray];rw[hlen]⟩,q⟩
 |_=>exact(show False from e).elim
end
structure Js (h:Heap) (x dx C:Addr) (mA:Str->Option Value):Prop where
 obj:h.get? x=some (W.instObj C dx)
 ns:h.Ns1 dx mA
 ne:dx≠x
theorem Bl{h:Heap}{dx:Addr}{mA:Str->Option Value}(n:h.Ns1 dx mA):∃od,h.get? dx=some od/\∀name,W.lookIn name od=some (mA name):=by
 obtain⟨o,es,ep,ho,hd,hk,_,hm⟩:=n;refine⟨o,ho,λname=>?_⟩;have e:=hm name;unfold nsFind findBy at e;rw[←Array.find?_toList] at e;unfold W.lookIn;rw[hd];dsimp only;split
 .rename_i y q
  rw[q] at e;exact congrArg some e
 .rename_i q
  rw[q] at e;have a:es.toList.any (·.refKey)=false:=by
   rw[List.any_eq_false];intro y hy;obtain⟨z,t,hkey⟩:=hk y (Array.mem_toList_iff.mp hy);simp [DictEntry.refKey,hkey]
  have a':¬es.toList.any (·.refKey)=true:=by rw[a];exact Bool.false_ne_true
  rw[if_neg a'];exact congrArg some e
theorem Js.look{h:Heap}{x dx C:Addr}{mA:Str->Option Value}(I:Js h x dx C mA):∃od,W.InstAt h x (W.instObj C dx) C (some od)/\∀name,W.lookIn name od=some (mA name) :=
 let ⟨od,ho,hl⟩:=Bl I.ns
 ⟨od,⟨I.obj,rfl,rfl,ho⟩,hl⟩
theorem mG{v:V}{o:Option Value}(r:xG (some v) o):∃u,o=some u/\bz v u:=by
 cases o with|none=>exact(show False from r).elim|some u=>exact⟨u,rfl,r⟩
section
variable {P:Program}{w:World}{H H':Hp}{h h':Heap}{a C dx:Addr}{fs fs':List (Str×V)}
theorem zP(hok:kI P w H h)(e:H a=some (.ins C dx fs)):∃mA,Js h a dx C mA/\(∀f,xG (fs.lookup f) (mA f))/\PySem.Within mA (fs.map (·.1))/\fs.length<=1000/\H dx=some (.own a):=by
 obtain⟨d,z,ne,ob,mA,n,r,q⟩:=(show cW P w H h a (.ins C dx fs) from hok a _ e)
 exact⟨mA,⟨ob,n,ne⟩,r,q,z,d⟩
end
structure Lx (K:W.Frag) (C:Addr):Prop where
 pg:W.plainGet K C Str.empty=true
 hd:W.hasDictIn K C=true
 po:W.plainOver K C=true
 sa:W.findIn K (.ref C) "__setattr__"=some (some (.builtin "object.__setattr__"))
theorem Lx.get{K:W.Frag}{C:Addr}(c:Lx K C)(f:Str):W.plainGet K C f=true:=c.pg
noncomputable def Ju(K:W.Frag) (C:Addr) (f:Str):Prop:=W.findIn K (.ref C) f=some none
section
variable {X:Cx}{pins:List (Addr×Obj)}{σ:St}{H:Hp}{s:Shared}{A:Around}{E:Value->Shared->Prop}{Q:Value->Shared->Prop}{c:Value}{b:Bool}
inductive ot (K:W.Frag) (H:Hp):V->Value->Prop where
 |non:ot K H .non (.type "NoneType")
 |bl (x:Bool):ot K H (.bl x) (.type "bool")
 |int (i:Int):ot K H (.int i) (.type "int")
 |str (x:Str):ot K H (.str x) (.type "str")
 |flt (x:UInt64):ot K H (.flt x) (.type "float")
 |lst {a:Addr}{xs:List V}(e:H a=some (.lst xs)):ot K H (.ref a) (.type "list")
 |frz {a:Addr}{o:Obj}{xs:List V}(e:H a=some (.frz o (.lst xs))):ot K H (.ref a) (.type "list")
 |tup {a:Addr}{xs:List V}(e:H a=some (.tup xs)):ot K H (.ref a) (.type "tuple")
 |dK {a:Addr}{kvs:List (dM×V)}(e:H a=some (.dK kvs)):ot K H (.ref a) (.type "dict")
 |dT {a:Addr}{kvs:List (List dM×V)}(e:H a=some (.dT kvs)):ot K H (.ref a) (.type "dict")
 |ins {a C dx:Addr}{fs:List (Str×V)}(e:H a=some (.ins C dx fs)) (cl:Lx K C) (ha:W.findIn K (.ref C) "__class__"=some (some (.builtin "object.__class__")))
   (hn:W.specialIn K (.builtin "object.__class__") "__get__"=some (some (.builtin "getset_descriptor.__get__"))) (htk:W.takesIn K (.builtin "object.__class__")=some true)
   (hm:W.mroIn K C (.type "object")=some true):ot K H (.ref a) (.ref C)
theorem jv{x:V}{u t:Value}(I:Inv X pins σ H s)(rx:bz x u)(ty:ot X.K H x t)(e:W.kitOne X.K t c=some b)(h:∀tk,Q (.bool b) { s with toks:=tk }) :
  wpAny (model X.prog X.w) A (call (.builtin "isinstance") [u,c]) Q E s:=by
 cases ty with
 |non=>cases (show u=Value.none from rx);exact W.kia_one W.kitx_none I.kIn True.intro e (λz=>nomatch z) h|bl y=>cases (show u=Value.bool y from rx);exact W.kia_one W.kitx_bool I.kIn True.intro e (λz=>nomatch z) h|int i=>obtain⟨t,q⟩:=(show ∃t,u=Value.int i t from rx);cases q;exact W.kia_one W.kitx_int I.kIn True.intro e (λz=>nomatch z) h|str y=>obtain⟨t,q⟩:=(show ∃t,u=Value.str y t from rx);cases q;exact W.kia_one W.kitx_str I.kIn True.intro e (λz=>nomatch z) h|flt y=>obtain⟨t,q⟩:=(show ∃t,u=Value.float y t from rx);cases q;exact W.kia_one W.kitx_float I.kIn True.intro e (λz=>nomatch z) h
 |@lst a xs ea =>
  cases (show u=Value.ref a from rx);obtain⟨_,_,n,_,h1⟩:=(show cW X.prog X.w H s.heap a (.lst xs) from I.hok a _ ea)
  exact W.kia_one W.kitx_list I.kIn ⟨_,h1,rfl⟩ e (λz=>nomatch z) h
 |@frz a ob xs ea =>
  cases (show u=Value.ref a from rx);obtain⟨_,_,_,n,_,h1⟩:=(show cW X.prog X.w H s.heap a (.frz ob (.lst xs)) from I.hok a _ ea)
  exact W.kia_one W.kitx_list I.kIn ⟨_,h1,rfl⟩ e (λz=>nomatch z) h
 |@tup a xs ea =>
  cases (show u=Value.ref a from rx);obtain⟨_,_,_,p⟩:=(show cW X.prog X.w H s.heap a (.tup xs) from I.hok a _ ea)
  obtain⟨o,h1,h2,_⟩:=p;exact W.kia_one W.kitx_tuple I.kIn ⟨o,h1,h2⟩ e (λz=>nomatch z) h
 |@dK a kvs ea =>
  cases (show u=Value.ref a from rx);obtain⟨_,_,vs,_,p⟩:=(show cW X.prog X.w H s.heap a (.dK kvs) from I.hok a _ ea)
  obtain⟨o,es,ep,h1,h2,_⟩:=p;exact W.kia_one W.kitx_dict I.kIn ⟨o,h1,h2.1⟩ e (λz=>nomatch z) h
 |@dT a kvs ea =>
  cases (show u=Value.ref a from rx);obtain⟨_,_,xs,_,o,es,ep,h1,h2,_⟩:=(show cW X.prog X.w H s.heap a (.dT kvs) from I.hok a _ ea)
  exact W.kia_one W.kitx_dict I.kIn ⟨o,h1,h2.1⟩ e (λz=>nomatch z) h
 |@ins a C dx fs ea cl ha hn htk hm =>
  cases (show u=Value.ref a from rx);obtain⟨mA,O,_⟩:=zP I.hok ea;obtain⟨od,J,_⟩:=O.look;exact W.kia_one (W.kitx_own (cl.get _) cl.hd ha hn htk hm) I.kIn J e (λz=>nomatch z) h
end
structure du (k:Nat) (A:Around):Prop where
 hd:A.handled=none
 dp:A.depth+3*k+5<recursionLimit
 un:A.units+16*k+200<cLine
 gd:A.guards=some []
theorem du.mono{j k:Nat}{A:Around}(r:du k A)(h:j<=k):du j A:=⟨r.hd,by have:=r.dp;omega,by have:=r.un;omega,r.gd⟩
theorem du.deeper{k:Nat}{A:Around}(r:du (k+1) A)(env:Env):du k (A.deeper env) :=
 ⟨r.hd,by have:=r.dp;show A.depth+1+3*k+5<_;omega,by have:=r.un;show A.units+3+16*k+200<_;omega,r.gd⟩
theorem du.depth{k:Nat}{A:Around}(r:du k A):A.depth<recursionLimit:=by have:=r.dp;omega
theorem du.units{k:Nat}{A:Around}(r:du k A):A.units+64<cLine:=by have:=r.un;omega
noncomputable def LJ:TA:=λ_ H Q=>Q [] H
noncomputable def JU(ta:TE) (tr:TA):TA:=λσ H Q=>ta σ H λx H1=>tr σ H1 λxs H2=>Q (x::xs) H2
section
variable {X:Cx}{e:Expr}{es:List Expr}{te:TE}{t:TA}{pos:Pos}
theorem gY:PA X [] LJ:=λ_ _ _ _ H Q I h=>Calls.spliced_nil ⟨[],H,I,.nil,h⟩
theorem d5(ha:PE X e te)(hr:PA X es t)(hs:starEach (e::es) X.env=(false,eval e X.env)::starEach es X.env:=by rfl):PA X (e::es) (JU te t):=by
 intro pos pins s σ H Q I h;rw[hs];show wpAny _ _ (spliced ((false,eval e X.env)::backTo pos (starEach es X.env))) _ _ s;refine Calls.spliced_cons (cy (ha pins s σ H _ I h) λu s1 ⟨x,H1,I1,r1,q1⟩=>?_);exact cy (hr pos pins s1 σ H1 _ I1 q1) λus s2 ⟨xs,H2,I2,r2,q2⟩=>⟨x::xs,H2,I2,.cons r1 r2,q2⟩
noncomputable def LB(t:TA):TE:=λσ H Q=>t σ H λxs H1=>xs.length<=sizeLine/\∀p,H1 p=none->Q (.ref p) (upd H1 p (.tup xs))
noncomputable def LL(t:TA):TE:=λσ H Q=>t σ H λxs H1=>xs.length<=sizeLine/\∀p,H1 p=none->Q (.ref p) (upd H1 p (.lst xs))
theorem HX{x1}(h:PA X es t):PE X (.Tuple es x1 pos) (LB t):=by
 intro pins s σ H Q I hq;refine wpAny_Tuple_spliced (cy (h pos pins s σ H _ I hq) λus s1 ⟨xs,H1,I1,r,z,q⟩=>⟨by rw[←r.length];exact z,?_⟩);have hf:H1 s1.heap.objs.size=none:=I1.hok.fresh (Nat.le_refl _);refine⟨.ref s1.heap.objs.size,upd H1 s1.heap.objs.size (.tup xs),I1.laid (t':=s1.toks) (λb u e=>Heap.get?_push_of_some _ e) (Nat.le_refl _) ?_,rfl,q _ hf⟩;exact⟨z,us,r,⟨_,Heap.get?_push_size _ rfl,rfl,_,rfl⟩⟩
theorem yh(h:PA X es t):PE X (.List es pos) (LL t):=by
 intro pins s σ H Q I hq;refine wpAny_List_spliced (cy (h pos pins s σ H _ I hq) λus s1 ⟨xs,H1,I1,r,z,q⟩=>⟨by rw[←r.length];exact z,?_⟩);have hf:H1 s1.heap.objs.size=none:=I1.hok.fresh (Nat.le_refl _);refine⟨.ref s1.heap.objs.size,upd H1 s1.heap.objs.size (.lst xs),I1.laid (t':=s1.toks) (λb u e=>Heap.get?_push_of_some _ e) (Nat.le_refl _) ?_,rfl,q _ hf⟩;exact⟨z,us,0,r,Heap.get?_push_size _ rfl⟩
end
noncomputable abbrev Sp:=List V->Hp->VK->XK->Prop
noncomputable abbrev uh:=List Env->Hp->Shared->XK->Value->Shared->Prop
structure Eu (P:Program) (w:World) (K:W.Frag) (mg:Str->Option Value) (base:Heap) (A:Around) (outer:List Env) (s:Shared) (H:Hp):Prop where
 frames:A.frames=some outer
 mod:Mod K mg base
 bs:∀b o,base.get? b=some o->s.heap.get? b=some o/\H b=none
 bsz:base.objs.size<=s.heap.objs.size
 funs:s.heap.FunFrames base outer
 frf:∀b∈BQ outer,H b=none
 hok:kI P w H s.heap
 bare:AllBare s.gens
noncomputable def CE(outer:List Env) (P:Program) (w:World) (H:Hp) (s:Shared) (Q:VK) (u:Value) (s':Shared):Prop :=
 ∃v H',s'.os=s.os/\AllBare s'.gens/\Un (BQ outer) [] H H' s.heap s'.heap/\kI P w H' s'.heap/\bz v u/\Q v H'
noncomputable def CR(CX:uh) (outer:List Env) (P:Program) (w:World) (H:Hp) (s:Shared) (Q:VK) (E:XK) (r:Result) (s':Shared):Prop :=
 match r with
 |.ok (.ret u)=>CE outer P w H s Q u s'
 |.ok _=>False
 |.error e=>CX outer H s E e s'
structure iz (P:Program) (w:World) (K:W.Frag) (mg:Str->Option Value) (base:Heap) (CX:uh) (k:Nat) (f:Addr) (fd:FuncData) (ps:List Str) (sp:Sp):Prop where
 len:∀vs H Q E,sp vs H Q E->vs.length=ps.length
 run:∀(A:Around) (outer:List Env) (s:Shared) (H:Hp) (args:Args) (us:List Value) (vs:List V) (Q:VK) (E:XK),du k A->Eu P w K mg base A outer s H->BindsTo s fd args (ps.zip us)->bF vs us->sp vs H Q E ->
  codeAny (model P w) A (.call (.ref f) args) (CR CX outer P w H s Q E) s
theorem iz.mono{P:Program}{w:World}{K:W.Frag}{mg:Str->Option Value}{base:Heap}{CX:uh}{j k:Nat}{f:Addr}{fd:FuncData}{ps:List Str}{sp:Sp}(F:iz P w K mg base CX j f fd ps sp)(h:j<=k) :
  iz P w K mg base CX k f fd ps sp:=⟨F.len,λA outer s H args us vs Q E hr=>F.run A outer s H args us vs Q E (hr.mono h)⟩
section
variable {X:Cx}{pins:List (Addr×Obj)}{σ:St}{H:Hp}{s s':Shared}
theorem Inv.env0(I:Inv X pins σ H s):Eu X.prog X.w X.K X.mg X.base X.A X.stack s H :=
 ⟨I.ok.frames,I.ok.mod,I.bs,Nat.le_trans I.ok.bsz I.sz,I.stack,I.stkFree,I.hok,I.bare⟩
theorem Inv.after{Q:VK}{u:Value}(I:Inv X pins σ H s)(h:CE X.stack X.prog X.w H s Q u s'):EP X pins σ Q u s':=by
 obtain⟨v,H',os,bare,un,hok,r,q⟩:=h;obtain⟨hh,g,d,t,os'⟩:=s';obtain rfl:os'=s.os:=os;exact⟨v,H',I.call (h':=hh) (g':=g) (d':=d) (t':=t) (ch:=[]) un hok bare (λb z=>absurd z (by simp)),r,q⟩
end
noncomputable def JV(sp:Sp) (dvs:List V) (E:XK) (t:TA):TE:=λσ H Q=>t σ H λvs H1=>sp (vs++dvs) H1 Q E
noncomputable def j8(K:W.Frag) (fd:FuncData) (ps:List Str) (ds:List Value):Prop :=
 ∀(s:Shared) (us:List Value),K.In s.heap->(us++ds).length=ps.length->BindsTo s fd ⟨us,[]⟩ (ps.zip (us++ds))
theorem j8.all{K:W.Frag}{fd:FuncData}{ps:List Str}(h:∀us:List Value,us.length=ps.length->bindArgs fd ⟨us,[]⟩=pure (ps.zip us)):j8 K fd ps []:=λs us _ hl=>by
 rw[List.append_nil] at hl ⊢;exact .of_eq (h us hl)
noncomputable def fU(CX:uh) (X:Cx) (E:XK):Prop:=∀(pins:List (Addr×Obj)) (σ:St) (H:Hp) (s:Shared) (e:Value) (s':Shared),Inv X pins σ H s->CX X.stack H s E e s'->X.xe e s'
section
variable {X:Cx}{CX:uh}{k:Nat}{f C:Addr}{fd:FuncData}{ps:List Str}{sp:Sp}{dvs:List V}{ds:List Value}{E:XK}{x m:Str}{p pos apos:Pos}{e o:Expr}{es:List Expr}{ta:TE}{t:TA}
theorem HK{pins:List (Addr×Obj)}{σ:St}{H:Hp}{s:Shared}{Q:VK}{us:List Value}{vs:List V}(F:iz X.prog X.w X.K X.mg X.base CX k f fd ps sp)(hr:du k X.A)(hb:j8 X.K fd ps ds)(hd:bF dvs ds)(hx:fU CX X E)
  (I:Inv X pins σ H s)(r:bF vs us)(h:sp (vs++dvs) H Q E):wpAny (model X.prog X.w) X.A (call (.ref f) us) (EP X pins σ Q) X.xe s:=by
 have r2:bF (vs++dvs) (us++ds):=r.append hd;have hl:(us++ds).length=ps.length:=by rw[←r2.length];exact F.len _ _ _ _ h
 refine wpAny_call (codeAny_mono (F.run X.A X.stack s H ⟨us,[]⟩ (us++ds) (vs++dvs) Q E hr I.env0 (hb s us I.kIn hl) r2 h) λr s' hq=>?_);cases r with
 |error e=>exact hx pins σ H s e s' I hq
 |ok fl =>
  cases fl with|ret u=>exact I.after hq|next|brk|cont=>exact False.elim hq
theorem oB(F:iz X.prog X.w X.K X.mg X.base CX k f fd ps sp)(hr:du k X.A)(hg:Gl X x)(hm:X.mg x=some (.ref f))(hk:W.keepIn X.K (.ref f)=true)(hb:j8 X.K fd ps ds)(hd:bF dvs ds)(hx:fU CX X E)
  (ha:PA X (e::es) t)(hdb:(x==("__debug__":Str))=false:=by decide)(he:starEach (e::es) X.env=(false,eval e X.env)::starEach es X.env:=by rfl)(hpl:(backTo pos (starEach es X.env)).any (·.1)=false:=by rfl) :
  PE X (.Call (.Name x p) (e::es) [] pos) (JV sp dvs E t):=by
 intro pins s σ H Q I h;refine wpAny_Call_Name_kw (zI I hg hm ?_ hdb);refine W.callWith_K (h₀:=X.base) I.ok.mod.kin hk (cy (ha pos pins s σ H _ I h) λus s1 ⟨vs,H1,I1,r,q⟩=>⟨I1.kIn,?_⟩) he hpl;exact HK F hr hb hd hx I1 r q
end
structure gs (N P:List Str) (sc:Scope):Prop where
 kind:sc.kind=.function
 co:sc.isCoroutine=false
 gen:sc.isGenerator=false
 nd:N.Nodup
 pre:N.take P.length=P
 par:∀x∈P,sc.names.lookup x=some .local ∨ sc.names.lookup x=some .cell
 nofree:∀y∈sc.names,y.2≠.free
theorem tX{kindOf:Str->Option NameKind}{x:Str}:∀{binds:List (Str×Value)}{m:Str->Option Value},(∀v,(x,v)∉binds)->bindL kindOf binds m x=m x
 |[],_,_=>rfl
 |(n,v)::r,m,h=>by
  unfold bindL;rw[tX λw hw=>h w (List.mem_cons_of_mem _ hw)];split
  .have:x≠n:=by rintro rfl;exact h v List.mem_cons_self
   simp [this]
  .rfl
theorem tZ{kindOf:Str->Option NameKind}{x:Str}:∀{binds:List (Str×Value)}{m:Str->Option Value},(∀v,(x,v)∉binds)->bindC kindOf binds m x=m x
 |[],_,_=>rfl
 |(n,v)::r,m,h=>by
  unfold bindC;rw[tZ λw hw=>h w (List.mem_cons_of_mem _ hw)];split
  .rfl
  .have:x≠n:=by rintro rfl;exact h v List.mem_cons_self
   simp [this]
theorem tY{kindOf:Str->Option NameKind}{x:Str}{v:Value}:∀{P:List Str}{vs:List Value}{i:Nat}{m:Str->Option Value},P.Nodup->P[i]?=some x->vs[i]?=some v->kindOf x=some .local ->
  bindL kindOf (P.zip vs) m x=some v
 |[],_,_,_,_,h,_,_=>by simp at h
 |_::_,[],_,_,_,_,h,_=>by simp at h
 |p::P,w::vs,0,m,nd,h1,h2,hk=>by
  simp at h1 h2;subst h1;subst h2;show bindL kindOf ((p,w)::P.zip vs) m p=_;unfold bindL;rw[tX λv hv=>(List.nodup_cons.mp nd).1 (List.of_mem_zip hv).1,if_pos hk];simp
 |p::P,w::vs,i+1,m,nd,h1,h2,hk=>by
  show bindL kindOf ((p,w)::P.zip vs) m x=_;unfold bindL;exact tY (i:=i) (List.nodup_cons.mp nd).2 (by simpa using h1) (by simpa using h2) hk
theorem t8{kindOf:Str->Option NameKind}{x:Str}{v:Value}:∀{P:List Str}{vs:List Value}{i:Nat}{m:Str->Option Value},P.Nodup->P[i]?=some x->vs[i]?=some v->kindOf x≠some .local ->
  bindC kindOf (P.zip vs) m x=some v
 |[],_,_,_,_,h,_,_=>by simp at h
 |_::_,[],_,_,_,_,h,_=>by simp at h
 |p::P,w::vs,0,m,nd,h1,h2,hk=>by
  simp at h1 h2;subst h1;subst h2;show bindC kindOf ((p,w)::P.zip vs) m p=_;unfold bindC;rw[tZ λv hv=>(List.nodup_cons.mp nd).1 (List.of_mem_zip hv).1,if_neg hk];simp
 |p::P,w::vs,i+1,m,nd,h1,h2,hk=>by
  show bindC kindOf ((p,w)::P.zip vs) m x=_;unfold bindC;exact t8 (i:=i) (List.nodup_cons.mp nd).2 (by simpa using h1) (by simpa using h2) hk
noncomputable def start(N:List Str) (vs:List V):St:=vs.map some++List.replicate (N.length-vs.length) none
noncomputable def oj(CX:uh) (P:Program) (w:World) (K:W.Frag) (mg:Str->Option Value) (base:Heap) (N:List Str) (qual:Str) (scope:Scope) (f:Addr) (cd:Value) (A:Around) (outer:List Env) (s:Shared) (H:Hp) (E:XK):Cx where
 prog:=P
 w:=w
 K:=K
 mg:=mg
 base:=base
 A:=A.deeper (envOfC qual scope s.heap.objs.size f cd)
 N:=N
 sf:=s
 Ha:=H
 env:=envOfC qual scope s.heap.objs.size f cd
 outer:=outer
 stack:=envOfC qual scope s.heap.objs.size f cd::outer
 ex:=[]
 calm:=true
 fn:=λ_=>true
 pn:=[]
 xe:=λe s'=>wpAny (model P w) (A.deeper (envOfC qual scope s.heap.objs.size f cd)) (leaving (envOfC qual scope s.heap.objs.size f cd) e) (λ_ s''=>CX outer H s E e s'') (λe' s''=>CX outer H s E e' s'') s'
theorem xB{sc:Scope}{n:Nat}{x:Str}(h:sc.names.lookup x=some .cell):∃c,(cellsFrom n sc.names []).lookup x=some c:=by
 have q:=W.cellsFrom_some sc.names n [] (.inl h);exact Option.isSome_iff_exists.mp q
theorem Bq{CX:uh}{P:Program}{w:World}{K:W.Frag}{mg:Str->Option Value}{base:Heap}{N ps:List Str}{qual:Str}{scope:Scope}{f:Addr}{cd:Value}{A:Around}{outer:List Env}{s s1:Shared}{H:Hp}{E:XK}{us:List Value}{vs:List V}
  (S:gs N ps scope)(hd:A.handled=none)(e0:Eu P w K mg base A outer s H)(hl:vs.length=ps.length)(r:bF vs us)
  (x:InCallC s s.heap.objs.size (bindL (envOfC qual scope s.heap.objs.size f cd).kindOf (ps.zip us) λ_=>none) (cellsFrom (s.heap.objs.size+1) scope.names []) (bindC (envOfC qual scope s.heap.objs.size f cd).kindOf (ps.zip us) λ_=>none) s1) :
  Inv (oj CX P w K mg base N qual scope f cd A outer s H E) [] (start N vs) H s1:=by
 have hpl:ps.length<=N.length:=by have:=congrArg List.length S.pre;rw[List.length_take] at this;omega
 obtain⟨h1,tk,rfl,hk⟩:=x.done;have noA:∀b:Addr,b∉(oj CX P w K mg base N qual scope f cd A outer s H E).ex:=λb z=>absurd (show b∈([]:List Addr) from z) (by simp);refine⟨⟨e0.mod,S.kind,rfl,rfl,Nat.le_refl _,λy z c h1 h2=>?_,λy hy=>?_,λy c _ h=>?_,λ_=>hd,Around.frames_deeper e0.frames,.inr ⟨rfl,rfl⟩,λb z=>absurd z (noA b),e0.bs,e0.bsz,λb _ _=>noA b,λb z=>absurd z (noA b),e0.funs,e0.frf⟩,
  rfl,e0.bare,Un.kept hk,⟨_,x.toInCall.ns,λi y v h1 h2 h3=>?_⟩,λy c h=>⟨_,x.cell y c h⟩,e0.hok.fresh (Nat.le_refl _),λy c h=>?_,λp hp=>absurd (show p∈([]:List (Addr×Obj)) from hp) (by simp),e0.hok.kept hk,?_⟩
 .exact name_of_addr x.apart (PySem.mem_of_lookup h1) (PySem.mem_of_lookup h2)
 .have hy:scope.names.lookup y=some .cell∨scope.names.lookup y=some .free:=hy
  rcases hy with hy|hy
  .exact xB hy
  .exact absurd rfl (S.nofree _ (PySem.mem_of_lookup hy))
 .exact Nat.le_of_lt (x.above y c (PySem.mem_of_lookup h))
 .have hi:i<vs.length:=by
   unfold start at h2
   by_cases hi:i<vs.length
   .exact hi
   .rw[List.getElem?_append_right (by simpa using hi)] at h2
    rw[List.getElem?_replicate] at h2;split at h2<;>cases h2
  have ha:vs[i]?=some v:=by
   unfold start at h2;rw[List.getElem?_append_left (by simpa using hi),List.getElem?_map] at h2;cases e:vs[i]? with|none=>rw[e] at h2;cases h2|some a=>rw[e] at h2;cases h2;rfl
  obtain⟨u,hu,rv⟩:=r.get ha;have hp:ps[i]?=some y:=by
   rw[←S.pre,List.getElem?_take_of_lt (by omega)];exact h1
  have ndP:ps.Nodup:=by rw[←S.pre];exact S.nd.sublist (List.take_sublist _ _)
  refine⟨u,rv,?_⟩;rcases S.par y (List.mem_of_getElem? hp) with k|k
  .exact .inl ⟨k,tY ndP hp hu k⟩
  .obtain⟨c,e⟩:=xB (n:=s.heap.objs.size+1) k
   refine .inr ⟨.inl k,c,e,?_⟩;have q:=x.cell y c e;rw[t8 ndP hp hu (by show scope.names.lookup y≠_;rw[k];decide)] at q;exact q
 .exact e0.hok.fresh (Nat.le_of_lt (x.above y c (PySem.mem_of_lookup h)))
 .unfold start
  show _=N.length;rw[List.length_append,List.length_map,List.length_replicate];omega
theorem KR{CX:uh}{P:Program}{w:World}{K:W.Frag}{mg:Str->Option Value}{base:Heap}{k:Nat}{f:Addr}{name qual:Str}{params:Arguments}{body:List Stmt}{scope:Scope}{dV kV doc pm cdv ct oc:Value}{an od:Option Addr}
  {osl:Array (Option Value)}{N ps:List Str}{sp:Sp}(lk:K.lookup f=some ⟨oc,od,.func (W.fnOf name qual params body scope dV kV doc pm an cdv ct),osl⟩) (hcd:W.codeIn K cdv qual=true) (S:gs N ps scope)
  (len:∀vs H Q E,sp vs H Q E->vs.length=ps.length)
  (hbody:∀(A:Around) (outer:List Env) (s:Shared) (H:Hp) (vs:List V) (Q:VK) (E:XK),du k (A.deeper (envOfC qual scope s.heap.objs.size f cdv))->sp vs H Q E ->
   ∃t,vm (oj CX P w K mg base N qual scope f cdv A outer s H E) body t/\t { nx:=λ_ H'=>Q .non H',rt:=Q } (start N vs) H) :
  iz P w K mg base CX (k+1) f (W.fnOf name qual params body scope dV kV doc pm an cdv ct) ps sp:=by
 refine⟨len,λA outer s H args us vs Q E hr e0 hb r hsp=>?_⟩;have hl:=len _ _ _ _ hsp;have KX:K.In s.heap:=e0.mod.kin.keeps λb o e=>(e0.bs b o e).1;have lim:s.heap.NoLimit:=e0.mod.nolimit.keeps λb o e=>(e0.bs b o e).1;have hkind:∀y∈ps.zip us,scope.names.lookup y.1=some .local ∨ (scope.names.lookup y.1=some .cell/\((cellsFrom (s.heap.objs.size+1) scope.names []).lookup y.1).isSome=true):=λ⟨n,v⟩ hy=>by
  rcases S.par n (List.of_mem_zip hy).1 with q|q
  .exact .inl q
  .exact .inr ⟨q,W.cellsFrom_some _ _ _ (.inl q)⟩
 refine codeAny_call_function hr.depth (KX _ _ lk) rfl S.co S.gen rfl (W.codeRec_of KX hcd) (hb _ _ _ _ ?_);refine wpAny_newFunctionEnv_cells S.kind hkind λenv he s1 x=>?_;subst he;refine⟨lim.keeps x.toInCall.keep,codeAny_func ?_⟩;obtain⟨t,ht,hq⟩:=hbody A outer s H vs Q E (hr.deeper _) hsp;have I:Inv (oj CX P w K mg base N qual scope f cdv A outer s H E) [] (start N vs) H s1:=Bq S hr.hd e0 hl r x;refine wpAny_mono (ht [] s1 (start N vs) H _ I hq) (λfl s' hs=>?_) λe s' hs=>hs;have fin:∀{σ':St}{H':Hp}{v:V}{u:Value},Inv (oj CX P w K mg base N qual scope f cdv A outer s H E) [] σ' H' s'->bz v u->Q v H'->CE outer P w H s Q u s' :=
  λ{σ' H' v u} J rv q=>⟨v,H',J.os,J.bare,J.base,J.hok,rv,q⟩
 cases fl with
 |ret u =>
  obtain⟨v,σ',H',J,rv,q⟩:=hs;exact fin J rv q
 |next =>
  obtain⟨σ',H',J,q⟩:=hs;exact fin (v:=V.non) (u:=Value.none) J rfl q
 |brk =>
  obtain⟨_,_,_,q⟩:=hs;exact False.elim q
 |cont =>
  obtain⟨_,_,_,q⟩:=hs;exact False.elim q
section
variable {X:Cx}{x:Str}{p pos:Pos}{e:Expr}{es:List Expr}{t:TA}{id T:String}{r:List V->Hp->VK->Prop}
noncomputable def MF(r:List V->Hp->VK->Prop) (t:TA):TE:=λσ H Q=>t σ H λvs H1=>r vs H1 Q
theorem vN(hc:jo X (.builtin id) r)(hg:Gl X x)(hm:X.mg x=none)(hv:bootBuiltins x=some (.builtin id))(ha:PA X (e::es) t)(hn:x≠"__name__":=by decide)(hdb:(x==("__debug__":Str))=false:=by decide)
  (he:starEach (e::es) X.env=(false,eval e X.env)::starEach es X.env:=by rfl)(hpl:(backTo pos (starEach es X.env)).any (·.1)=false:=by rfl):PE X (.Call (.Name x p) (e::es) [] pos) (MF r t):=by
 intro pins s σ H Q I h;refine wpAny_Call_Name_kw (pS I hg hm hv ?_ hn hdb);exact PyProof.Rows.callWith_builtin1 (cy (ha pos pins s σ H _ I h) λus s1 ⟨vs,H1,I1,r1,q1⟩=>hc pins s1 σ H1 vs us Q I1 r1 q1) he hpl
theorem A8(hc:jo X (.type T) r)(hg:Gl X x)(hm:X.mg x=none)(hv:bootBuiltins x=some (.type T))(ha:PA X (e::es) t)(hn:x≠"__name__":=by decide)(hdb:(x==("__debug__":Str))=false:=by decide)
  (he:starEach (e::es) X.env=(false,eval e X.env)::starEach es X.env:=by rfl)(hpl:(backTo pos (starEach es X.env)).any (·.1)=false:=by rfl):PE X (.Call (.Name x p) (e::es) [] pos) (MF r t):=by
 intro pins s σ H Q I h;refine wpAny_Call_Name_kw (pS I hg hm hv ?_ hn hdb);exact PyProof.Rows.callWith_type1 (cy (ha pos pins s σ H _ I h) λus s1 ⟨vs,H1,I1,r1,q1⟩=>hc pins s1 σ H1 vs us Q I1 r1 q1) he hpl
end
end L2
namespace HT
open PySem PyProof.Rows
section
variable {prog:Program}{w:World}{A:Around}{E:Value->Shared->Prop}{s:Shared}
theorem cat_tup{t b:Addr}{vs ws:List Value}{Q:Value->Shared->Prop}(ht:IsTup s.heap t vs.toArray)(hb:IsTup s.heap b ws.toArray)(hv:vs≠[])
  (h1:ws=[]->Q (.ref t) s)(h2:ws≠[]->Q (.ref s.heap.objs.size) { s with heap:=s.heap.push { cls:=.type "tuple",data:=.seq (vs++ws).toArray } })
  (hsz:vs.length+ws.length<=sizeLine):wpAny (model prog w) A (binaryOp .Add (.ref t) (.ref b)) Q E s:=by
 obtain⟨⟨cls,dd,data,sl⟩,ho,hc,n,hd⟩:=id ht;obtain⟨⟨cls2,dd2,data2,sl2⟩,ho2,hc2,n2,hd2⟩:=id hb;simp only at hc hd hc2 hd2;subst hc hd hc2 hd2;have e:vs.toArray++ws.toArray=(vs++ws).toArray:=by simp
 by_cases hw:ws=[]
 .exact concat_meets ⟨_,ho,rfl⟩ ⟨_,ho2,rfl⟩ noFill_tuple_add seq_tuple_add PySem.F.slot_tuple_add PySem.F.entry_tuple_add (PySem.F.args_tuple_add_2 _ _)
   (tuple_addW1 t b vs.toArray ws.toArray n n2 dd dd2 sl sl2 (by simpa using hv) (by simp [hw])) ⟨ho,ho2,h1 hw⟩
 .refine concat_meets ⟨_,ho,rfl⟩ ⟨_,ho2,rfl⟩ noFill_tuple_add seq_tuple_add PySem.F.slot_tuple_add PySem.F.entry_tuple_add (PySem.F.args_tuple_add_2 _ _)
   (tuple_addW2 t b vs.toArray ws.toArray n n2 dd dd2 sl sl2 (by simpa using hv) (by simpa using hw) (by rw[List.size_toArray,List.size_toArray];exact hsz)) ⟨ho,ho2,?_⟩
  rw[e];exact h2 hw
noncomputable def sIx(n d:Nat):Option Int->Nat
 |none=>d
 |some v=>if v<0 then(v+(n:Int)).toNat else min v.toNat n
theorem sIx_none(n d:Nat):sIx n d none=d:=rfl
theorem sIx_nat(n d k:Nat):sIx n d (some (k:Int))=min k n:=by
 show(if(k:Int)<0 then((k:Int)+(n:Int)).toNat else min (k:Int).toNat n)=min k n;rw[if_neg (by omega),Int.toNat_natCast]
theorem HJ(n d:Nat)(hd:d<=n)(o:Option Int):sIx n d o<=n:=by
 cases o with
 |none=>exact hd
 |some v =>
  show(if v<0 then(v+(n:Int)).toNat else min v.toNat n)<=n
  by_cases hv:v<0
  .rw[if_pos hv];omega
  .rw[if_neg hv];exact Nat.min_le_right _ _
theorem AD(v:Int)(n d:Nat):(if v<0 then max (v+(n:Int)) 0 else min v (n:Int))=((sIx n d (some v):Nat):Int):=by
 show(if v<0 then max (v+(n:Int)) 0 else min v (n:Int))=(((if v<0 then(v+(n:Int)).toNat else min v.toNat n):Nat):Int)
 by_cases hv:v<0
 .simp only[if_pos hv];omega
 .simp only[if_neg hv];omega
theorem yU(lo hi:Option Int)(n:Nat):Builtin.Slice.sliceAdjust lo hi 1 (n:Int)=(((sIx n 0 lo:Nat):Int),((sIx n n hi:Nat):Int)):=by
 have h1:¬((1:Int)<0):=by omega
 unfold Builtin.Slice.sliceAdjust;simp only[h1,if_false];refine Prod.ext ?_ ?_
 .cases lo with
  |none=>rfl
  |some v=>exact AD v n 0
 .cases hi with
  |none=>rfl
  |some v=>exact AD v n n
theorem yf(i j:Nat):Builtin.Slice.slicePlaces (i:Int) (j:Int) 1=j-i:=by
 unfold Builtin.Slice.slicePlaces;have h1:(1:Int) > 0:=by omega
 simp only[h1,if_true,Int.ediv_one];split<;>omega
theorem o8{v:Value}{o:Option Int}{Q:Option Int->Shared->Prop}(p:IsPart v o)(h:Q o s):wpAny (model prog w) A (Builtin.Slice.slicePartIndex v) Q E s:=by
 cases p with|none=>exact slicePart_none h|int i t=>exact slicePart_int h
theorem mW{sl:Addr}{vl vu:Value}{lo hi:Option Int}{n:Nat}{Q:Int×Int×Nat->Shared->Prop}(hs:s.heap.IsSliceOf sl vl vu .none)(pl:IsPart vl lo)(pu:IsPart vu hi)
  (h:Q (((sIx n 0 lo:Nat):Int),1,sIx n n hi-sIx n 0 lo) s):wpAny (model prog w) A (Builtin.Slice.sliceApplied (.ref sl) (pure (n:Int))) Q E s:=by
 obtain⟨os,hos,hcs,hds⟩:=id hs;unfold Builtin.Slice.sliceApplied Builtin.Slice.sliceFields;refine wpAny_bind (wpAny_bind (wpAny_field hos hds (x:=vl) rfl (wpAny_bind (wpAny_field hos hds (x:=vu) rfl (wpAny_bind (wpAny_field hos hds (x:=.none) rfl (wpAny_pure ?_)))))));refine wpAny_bind (slicePart_none ?_);show wpAny _ _ (if((1:Int)==0)=true then _ else _) _ _ s;rw[if_neg (by decide)];refine wpAny_bind (o8 pl (wpAny_bind (o8 pu (wpAny_bind (wpAny_pure ?_)))));show wpAny _ _ (match Builtin.Slice.sliceAdjust lo hi 1 (n:Int) with|(lo,hi)=>pure (lo,(1:Int),Builtin.Slice.slicePlaces lo hi 1)) _ _ s;rw[yU lo hi n];show wpAny _ _ (pure (((sIx n 0 lo:Nat):Int),(1:Int),Builtin.Slice.slicePlaces ((sIx n 0 lo:Nat):Int) ((sIx n n hi:Nat):Int) 1)) _ _ s;rw[yf];exact wpAny_pure h
theorem CN(xs:Array Value)(i k:Nat):((List.range k).filterMap λ(m:Nat)=>xs[((i:Int)+(m:Int)*1).toNat]?).toArray=((xs.toList.drop i).take k).toArray:=by
 have e:(λ(m:Nat)=>xs[((i:Int)+(m:Int)*1).toNat]?)=λm=>xs[i+m]?:=by
  funext m;have:((i:Int)+(m:Int)*1).toNat=i+m:=by omega
  rw[this]
 rw[e];have:=pick_run xs i k;rw[List.filterMap_map] at this;have e2:((λx=>xs[x]?)∘λx=>i+x)=λm=>xs[i+m]?:=rfl;rw[e2] at this;rw[this]
theorem getItem_tuple_cut{t sl:Addr}{items:Array Value}{vl vu:Value}{lo hi:Option Int}{Q:Value->Shared->Prop}(ht:IsTup s.heap t items)(hs:s.heap.IsSliceOf sl vl vu .none)(pl:IsPart vl lo)(pu:IsPart vu hi)
  (hw:¬(sIx items.size 0 lo=0/\sIx items.size items.size hi=items.size))
  (h:Q (.ref s.heap.objs.size) { s with heap:=s.heap.push { cls:=.type "tuple",data:=.seq ((items.toList.drop (sIx items.size 0 lo)).take (sIx items.size items.size hi-sIx items.size 0 lo)).toArray } })
  (hsz:items.size<=sizeLine):wpAny (model prog w) A (getItem (.ref t) (.ref sl)) Q E s:=by
 have htake:sizeOk (.seq ((items.toList.drop (sIx items.size 0 lo)).take (sIx items.size items.size hi-sIx items.size 0 lo)).toArray):=by
  show((items.toList.drop (sIx items.size 0 lo)).take (sIx items.size items.size hi-sIx items.size 0 lo)).toArray.size<=sizeLine;rw[List.size_toArray,List.length_take,List.length_drop,Array.length_toList];omega
 have hj:sIx items.size items.size hi<=items.size:=HJ _ _ (Nat.le_refl _) hi;obtain⟨os,hos,hcs,hds⟩:=id hs;have hTs:s.TypeIs (.ref sl) "slice":=⟨os,hos,hcs⟩
 unfold getItem
 try with_reducible refine wpAny_holding ?_
 first|refine wpAny_bind (wpAny_pure ?_)|skip
 refine wpAny_bind (wpAny_sequenceKey ht.typeIs (by decide) ?_);refine wpAny_bind (wpAny_callSpecial?_slot (name:=Str.ofString "__getitem__") ht.typeIs PyProof.Rows.slot_tuple_getitem
  (wpAny_call_entry PyProof.Rows.slot_tuple_getitem ht.typeIs entry_tuple_getitem ?_ (args_tuple_getitem _ _)))
 show wpAny _ _ (Builtin.Tuple.tupleItemsOf (.ref t) >>= _) _ _ s;refine wpAny_bind (tupleItemsOf_ ht ?_);refine wpAny_bind (wpAny_typeOf hTs ?_);rw[if_pos (by decide)];refine wpAny_bind (mW hs pl pu ?_);have hno:¬((((sIx items.size 0 lo:Nat):Int)==0&&(1:Int)==1&&(sIx items.size items.size hi-sIx items.size 0 lo)==items.size)=true):=by
  intro q;rw[Bool.and_eq_true,Bool.and_eq_true] at q;have q1:((sIx items.size 0 lo:Nat):Int)=0:=eq_of_beq q.1.1;have q2:sIx items.size items.size hi-sIx items.size 0 lo=items.size:=eq_of_beq q.2;exact hw ⟨by omega,by omega⟩
 show wpAny _ _ (if(((sIx items.size 0 lo:Nat):Int)==0&&(1:Int)==1&&(sIx items.size items.size hi-sIx items.size 0 lo)==items.size)=true then _ else _) _ _ s;rw[if_neg hno,CN]
 first
  |exact wpAny_bind (m:=Builtin.Tuple.tupleExact _) (wpAny_newObj_type (wpAny_pure ⟨_,rfl,wpAny_pure h⟩) htake)
  |exact wpAny_bind (m:=Builtin.Tuple.tupleExact _) (wpAny_newObj_type (wpAny_bind (wpAny_pure (wpAny_pure ⟨_,rfl,wpAny_pure h⟩))) htake)
  |exact wpAny_bind (wpAny_bind (m:=Builtin.Tuple.tupleExact _) (wpAny_newObj_type (wpAny_pure (wpAny_pure ⟨_,rfl,wpAny_pure h⟩)) htake))
  |exact wpAny_bind (wpAny_bind (m:=Builtin.Tuple.tupleExact _) (wpAny_newObj_type (wpAny_pure ⟨_,rfl,wpAny_pure h⟩) htake))
end
end HT
namespace L2
open PySem PySem.Spec PyProof.Rows
noncomputable abbrev TO:=St->Hp->(Option Int->Hp->Prop)->Prop
noncomputable def PO(X:Cx) (e:Option Expr) (t:TO):Prop :=
 ∀(pins:List (Addr×Obj)) (s:Shared) (σ:St) (H:Hp) (Q:Option Int->Hp->Prop),Inv X pins σ H s->t σ H Q ->
  wpAny (model X.prog X.w) X.A (evalPart e X.env) (λu s'=>∃o H',Inv X pins σ H' s'/\IsPart u o/\Q o H') X.xe s
noncomputable def E1:TO:=λ_ H Q=>Q none H
noncomputable def JO(t:TE):TO:=λσ H Q=>t σ H λx H1=>∃i,x=.int i/\Q (some i) H1
section
variable {X:Cx}{e:Expr}{te:TE}{lo hi:Option Expr}{tl th:TO}{pos p2:Pos}
theorem Fi:PO X none E1:=by
 intro pins s σ H Q I h;rw[evalPart_none];exact wpAny_pure ⟨none,H,I,.none,h⟩
theorem Fh(h:PE X e te):PO X (some e) (JO te):=by
 intro pins s σ H Q I hw;rw[evalPart_some];refine cy (h pins s σ H _ I hw) λu s1 ⟨x,H1,I1,r1,q1⟩=>?_;obtain⟨i,rfl,q⟩:=q1;obtain⟨t,rfl⟩:=r1;exact⟨some i,H1,I1,.int i t,q⟩
noncomputable def EB(X:Cx) (r:V->Option Int->Option Int->Hp->VK->Prop):Prop :=
 ∀(pins:List (Addr×Obj)) (s:Shared) (σ:St) (H:Hp) (x:V) (v vl vu:Value) (lo hi:Option Int) (sl:Addr) (Q:VK),Inv X pins σ H s->bz x v->s.heap.IsSliceOf sl vl vu .none->IsPart vl lo->IsPart vu hi->r x lo hi H Q ->
  ∃T id,typeLookup (.type T) "__getitem__"=pure (some (.builtin id))/\s.TypeIs v T/\wpAny (model X.prog X.w) X.A (getItem v (.ref sl)) (EP X pins σ Q) X.xe s
theorem EB.or{r r':V->Option Int->Option Int->Hp->VK->Prop}(h:EB X r)(h':EB X r'):EB X (λx lo hi H Q=>r x lo hi H Q∨r' x lo hi H Q):=by
 intro pins s σ H x v vl vu lo hi sl Q I rx hs pl pu q;rcases q with q|q
 .exact h pins s σ H x v vl vu lo hi sl Q I rx hs pl pu q
 .exact h' pins s σ H x v vl vu lo hi sl Q I rx hs pl pu q
noncomputable def MB(r:V->Option Int->Option Int->Hp->VK->Prop) (te:TE) (tl th:TO):TE:=λσ H Q=>te σ H λx H1=>tl σ H1 λl H2=>th σ H2 λu H3=>r x l u H3 Q
theorem vM{r:V->Option Int->Option Int->Hp->VK->Prop}(hr:EB X r)(he:PE X e te)(hl:PO X lo tl)(hu:PO X hi th):PE X (.Subscript e (.Slice lo hi none p2) pos) (MB r te tl th):=by
 intro pins s σ H Q I h;refine Subscript_ (cy (he pins s σ H _ I h) λv s1 ⟨x,H1,I1,r1,q1⟩=>?_);refine wpAny_Slice (cy (hl pins s1 σ H1 _ I1 q1) λvl s2 ⟨l,H2,I2,pl,q2⟩=>cy (hu pins s2 σ H2 _ I2 q2) λvu s3 ⟨u,H3,I3,pu,q3⟩=>?_);rw[evalPart_none];refine wpAny_pure ?_;have I4:Inv X pins σ H3 { s3 with heap:=s3.heap.push { cls:=.type "slice",data:=.fields #[vl,vu,.none] } }:=I3.kept (t':=s3.toks) λb ob q=>Heap.get?_push_of_some _ q;obtain⟨T,id,hT,ht,hg⟩:=hr pins { s3 with heap:=s3.heap.push { cls:=.type "slice",data:=.fields #[vl,vu,.none] } } σ H3 x v vl vu l u s3.heap.objs.size Q I4 r1 (Heap.IsSliceOf.new ..) pl pu q3;show wpAny (model X.prog X.w) X.A (subscriptTail e (.Slice lo hi none p2) v (.ref s3.heap.objs.size)) (EP X pins σ Q) X.xe { s3 with heap:=s3.heap.push { cls:=.type "slice",data:=.fields #[vl,vu,.none] } };exact tail_any (ops:=[.ref s3.heap.objs.size,v]) ht hT hg (by with_unfolding_all rfl)
noncomputable def xw(xs:List V) (lo hi:Option Int):List V:=(xs.drop (HT.sIx xs.length 0 lo)).take (HT.sIx xs.length xs.length hi-HT.sIx xs.length 0 lo)
theorem nK(xs:List V)(lo hi:Option Int):(xw xs lo hi).length<=xs.length:=by
 unfold xw;rw[List.length_take,List.length_drop];omega
noncomputable def LV(K:W.Frag):V->Option Int->Option Int->Hp->VK->Prop:=λx lo hi H Q=>∃a xs,x=.ref a/\jO K H a xs /\
 ¬(HT.sIx xs.length 0 lo=0/\HT.sIx xs.length xs.length hi=xs.length)/\∀p,H p=none->Q (.ref p) (upd H p (.tup (xw xs lo hi)))
theorem HC:EB X (LV X.K):=by
 intro pins s σ H x v vl vu lo hi sl Q I rx hs pl pu h;obtain⟨a,xs,rfl,hx,hw,q⟩:=h;cases rx;obtain⟨its,r,ht,hz⟩:=I.tuple hx;have hlen:its.toArray.size=xs.length:=by rw[List.size_toArray];exact r.length.symm
 refine⟨"tuple",_,PyProof.Rows.slot_tuple_getitem.lookup,ht.typeIs,?_⟩;refine HT.getItem_tuple_cut ht hs pl pu (by rw[hlen];exact hw) ?_ (by rw[hlen];exact hz);rw[hlen];refine⟨.ref s.heap.objs.size,_,I.laid (t':=s.toks) (o:=.tup (xw xs lo hi)) (λb ob q=>Heap.get?_push_of_some _ q) (Nat.le_refl _) ?_,rfl,q _ (I.hok.fresh (Nat.le_refl _))⟩;exact⟨Nat.le_trans (nK xs lo hi) hz,_,(r.drop (HT.sIx xs.length 0 lo)).take (HT.sIx xs.length xs.length hi-HT.sIx xs.length 0 lo),IsTup.new _ _⟩
noncomputable def Ka(K:W.Frag):R2:=λx y H Q=>∃a b xs ys,x=.ref a/\y=.ref b/\jO K H a xs/\jO K H b ys/\xs≠[]/\xs.length+ys.length<=sizeLine /\
 (ys=[]->Q (.ref a) H)/\(ys≠[]->∀p,H p=none->Q (.ref p) (upd H p (.tup (xs++ys))))
theorem bF.nil_iff{xs:List V}{us:List Value}(r:bF xs us):us=[]↔xs=[]:=by
 cases r with|nil|cons _ _=>simp
theorem zx:ez X (binaryOp .Add) (Ka X.K):=by
 intro pins s σ H x y v u Q I rx ry h;obtain⟨a,b,xs,ys,rfl,rfl,ha,hb,hx,hz,q1,q2⟩:=h;cases rx;cases ry;obtain⟨its,r1,p1,_⟩:=I.tuple ha;obtain⟨its2,r2,p2,_⟩:=I.tuple hb;refine HT.cat_tup p1 p2 (λz=>hx (r1.nil_iff.mp z)) (λz=>⟨.ref a,H,I,rfl,q1 (r2.nil_iff.mp z)⟩) (λz=>?_) (by rw[←r1.length,←r2.length];exact hz);refine⟨.ref s.heap.objs.size,_,I.laid (t':=s.toks) (o:=.tup (xs++ys)) (λb ob q=>Heap.get?_push_of_some _ q) (Nat.le_refl _) ?_,rfl,q2 (λw=>z (r2.nil_iff.mpr w)) _ (I.hok.fresh (Nat.le_refl _))⟩;exact⟨by rw[List.length_append];exact hz,_,r1.append r2,IsTup.new _ _⟩
end
noncomputable def xJ(n:Nat) (i:Int):Option Nat:=if 0<=i then(if i<n then some i.toNat else none) else if -(n:Int)<=i then some (i+n).toNat else none
noncomputable def atI{α:Type}(xs:List α) (i:Int):Option α:=(xJ xs.length i).bind λj=>xs[j]?
theorem zM{n:Nat}{i:Int}{j:Nat}(h:xJ n i=some j):seqIndex? i n=some j/\j<n/\-(n:Int)<=i/\i<n:=by
 unfold xJ at h
 by_cases h0:0<=i
 .rw[if_pos h0] at h
  by_cases h1:i<n
  .rw[if_pos h1] at h
   have e:i.toNat=j:=Option.some.inj h;exact⟨by rw[seqIndex_of h0 h1,e],by omega,by omega,h1⟩
  .rw[if_neg h1] at h;cases h
 .rw[if_neg h0] at h
  by_cases h1:-(n:Int)<=i
  .rw[if_pos h1] at h
   have e:(i+n).toNat=j:=Option.some.inj h;exact⟨by rw[seqIndex_neg (by omega) h1,e],by omega,h1,by omega⟩
  .rw[if_neg h1] at h;cases h
theorem vg{α:Type}{xs:List α}{i:Int}{v:α}(h:atI xs i=some v):∃j,seqIndex? i xs.length=some j/\xs[j]?=some v/\j<xs.length/\-(xs.length:Int)<=i/\i<xs.length:=by
 unfold atI at h;cases e:xJ xs.length i with
 |none=>rw[e] at h;cases h
 |some j =>
  rw[e] at h;obtain⟨h1,h2,h3,h4⟩:=zM e;exact⟨j,h1,h,h2,h3,h4⟩
theorem eJ{α:Type}{xs:List α}{j:Nat}{v:α}(h:xs[j]?=some v):atI xs (j:Int)=some v:=by
 have hj:j<xs.length:=(List.getElem?_eq_some_iff.mp h).1;have e:xJ xs.length (j:Int)=some j:=by
  unfold xJ;rw[if_pos (by omega),if_pos (by omega)];simp
 unfold atI;rw[e];exact h
noncomputable def mH(b:Expr):Prop:=∀o i,subscripted b false o i=operate [o,i] (getItem o i)
noncomputable def Es(X:Cx) (r:R2):Prop :=
 ∀(value slice:Expr) (pins:List (Addr×Obj)) (s:Shared) (σ:St) (H:Hp) (x y:V) (v u:Value) (Q:VK),Inv X pins σ H s->bz x v->bz y u->r x y H Q ->
  subscripted slice false v u=operate [v,u] (getItem v u)->wpAny (model X.prog X.w) X.A (subscriptTail value slice v u) (EP X pins σ Q) X.xe s
noncomputable def Mu(X:Cx) (id:String) (r:V->List V->Hp->VK->Prop):Prop :=
 ∀(pins:List (Addr×Obj)) (s:Shared) (σ:St) (H:Hp) (x:V) (xs:List V) (v:Value) (us:List Value) (Q:VK),Inv X pins σ H s->bz x v->bF xs us->r x xs H Q ->
  wpAny (model X.prog X.w) X.A (call (.builtin id) (v::us)) (EP X pins σ Q) X.xe s
section
variable {X:Cx}{a b:Expr}{ta tb:TE}{pos:Pos}
theorem Es.or{r r':R2}(h:Es X r)(h':Es X r'):Es X (λx y H Q=>r x y H Q∨r' x y H Q):=by
 intro value slice pins s σ H x y v u Q I rx ry q hs;rcases q with q|q
 .exact h value slice pins s σ H x y v u Q I rx ry q hs
 .exact h' value slice pins s σ H x y v u Q I rx ry q hs
theorem GO{r:R2}(hr:Es X r)(ha:PE X a ta)(hb:PE X b tb)(hs:mH b):PE X (.Subscript a b pos) (JA r ta tb):=by
 intro pins s σ H Q I h;exact Subscript_ (Jk ha hb I h λv u s2 x y H2 I2 rx ry q=>hr a b pins s2 σ H2 x y v u Q I2 rx ry q (hs _ _))
noncomputable def J6(K:W.Frag):R2:=λx y H Q=>∃p xs i v,x=.ref p/\y=.int i/\eZ K H p xs/\atI xs i=some v/\Q v H
noncomputable def J4(K:W.Frag):R2:=λx y H Q=>∃p xs i v,x=.ref p/\y=.int i/\jO K H p xs/\atI xs i=some v/\Q v H
noncomputable def J5:R2:=λx y H Q=>∃z i c,x=.str z/\y=.int i/\z.length<=sizeLine/\atI z.cps.toList i=some c/\Q (.str ⟨#[c]⟩) H
theorem FP:Es X (J6 X.K):=by
 intro value slice pins s σ H x y v u Q I rx ry h hs;obtain⟨p,xs,i,z,rfl,rfl,hq,he,q⟩:=h;cases rx;obtain⟨t,rfl⟩:=ry;obtain⟨its,r,pl,hz⟩:=I.list hq;obtain⟨j,h1,h2,h3,h4,h5⟩:=vg he;obtain⟨w,ew,rw'⟩:=r.get h2;have hl:=r.length;have hn:=ng;have fin:EP X pins σ Q w s:=⟨z,H,I,rw',q⟩
 by_cases h0:0<=i
 .have hj:i.toNat=j:=by
   rw[seqIndex_of h0 h5] at h1;exact Option.some.inj h1
  exact item_listR pl.isList h0 (by omega) (by rw[hj];simpa using ew) fin hs
 .have hj:(i+(its.toArray.size:Int)).toNat=j:=by
   rw[seqIndex_neg (by omega) h4] at h1;rw[List.size_toArray,←hl];exact Option.some.inj h1
  exact subscriptTail_builtinR (x:=w) pl.isList.typeIs slot_list_getitem.lookup
   (wpAny_getItem_list_neg (Q:=λr s'=>r=w/\EP X pins σ Q r s') pl.isList (by omega) (by rw[List.size_toArray]<;>omega) (by omega) (by rw[hj];simpa using ew) ⟨rfl,fin⟩) hs
theorem IB:Es X (J4 X.K):=by
 intro value slice pins s σ H x y v u Q I rx ry h hs;obtain⟨p,xs,i,z,rfl,rfl,hq,he,q⟩:=h;cases rx;obtain⟨t,rfl⟩:=ry;obtain⟨its,r,pl,hz⟩:=I.tuple hq;obtain⟨j,h1,h2,h3,h4,h5⟩:=vg he;obtain⟨w,ew,rw'⟩:=r.get h2;have hl:=r.length;have hn:=ng;have fin:EP X pins σ Q w s:=⟨z,H,I,rw',q⟩
 exact subscriptTail_builtinR (x:=w) pl.typeIs slot_tuple_getitem.lookup
  (getItem_tuple (j:=j) (Q:=λr s'=>r=w/\EP X pins σ Q r s') pl (by omega) (by omega) (by rw[List.size_toArray,←hl];exact h1) (by simpa using ew) ⟨rfl,fin⟩) hs
theorem IC:Es X J5:=by
 intro value slice pins s σ H x y v u Q I rx ry h hs;obtain⟨z,i,c,rfl,rfl,hz,he,q⟩:=h;obtain⟨t,rfl⟩:=rx;obtain⟨t',rfl⟩:=ry;obtain⟨j,h1,h2,h3,h4,h5⟩:=vg he;have hl:z.cps.toList.length=z.length:=by simp [Str.length]
 rw[hl] at h1 h4 h5;have hn:=ng;exact tail_any (typeIs_str s z t) slot_str_getitem.lookup (getItem_str (c:=c) (by
  have e1:decide (i < -(2 ^ 63:Int))=false:=decide_eq_false (by omega);have e2:decide (i≥2 ^ 63)=false:=decide_eq_false (by omega);rw[e1,e2,Bool.or_false]) (by rw[h1];simpa using h2) ⟨.str ⟨#[c]⟩,H,I.tok _,⟨_,rfl⟩,q⟩) hs
noncomputable def MG(K:W.Frag):R2:=λx y H Q=>J6 K x y H Q∨J4 K x y H Q∨J5 x y H Q
theorem Dr:Es X (MG X.K):=FP.or (IB.or IC)
theorem yr(its:List Value)(n j:Nat)(u:Value):Obj.mapSeq (·.setIfInBounds j u) { cls:=.type "list",data:=.seq its.toArray n }={ cls:=.type "list",data:=.seq (its.set j u).toArray n }:=by
 simp [Obj.mapSeq]
theorem Inv.lst{pins:List (Addr×Obj)}{σ:St}{H:Hp}{s:Shared}{p:Addr}{xs:List V}(I:Inv X pins σ H s)(h:H p=some (.lst xs)) :
  ∃(its:List Value) (n:Nat),bF xs its/\s.heap.get? p=some { cls:=.type "list",data:=.seq its.toArray n }/\xs.length<=sizeLine:=by
 obtain⟨z,its,n,r,e⟩:=I.hok p _ h;exact⟨its,n,r,e,z⟩
theorem Inv.lstUpd{pins:List (Addr×Obj)}{σ:St}{H:Hp}{s:Shared}{p:Addr}{xs ys:List V}{its its':List Value}{n n':Nat}{f:Obj->Obj}(I:Inv X pins σ H s)(h:H p=some (.lst xs))
  (ho:s.heap.get? p=some { cls:=.type "list",data:=.seq its.toArray n })(hf:f { cls:=.type "list",data:=.seq its.toArray n }={ cls:=.type "list",data:=.seq its'.toArray n' })(r:bF ys its')(hz:ys.length<=sizeLine)(t:Nat) :
  Inv X pins σ (upd H p (.lst ys)) { s with heap:=s.heap.update p f,toks:=t }:=by
 have e:(s.heap.update p f).get? p=some { cls:=.type "list",data:=.seq its'.toArray n' }:=by
  rw[Heap.get?_update_self f ho (by rw[hf]<;>rfl),hf]
 refine I.write (x:=p) (e:=p) (by rw[h];trivial) (.inl rfl) (λb u hb q=>(Heap.get?_update_other _ _ (Ne.symm hb)).trans q) ⟨_,e⟩ ?_;exact⟨hz,its',n',r,e⟩
noncomputable def GH:V->V->V->Hp->(Hp->Prop)->Prop:=λo i v H Q=>∃p xs k j,o=.ref p/\i=.int k/\H p=some (.lst xs)/\xJ xs.length k=some j/\Q (upd H p (.lst (xs.set j v)))
theorem vC:La X GH:=by
 intro pins s σ H o i v ov iv u Q I ro ri rv h;obtain⟨p,xs,k,j,rfl,rfl,hp,hj,q⟩:=h;cases ro;obtain⟨t,rfl⟩:=ri;obtain⟨its,n,r,ho,hz⟩:=I.lst hp;obtain⟨h1,h2,h3,h4⟩:=zM hj;have hl:=r.length;have hn:=ng;have I':Inv X pins σ (upd H p (.lst (xs.set j v))) { s with heap:=s.heap.update p (Obj.mapSeq (·.setIfInBounds j u)) } :=
  I.lstUpd hp ho (yr its n j u) (r.set rv j) (by rw[List.length_set];exact hz) s.toks
 by_cases h0:0<=k
 .have hk:k.toNat=j:=by
   rw[seqIndex_of h0 h4] at h1;exact Option.some.inj h1
  exact W.ki_setAt ho h0 (by omega) (by rw[List.size_toArray,←hl];exact h4) (by rw[hk];exact⟨_,I',q⟩)
 .have hk:(k+(its.toArray.size:Int)).toNat=j:=by
   rw[seqIndex_neg (by omega) h3] at h1;rw[List.size_toArray,←hl];exact Option.some.inj h1
  exact W.ki_setBack ho (by omega) (by rw[List.size_toArray,←hl];exact h3) (by omega) (by rw[hk];exact⟨_,I',q⟩)
theorem uu(lo hi:Option Int)(n:Nat):(sliceBounds lo hi none n).1=((HT.sIx n 0 lo:Nat):Int)/\(sliceBounds lo hi none n).2.1=((HT.sIx n n hi:Nat):Int)/\(sliceBounds lo hi none n).2.2=1:=by
 refine⟨?_,?_,rfl⟩
 .cases lo with
  |none=>simp [sliceBounds,HT.sIx]
  |some i =>
   simp only[sliceBounds,HT.sIx,Option.getD_none,show(1:Int) > 0 by decide,if_true]
   by_cases h:i<0
   .simp only[h,if_true]<;>omega
   .simp only[h,if_false]<;>omega
 .cases hi with
  |none=>simp [sliceBounds,HT.sIx]
  |some i =>
   simp only[sliceBounds,HT.sIx,Option.getD_none,show(1:Int) > 0 by decide,if_true]
   by_cases h:i<0
   .simp only[h,if_true]<;>omega
   .simp only[h,if_false]<;>omega
theorem sr(its:List Value)(lo hi:Option Int):slicePick its.toArray lo hi none=((its.drop (HT.sIx its.length 0 lo)).take (HT.sIx its.length its.length hi-HT.sIx its.length 0 lo)).toArray:=by
 obtain⟨h1,h2,h3⟩:=uu lo hi its.toArray.size;unfold slicePick;rw[h1,h2,h3];simp only[sliceRange_one,pick_run,List.size_toArray]<;>rfl
noncomputable def LX(K:W.Frag):V->Option Int->Option Int->Hp->VK->Prop:=λx lo hi H Q=>∃a xs,x=.ref a/\eZ K H a xs/\∀p,H p=none->Q (.ref p) (upd H p (.lst (xw xs lo hi)))
theorem za:EB X (LX X.K):=by
 intro pins s σ H x v vl vu lo hi sl Q I rx hs pl pu h;obtain⟨a,xs,rfl,hx,q⟩:=h;cases rx;obtain⟨its,r,ht,hz⟩:=I.list hx;have hlen:=r.length;refine⟨"list",_,slot_list_getitem.lookup,ht.isList.typeIs,?_⟩;refine wpAny_getItem_list_slice ht.isList hs pl pu .none (by simp) ?_ (by rw[List.size_toArray]<;>omega);rw[sr,←hlen];refine⟨.ref s.heap.objs.size,_,I.laid (t':=s.toks) (o:=.lst (xw xs lo hi)) (λb ob q=>Heap.get?_push_of_some _ q) (Nat.le_refl _) ?_,rfl,q _ (I.hok.fresh (Nat.le_refl _))⟩;exact⟨Nat.le_trans (nK xs lo hi) hz,_,0,(r.drop (HT.sIx xs.length 0 lo)).take (HT.sIx xs.length xs.length hi-HT.sIx xs.length 0 lo),Heap.get?_push_size _ rfl⟩
theorem uE:ez X (compareOp .NotIn) (λx y H Q=>∃i j,x=.str i/\y=.str j/\Q (.bl (!(!(Builtin.Str.occurrences j i 0 j.length 1).isEmpty))) H):=by
 intro pins s σ H x y v u Q I rx ry h;obtain⟨i,j,rfl,rfl,q⟩:=h;obtain⟨t,rfl⟩:=rx;obtain⟨t',rfl⟩:=ry;exact notIn_str ⟨.bl _,H,I,rfl,q⟩
noncomputable def Ly(K:W.Frag) (T:String) (x:V) (H:Hp):Prop:=match x with
 |.str _=>T="str"
 |.int _=>T="int"
 |.ref p=>(T="list"/\∃xs,eZ K H p xs)∨(T="tuple"/\∃o,K.lookup p=some o/\o.cls=.type "tuple"/\o.dict=none) ∨
   (T="dict"/\((∃kvs,H p=some (.dK kvs))∨∃kvs,H p=some (.dT kvs)))∨(T="set"/\∃S n,H p=some (.set S n))
 |_=>False
theorem B7{pins:List (Addr×Obj)}{σ:St}{H:Hp}{s:Shared}{T:String}{x:V}{v:Value}(I:Inv X pins σ H s)(r:bz x v)(ty:Ly X.K T x H) :
  s.TypeIs v T/\∀a,v=.ref a->∃ob,s.heap.get? a=some ob/\ob.dict=none:=by
 cases x with
 |str z =>
  obtain⟨t,rfl⟩:=r;cases (show T="str" from ty);exact⟨typeIs_str s z t,λ_ e=>nomatch e⟩
 |int i =>
  obtain⟨t,rfl⟩:=r;cases (show T="int" from ty);exact⟨typeIs_int s i t,λ_ e=>nomatch e⟩
 |ref p =>
  cases r;rcases ty with⟨rfl,xs,hq⟩|⟨rfl,o,hk,hc,hd⟩|⟨rfl,hk⟩|⟨rfl,S,n,hk⟩
  .obtain⟨its,_,pl,_⟩:=I.list hq
   refine⟨pl.isList.typeIs,λa e=>?_⟩;cases e;obtain⟨o,n,e,c,hd,_⟩:=pl;exact⟨o,e,hd⟩
  .refine⟨⟨o,I.kIn p o hk,hc⟩,λa e=>?_⟩
   cases e;exact⟨o,I.kIn _ o hk,hd⟩
  .have z:∃o,s.heap.get? p=some o/\o.ExactDict:=by
    rcases hk with⟨kvs,hk⟩|⟨kvs,hk⟩
    .obtain⟨_,_,_,_,o,_,_,e,ex,_⟩:=I.hok p _ hk
     exact⟨o,e,ex⟩
    .obtain⟨_,_,_,_,o,_,_,e,ex,_⟩:=I.hok p _ hk
     exact⟨o,e,ex⟩
   obtain⟨o,e,ex⟩:=z;refine⟨⟨o,e,ex.1⟩,λa e2=>?_⟩;cases e2;exact⟨o,e,ex.2.1⟩
  .obtain⟨o,_,_,_,e,ex,_⟩:=I.hok p _ hk
   refine⟨⟨o,e,ex.1⟩,λa e2=>?_⟩;cases e2;exact⟨o,e,ex.2.1⟩
 |_=>exact False.elim ty
noncomputable def LQ(K:W.Frag) (T:String) (r:V->List V->Hp->VK->Prop) (to:TE):TE:=λσ H Q=>to σ H λx H1=>Ly K T x H1/\r x [] H1 Q
noncomputable def Nc(K:W.Frag) (T:String) (r:V->List V->Hp->VK->Prop) (to:TE) (t:TA):TE:=λσ H Q=>to σ H λx H1=>Ly K T x H1/\t σ H1 λxs H2=>r x xs H2 Q
variable {o e:Expr}{es:List Expr}{to:TE}{t:TA}{name:Str}{apos cpos:Pos}{T id:String}{r:V->List V->Hp->VK->Prop}
theorem Ic(pa:PlainAttrs T)(slot:Slot T name id)(hty:typeOf (.builtin id)=pure (.type "method_descriptor"))(hm:Mu X id r)(ho:PE X o to)
  (hbase:attributeBase o name X.env (eval o X.env)=eval o X.env:=by rfl)(hline:(apos.endLine==cpos.line)=true:=by rfl):PE X (.Call (.Attribute o name apos) [] [] cpos) (LQ X.K T r to):=by
 intro pins s σ H Q I h;refine wpAny_Call_method0_late hbase hline (cy (ho pins s σ H _ I h) λv s1 ⟨x,H1,I1,r1,ty,q1⟩=>?_);obtain⟨h1,h2⟩:=B7 I1 r1 ty;exact⟨T,id,pa,slot,hty,h1,h2,Calls.callWith_builtin rfl (PySem.evalArgs_none (hm pins s1 σ H1 x [] v [] Q I1 r1 .nil q1))⟩
theorem CW(pa:PlainAttrs T)(slot:Slot T name id)(hty:typeOf (.builtin id)=pure (.type "method_descriptor"))(hm:Mu X id r)(ho:PE X o to)(ha:PA X (e::es) t)
  (hbase:attributeBase o name X.env (eval o X.env)=eval o X.env:=by rfl)
  (hfew:((backTo cpos (starEach (e::es) X.env)).all (λx=>!x.1)&&(backToKw cpos (keywordEach [] X.env)).all (λx=>x.1.isSome)
  &&decide ((e::es).length+([]:List Keyword).length+(if([]:List Keyword).isEmpty then 0 else 1)<30))=true:=by rfl)
  (hline:(apos.endLine==cpos.line)=true:=by rfl) (hs:starEach (e::es) X.env=(false,eval e X.env)::starEach es X.env:=by rfl) (hplain:(backTo cpos (starEach es X.env)).any (·.1)=false:=by rfl) :
  PE X (.Call (.Attribute o name apos) (e::es) [] cpos) (Nc X.K T r to t):=by
 intro pins s σ H Q I h;refine wpAny_Call_method_late hbase hfew hline rfl (cy (ho pins s σ H _ I h) λv s1 ⟨x,H1,I1,r1,ty,q1⟩=>?_);obtain⟨h1,h2⟩:=B7 I1 r1 ty;refine⟨T,id,pa,slot,hty,h1,h2,?_⟩;have hA:=ha cpos pins s1 σ H1 _ I1 q1;rw[hs] at hA ⊢;refine Calls.callWith_builtin (by show(false||(backTo cpos (starEach es X.env)).any (·.1))=false;rw[hplain]<;>rfl) (Calls.evalArgs_plain ?_);exact cy hA λus s2 ⟨vs,H2,I2,r2,q2⟩=>hm pins s2 σ H2 x vs v us Q I2 r1 r2 q2
end
noncomputable def MY(X:Cx) (id:String) (r:V->List V->Hp->VK->Prop):Prop :=
 ∀(pins:List (Addr×Obj)) (s:Shared) (σ:St) (H:Hp) (x:V) (xs:List V) (v:Value) (us:List Value) (Q:VK),Inv X pins σ H s->bz x v->bF xs us->r x xs H Q ->
  wpAny (model X.prog X.w) X.A (call (.builtin id) (v::us)) (EP X pins σ Q) X.xe s
theorem bF.one:∀{x:V}{us:List Value},bF [x] us->∃u,us=[u]/\bz x u
 |_,_,.cons r .nil=>⟨_,rfl,r⟩
theorem bF.zero:∀{us:List Value},bF [] us->us=[]
 |_,.nil=>rfl
theorem bF.dropLast{xs:List V}{us:List Value}(h:bF xs us):bF xs.dropLast us.dropLast:=by
 induction h with
 |nil=>exact .nil
 |cons r t ih =>
  cases t with|nil=>exact .nil|cons q t'=>exact .cons r ih
theorem yF{α:Type}(l:List α):l.eraseIdx (l.length-1)=l.dropLast:=by
 induction l with
 |nil=>rfl
 |cons a r ih =>
  cases r with
  |nil=>rfl
  |cons b r =>
   have e:(a::b::r).length-1=((b::r).length-1)+1:=by
    have h1:(a::b::r).length=r.length+2:=rfl;have h2:(b::r).length=r.length+1:=rfl;omega
   rw[e,List.eraseIdx_cons_succ,ih]
   all_goals rfl
section
variable {X:Cx}{pins:List (Addr×Obj)}{σ:St}{H:Hp}{s:Shared}{l b:Addr}{xs ys zs:List V}
theorem Inv.lset{its its':List Value}{n:Nat}{f:Array Value->Array Value}{t':Nat}(I:Inv X pins σ H s)(hH:H l=some (.lst xs))
  (e:s.heap.get? l=some { cls:=.type "list",data:=.seq its.toArray n })(hf:f its.toArray=its'.toArray)(hv:bF ys its')(hz:ys.length<=sizeLine) :
  Inv X pins σ (upd H l (.lst ys)) { s with heap:=s.heap.update l (Obj.mapSeq f),toks:=t' }:=by
 have q:=PySem.IsL.update e f;rw[hf] at q;refine I.write (x:=l) (e:=l) (by rw[hH];exact trivial) (.inl rfl) (λb' u hb hu=>(Heap.get?_update_other s.heap (Obj.mapSeq f) (Ne.symm hb)).trans hu) ⟨_,q⟩ ?_;exact⟨hz,its',_,hv,q⟩
theorem Inv.lnew{its:List Value}{t':Nat}(I:Inv X pins σ H s)(hv:bF ys its)(hz:ys.length<=sizeLine) :
  Inv X pins σ (upd H s.heap.objs.size (.lst ys)) { s with heap:=s.heap.push { cls:=.type "list",data:=.seq its.toArray },toks:=t' } :=
 I.laid (λ_ _ q=>Heap.get?_push_of_some _ q) (Nat.le_refl _) ⟨hz,its,0,hv,Heap.get?_push_size _ rfl⟩
theorem Inv.fresh(I:Inv X pins σ H s):H s.heap.objs.size=none:=I.hok.fresh (Nat.le_refl _)
theorem Inv.lstM(I:Inv X pins σ H s)(hH:H l=some (.lst xs)):xs.length<=sizeLine/\∃(its:List Value) (n:Nat),bF xs its/\xs.length=its.length/\s.heap.get? l=some { cls:=.type "list",data:=.seq its.toArray n }:=by
 obtain⟨z,its,n,r,e⟩:=I.hok l _ hH;exact⟨z,its,n,r,r.length,e⟩
end
section
variable {X:Cx}
noncomputable def Fe:V->List V->Hp->VK->Prop:=λx vs H Q=>∃l xs y,x=.ref l/\vs=[y]/\H l=some (.lst xs)/\xs.length<sizeLine/\Q .non (upd H l (.lst (xs++[y])))
theorem nc:MY X "list.append" Fe:=by
 intro pins s σ H x vs v us Q I rx rv h;obtain⟨l,xs,y,rfl,rfl,hH,hz,q⟩:=h;cases rx;obtain⟨u,rfl,ru⟩:=rv.one;obtain⟨z,its,n,r,hl,e⟩:=I.lstM hH;refine call_meets F.slot_list_append ⟨_,e,rfl⟩ F.entry_list_append (F.args_list_append_2 _ _) (PySem.list_append l its.toArray n u (by rw[List.size_toArray];omega)) ⟨e,?_⟩;refine⟨.non,_,I.lset (its':=its++[u]) hH e (by simp) (r.append (.cons ru .nil)) ?_,rfl,q⟩;rw[List.length_append,List.length_singleton];omega
noncomputable def LY:V->List V->Hp->VK->Prop:=λx vs H Q=>∃l xs y,x=.ref l/\vs=[]/\H l=some (.lst xs)/\xs[xs.length-1]?=some y/\Q y (upd H l (.lst xs.dropLast))
theorem Ip:MY X "list.pop" LY:=by
 intro pins s σ H x vs v us Q I rx rv h;obtain⟨l,xs,y,rfl,rfl,hH,hy,q⟩:=h;cases rx;have hus:=rv.zero;subst hus;obtain⟨z,its,n,r,hl,e⟩:=I.lstM hH;obtain⟨u,hu,ru⟩:=r.get hy;have hy':its.toArray[its.toArray.size-1]?=some u:=by
  show its.toArray[its.length-1]?=some u;rw[←Array.getElem?_toList,←hl];exact hu
 refine call_meets F.slot_list_pop ⟨_,e,rfl⟩ F.entry_list_pop (F.args_list_pop_1 _) (MeetsSeq.list_pop_last l its.toArray n u hy' (by rw[List.size_toArray];omega)) ⟨e,?_⟩;refine⟨y,_,I.lset (its':=its.dropLast) hH e ?_ r.dropLast ?_,ru,q⟩
 .show its.toArray.eraseIdxIfInBounds (its.toArray.size-1)=its.dropLast.toArray
  rw[List.size_toArray,List.eraseIdxIfInBounds_toArray,yF]
 .rw[List.length_dropLast]
  omega
end
end L2
namespace Att
open PySem PySem.W PySem.Calls PyProof.Rows
theorem oh{P:Params}{h:Heap}:∀(ns:List Int) (vs:List Value),WellAll P h vs (ns.map WData.int)->IntsAre vs ns:=by
 intro ns
 induction ns with
 |nil =>
  intro vs w;rw[List.map_nil] at w;cases w;exact .nil
 |cons n ns ih =>
  intro vs w;rw[List.map_cons] at w;cases w with
  |cons a b =>
   cases a;exact .cons _ _ (ih _ b)
theorem A2{l:OpenLaw}{n:Nat}(hn:l.most=some n){P:Params}{h:Heap}{args:List WData}{vals:List Value}
  (hpre:l.row.toRowW.claim.pre args=true)(hwl:WellAll P h vals args) :
  ∃a vs ns,vals=[Value.ref a]/\args=[WData.list (ns.map WData.int)]/\h.get? a=some { cls:=.type "list",data:=.seq vs.toArray }/\IntsAre vs ns/\ns.length<=n:=by
 have hsh:WShape.hasAll [] args [.list .int]=true:=(pre_splitW hpre).1;have hc:l.pre.holds [] { args:=args }=true:=(pre_splitW hpre).2;obtain⟨d,r,rfl,h1,h2⟩:=hasAllW_cons hsh;obtain rfl:=hasAllW_nil h2;obtain⟨xs,rfl,h3⟩:=hasW_list h1;obtain⟨ns,rfl⟩:=items_int h3;have hlen:ns.length<=n:=by
  unfold OpenLaw.pre at hc;have h4:(WTm.not (.lt (.lit (.int (n:Int))) (.len (.arg 0)))).holds [] { args:=[.list (ns.map .int)] }=true:=by
   have h4:=(holds_andW hc).1;rw[hn] at h4;exact h4
  have h5:=condW_of h4 (w_not (w_lt w_lit (w_len_list (w_arg rfl))));rw[List.length_map] at h5;refine Nat.le_of_not_lt λq=>?_;have q':(n:Int)<((ns.length:Nat):Int):=by omega
  first
   |(rw[decide_eq_true q'] at h5;exact absurd h5 (by decide))
   |(simp at h5;omega)
 cases hwl with
 |cons w1 w2 =>
  cases w2;cases w1 with|list ho hall=>exact⟨_,_,ns,rfl,rfl,ho,oh ns _ hall,hlen⟩
theorem A6(l:OpenLaw)(args:List WData):l.row.toRowW.claim.post args (.bool true) args=true :=
 postW_of (r:=l.row.toRowW) (X:=(true==true))
  (show WShape.has [] (.bool true) .bool=true by first|rfl|decide|simp [WShape.has,WShape.arms,WShape.armsAll])
  (show(WTm.eq .res (.lit (.bool true))).value [] { args:=args,res:=some (.bool true),after:=args }=some (.bool (true==true)) from w_eq_bool (w_res rfl) w_lit) rfl
theorem attach_call{l:OpenLaw}{n:Nat}{q:Program}{loose:List Str}{XP:(Str->Option Value)->Heap->Prop}{YP:World->Heap->Prop}{d:DefRec}
  (hn:l.most=some n)(hdf:d.params.defaults=[])
  (call:∀(w:World) (sf sg:Shared) (mg mb:Str->Option Value) (fa:Addr) (o:Obj) (pm cd doc:Value) (a:Addr) (vs:List Value) (ns:List Int),
   Ground q loose [] XP w sf mg mb sg.heap->YP w sg.heap ->
   sg.heap.get? fa=some o->o.data=.func (docDef d.name d.params d.body d.scope pm cd doc)->sg.heap.CodeRec cd d.name->mg d.name=some (.ref fa) ->
   sg.heap.get? a=some { cls:=.type "list",data:=.seq vs.toArray }->IntsAre vs ns->ns.length<=n->sg.gens=#[] ->
   codeAny (model l.prog w) callerA (.call (.ref fa) ⟨[.ref a],[]⟩) (λr s'=>r=.ok (.ret (.bool true))/\OldK sg.heap s'.heap/\s'.os=sg.os/\AllBare s'.gens) sg) :
  WalkO q loose XP YP l.row.toRowW d [] (λf vs=>PySem.call f vs):=by
 intro w sf sg mg mb G Y fa o pm cd doc dV kV ho hd hcd hD hmg hg args vals as hpre hlay hrd hwl hlo;obtain rfl:dV=.none:=Dflts.none hD hdf;obtain rfl:kV=.none:=Dflts.noKw hD;obtain⟨a,vs,ns,rfl,rfl,hobj,hints,hlen⟩:=A2 hn hpre hwl;refine enter_call (codeAny_mono (call w sf sg mg mb fa o pm cd doc a vs ns G Y ho (fd_plain hd) hcd hmg hobj hints hlen hg) λr s' hq=>?_);obtain⟨rfl,h2,h3,h4⟩:=hq;exact⟨.inl ⟨.bool true,.bool true,[],rfl,λ_=>rfl,.bool true,A6 l _,λ_=>⟨List.Pairwise.nil,λ_ hm=>(nomatch hm)⟩⟩,h2,h3,h4⟩
end Att
namespace L2
open PySem PySem.Spec PyProof.Rows
theorem sI:∀{vs:List Value}{ns:List Int},IntsAre vs ns->bF (ns.map V.int) vs
 |_,_,.nil=>.nil
 |_,_,.cons n t h=>.cons ⟨t,rfl⟩ (sI h)
noncomputable def Gv(H:Hp):Prop:=∀b,H b=none∨∃o xs,H b=some (.frz o (.lst xs))
theorem Dp{P:Program}{w:World}{K:W.Frag}{mg mb:Str->Option Value}{CX:uh}{k:Nat}{fa a:Addr}{fd:FuncData}{x:Str}{sp:Sp}{sg:Shared}{vs:List Value}{ns:List Int}
  (KX:K.In sg.heap)(hns:sg.heap.Ns mainGlobals mg)(hb:sg.heap.Ns builtinsNs mb)(hbb:∀x:Str,x≠"__name__"->mb x=bootBuiltins x)(hlim:sg.heap.NoLimit)(hsm:∃mm,sg.heap.Ns sysModules mm)(hg:sg.gens=#[])
  (ha:sg.heap.get? a=some { cls:=.type "list",data:=.seq vs.toArray })(hi:IntsAre vs ns)(hl:ns.length<=sizeLine)(hr:du k callerA)
  (F:∀base:Heap,K.In base->base.Ns mainGlobals mg->iz P w K mg base CX k fa fd [x] sp)(hbind:∀(s:Shared) (u:Value),BindsTo s fd ⟨[u],[]⟩ [(x,u)])
  (hsp:∀H:Hp,Gv H->eZ K H a (ns.map V.int)->sp [.ref a] H (λv _=>v=.bl true) λ_ _ _=>False)
  (hCX:∀H e s',CX [] H sg (λ_ _ _=>False) e s'->False) :
  codeAny (model P w) callerA (.call (.ref fa) ⟨[.ref a],[]⟩) (λr s'=>r=.ok (.ret (.bool true))/\OldK sg.heap s'.heap/\s'.os=sg.os/\AllBare s'.gens) sg:=by
 have rv:=sI hi;have lenV:=hi.length;have core:∀H:Hp,Gv H->eZ K H a (ns.map V.int)->kI P w H sg.heap->(∀b,H b≠none->b=a)->(H a≠none->K.lookup a=none) ->
   codeAny (model P w) callerA (.call (.ref fa) ⟨[.ref a],[]⟩) (λr s'=>r=.ok (.ret (.bool true))/\OldK sg.heap s'.heap/\s'.os=sg.os/\AllBare s'.gens) sg:=by
  intro H hO hS hok hA hK;have base_of:∀{b:Addr}{o:Obj},sg.heap.get? b=some o->H b=none->(uP sg.heap H).get? b=some o:=λe n=>Dv e n;have noA:∀{b:Addr}{o:Obj}{es:Array DictEntry}{ep:Nat},sg.heap.get? b=some o->o.data=.dict es ep->H b=none:=λ{b o es ep} e d=>by
   cases q:H b with
   |none=>rfl
   |some u =>
    have e':b=a:=hA b (by rw[q];simp);subst e';rw[ha] at e;cases e;have d':Data.seq vs.toArray _=Data.dict es ep:=d;cases d'
  have nsK:∀{b:Addr}{m:Str->Option Value},sg.heap.Ns b m->(uP sg.heap H).Ns b m:=λ{b m} ⟨o,es,ep,e,d,r⟩=>⟨o,es,ep,base_of e (noA e d),d,r⟩
  have hKb:K.In (uP sg.heap H):=λb o e=>base_of (KX b o e) (by
   cases q:H b with
   |none=>rfl
   |some u =>
    have e':b=a:=hA b (by rw[q];simp);subst e';rw[hK (by rw[q];simp)] at e;cases e)
  have hM:Mod K mg (uP sg.heap H):=⟨hKb,nsK hns,⟨mb,nsK hb,hbb⟩,let ⟨mc,h1,h2⟩:=hlim;⟨mc,nsK h1,h2⟩,let ⟨mm,h1⟩:=hsm;⟨mm,nsK h1⟩⟩
  have e0:Eu P w K mg (uP sg.heap H) callerA [] sg H:=⟨rfl,hM,λb o e=>Fz e,Nat.le_of_eq (Bs _ _),trivial,λb hb=>absurd (show b∈([]:List Addr) from hb) (by simp),hok,.of_eq hg⟩
  refine codeAny_mono ((F _ hKb (nsK hns)).run callerA [] sg H ⟨[.ref a],[]⟩ [.ref a] [.ref a] _ _ hr e0 (hbind sg (.ref a)) (.cons rfl .nil) (hsp H hO hS)) λr s' h=>?_;cases r with
  |error e=>exact(hCX H e s' h).elim
  |ok fl =>
   cases fl with
   |next|brk|cont=>exact False.elim h
   |ret u =>
    obtain⟨v,H',os,bare,un,hok',r',q⟩:=h;have q':v=.bl true:=q;subst q';obtain rfl:u=Value.bool true:=r';refine⟨rfl,OldK.of_keep λb o e=>?_,os,bare⟩;cases q:H b with
    |none=>exact un.keep b o e q (by intro z;exact absurd (show b∈([]:List Addr) from z) (by simp)) (by simp)
    |some u =>
     rcases hO b with z|⟨ob,xs,z⟩
     .rw[q] at z;cases z
     .have z2:=un.frzs b ob _ z
      obtain⟨e1,_⟩:=hok b _ z;obtain⟨e2,_⟩:=hok' b _ z2;rw[e] at e1;cases e1;exact e2
 cases hk:K.lookup a with
 |some o =>
  have e:=KX a o hk;rw[ha] at e;cases e;refine core (λ_=>none) (λ_=>.inl rfl) (.inr ⟨_,vs.toArray,_,hk,rfl,rfl,rfl,by rw[List.size_toArray,lenV];exact hl,by simpa using rv⟩) (λb u z=>by have z':(none:Option HO)=some u:=z;cases z') (λb z=>absurd rfl z) λz=>absurd rfl z
 |none =>
  refine core (λb=>if b=a then some (.frz { cls:=.type "list",data:=.seq vs.toArray } (.lst (ns.map V.int))) else none) (λb=>?_) (.inl (.inr ⟨{ cls:=.type "list",data:=.seq vs.toArray },if_pos rfl⟩)) (λb u z=>?_) (λb z=>?_) λ_=>hk
  .by_cases hb:b=a
   .exact .inr ⟨_,_,if_pos hb⟩
   .exact .inl (if_neg hb)
  .by_cases hb:b=a
   .have z':=(if_pos hb).symm.trans z
    cases z';subst hb;exact⟨ha,by rw[List.length_map];exact hl,vs,_,rv,ha⟩
   .have z':=(if_neg hb).symm.trans z
    cases z'
  .by_cases hb:b=a
   .exact hb
   .exact absurd (if_neg hb) z
noncomputable abbrev KOf{K:W.Frag}{h:Heap}(_:K.In h):W.Frag:=K
theorem EN{l:W.OpenLaw}{n k:Nat}{q:Program}{loose:List Str}{XP:(Str->Option Value)->Heap->Prop}{YP:World->Heap->Prop}{d:DefRec}{K:Params->W.Frag}{CX:World->uh}{sp:World->Sp}{x:Str}
  (hi:importsNone q=true)(hn:l.most=some n)(hn2:n<=sizeLine)(hdf:d.params.defaults=[])(hr:du k callerA)
  (hY:∀(w:World) (h:Heap),YP w h->(K w.params).In h)
  (F:∀(w:World) (mg:Str->Option Value) (fa:Addr) (h:Heap),(K w.params).In h->h.Ns mainGlobals mg->mg d.name=some (.ref fa) ->
   ∃fd:FuncData,(∀(s:Shared) (u:Value),BindsTo s fd ⟨[u],[]⟩ [(x,u)]) /\
    ∀base:Heap,(K w.params).In base->base.Ns mainGlobals mg->iz l.prog w (K w.params) mg base (CX w) k fa fd [x] (sp w))
  (hsp:∀(w:World) (H:Hp) (a:Addr) (ns:List Int),ns.length<=n->Gv H->eZ (K w.params) H a (ns.map V.int)->sp w [.ref a] H (λv _=>v=.bl true) λ_ _ _=>False)
  (hCX:∀(w:World) (H:Hp) (s:Shared) (e:Value) (s':Shared),CX w [] H s (λ_ _ _=>False) e s'->False) :
  W.WalkO q loose XP YP l.row.toRowW d [] (λf vs=>PySem.call f vs):=by
 refine Att.attach_call hn hdf λw sf sg mg mb fa o pm cd doc a vs ns G Y ho hd hcd hmg hobj hints hlen hg=>?_;have KX:=hY w _ Y;obtain⟨fd,hb,hF⟩:=F w mg fa _ KX G.T.g hmg;exact Dp KX G.T.g G.T.b G.T.builtins G.T.nolimit (let ⟨mm,h1,_⟩:=(G.T.seer hi).mods;⟨mm,h1⟩) hg hobj hints (Nat.le_trans hlen hn2) hr hF hb (λH hO hS=>hsp w H a ns hlen hO hS) λH e s'=>hCX w H sg e s'
theorem walk_ofK{l:W.OpenLaw}{n k:Nat}{q:Program}{loose:List Str}{XP:(Str->Option Value)->Heap->Prop}{YP:World->Heap->Prop}{d:DefRec}{K:Params->W.Frag}{CX:uh}{sp:W.Frag->Sp}{x:Str}
  (hi:importsNone q=true)(hn:l.most=some n)(hn2:n<=sizeLine)(hdf:d.params.defaults=[])(hr:du k callerA)
  (hY:∀(w:World) (h:Heap),YP w h->(K w.params).In h)
  (F:∀(w:World) (mg:Str->Option Value) (fa:Addr) (h:Heap),(K w.params).In h->h.Ns mainGlobals mg->mg d.name=some (.ref fa) ->
   ∃fd:FuncData,(∀(s:Shared) (u:Value),BindsTo s fd ⟨[u],[]⟩ [(x,u)]) /\
    ∀base:Heap,(K w.params).In base->base.Ns mainGlobals mg->iz l.prog w (K w.params) mg base CX k fa fd [x] (sp (K w.params)))
  (hsp:∀(K:W.Frag) (H:Hp) (a:Addr) (ns:List Int),ns.length<=n->Gv H->eZ K H a (ns.map V.int)->sp K [.ref a] H (λv _=>v=.bl true) λ_ _ _=>False)
  (hCX:∀(H:Hp) (s:Shared) (e:Value) (s':Shared),CX [] H s (λ_ _ _=>False) e s'->False) :
  W.WalkO q loose XP YP l.row.toRowW d [] (λf vs=>PySem.call f vs) :=
 EN (K:=K) (CX:=λ_=>CX) (sp:=λw=>sp (K w.params)) hi hn hn2 hdf hr hY F (λw H a ns h1 h2 h3=>hsp (K w.params) H a ns h1 h2 h3) λ_ H s e s'=>hCX H s e s'
noncomputable def defArgs(s:Stmt):Arguments:=match s with
 |.FunctionDef _ a _ _ _ _ _ _ _ _=>a
 |_=>{ posonlyargs:=[],args:=[],vararg:=none,kwonlyargs:=[],kw_defaults:=[],kwarg:=none,defaults:=[] }
noncomputable def defBody(s:Stmt):List Stmt:=match s with
 |.FunctionDef _ _ b _ _ _ _ _ _ _=>b
 |_=>[]
noncomputable def defScope(s:Stmt):Scope:=match s with
 |.FunctionDef _ _ _ _ _ _ sc _ _ _=>sc
 |_=>{ kind:=.function,names:=[],isGenerator:=false,isCoroutine:=false }
noncomputable abbrev CX0:uh:=λ_ _ _ _ _ _=>False
noncomputable abbrev E0:XK:=λ_ _ _=>False
theorem zr{X:Cx}:fU CX0 X E0:=λ_ _ _ _ _ _ _ h=>h.elim
structure Gy (K:W.Frag) (x qual:Str) (st:Stmt) (f:Addr) (fd:FuncData):Prop where
 ex:∃(oc:Value) (od:Option Addr) (kV doc pm:Value) (an:Option Addr) (cdv ct:Value) (osl:Array (Option Value)),
  fd=W.fnOf x qual (defArgs st) (defBody st) (defScope st) .none kV doc pm an cdv ct/\K.lookup f=some ⟨oc,od,.func fd,osl⟩/\W.codeIn K cdv qual=true
 kp:W.keepIn K (.ref f)=true
section
variable {P:Program}{w:World}{K:W.Frag}{mg:Str->Option Value}{base:Heap}
theorem Gy.ok{x qual:Str}{st:Stmt}{f:Addr}{fd:FuncData}{N ps:List Str}{k:Nat}{sp:Sp}(F:Gy K x qual st f fd)(S:gs N ps (defScope st))(len:∀vs H Q E,sp vs H Q E->vs.length=ps.length)
  (hbody:∀(cdv:Value) (A:Around) (outer:List Env) (s:Shared) (H:Hp) (vs:List V) (Q:VK) (E:XK),du k (A.deeper (envOfC qual (defScope st) s.heap.objs.size f cdv))->sp vs H Q E ->
   ∃t,vm (oj CX0 P w K mg base N qual (defScope st) f cdv A outer s H E).nox (defBody st) t/\t { nx:=λ_ H'=>Q .non H',rt:=Q } (start N vs) H):iz P w K mg base CX0 (k+1) f fd ps sp:=by
 obtain⟨oc,od,kV,doc,pm,an,cdv,ct,osl,rfl,lk,hcd⟩:=F.ex;refine KR lk hcd S len λA outer s H vs Q E hr hsp=>?_;obtain⟨t,h,q⟩:=hbody cdv A outer s H vs Q E hr hsp;exact⟨t,h.nox,q⟩
theorem Gy.binds{x qual:Str}{st:Stmt}{f:Addr}{fd:FuncData}{ps:List Str}(F:Gy K x qual st f fd)
  (h:∀(kV doc pm:Value) (an:Option Addr) (cdv ct:Value) (us:List Value),us.length=ps.length->bindArgs (W.fnOf x qual (defArgs st) (defBody st) (defScope st) .none kV doc pm an cdv ct) ⟨us,[]⟩=pure (ps.zip us)):j8 K fd ps []:=by
 obtain⟨oc,od,kV,doc,pm,an,cdv,ct,osl,rfl,lk,hcd⟩:=F.ex;exact .all (h kV doc pm an cdv ct)
theorem Dx{x qual:Str}{st:Stmt}{f:Addr}{oc:Value}{od an:Option Addr}{osl:Array (Option Value)}{kV doc pm cdv ct:Value}(l:K.lookup f=some ⟨oc,od,.func (W.fnOf x qual (defArgs st) (defBody st) (defScope st) .none kV doc pm an cdv ct),osl⟩)
  (c:W.codeIn K cdv qual=true)(k:W.keepIn K (.ref f)=true):Gy K x qual st f (W.fnOf x qual (defArgs st) (defBody st) (defScope st) .none kV doc pm an cdv ct):=⟨⟨oc,od,kV,doc,pm,an,cdv,ct,osl,rfl,l,c⟩,k⟩
end
noncomputable def aC(H H':Hp):Prop:=∀b o,H b=some o->H' b=some o
theorem aC.refl(H:Hp):aC H H:=λ_ _ h=>h
theorem aC.trans{H H1 H2:Hp}(a:aC H H1)(b:aC H1 H2):aC H H2:=λc o h=>b c o (a c o h)
theorem aC.free{H H':Hp}(e:aC H H'){l:Addr}(h:H' l=Option.none):H l=Option.none:=by
 cases q:H l with
 |none=>rfl
 |some o =>
  rw[e l o q] at h;cases h
end L2
namespace DL
open PySem PySem.Spec PySem.Calls PySem.W PyProof.Rows Builtin Builtin.ObjectAttr Builtin.Getset_descriptor
section
variable {prog:Program}{w:World}{A:Around}{E:Value->Shared->Prop}{h:Heap}{g:Array GenState}{d:Drawn}{t:Nat}{os:OsState}{a C:Addr}{o:Obj}{K:Frag}
structure sH (K:Frag) (C:Addr):Prop where
 cls:findIn K (.ref C) "__class__"=some (some (.builtin "object.__class__"))
 ga:findIn K (.ref C) "__getattribute__"=some (some (.builtin "BaseException.__getattribute__"))
 gt:findIn K (.ref C) "__getattr__"=some none
 ob:mroIn K C (.type "object")=some true
 be:subIn K (.ref C) (.type "BaseException")=some true
theorem Ho{R:Result->Shared->Prop}{tp:Value}(X:K.In h)(Z:sH K C)(hx:h.get? a=some o)(hc:o.cls=.ref C)(hq:R (.ok (.ret (.ref C))) ⟨h,g,d,t,os⟩) :
  codeAny (model prog w) A (.call (.builtin "getset_descriptor.__get__") ⟨[.builtin "object.__class__",.ref a,tp],[]⟩) R ⟨h,g,d,t,os⟩:=by
 have L0:Looks (model prog w) h (typeOf (.ref a)) (.ref C):=hc▸(Looks.ld hx).andThen .now;have L1:=looks_mroIn (M:=model prog w) X Z.ob;refine codeAny_call_builtin KF.slot_gs.plain KF.entry_gs (KF.slot_gs.check _ _ _ _ _ _ _ _ KF.type_class (KF.args_gs _ _ _) ?_);unfold Builtin.«getset_descriptor.__get__» descrGet;rw[dga_obj];refine wpAny_bind (wpAny_pure ?_);unfold descrGetter descrCheckInstance descrNameAndClass isInstance;simp only[KF.owner_class]
 repeat lk
 refine⟨Code.quiet_builtin _ (by decide +kernel),codeAny_builtin KF.entry_class ?_⟩;unfold Builtin.«object.__class__» shownTypeOf
 repeat lk
 exact hq
theorem BZ{M:Model}{nameV:Value}{Q:Unit->Shared->Prop}(X:K.In h)(Z:sH K C)(hx:h.get? a=some o)(hc:o.cls=.ref C)(hq:Q () ⟨h,g,d,t,os⟩):wpAny M A (checkBuiltinCall "BaseException.__getattribute__" ⟨[.ref a,nameV],[]⟩) Q E ⟨h,g,d,t,os⟩:=by
 have hk:builtinKind "BaseException.__getattribute__"=some .slot:=by decide +kernel
 have hsplit:splitId "BaseException.__getattribute__"=some ("BaseException","__getattribute__"):=by decide +kernel
 have ha:=F.args_bexc_ga (.ref a) nameV;have LS:Looks M h (isSubtype (.ref C) (.type "BaseException")) true:=looks_subIn X Z.be;simp only[checkBuiltinCall,hk,hsplit];refine wpAny_bind ?_
 .unfold isInstance
  repeat (first|(with_reducible refine wpAny_loadPart_at hx ?_;rw[hc])|(with_reducible refine LS.at ?_)|wp_step)
  exact hq
theorem BY{tk:Tok}{Q:Fin->Shared->Prop}(X:K.In h)(Z:sH K C)(hx:h.get? a=some o)(hc:o.cls=.ref C)(hq:Q (.done (.ret (.ref C))) ⟨h,g,d,t,os⟩) :
  wpAny (model prog w) A (Builtin.«object.__getattribute__» ⟨[.ref a,.str "__class__" tk],[]⟩) Q E ⟨h,g,d,t,os⟩:=by
 have hT5:(⟨h,g,d,t,os⟩:Shared).TypeIs (.builtin "object.__class__") "getset_descriptor":=F.typeOf_object_class;have f5:=F.typeOf_object_class;have f6:=F.slot_gs_get.lookup;have f7:=F.slot_gs_set.lookup;have LC:Looks (model prog w) h (typeLookup (.ref C) "__class__") (some (.builtin "object.__class__")):=looks_findIn X Z.cls
 repeat (any_goals (first|assumption|(with_reducible refine wpAny_loadPart_at hx ?_;rw[hc])|(with_reducible refine LC.at ?_)|wp_step))
 refine Ho X Z hx hc ?_
 repeat (any_goals (first|assumption|wp_step))
theorem EI{tk:Tok}{R:Result->Shared->Prop}(X:K.In h)(Z:sH K C)(hx:h.get? a=some o)(hc:o.cls=.ref C)(hq:R (.ok (.ret (.ref C))) ⟨h,g,d,t,os⟩) :
  codeAny (model prog w) A (.call (.builtin "BaseException.__getattribute__") ⟨[.ref a,.str "__class__" tk],[]⟩) R ⟨h,g,d,t,os⟩ :=
 codeAny_call_builtin F.attr_ValueError.ga.plain F.entry_bexc_ga (BZ X Z hx hc (BY X Z hx hc hq))
theorem JL{tk:Tok}{Q:Value->Shared->Prop}(X:K.In h)(Z:sH K C)(hx:h.get? a=some o)(hc:o.cls=.ref C)(hq:Q (.ref C) ⟨h,g,d,t,os⟩) :
  wpAny (model prog w) A (getAttrBy (.ref a) (.str "__class__" tk) false) Q E ⟨h,g,d,t,os⟩:=by
 have f3:=F.attr_ValueError.ga.bind (.ref a);have hx2:(Value.builtin "BaseException.__getattribute__"==Value.builtin "object.__getattribute__")=false:=by decide +kernel
 have hx1:(onTheHeap (Value.ref C)&&Value.builtin "BaseException.__getattribute__"==Value.builtin "object.__getattribute__")=false:=by rw[hx2];rfl
 have L1:Looks (model prog w) h (typeLookup (.ref C) "__getattribute__") (some (.builtin "BaseException.__getattribute__")):=looks_findIn X Z.ga;have L2:Looks (model prog w) h (typeLookup (.ref C) "__getattr__") none:=looks_findIn X Z.gt
 repeat (any_goals (first|assumption|(with_reducible refine wpAny_loadPart_at hx ?_;rw[hc])|(with_reducible refine L1.at ?_)|(with_reducible refine L2.at ?_)|wp_step))
 refine EI X Z hx hc ?_
 repeat (any_goals (first|assumption|wp_step))
theorem EJ{Q:Option Value->Shared->Prop}(X:K.In h)(Z:sH K C)(hx:h.get? a=some o)(hc:o.cls=.ref C)(hq:Q (some (.ref C)) ⟨h,g,d,t+1,os⟩):wpAny (model prog w) A (getAttr? (.ref a) "__class__") Q E ⟨h,g,d,t,os⟩:=by
 unfold getAttr? getAttrBy?
 repeat (any_goals (first|assumption|with_reducible apply JL X Z hx hc|wp_step))
end
noncomputable def Lv(a C:Addr) (dc:Option Addr):Heap->Prop:=λh=>∃o vs,h.get? a=some o/\o.cls=.ref C/\o.data=.fields vs/\o.dict=dc
theorem wu{K:Frag}{a C:Addr}{dc:Option Addr}(Z:sH K C)(hC:(clsIn K C).isSome=true):KitX K (.ref a) (.ref C) (Lv a C dc) where
 ty:=λ_ _ _ ⟨o,_,h1,h2,_⟩=>h2▸(Looks.ld h1).andThen .now
 it:=λ_ _ X _=>by
  obtain⟨cd,hcD⟩:=Option.isSome_iff_exists.mp hC;unfold clsIn at hcD;split at hcD
  .rename_i c' d' cd' sl' ho
   intro A' Q' E' s' k q;unfold isType loadHead;exact wpAny_bind (wpAny_loadPart (k _ _ (X _ _ ho)) (wpAny_pure q))
  .cases hcD
 ne:=λh tp dd its n sl X htp=>by
  obtain⟨cd,hcD⟩:=Option.isSome_iff_exists.mp hC;refine Bool.eq_false_iff.mpr λq=>?_;have e:C=tp:=Value.ref.inj (beq_iff_eq.mp q);subst e;unfold clsIn at hcD;split at hcD
  .rename_i c' d' cd' sl' ho
   have z:=(X _ _ ho).symm.trans htp;cases z
  .cases hcD
 ca:=λ{_ _ _ _ _ s} X ⟨o,_,h1,h2,_⟩ k=>by
  obtain⟨h,g,d,t,os⟩:=s;exact EJ X Z h1 h2 k
theorem sH.isCls{K:Frag}{C:Addr}(Z:sH K C):(clsIn K C).isSome=true:=by
 obtain⟨cd,a,b⟩:=Option.bind_eq_some_iff.mp Z.ob;rw[a];rfl
noncomputable def ix:List String:=["NoneType","bool","int","str","tuple","list","dict"]
structure XC (K:Frag) (x:Str) (C:Addr):Prop where
 ns:nsIn K mainGlobals x=some (some (.ref C))
 ek:sH K C
 bt:∀T∈ix,kitOne K (.ref C) (.type T)=some false
end DL
namespace DL
open PySem PySem.Spec PyProof.Rows L2
noncomputable def JC:Expr->Bool
 |.Starred _ _=>false
 |_=>true
theorem bK{e:Expr}{es:List Expr}{env:PySem.Env}(h:JC e=true):starEach (e::es) env=(false,eval e env)::starEach es env:=by
 cases e<;>first|(rw[starEach];intros;contradiction)|rw[starEach]|(cases h)
theorem fG{e:Expr}{env:PySem.Env}(h:JC e=true):starEach [e] env=[(false,eval e env)]:=by
 rw[bK h,starEach]
theorem cv{env:PySem.Env}{pos:Pos}:∀{es:List Expr},es.all JC=true->(backTo pos (starEach es env)).any (·.1)=false
 |[],_=>by rw[starEach];rfl
 |e::es,h=>by
  rw[List.all_cons,Bool.and_eq_true] at h;rw[bK h.1];have:=cv (env:=env) (pos:=pos) h.2;show(false||(backTo pos (starEach es env)).any (·.1))=false;rw[this];rfl
theorem qc{e:Expr}{env:PySem.Env}{pos:Pos}(h:JC e=true):((backTo pos (starEach [e] env)).all (λx=>!x.1)&&(backToKw pos (keywordEach [] env)).all (λx=>x.1.isSome)
  &&decide ([e].length+([]:List Keyword).length+(if([]:List Keyword).isEmpty then 0 else 1)<30))=true:=by
 rw[fG h,keywordEach];rfl
inductive Kd where
 |ins (c:Str) (ks:List Str)|dint (ks:List Int)|exf (c:Str) (ks:List Str)
inductive D where
 |non|bl (b:Bool)|int (i:Int)|str (x:Str)|tup (xs:List D)|lst (xs:List D)|dic (ks:List Str) (xs:List D)|exc (x:Str)|ob (k:Kd) (xs:List D)
structure Ms (K:W.Frag) (ks:List Str) (C:Addr):Prop where
 cls:Lx K C
 no:∀f∈ks,Ju K C f
 gc:W.findIn K (.ref C) "__class__"=some (some (.builtin "object.__class__"))
 gn:W.specialIn K (.builtin "object.__class__") "__get__"=some (some (.builtin "getset_descriptor.__get__"))
 tk:W.takesIn K (.builtin "object.__class__")=some true
 mo:W.mroIn K C (.type "object")=some true
 bt:∀T∈ix,W.kitOne K (.ref C) (.type T)=some false
noncomputable def Er(K:W.Frag) (H:Hp):Kd->Addr->List V->Prop
 |.ins c ks,a,vs=>∃C dx,W.nsIn K mainGlobals c=some (some (.ref C))/\Ms K ks C/\H a=some (.ins C dx (ks.zip vs))/\ks.length=vs.length
 |.dint ks,a,vs=>∃kvs,Rd H a (.dK kvs)/\kvs=(ks.map Sum.inl).zip vs/\ks.length=vs.length
 |.exf c ks,a,vs=>∃C dx fs,XC K c C/\Rd H a (.ext (Lv a C (some dx)))/\H dx=some (.xd fs)/\ks.length=vs.length/\∀(i:Nat) (f:Str) (v:V),ks[i]?=some f->vs[i]?=some v->fs.lookup f=some v
structure M3 where
 cls:Str
 flds:List (Str×D)
inductive aj (α:Type) where
 |ok (a:α)|exn (x:M3)|stuck
noncomputable def aj.bind{α β:Type}(r:aj α) (f:α->aj β):aj β:=match r with
 |.ok a=>f a
 |.exn x=>.exn x
 |.stuck=>.stuck
mutual
def Rep(K:W.Frag)(H:Hp):D->V->Prop
 |.non,v=>v=.non
 |.bl b,v=>v=.bl b
 |.int i,v=>v=.int i
 |.str x,v=>v=.str x
 |.tup ds,v=>∃a vs,v=.ref a/\jO K H a vs/\Reps K H ds vs
 |.lst ds,v=>∃a vs,v=.ref a/\eZ K H a vs/\Reps K H ds vs
 |.dic ks ds,v=>∃a kvs vs,v=.ref a/\Rd H a (.dK kvs)/\kvs=(ks.map Sum.inr).zip vs/\ks.length=vs.length/\Reps K H ds vs
 |.exc x,v=>∃a C dc,v=.ref a/\XC K x C/\Rd H a (.ext (Lv a C dc))
 |.ob k ds,v=>∃a vs,v=.ref a/\Er K H k a vs/\Reps K H ds vs
def Reps(K:W.Frag)(H:Hp):List D->List V->Prop
 |[],vs=>vs=[]
 |d::ds,vs=>∃v r,vs=v::r/\Rep K H d v/\Reps K H ds r
end
theorem aC.rd{H H':Hp}(e:aC H H'){a:Addr}{o:HO}(h:Rd H a o):Rd H' a o:=by
 rcases h with h|⟨o',h⟩
 .exact .inl (e _ _ h)
 .exact .inr ⟨o',e _ _ h⟩
theorem aC.sqT{K:W.Frag}{H H':Hp}(e:aC H H'){a:Addr}{xs:List V}(h:jO K H a xs):jO K H' a xs:=by
 rcases h with h|h
 .exact .inl (aC.rd e h)
 .exact .inr h
theorem aC.sqL{K:W.Frag}{H H':Hp}(e:aC H H'){a:Addr}{xs:List V}(h:eZ K H a xs):eZ K H' a xs:=by
 rcases h with h|h
 .exact .inl (aC.rd e h)
 .exact .inr h
theorem Er.mono{K:W.Frag}{H H':Hp}(e:aC H H'):∀{k:Kd}{a:Addr}{vs:List V},Er K H k a vs->Er K H' k a vs
 |.ins c ks,a,vs,⟨C,dx,h0,h1,h2,h3⟩=>⟨C,dx,h0,h1,e _ _ h2,h3⟩
 |.dint ks,a,vs,⟨kvs,h1,h2,h3⟩=>⟨kvs,aC.rd e h1,h2,h3⟩
 |.exf c ks,a,vs,⟨C,dx,fs,h1,h2,h3,h4⟩=>⟨C,dx,fs,h1,aC.rd e h2,e _ _ h3,h4⟩
mutual
theorem Rep.mono{K:W.Frag}{H H':Hp}(e:aC H H'):∀{d:D}{v:V},Rep K H d v->Rep K H' d v
 |.non,_,h=>by unfold Rep at h ⊢;exact h
 |.bl _,_,h=>by unfold Rep at h ⊢;exact h
 |.int _,_,h=>by unfold Rep at h ⊢;exact h
 |.str _,_,h=>by unfold Rep at h ⊢;exact h
 |.tup ds,_,h=>by
  unfold Rep at h ⊢;obtain⟨a,vs,e1,e2,e3⟩:=h;exact⟨a,vs,e1,aC.sqT e e2,Reps.mono e e3⟩
 |.lst ds,_,h=>by
  unfold Rep at h ⊢;obtain⟨a,vs,e1,e2,e3⟩:=h;exact⟨a,vs,e1,aC.sqL e e2,Reps.mono e e3⟩
 |.dic ks ds,_,h=>by
  unfold Rep at h ⊢;obtain⟨a,kvs,vs,e1,e2,e3,e4,e5⟩:=h;exact⟨a,kvs,vs,e1,aC.rd e e2,e3,e4,Reps.mono e e5⟩
 |.exc x,_,h=>by
  unfold Rep at h ⊢;obtain⟨a,C,dc,e1,e2,e3⟩:=h;exact⟨a,C,dc,e1,e2,aC.rd e e3⟩
 |.ob k ds,_,h=>by
  unfold Rep at h ⊢;obtain⟨a,vs,e1,e2,e3⟩:=h;exact⟨a,vs,e1,e2.mono e,Reps.mono e e3⟩
theorem Reps.mono{K:W.Frag}{H H':Hp}(e:aC H H'):∀{ds:List D}{vs:List V},Reps K H ds vs->Reps K H' ds vs
 |[],_,h=>by unfold Reps at h ⊢;exact h
 |d::ds,_,h=>by
  unfold Reps at h ⊢;obtain⟨v,r,e1,e2,e3⟩:=h;exact⟨v,r,e1,Rep.mono e e2,Reps.mono e e3⟩
end
section
variable {K:W.Frag}{H:Hp}{v:V}{vs:List V}{d:D}{ds:List D}
theorem aT:Rep K H .non v↔v=.non:=by unfold Rep;exact Iff.rfl
theorem aK{b}:Rep K H (.bl b) v↔v=.bl b:=by unfold Rep;exact Iff.rfl
theorem az{i}:Rep K H (.int i) v↔v=.int i:=by unfold Rep;exact Iff.rfl
theorem Rep.str_iff{x}:Rep K H (.str x) v↔v=.str x:=by unfold Rep;exact Iff.rfl
theorem aP:Rep K H (.tup ds) v↔∃a vs,v=.ref a/\jO K H a vs/\Reps K H ds vs:=by rw[Rep]
theorem aG:Rep K H (.lst ds) v↔∃a vs,v=.ref a/\eZ K H a vs/\Reps K H ds vs:=by rw[Rep]
theorem nW{x}:Rep K H (.exc x) v↔∃a C dc,v=.ref a/\XC K x C/\Rd H a (.ext (Lv a C dc)):=by rw[Rep]
theorem rS{k}:Rep K H (.ob k ds) v↔∃a vs,v=.ref a/\Er K H k a vs/\Reps K H ds vs:=by rw[Rep]
theorem Reps.nil_iff:Reps K H [] vs↔vs=[]:=by unfold Reps;exact Iff.rfl
theorem aJ:Reps K H (d::ds) vs↔∃v r,vs=v::r/\Rep K H d v/\Reps K H ds r:=by rw[Reps]
theorem Reps.nil:Reps K H [] []:=Reps.nil_iff.mpr rfl
theorem Reps.cons(h:Rep K H d v)(h':Reps K H ds vs):Reps K H (d::ds) (v::vs):=aJ.mpr ⟨_,_,rfl,h,h'⟩
end
theorem Reps.length{K:W.Frag}{H:Hp}:∀{ds:List D}{vs:List V},Reps K H ds vs->ds.length=vs.length
 |[],_,h=>by rw[Reps.nil_iff.mp h];rfl
 |d::ds,_,h=>by
  obtain⟨v,r,rfl,_,h⟩:=aJ.mp h;simp [Reps.length h]
theorem Reps.get{K:W.Frag}{H:Hp}:∀{ds:List D}{vs:List V}{i:Nat}{d:D},Reps K H ds vs->ds[i]?=some d->∃v,vs[i]?=some v/\Rep K H d v
 |[],_,_,_,h,e=>by simp at e
 |x::ds,_,0,d,h,e=>by
  obtain⟨v,r,rfl,h1,_⟩:=aJ.mp h;simp at e;subst e;exact⟨v,rfl,h1⟩
 |x::ds,_,i+1,d,h,e=>by
  obtain⟨v,r,rfl,_,h2⟩:=aJ.mp h;obtain⟨u,e1,e2⟩:=Reps.get (i:=i) h2 (by simpa using e);exact⟨u,by simpa using e1,e2⟩
theorem Reps.app{K:W.Frag}{H:Hp}:∀{ds es:List D}{vs us:List V},Reps K H ds vs->Reps K H es us->Reps K H (ds++es) (vs++us)
 |[],_,_,_,h,h'=>by rw[Reps.nil_iff.mp h];exact h'
 |d::ds,_,_,_,h,h'=>by
  obtain⟨v,r,rfl,h1,h2⟩:=aJ.mp h;exact Reps.cons h1 (Reps.app h2 h')
theorem Reps.take{K:W.Frag}{H:Hp}:∀{ds:List D}{vs:List V}(n:Nat),Reps K H ds vs->Reps K H (ds.take n) (vs.take n)
 |_,_,0,_=>by simp;exact Reps.nil
 |[],_,n+1,h=>by rw[Reps.nil_iff.mp h];exact Reps.nil
 |d::ds,_,n+1,h=>by
  obtain⟨v,r,rfl,h1,h2⟩:=aJ.mp h;exact Reps.cons h1 (Reps.take n h2)
theorem Reps.drop{K:W.Frag}{H:Hp}:∀{ds:List D}{vs:List V}(n:Nat),Reps K H ds vs->Reps K H (ds.drop n) (vs.drop n)
 |_,_,0,h=>by simpa using h
 |[],_,n+1,h=>by rw[Reps.nil_iff.mp h];exact Reps.nil
 |d::ds,_,n+1,h=>by
  obtain⟨v,r,rfl,h1,h2⟩:=aJ.mp h;exact Reps.drop n h2
theorem Reps.set{K:W.Frag}{H:Hp}{d:D}{v:V}(h:Rep K H d v):∀{ds:List D}{vs:List V}(n:Nat),Reps K H ds vs->Reps K H (ds.set n d) (vs.set n v)
 |[],_,n,h'=>by rw[Reps.nil_iff.mp h'];exact Reps.nil
 |x::ds,_,0,h'=>by
  obtain⟨v,r,rfl,h1,h2⟩:=aJ.mp h';exact Reps.cons h h2
 |x::ds,_,n+1,h'=>by
  obtain⟨v,r,rfl,h1,h2⟩:=aJ.mp h';exact Reps.cons h1 (Reps.set h n h2)
theorem ud{K:W.Frag}{H:Hp}:∀(ns:List Int),Reps K H (ns.map D.int) (ns.map V.int)
 |[]=>Reps.nil
 |n::r=>Reps.cons (az.mpr rfl) (ud r)
structure bf (H Ha H' Ha':Hp):Prop where
 s:aC H H'
 z:aC Ha Ha'
 sub:aC Ha' H'
 nw:∀a,Ha' a≠none->Ha a=none->H a=none
theorem bf.refl{H Ha:Hp}(h:aC Ha H):bf H Ha H Ha:=⟨aC.refl _,aC.refl _,h,λa h1 h2=>absurd h2 h1⟩
theorem bf.trans{H Ha H1 H01 H2 H02:Hp}(a:bf H Ha H1 H01)(b:bf H1 H01 H2 H02):bf H Ha H2 H02 :=
 ⟨a.s.trans b.s,a.z.trans b.z,b.sub,λx h1 h2=>by
  cases q:H01 x with
  |none=>exact a.s.free (b.nw x h1 q)
  |some o=>exact a.nw x (by rw[q];simp) h2⟩
theorem bu{H Ha:Hp}{p:Addr}{o:HO}(hs:aC Ha H)(hp:H p=none):bf H Ha (upd H p o) (upd Ha p o) :=
 ⟨same_new hp o,same_new (hs.free hp) o,λb u e=>by
  by_cases hb:b=p
  .subst hb;rw[aI] at e ⊢;exact e
  .rw[aA hb] at e ⊢;exact hs _ _ e,λa h1 h2=>by
  by_cases hb:a=p
  .subst hb;exact hp
  .rw[aA hb] at h1;exact absurd h2 h1⟩
where
 same_new {H:Hp}{p:Addr}(h:H p=none) (o:HO):aC H (upd H p o):=λb u q=>by rw[aA (bC q h)];exact q
inductive Sl where
 |no|sh (d:D)|ow (d:D)|ox (j:Nat) (ds:List D)|pt (a:Addr)
noncomputable abbrev Ev:=List Sl
noncomputable def dX(K:W.Frag) (Ha:Hp) (σ:L2.St) (ρ:Ev):Prop:=∀(i:Nat) (d:D),ρ[i]?=some (.sh d)->∃v,σ[i]?=some (some v)/\Rep K Ha d v
theorem dX.mono{K:W.Frag}{H H':Hp}{σ:L2.St}{ρ:Ev}(e:aC H H')(r:dX K H σ ρ):dX K H' σ ρ:=λi d h =>
 let ⟨v,h1,h2⟩:=r i d h
 ⟨v,h1,h2.mono e⟩
noncomputable def AM(K:W.Frag) (H:Hp) (x:M3) (C:Value) (ox:Option Addr):Prop :=
 (∃c,C=.ref c/\XC K x.cls c)/\match ox with
  |none=>x.flds=[]
  |some a=>∃fs,H a=some (.xd fs)/\∀n d,x.flds.lookup n=some d->∃v,fs.lookup n=some v/\Rep K H d v
noncomputable def post(K:W.Frag) (E:XK) (H Ha:Hp) (r:aj D) (Q:VK):Prop:=match r with
 |.ok d=>∀v H' Ha',bf H Ha H' Ha'->Rep K Ha' d v->Q v H'
 |.exn x=>∀C ox H' Ha',bf H Ha H' Ha'->AM K Ha' x C ox->E C ox H'
 |.stuck=>False
noncomputable def vK(K:W.Frag) (E:XK) (H Ha:Hp) (r:aj (List D)) (Q:List V->Hp->Prop):Prop:=match r with
 |.ok ds=>∀vs H' Ha',bf H Ha H' Ha'->Reps K Ha' ds vs->Q vs H'
 |.exn x=>∀C ox H' Ha',bf H Ha H' Ha'->AM K Ha' x C ox->E C ox H'
 |.stuck=>False
noncomputable def pz(K:W.Frag) (E:XK) (H Ha:Hp) (r:aj D) (Q:Bool->Hp->Prop):Prop:=match r with
 |.ok (.bl b)=>∀H' Ha',bf H Ha H' Ha'->Q b H'
 |.ok _=>False
 |.exn x=>∀C ox H' Ha',bf H Ha H' Ha'->AM K Ha' x C ox->E C ox H'
 |.stuck=>False
section
variable {K:W.Frag}{E:XK}{H Ha H1 H01:Hp}
theorem post.grow{r:aj D}{Q:VK}(h:post K E H Ha r Q)(g:bf H Ha H1 H01):post K E H1 H01 r Q:=by
 cases r with|ok d=>exact λv H' Ha' g'=>h v H' Ha' (g.trans g')|exn x=>exact λC ox H' Ha' g'=>h C ox H' Ha' (g.trans g')|stuck=>exact h
theorem vK.grow{r:aj (List D)}{Q:List V->Hp->Prop}(h:vK K E H Ha r Q)(g:bf H Ha H1 H01):vK K E H1 H01 r Q:=by
 cases r with|ok d=>exact λv H' Ha' g'=>h v H' Ha' (g.trans g')|exn x=>exact λC ox H' Ha' g'=>h C ox H' Ha' (g.trans g')|stuck=>exact h
theorem pz.grow{r:aj D}{Q:Bool->Hp->Prop}(h:pz K E H Ha r Q)(g:bf H Ha H1 H01):pz K E H1 H01 r Q:=by
 cases r with
 |ok d =>
  cases d with|bl b=>exact λH' Ha' g'=>h H' Ha' (g.trans g')| _=>exact h
 |exn x=>exact λC ox H' Ha' g'=>h C ox H' Ha' (g.trans g')
 |stuck=>exact h
end
noncomputable def tD(K:W.Frag) (E:XK) (f:Ev->aj D):TE:=λσ H Q=>∃Ha ρ,aC Ha H/\dX K Ha σ ρ/\post K E H Ha (f ρ) Q
noncomputable def ME(K:W.Frag) (E:XK) (f:Ev->aj (List D)):TA:=λσ H Q=>∃Ha ρ,aC Ha H/\dX K Ha σ ρ/\vK K E H Ha (f ρ) Q
noncomputable def JB(K:W.Frag) (E:XK) (f:Ev->aj D):TT:=λσ H Q=>∃Ha ρ,aC Ha H/\dX K Ha σ ρ/\pz K E H Ha (f ρ) Q
structure DE (X:Cx) (E:XK) (e:Expr) (f:Ev->aj D):Prop where
 o:PE X e (tD X.K E f)
structure DA (X:Cx) (E:XK) (es:List Expr) (f:Ev->aj (List D)):Prop where
 o:PA X es (ME X.K E f)
structure DT (X:Cx) (E:XK) (e:Expr) (f:Ev->aj D):Prop where
 o:PT X e (JB X.K E f)
structure DW (X:Cx) (E:XK) (e:Expr) (f:Ev->aj D):Prop where
 o:PW X e (JB X.K E f)
section
variable {X:Cx}{E:XK}{e a b:Expr}{es:List Expr}{f g:Ev->aj D}{fa:Ev->aj (List D)}{pos:Pos}
theorem aZ{t t':TE}(h:PE X e t)(w:∀σ H Q,t' σ H Q->t σ H Q):PE X e t':=λpins s σ H Q I q=>h pins s σ H Q I (w σ H Q q)
theorem oC{t t':TA}(h:PA X es t)(w:∀σ H Q,t' σ H Q->t σ H Q):PA X es t':=λpos pins s σ H Q I q=>h pos pins s σ H Q I (w σ H Q q)
theorem fk{t t':TT}(h:PT X e t)(w:∀σ H Q,t' σ H Q->t σ H Q):PT X e t':=λpins s σ H Q I q=>h pins s σ H Q I (w σ H Q q)
theorem ux{t t':TT}(h:PW X e t)(w:∀σ H Q,t' σ H Q->t σ H Q):PW X e t':=λwh pins s σ H Q I q=>h wh pins s σ H Q I (w σ H Q q)
noncomputable def ae(i:Nat):Ev->aj D:=λρ=>match ρ[i]? with
 |some (.sh d)=>.ok d
 |_=>.stuck
noncomputable def dC(d:D):Ev->aj D:=λ_=>.ok d
theorem IZ{i:Nat}{x:Str}(hN:X.N[i]?=some x)(hv:BO X.env.scope x)(hd:(x==("__debug__":Str))=false:=by decide)(hcd:(x==("__classdict__":Str))=false:=by decide):DE X E (.Name x pos) (ae i):=by
 refine⟨?_⟩;refine aZ (gX hN hv hd hcd) λσ H Q ⟨Ha,ρ,hs,hr,q⟩=>?_;unfold ae at q;cases e:ρ[i]? with
 |none=>rw[e] at q;exact q.elim
 |some s =>
  rw[e] at q;cases s with
  |sh d =>
   obtain⟨v,e1,e2⟩:=hr i d e;exact⟨v,e1,q v H Ha (bf.refl hs) e2⟩
  |no|ow d|ox j ds|pt a=>exact q.elim
theorem ak{i j}:DE X E (.Constant (.int i) j pos) (dC (.int i)):=⟨aZ Ib λσ H Q ⟨Ha,ρ,hs,hr,q⟩=>q _ H Ha (bf.refl hs) (az.mpr rfl)⟩
theorem ef{i j}:DE X E (.Constant (.bool i) j pos) (dC (.bl i)):=⟨aZ Kl λσ H Q ⟨Ha,ρ,hs,hr,q⟩=>q _ H Ha (bf.refl hs) (aK.mpr rfl)⟩
theorem cn{j}:DE X E (.Constant .none j pos) (dC .non):=⟨aZ Ia λσ H Q ⟨Ha,ρ,hs,hr,q⟩=>q _ H Ha (bf.refl hs) (aT.mpr rfl)⟩
theorem nv{x j}:DE X E (.Constant (.str x) j pos) (dC (.str x)):=⟨aZ HY λσ H Q ⟨Ha,ρ,hs,hr,q⟩=>q _ H Ha (bf.refl hs) (Rep.str_iff.mpr rfl)⟩
theorem F8{x:Str}{v:V}{u:Value}{d:D}(hg:Gl X x)(hm:X.mg x=some u)(r:bz v u)(hr:∀H,Rep X.K H d v)(hd:(x==("__debug__":Str))=false:=by decide):DE X E (.Name x pos) (dC d) :=
 ⟨aZ (Fp hg hm r hd) λσ H Q ⟨Ha,ρ,hs,hr',q⟩=>q _ H Ha (bf.refl hs) (hr Ha)⟩
noncomputable def aa(f g:Ev->aj D) (op:D->D->aj D):Ev->aj D:=λρ=>(f ρ).bind λx=>(g ρ).bind λy=>op x y
noncomputable def cL(f:Ev->aj D) (op:D->aj D):Ev->aj D:=λρ=>(f ρ).bind op
noncomputable def rZ(K:W.Frag) (E:XK) (r:R2) (op:D->D->aj D):Prop:=∀(x y:D) (v u:V) (H Ha:Hp) (Q:VK),aC Ha H->Rep K Ha x v->Rep K Ha y u->post K E H Ha (op x y) Q->r v u H Q
theorem gF{r:R2}{op:D->D->aj D}(ho:rZ X.K E r op)(σ:L2.St)(H:Hp)(Q:VK)(h:tD X.K E (aa f g op) σ H Q):JA r (tD X.K E f) (tD X.K E g) σ H Q:=by
 obtain⟨Ha,ρ,hs,hr,q⟩:=h;refine⟨Ha,ρ,hs,hr,?_⟩;unfold aa at q;cases e1:f ρ with
 |stuck|exn x=>rw[e1] at q;exact q
 |ok x =>
  rw[e1] at q;intro v H1 H01 g1 r1;refine⟨H01,ρ,g1.sub,hr.mono g1.z,?_⟩;replace q:post X.K E H Ha ((g ρ).bind λy=>op x y) Q:=q;replace q:=q.grow g1;cases e2:g ρ with
  |stuck|exn x=>rw[e2] at q;exact q
  |ok y =>
   rw[e2] at q;intro u H2 H02 g2 r2;exact ho x y v u H2 H02 Q g2.sub (r1.mono g2.z) r2 (post.grow (r:=op x y) q g2)
theorem tO{op:Operator}{r:R2}{o:D->D->aj D}(h:ez X (binaryOp op) r)(ho:rZ X.K E r o)(ha:DE X E a f)(hb:DE X E b g):DE X E (.BinOp a op b pos) (aa f g o) :=
 ⟨aZ (GN h ha.o hb.o) (gF ho)⟩
theorem dq{op:CmpOp}{r:R2}{o:D->D->aj D}(h:ez X (compareOp op) r)(ho:rZ X.K E r o)(ha:DE X E a f)(hb:DE X E b g)(hm:behindInMarks op b=false):DE X E (.Compare a [op] [b] pos) (aa f g o) :=
 ⟨aZ (zq h ha.o hb.o hm) (gF ho)⟩
theorem K6{r:R2}{o:D->D->aj D}(h:Es X r)(ho:rZ X.K E r o)(ha:DE X E a f)(hb:DE X E b g)(hs:mH b):DE X E (.Subscript a b pos) (aa f g o) :=
 ⟨aZ (GO h ha.o hb.o hs) (gF ho)⟩
noncomputable def Nr(K:W.Frag) (E:XK) (r:V->Hp->VK->Prop) (op:D->aj D):Prop:=∀(x:D) (v:V) (H Ha:Hp) (Q:VK),aC Ha H->Rep K Ha x v->post K E H Ha (op x) Q->r v H Q
theorem K5{op:UnaryOp}{r:V->Hp->VK->Prop}{o:D->aj D}(h:Lr X (unaryOp op) r)(ho:Nr X.K E r o)(ha:DE X E a f):DE X E (.UnaryOp op a pos) (cL f o):=by
 refine⟨?_⟩;refine aZ (Kj h ha.o) λσ H Q ⟨Ha,ρ,hs,hr,q⟩=>⟨Ha,ρ,hs,hr,?_⟩
 unfold cL at q;cases e1:f ρ with
 |stuck|exn x=>rw[e1] at q;exact q
 |ok x =>
  rw[e1] at q;intro v H1 H01 g1 r1;exact ho x v H1 H01 Q g1.sub r1 (post.grow (r:=o x) q g1)
noncomputable def aE:Ev->aj (List D):=λ_=>.ok []
noncomputable def ai(f:Ev->aj D) (fa:Ev->aj (List D)):Ev->aj (List D):=λρ=>(f ρ).bind λx=>(fa ρ).bind λxs=>.ok (x::xs)
theorem av:DA X E [] aE:=⟨oC gY λσ H Q ⟨Ha,ρ,hs,hr,q⟩=>q [] H Ha (bf.refl hs) Reps.nil⟩
theorem af(ha:DE X E e f)(hr:DA X E es fa)(hs:starEach (e::es) X.env=(false,eval e X.env)::starEach es X.env:=by exact bK rfl):DA X E (e::es) (ai f fa):=by
 refine⟨?_⟩;refine oC (d5 ha.o hr.o hs) λσ H Q ⟨Ha,ρ,hs,hr,q⟩=>⟨Ha,ρ,hs,hr,?_⟩
 unfold ai at q;cases e1:f ρ with
 |stuck|exn x=>rw[e1] at q;exact q
 |ok x =>
  rw[e1] at q;intro v H1 H01 g1 r1;refine⟨H01,ρ,g1.sub,hr.mono g1.z,?_⟩;replace q:vK X.K E H Ha ((fa ρ).bind λxs=>.ok (x::xs)) Q:=q;replace q:=q.grow g1;cases e2:fa ρ with
  |stuck|exn x=>rw[e2] at q;exact q
  |ok xs =>
   rw[e2] at q;intro us H2 H02 g2 r2;exact q (v::us) H2 H02 g2 (Reps.cons (r1.mono g2.z) r2)
noncomputable def line:Nat:=1000000
theorem cO{n:Nat}(h:n<=line):n<=sizeLine:=Nat.le_trans h (by decide)
noncomputable def au(fa:Ev->aj (List D)) (m:List D->aj D):Ev->aj D:=λρ=>(fa ρ).bind m
noncomputable def e8:List D->aj D:=λds=>if ds.length<=line then .ok (.tup ds) else .stuck
noncomputable def cu:List D->aj D:=λds=>if ds.length<=line then .ok (.lst ds) else .stuck
theorem jH{m:List D->aj D}{r:List V->Hp->VK->Prop}(ho:∀(ds:List D) (vs:List V) (H Ha:Hp) (Q:VK),aC Ha H->Reps X.K Ha ds vs->post X.K E H Ha (m ds) Q->r vs H Q)
  (σ:L2.St)(H:Hp)(Q:VK)(h:tD X.K E (au fa m) σ H Q):ME X.K E fa σ H λvs H1=>r vs H1 Q:=by
 obtain⟨Ha,ρ,hs,hr,q⟩:=h;refine⟨Ha,ρ,hs,hr,?_⟩;unfold au at q;cases e1:fa ρ with
 |stuck|exn x=>rw[e1] at q;exact q
 |ok x =>
  rw[e1] at q;intro v H1 H01 g1 r1;exact ho x v H1 H01 Q g1.sub r1 (post.grow (r:=m x) q g1)
theorem dm{x1}(h:DA X E es fa):DE X E (.Tuple es x1 pos) (au fa e8):=by
 refine⟨?_⟩;refine aZ (HX h.o) (jH (r:=λxs H1 Q=>xs.length<=sizeLine/\∀p,H1 p=none->Q (.ref p) (upd H1 p (.tup xs))) λds vs H Ha Q hs hr q=>?_);unfold e8 at q
 by_cases hl:ds.length<=line
 .rw[if_pos hl] at q
  refine⟨by rw[←hr.length];exact cO hl,λp hp=>q _ _ _ (bu hs hp) (aP.mpr ⟨p,vs,rfl,jO.of aI,hr.mono (bu hs hp).z⟩)⟩
 .rw[if_neg hl] at q;exact q.elim
theorem cH(h:DA X E es fa):DE X E (.List es pos) (au fa cu):=by
 refine⟨?_⟩;refine aZ (yh h.o) (jH (r:=λxs H1 Q=>xs.length<=sizeLine/\∀p,H1 p=none->Q (.ref p) (upd H1 p (.lst xs))) λds vs H Ha Q hs hr q=>?_);unfold cu at q
 by_cases hl:ds.length<=line
 .rw[if_pos hl] at q
  refine⟨by rw[←hr.length];exact cO hl,λp hp=>q _ _ _ (bu hs hp) (aG.mpr ⟨p,vs,rfl,eZ.of aI,hr.mono (bu hs hp).z⟩)⟩
 .rw[if_neg hl] at q;exact q.elim
noncomputable def spD(K:W.Frag) (n:Nat) (m:List D->aj D):Sp:=λvs H Q E=>vs.length=n/\∃Ha ds,aC Ha H/\Reps K Ha ds vs/\post K E H Ha (m ds) Q
theorem F9{CX:uh}{k n:Nat}{fn:Addr}{fd:FuncData}{ps:List Str}{m:List D->aj D}{x:Str}{p:Pos}(F:iz X.prog X.w X.K X.mg X.base CX k fn fd ps (spD X.K n m))(hr:du k X.A)(hg:Gl X x)(hm:X.mg x=some (.ref fn))
  (hk:W.keepIn X.K (.ref fn)=true)(hb:j8 X.K fd ps [])(hx:fU CX X E)(ha:DA X E (e::es) fa)(hn:(e::es).length=n:=by rfl)(hl:∀ρ ds,fa ρ=.ok ds->ds.length=(e::es).length)
  (hdb:(x==("__debug__":Str))=false:=by decide)(he:starEach (e::es) X.env=(false,eval e X.env)::starEach es X.env:=by exact bK rfl)(hpl:(backTo pos (starEach es X.env)).any (·.1)=false:=by exact cv rfl) :
  DE X E (.Call (.Name x p) (e::es) [] pos) (au fa m):=by
 refine⟨?_⟩;refine aZ (oB F hr hg hm hk hb .nil hx ha.o hdb he hpl) λσ H Q h=>?_;obtain⟨Ha,ρ,hs,hr,q⟩:=h;refine⟨Ha,ρ,hs,hr,?_⟩;unfold au at q;cases e1:fa ρ with
 |stuck|exn x=>rw[e1] at q;exact q
 |ok ds =>
  rw[e1] at q;intro v H1 H01 g1 r1;refine⟨?_,H01,ds,g1.sub,by simpa using r1,post.grow (r:=m ds) q g1⟩;have:=r1.length;have:=hl ρ ds e1;simp only[List.append_nil];omega
theorem Eo{ρ:Ev}{ds:List D}(h:aE ρ=.ok ds):ds.length=0:=by cases h;rfl
theorem jI{ρ:Ev}{ds:List D}{n:Nat}(hr:∀es,fa ρ=.ok es->es.length=n)(h:ai f fa ρ=.ok ds):ds.length=n+1:=by
 unfold ai at h;cases e1:f ρ with
 |stuck|exn x=>rw[e1] at h;cases h
 |ok x =>
  rw[e1] at h;replace h:((fa ρ).bind λxs=>aj.ok (x::xs))=.ok ds:=h;cases e2:fa ρ with
  |stuck|exn x=>rw[e2] at h;cases h
  |ok xs =>
   rw[e2] at h;cases h;simp [hr xs e2]
noncomputable def gR(X:Cx) (E:XK) (r:List V->Hp->VK->Prop) (m:List D->aj D):Prop:=∀(ds:List D) (vs:List V) (H Ha:Hp) (Q:VK),aC Ha H->Reps X.K Ha ds vs->post X.K E H Ha (m ds) Q->r vs H Q
theorem bE{id:String}{r:List V->Hp->VK->Prop}{m:List D->aj D}{x:Str}{p:Pos}(hc:jo X (.builtin id) r)(hd:gR X E r m)(hg:Gl X x)(hm:X.mg x=none)(hv:bootBuiltins x=some (.builtin id))(ha:DA X E (e::es) fa)(hn:x≠"__name__":=by decide)(hdb:(x==("__debug__":Str))=false:=by decide)
  (he:starEach (e::es) X.env=(false,eval e X.env)::starEach es X.env:=by exact bK rfl)(hpl:(backTo pos (starEach es X.env)).any (·.1)=false:=by exact cv rfl):DE X E (.Call (.Name x p) (e::es) [] pos) (au fa m) :=
 ⟨aZ (vN hc hg hm hv ha.o hn hdb he hpl) (jH hd)⟩
theorem D2(h:PT X e (tB (tD X.K E f))):DT X E e f:=by
 refine⟨?_⟩;refine fk h λσ H Q ⟨Ha,ρ,hs,hr,q⟩=>⟨Ha,ρ,hs,hr,?_⟩
 cases e1:f ρ with
 |stuck|exn x=>rw[e1] at q;exact q
 |ok d =>
  rw[e1] at q;intro v H1 H01 g1 r1;cases d with|bl b=>rw[aK.mp r1];exact⟨b,rfl,q H1 H01 g1⟩| _=>exact q.elim
theorem bQ(h:DE X E e f)(he:∀whole,isTrue e X.env whole=(do let v ←whole;standAt e.pos;holding [v] (truthy v)):=by intro _;rfl):DT X E e f:=D2 (CG h.o he)
theorem aY{op:CmpOp}{r:R2}{o:D->D->aj D}(h:ez X (compareOp op) r)(ho:rZ X.K E r o)(ha:DE X E a f)(hb:DE X E b g)(hm:behindInMarks op b=false):DT X E (.Compare a [op] [b] pos) (aa f g o):=by
 refine⟨?_⟩;refine fk (zj h ha.o hb.o hm) λσ H Q h=>?_;have w:tD X.K E (aa f g o) σ H λx H'=>∃k,x=.bl k/\Q k H':=by
  obtain⟨Ha,ρ,hs,hr,q⟩:=h;refine⟨Ha,ρ,hs,hr,?_⟩;cases e1:aa f g o ρ with
  |stuck|exn x=>rw[e1] at q;exact q
  |ok d =>
   rw[e1] at q;intro v H1 H01 g1 r1;cases d with|bl b=>rw[aK.mp r1];exact⟨b,rfl,q H1 H01 g1⟩| _=>exact q.elim
 exact gF ho σ H _ w
noncomputable def cI(f:Ev->aj D):Ev->aj D:=cL f λx=>match x with
 |.bl b=>.ok (.bl (!b))
 |_=>.stuck
noncomputable def eW(f g:Ev->aj D):Ev->aj D:=λρ=>(f ρ).bind λx=>match x with
 |.bl true=>g ρ
 |.bl false=>.ok (.bl false)
 |_=>.stuck
noncomputable def iq(f g:Ev->aj D):Ev->aj D:=λρ=>(f ρ).bind λx=>match x with
 |.bl true=>.ok (.bl true)
 |.bl false=>g ρ
 |_=>.stuck
theorem bZ(ha:DT X E a f):DT X E (.UnaryOp .Not a pos) (cI f):=by
 refine⟨?_⟩;refine fk (CH ha.o) λσ H Q ⟨Ha,ρ,hs,hr,q⟩=>⟨Ha,ρ,hs,hr,?_⟩
 unfold cI cL at q;cases e1:f ρ with
 |stuck|exn x=>rw[e1] at q;exact q
 |ok d =>
  rw[e1] at q;cases d with|bl b=>exact q| _=>exact q.elim
theorem Eb(ha:DE X E a f):DE X E (.UnaryOp .Not a pos) (cI f):=by
 refine⟨?_⟩;refine aZ (H0 ha.o) λσ H Q ⟨Ha,ρ,hs,hr,q⟩=>⟨Ha,ρ,hs,hr,?_⟩
 unfold cI cL at q;cases e1:f ρ with
 |stuck|exn x=>rw[e1] at q;exact q
 |ok d =>
  rw[e1] at q;intro v H1 H01 g1 r1;cases d with|bl b=>rw[aK.mp r1];exact⟨b,rfl,q (.bl !b) H1 H01 g1 (aK.mpr rfl)⟩| _=>exact q.elim
variable {rest:List Expr}
theorem ik(ha:DT X E a f):DW X E (.BoolOp .And [a] pos) f:=⟨zh ha.o⟩
theorem bA(ha:DT X E a f):DW X E (.BoolOp .Or [a] pos) f:=⟨HP ha.o⟩
theorem nr(ha:DT X E a f)(hb:DW X E (.BoolOp .And (b::rest) pos) g):DW X E (.BoolOp .And (a::b::rest) pos) (eW f g):=by
 refine⟨?_⟩;refine ux (Cz ha.o hb.o) λσ H Q ⟨Ha,ρ,hs,hr,q⟩=>⟨Ha,ρ,hs,hr,?_⟩
 unfold eW at q;cases e1:f ρ with
 |stuck|exn x=>rw[e1] at q;exact q
 |ok d =>
  rw[e1] at q;cases d with
  |bl b =>
   cases b with|true=>exact λH1 H01 g1=>⟨H01,ρ,g1.sub,hr.mono g1.z,pz.grow (r:=g ρ) q g1⟩|false=>exact λH1 H01 g1=>q H1 H01 g1
  |_=>exact q.elim
theorem dk(ha:DT X E a f)(hb:DW X E (.BoolOp .Or (b::rest) pos) g):DW X E (.BoolOp .Or (a::b::rest) pos) (iq f g):=by
 refine⟨?_⟩;refine ux (Kc ha.o hb.o) λσ H Q ⟨Ha,ρ,hs,hr,q⟩=>⟨Ha,ρ,hs,hr,?_⟩
 unfold iq at q;cases e1:f ρ with
 |stuck|exn x=>rw[e1] at q;exact q
 |ok d =>
  rw[e1] at q;cases d with
  |bl b =>
   cases b with|false=>exact λH1 H01 g1=>⟨H01,ρ,g1.sub,hr.mono g1.z,pz.grow (r:=g ρ) q g1⟩|true=>exact λH1 H01 g1=>q H1 H01 g1
  |_=>exact q.elim
theorem DW.dt(h:DW X E e f):DT X E e f:=⟨PW.pt h.o⟩
theorem fP{op}(h:DE X E a f):DE X E (.BoolOp op [a] pos) f:=⟨HZ h.o⟩
theorem ip(ha:DE X E a f)(hb:DE X E (.BoolOp .And (b::rest) pos) g):DE X E (.BoolOp .And (a::b::rest) pos) (eW f g):=by
 refine⟨?_⟩;refine aZ (Ie ha.o hb.o) λσ H Q ⟨Ha,ρ,hs,hr,q⟩=>⟨Ha,ρ,hs,hr,?_⟩
 unfold eW at q;cases e1:f ρ with
 |stuck|exn x=>rw[e1] at q;exact q
 |ok d =>
  rw[e1] at q;intro v H1 H01 g1 r1;cases d with
  |bl b =>
   rw[aK.mp r1];cases b with|true=>exact⟨true,rfl,H01,ρ,g1.sub,hr.mono g1.z,post.grow (r:=g ρ) q g1⟩|false=>exact⟨false,rfl,q (.bl false) H1 H01 g1 (aK.mpr rfl)⟩
  |_=>exact q.elim
theorem Hc(ha:DE X E a f)(hb:DE X E (.BoolOp .Or (b::rest) pos) g):DE X E (.BoolOp .Or (a::b::rest) pos) (iq f g):=by
 refine⟨?_⟩;refine aZ (Kk ha.o hb.o) λσ H Q ⟨Ha,ρ,hs,hr,q⟩=>⟨Ha,ρ,hs,hr,?_⟩
 unfold iq at q;cases e1:f ρ with
 |stuck|exn x=>rw[e1] at q;exact q
 |ok d =>
  rw[e1] at q;intro v H1 H01 g1 r1;cases d with
  |bl b =>
   rw[aK.mp r1];cases b with|false=>exact⟨false,rfl,H01,ρ,g1.sub,hr.mono g1.z,post.grow (r:=g ρ) q g1⟩|true=>exact⟨true,rfl,q (.bl true) H1 H01 g1 (aK.mpr rfl)⟩
  |_=>exact q.elim
noncomputable def Jc(c f g:Ev->aj D):Ev->aj D:=λρ=>(c ρ).bind λx=>match x with
 |.bl true=>f ρ
 |.bl false=>g ρ
 |_=>.stuck
theorem xt{c:Expr}{fc:Ev->aj D}(hc:DT X E c fc)(ha:DE X E a f)(hb:DE X E b g):DE X E (.IfExp c a b pos) (Jc fc f g):=by
 refine⟨?_⟩;refine aZ (CT hc.o ha.o hb.o) λσ H Q ⟨Ha,ρ,hs,hr,q⟩=>⟨Ha,ρ,hs,hr,?_⟩
 unfold Jc at q;cases e1:fc ρ with
 |stuck|exn x=>rw[e1] at q;exact q
 |ok d =>
  rw[e1] at q;cases d with
  |bl b =>
   cases b with|true=>exact λH1 H01 g1=>⟨H01,ρ,g1.sub,hr.mono g1.z,post.grow (r:=f ρ) q g1⟩|false=>exact λH1 H01 g1=>⟨H01,ρ,g1.sub,hr.mono g1.z,post.grow (r:=g ρ) q g1⟩
  |_=>exact q.elim
end
noncomputable def Gu(K:W.Frag) (Ha H:Hp) (a:Addr) (d:D):Prop:=match d with
 |.lst ds=>∃vs,H a=some (.lst vs)/\Reps K Ha ds vs
 |.dic ks ds=>∃vs,H a=some (.dK ((ks.map Sum.inr).zip vs))/\ks.length=vs.length/\Reps K Ha ds vs
 |_=>False
noncomputable def Lb(K:W.Frag) (He Ha H:Hp) (a:Addr) (j:Nat) (ds:List D) (p:Addr):Prop:=∃vs es us,He a=none/\H a=some (.tup vs)/\He p=none/\Ha p=none/\ds[j]?=some (.lst es)/\vs[j]?=some (.ref p)/\H p=some (.lst us)/\Reps K Ha es us/\ds.length=vs.length/\∀k d v,k≠j->ds[k]?=some d->vs[k]?=some v->Rep K Ha d v
noncomputable def OX(K:W.Frag) (He Ha:Hp) (σ:L2.St) (H:Hp) (ρ:Ev):Prop:=(∀(i j:Nat) (ds:List D),ρ[i]?=some (.ox j ds)->∃a p,σ[i]?=some (some (.ref a))/\Lb K He Ha H a j ds p/\(∀(k:Nat) (d:D),ρ[k]?=some (.ow d)->σ[k]?≠some (some (.ref p)))/\∀(k j':Nat) (ds':List D),ρ[k]?=some (.ox j' ds')->k=i)/\∀(i:Nat) (a:Addr),ρ[i]?=some (.pt a)->σ[i]?=some (some (.ref a))
theorem OX.upd{K:W.Frag}{He Ha Ha' H H':Hp}{σ σ':L2.St}{ρ ρ':Ev}(h:OX K He Ha σ H ρ)
  (hk:∀(j:Nat) (s:Sl),ρ'[j]?=some s->(ρ[j]?=some s/\σ'[j]?=σ[j]?)∨(∃d,s=.sh d)∨s=.no∨∃d q,s=.ow d/\σ'[j]?=some (some (.ref q))/\∀(i j:Nat) (ds:List D) (a p:Addr),ρ[i]?=some (.ox j ds)->σ[i]?=some (some (.ref a))->Lb K He Ha H a j ds p->q≠p)
  (hz:aC Ha Ha')(ht:∀a vs,He a=none->H a=some (.tup vs)->H' a=some (.tup vs))
  (hl:∀p us,He p=none->Ha p=none->H p=some (.lst us)->(∀(k:Nat) (d:D),ρ[k]?=some (.ow d)->σ[k]?≠some (some (.ref p)))->H' p=some (.lst us)/\Ha' p=none):OX K He Ha' σ' H' ρ':=by
 refine⟨λi j ds e=>?_,λi a e=>?_⟩
 rotate_left
 .rcases hk i _ e with h1|⟨d,h1⟩|h1|⟨d,q,h1,_⟩
  .rw[h1.2];exact h.2 i a h1.1
  .cases h1
  .cases h1
  .cases h1
 have old:ρ[i]?=some (.ox j ds)/\σ'[i]?=σ[i]?:=by
  rcases hk i _ e with h1|⟨d,h1⟩|h1|⟨d,q,h1,_⟩
  .exact h1
  .cases h1
  .cases h1
  .cases h1
 obtain⟨a,p,h1,h2,h3,h4⟩:=h.1 i j ds old.1;have h2':=h2;obtain⟨vs,es,us,r1,r2,r3,r4,r5,r6,r7,r8,r9,r10⟩:=h2;obtain⟨l1,l2⟩:=hl p us r3 r4 r7 h3;refine⟨a,p,old.2.trans h1,⟨vs,es,us,r1,ht a vs r1 r2,r3,l2,r5,r6,l1,r8.mono hz,r9,λk d v hk e1 e2=>(r10 k d v hk e1 e2).mono hz⟩,λk d ek z=>?_,λk j' ds' ek=>?_⟩
 .rcases hk k _ ek with h1'|⟨d',h1'⟩|h1'|⟨d',q,h1',h2'',h3'⟩
  .exact h3 k d h1'.1 (by rw[←h1'.2];exact z)
  .cases h1'
  .cases h1'
  .rw[h2''] at z
   cases z;exact h3' i j ds a p old.1 h1 h2' rfl
 .rcases hk k _ ek with h1'|⟨d',h1'⟩|h1'|⟨d',q,h1',_⟩
  .exact h4 k j' ds' h1'.1
  .cases h1'
  .cases h1'
  .cases h1'
theorem OX.none{K:W.Frag}{He Ha H:Hp}{σ:L2.St}{ρ:Ev}(h:∀(i j:Nat) (ds:List D),ρ[i]?≠some (.ox j ds))(h':∀(i:Nat) (a:Addr),ρ[i]?=some (.pt a)->σ[i]?=some (some (.ref a))):OX K He Ha σ H ρ:=⟨λi j ds e=>absurd e (h i j ds),h'⟩
theorem zc{K:W.Frag}{H:Hp}:∀{ds:List D}{vs:List V},ds.length=vs.length->(∀(k:Nat) (d:D) (v:V),ds[k]?=some d->vs[k]?=some v->Rep K H d v)->Reps K H ds vs
 |[],[],_,_=>Reps.nil
 |d::ds,v::vs,hl,h=>Reps.cons (h 0 d v rfl rfl) (zc (by simpa using hl) λk d' v' e1 e2=>h (k+1) d' v' e1 e2)
structure dH (K:W.Frag) (He H0e Ha:Hp) (σ:L2.St) (H:Hp) (ρ:Ev):Prop where
 g:bf He H0e H Ha
 rd:dX K Ha σ ρ
 ow:∀(i:Nat) (d:D),ρ[i]?=some (.ow d)->∃a,σ[i]?=some (some (.ref a))/\He a=none/\Ha a=none/\Gu K Ha H a d
 ap:∀(i j:Nat) (d d':D),i≠j->ρ[i]?=some (.ow d)->ρ[j]?=some (.ow d')->σ[i]?≠σ[j]?
 ln:ρ.length=σ.length
 ex:OX K He Ha σ H ρ
inductive Fl where
 |nx (ρ:Ev)|rt (d:D)|bk (ρ:Ev)|ct (ρ:Ev)
noncomputable def bW(K:W.Frag) (E:XK) (He H0e Ha:Hp) (r:aj Fl) (D:e7):Prop:=match r with
 |.ok (.nx ρ)=>∀σ H Ha',aC Ha Ha'->dH K He H0e Ha' σ H ρ->D.nx σ H
 |.ok (.rt d)=>∀v H Ha',bf He H0e H Ha'->Rep K Ha' d v->D.rt v H
 |.ok (.bk ρ)=>∀σ H Ha',aC Ha Ha'->dH K He H0e Ha' σ H ρ->D.bk σ H
 |.ok (.ct ρ)=>∀σ H Ha',aC Ha Ha'->dH K He H0e Ha' σ H ρ->D.ct σ H
 |.exn x=>∀C ox H Ha',bf He H0e H Ha'->AM K Ha' x C ox->E C ox H
 |.stuck=>False
theorem bW.grow{K:W.Frag}{E:XK}{He H0e Ha Hb:Hp}{r:aj Fl}{D:e7}(h:bW K E He H0e Ha r D)(s:aC Ha Hb):bW K E He H0e Hb r D:=by
 cases r with
 |ok f =>
  cases f with|nx ρ=>exact λσ H Ha' s'=>h σ H Ha' (s.trans s')|rt d=>exact h|bk ρ=>exact λσ H Ha' s'=>h σ H Ha' (s.trans s')|ct ρ=>exact λσ H Ha' s'=>h σ H Ha' (s.trans s')
 |exn x=>exact h
 |stuck=>exact h
noncomputable def tS(K:W.Frag) (E:XK) (He H0e:Hp) (g:Ev->aj Fl):TS:=λD σ H=>∃Ha ρ,dH K He H0e Ha σ H ρ/\bW K E He H0e Ha (g ρ) D
structure DS (X:Cx) (E:XK) (He H0e:Hp) (st:Stmt) (g:Ev->aj Fl):Prop where
 o:PS X st (tS X.K E He H0e g)
structure BU (X:Cx) (E:XK) (He H0e:Hp) (st:List Stmt) (g:Ev->aj Fl):Prop where
 o:vm X st (tS X.K E He H0e g)
noncomputable def fX(ρ:Ev):Ev:=ρ.map λs=>match s with
 |.ow d=>.sh d
 |.ox _ ds=>.sh (.tup ds)
 |x=>x
noncomputable def frz(He Ha H:Hp):Hp:=λa=>match He a with
 |none=>H a
 |some _=>Ha a
section
variable {K:W.Frag}{E:XK}{He H0e Ha H H1:Hp}{σ:L2.St}{ρ:Ev}
theorem dH.same(h:dH K He H0e Ha σ H ρ)(s:aC H H1):dH K He H0e Ha σ H1 ρ :=
 ⟨⟨h.g.s.trans s,h.g.z,h.g.sub.trans s,h.g.nw⟩,h.rd,λi d e=>by
  obtain⟨a,h1,h2,h3,h4⟩:=h.ow i d e;refine⟨a,h1,h2,h3,?_⟩;cases d with
  |lst ds=>obtain⟨vs,h5,h6⟩:=h4;exact⟨vs,s _ _ h5,h6⟩|dic ks ds=>obtain⟨vs,h5,hl,h6⟩:=h4;exact⟨vs,s _ _ h5,hl,h6⟩
  |_=>exact h4,h.ap,h.ln,h.ex.upd (λj s' e=>.inl ⟨e,rfl⟩) (aC.refl _) (λa vs _ e=>s _ _ e) λp us _ h0 hp _=>⟨s _ _ hp,h0⟩⟩
theorem dH.grow{H01:Hp}(h:dH K He H0e Ha σ H ρ)(s:bf H Ha H1 H01):dH K He H0e H01 σ H1 ρ :=
 ⟨h.g.trans s,h.rd.mono s.z,λi d e=>by
  obtain⟨a,h1,h2,h3,h4⟩:=h.ow i d e;have ha:H01 a=none:=by
   cases q:H01 a with
   |none=>rfl
   |some o =>
    have:=s.nw a (by rw[q];simp) h3;cases d with|lst ds|dic ks ds=>obtain⟨vs,h5,_⟩:=h4;rw[h5] at this;cases this| _=>exact h4.elim
  refine⟨a,h1,h2,ha,?_⟩;cases d with
  |lst ds=>obtain⟨vs,h5,h6⟩:=h4;exact⟨vs,s.s _ _ h5,h6.mono s.z⟩|dic ks ds=>obtain⟨vs,h5,hl,h6⟩:=h4;exact⟨vs,s.s _ _ h5,hl,h6.mono s.z⟩
  |_=>exact h4,h.ap,h.ln,h.ex.upd (λj s' e=>.inl ⟨e,rfl⟩) s.z (λa vs _ e=>s.s _ _ e) λp us _ h0 hp _=>⟨s.s _ _ hp,by
   cases q:H01 p with
   |none=>rfl
   |some o=>have:=s.nw p (by rw[q];simp) h0;rw[hp] at this;cases this⟩⟩
theorem dH.frz_sub(h:dH K He H0e Ha σ H ρ):aC Ha (frz He Ha H):=λb o e=>by
 unfold frz;cases q:He b with|none=>exact h.g.sub _ _ e|some _=>exact e
theorem dH.frz_le(h:dH K He H0e Ha σ H ρ):aC (frz He Ha H) H:=λb o e=>by
 unfold frz at e;cases q:He b with|none=>rw[q] at e;exact e|some _=>rw[q] at e;exact h.g.sub _ _ e
theorem dH.frz_grow(h:dH K He H0e Ha σ H ρ):bf He H0e H (frz He Ha H) :=
 ⟨h.g.s,h.g.z.trans h.frz_sub,h.frz_le,λa h1 h2=>by
  cases q:He a with
  |none=>rfl
  |some o =>
   unfold frz at h1;rw[q] at h1;have:=h.g.nw a h1 h2;rw[q] at this;cases this⟩
theorem dH.looks(h:dH K He H0e Ha σ H ρ):dX K (frz He Ha H) σ (fX ρ):=λi d e=>by
 unfold fX at e;rw[List.getElem?_map] at e;cases q:ρ[i]? with
 |none=>rw[q] at e;cases e
 |some s =>
  rw[q] at e;cases s with
  |no|pt a=>cases e
  |sh d' =>
   cases e;obtain⟨v,h1,h2⟩:=h.rd i d q;exact⟨v,h1,h2.mono h.frz_sub⟩
  |ow d' =>
   cases e;obtain⟨a,h1,h2,h3,h4⟩:=h.ow i d q;refine⟨_,h1,?_⟩;cases d with
   |lst ds =>
    obtain⟨vs,h5,h6⟩:=h4;exact aG.mpr ⟨a,vs,rfl,eZ.of (by unfold frz;rw[h2];exact h5),h6.mono h.frz_sub⟩
   |dic ks ds =>
    obtain⟨vs,h5,hl,h6⟩:=h4;rw[Rep];exact⟨a,_,vs,rfl,.inl (by unfold frz;rw[h2];exact h5),rfl,hl,h6.mono h.frz_sub⟩
   |_=>exact h4.elim
  |ox j ds =>
   cases e;obtain⟨a,p,h1,⟨vs,es,us,r1,r2,r3,r4,r5,r6,r7,r8,r9,r10⟩,_⟩:=h.ex.1 i j ds q;refine⟨_,h1,aP.mpr ⟨a,vs,rfl,jO.of (by unfold frz;rw[r1];exact r2),zc r9 λk d v e1 e2=>?_⟩⟩
   by_cases hk:k=j
   .subst hk
    rw[r5] at e1;cases e1;rw[r6] at e2;cases e2;exact aG.mpr ⟨p,us,rfl,eZ.of (by unfold frz;rw[r3];exact r7),r8.mono h.frz_sub⟩
   .exact(r10 k d v hk e1 e2).mono h.frz_sub
theorem dH.put(h:dH K He H0e Ha σ H ρ){i:Nat}{d:D}{v:V}(r:Rep K Ha d v):dH K He H0e Ha (σ.set i (some v)) H (ρ.set i (.sh d)):=by
 have key:∀(j:Nat) (s:Sl),(ρ.set i (.sh d))[j]?=some s->(j=i/\s=.sh d/\i<σ.length)∨(j≠i/\ρ[j]?=some s):=λj s e=>by
  by_cases hj:i=j
  .subst hj
   rw[List.getElem?_set_self'] at e;cases q:ρ[i]? with
   |none=>rw[q] at e;cases e
   |some s' =>
    rw[q] at e;cases e;refine .inl ⟨rfl,rfl,?_⟩;rw[←h.ln];exact(List.getElem?_eq_some_iff.mp q).1
  .rw[List.getElem?_set_ne hj] at e
   exact .inr ⟨λz=>hj z.symm,e⟩
 refine⟨h.g,λj d' e=>?_,λj d' e=>?_,λj k d1 d2 hn e1 e2=>?_,by simp [h.ln],h.ex.upd (λj s e=>?_) (aC.refl _) (λa vs _ e=>e) λp us _ h0 hp _=>⟨hp,h0⟩⟩
 rotate_left 3
 .rcases key j _ e with⟨rfl,e',hl⟩|⟨hj,e'⟩
  .exact .inr (.inl ⟨d,e'⟩)
  .exact .inl ⟨e',by rw[List.getElem?_set_ne (Ne.symm hj)]⟩
 .rcases key j _ e with⟨rfl,e',hl⟩|⟨hj,e'⟩
  .cases e'
   exact⟨v,by rw[List.getElem?_set_self hl],r⟩
  .obtain⟨v',h1,h2⟩:=h.rd j d' e'
   exact⟨v',by rw[List.getElem?_set_ne (Ne.symm hj)];exact h1,h2⟩
 .rcases key j _ e with⟨rfl,e',hl⟩|⟨hj,e'⟩
  .cases e'
  .obtain⟨a,h1,h2⟩:=h.ow j d' e'
   exact⟨a,by rw[List.getElem?_set_ne (Ne.symm hj)];exact h1,h2⟩
 .rcases key j _ e1 with⟨_,e',_⟩|⟨hj,e1'⟩
  .cases e'
  rcases key k _ e2 with⟨_,e',_⟩|⟨hk,e2'⟩
  .cases e'
  rw[List.getElem?_set_ne (Ne.symm hj),List.getElem?_set_ne (Ne.symm hk)];exact h.ap j k d1 d2 hn e1' e2'
theorem dH.putOwn(h:dH K He H0e Ha σ H ρ){i:Nat}{ds:List D}{vs:List V}{p:Addr}(hp:∀(j:Nat) (a:Addr),σ[j]?=some (some (V.ref a))->a=p->∀d:D,ρ[j]?≠some (Sl.ow d))(he:He p=none)(h0:Ha p=none)(hv:H p=some (.lst vs))(r:Reps K Ha ds vs)(hx:∀(i j:Nat) (ds:List D) (a q:Addr),ρ[i]?=some (.ox j ds)->σ[i]?=some (some (.ref a))->Lb K He Ha H a j ds q->p≠q) :
  dH K He H0e Ha (σ.set i (some (.ref p))) H (ρ.set i (.ow (.lst ds))):=by
 have key:∀(j:Nat) (s:Sl),(ρ.set i (.ow (.lst ds)))[j]?=some s->(j=i/\s=.ow (.lst ds)/\i<σ.length)∨(j≠i/\ρ[j]?=some s):=λj s e=>by
  by_cases hj:i=j
  .subst hj
   rw[List.getElem?_set_self'] at e;cases q:ρ[i]? with
   |none=>rw[q] at e;cases e
   |some s' =>
    rw[q] at e;cases e;refine .inl ⟨rfl,rfl,?_⟩;rw[←h.ln];exact(List.getElem?_eq_some_iff.mp q).1
  .rw[List.getElem?_set_ne hj] at e
   exact .inr ⟨λz=>hj z.symm,e⟩
 have other:∀(k:Nat) (d2:D),k≠i->ρ[k]?=some (.ow d2)->some (some (V.ref p))≠σ[k]?:=λk d2 hk e2 z=>by
  obtain⟨a,h1,_⟩:=h.ow k d2 e2;rw[h1] at z;cases z;exact hp k p h1 rfl d2 e2
 refine⟨h.g,λj d' e=>?_,λj d' e=>?_,λj k d1 d2 hn e1 e2=>?_,by simp [h.ln],h.ex.upd (λj s e=>?_) (aC.refl _) (λa vs _ e=>e) λp us _ h0 hp _=>⟨hp,h0⟩⟩
 rotate_left 3
 .rcases key j _ e with⟨rfl,e',hl⟩|⟨hj,e'⟩
  .exact .inr (.inr (.inr ⟨.lst ds,p,e',by rw[List.getElem?_set_self hl],hx⟩))
  .exact .inl ⟨e',by rw[List.getElem?_set_ne (Ne.symm hj)]⟩
 .rcases key j _ e with⟨rfl,e',hl⟩|⟨hj,e'⟩
  .cases e'
  .obtain⟨v',h1,h2⟩:=h.rd j d' e'
   exact⟨v',by rw[List.getElem?_set_ne (Ne.symm hj)];exact h1,h2⟩
 .rcases key j _ e with⟨rfl,e',hl⟩|⟨hj,e'⟩
  .cases e'
   exact⟨p,by rw[List.getElem?_set_self hl],he,h0,vs,hv,r⟩
  .obtain⟨a,h1,h2⟩:=h.ow j d' e'
   exact⟨a,by rw[List.getElem?_set_ne (Ne.symm hj)];exact h1,h2⟩
 .rcases key j _ e1 with⟨rfl,_,hl⟩|⟨hj,e1'⟩
  .rcases key k _ e2 with⟨rfl,_,_⟩|⟨hk,e2'⟩
   .exact absurd rfl hn
   .rw[List.getElem?_set_self hl,List.getElem?_set_ne (Ne.symm hk)]
    exact other k d2 hk e2'
  .rcases key k _ e2 with⟨rfl,_,hl⟩|⟨hk,e2'⟩
   .rw[List.getElem?_set_self hl,List.getElem?_set_ne (Ne.symm hj)]
    exact λz=>other j d1 hj e1' z.symm
   .rw[List.getElem?_set_ne (Ne.symm hj),List.getElem?_set_ne (Ne.symm hk)]
    exact h.ap j k d1 d2 hn e1' e2'
theorem dH.fresh_x{H01:Hp}{p:Addr}(h:dH K He H0e Ha σ H ρ)(s:aC H H1)(hp:H p=none):∀(i j:Nat) (ds:List D) (a q:Addr),ρ[i]?=some (.ox j ds)->σ[i]?=some (some (.ref a))->Lb K He H01 H1 a j ds q->p≠q:=λi j ds a q x1 x2 x3=>by
 obtain⟨a2,p2,y1,⟨vs2,_,us2,_,z3,_,_,_,z4,z5,_⟩,_⟩:=h.ex.1 i j ds x1;rw[x2] at y1;cases y1;obtain⟨vs1,_,_,_,z1,_,_,_,z2,_⟩:=x3;have:=s _ _ z3;rw[z1] at this;cases this;rw[z2] at z4;cases z4;intro z;subst z;rw[hp] at z5;cases z5
theorem dH.write(h:dH K He H0e Ha σ H ρ){i:Nat}{d:D}{p:Addr}{ds:List D}{vs:List V}(e:ρ[i]?=some (.ow d))(es:σ[i]?=some (some (.ref p)))(r:Reps K Ha ds vs) :
  dH K He H0e Ha σ (upd H p (.lst vs)) (ρ.set i (.ow (.lst ds))):=by
 obtain⟨a,h1,h2,h3,h4⟩:=h.ow i d e;rw[h1] at es;cases es;have hil:i<ρ.length:=(List.getElem?_eq_some_iff.mp e).1;have key:∀(j:Nat) (s:Sl),(ρ.set i (.ow (.lst ds)))[j]?=some s->(j=i/\s=.ow (.lst ds))∨(j≠i/\ρ[j]?=some s):=λj s e=>by
  by_cases hj:i=j
  .subst hj
   rw[List.getElem?_set_self hil] at e;cases e;exact .inl ⟨rfl,rfl⟩
  .rw[List.getElem?_set_ne hj] at e
   exact .inr ⟨λz=>hj z.symm,e⟩
 refine⟨⟨λb o eb=>?_,h.g.z,λb o eb=>?_,h.g.nw⟩,λj d' e'=>?_,λj d' e'=>?_,λj k d1 d2 hn e1 e2=>?_,by simp [h.ln],h.ex.upd (λj s e'=>?_) (aC.refl _) (λb us _ eb=>?_) λq us _ q0 hq hd=>?_⟩
 rotate_left 5
 .rcases key j _ e' with⟨rfl,e''⟩|⟨hj,e''⟩
  .exact .inr (.inr (.inr ⟨.lst ds,p,e'',h1,λi' j' ds' a' p' x1 x2 x3=>by
    obtain⟨a2,p2,y1,y2,y3,_⟩:=h.ex.1 i' j' ds' x1;rw[x2] at y1;cases y1;have:p2=p':=by
     obtain⟨vs1,_,_,_,z1,_,_,_,z2,_⟩:=x3;obtain⟨vs2,_,_,_,z3,_,_,_,z4,_⟩:=y2;rw[z1] at z3;cases z3;rw[z2] at z4;cases z4;rfl
    subst this;intro zz;subst zz;exact y3 j d e h1⟩))
  .exact .inl ⟨e'',rfl⟩
 .rw[aA (by
   intro z;subst z;cases d with
   |lst ds'|dic ks ds'=>obtain⟨vs',h5,_⟩:=h4;rw[h5] at eb;cases eb
   |_=>exact h4)];exact eb
 .have hq':q≠p:=by
   intro z;subst z;exact hd i d e h1
  exact⟨by rw[aA hq'];exact hq,q0⟩
 .rw[aA (by intro z;subst z;rw[h2] at eb;cases eb)];exact h.g.s _ _ eb
 .rw[aA (by intro z;subst z;rw[h3] at eb;cases eb)];exact h.g.sub _ _ eb
 .rcases key j _ e' with⟨rfl,e''⟩|⟨hj,e''⟩
  .cases e''
  .exact h.rd j d' e''
 .rcases key j _ e' with⟨rfl,e''⟩|⟨hj,e''⟩
  .cases e''
   exact⟨p,h1,h2,h3,vs,aI,r⟩
  .obtain⟨b,k1,k2,k3,k4⟩:=h.ow j d' e''
   refine⟨b,k1,k2,k3,?_⟩;have hb:b≠p:=by
    intro z;subst z;exact h.ap j i d' d hj e'' e (by rw[k1,h1])
   cases d' with
   |lst ds' =>
    obtain⟨vs',h5,h6⟩:=k4;exact⟨vs',by rw[aA hb];exact h5,h6⟩
   |dic ks ds' =>
    obtain⟨vs',h5,hl,h6⟩:=k4;exact⟨vs',by rw[aA hb];exact h5,hl,h6⟩
   |_=>exact k4.elim
 .rcases key j _ e1 with⟨rfl,e1'⟩|⟨hj,e1'⟩
  .rcases key k _ e2 with⟨rfl,_⟩|⟨hk,e2'⟩
   .exact absurd rfl hn
   .exact h.ap j k d d2 hn e e2'
  .rcases key k _ e2 with⟨rfl,_⟩|⟨hk,e2'⟩
   .exact h.ap j k d1 d hn e1' e
   .exact h.ap j k d1 d2 hn e1' e2'
end
mutual
def uT:D->Bool
 |.lst _=>false
 |.dic _ _=>false
 |.exc _=>false
 |.ob _ _=>false
 |.tup ds=>flats ds
 |_=>true
def flats:List D->Bool
 |[]=>true
 |d::ds=>uT d&&flats ds
end
mutual
theorem Rep.flat_to{K:W.Frag}{H H':Hp}(e:∀a vs,Rd H a (.tup vs)->Rd H' a (.tup vs)):∀{d:D}{v:V},uT d=true->Rep K H d v->Rep K H' d v
 |.non,_,_,h=>by unfold Rep at h ⊢;exact h
 |.bl _,_,_,h=>by unfold Rep at h ⊢;exact h
 |.int _,_,_,h=>by unfold Rep at h ⊢;exact h
 |.str _,_,_,h=>by unfold Rep at h ⊢;exact h
 |.tup ds,_,f,h=>by
  unfold uT at f;obtain⟨a,vs,e1,e2,e3⟩:=aP.mp h;refine aP.mpr ⟨a,vs,e1,?_,Reps.flat_to e f e3⟩;rcases e2 with e2|e2
  .exact .inl (e _ _ e2)
  .exact .inr e2
 |.lst ds,_,f,h=>by unfold uT at f;cases f
 |.dic ks ds,_,f,h=>by unfold uT at f;cases f
 |.exc x,_,f,h=>by unfold uT at f;cases f
 |.ob k ds,_,f,h=>by unfold uT at f;cases f
theorem Reps.flat_to{K:W.Frag}{H H':Hp}(e:∀a vs,Rd H a (.tup vs)->Rd H' a (.tup vs)):∀{ds:List D}{vs:List V},flats ds=true->Reps K H ds vs->Reps K H' ds vs
 |[],_,_,h=>by unfold Reps at h ⊢;exact h
 |d::ds,_,f,h=>by
  unfold flats at f;rw[Bool.and_eq_true] at f;obtain⟨v,r,e1,e2,e3⟩:=aJ.mp h;exact aJ.mpr ⟨v,r,e1,Rep.flat_to e f.1 e2,Reps.flat_to e f.2 e3⟩
end
noncomputable def gP(Ha J:Hp):Hp:=λa=>match Ha a with
 |some o=>some o
 |none=>match J a with
  |some (.tup vs)=>some (.tup vs)
  |some (.frz o (.tup vs))=>some (.frz o (.tup vs))
  |_=>none
section
variable {K:W.Frag}{E:XK}{He H0e Ha H H1 J:Hp}{σ:L2.St}{ρ:Ev}
theorem Gp(h:aC Ha J):∀a o,gP Ha J a=some o->J a=some o:=λa o e=>by
 unfold gP at e;cases q:Ha a with
 |some u=>rw[q] at e;cases e;exact h _ _ q
 |none =>
  rw[q] at e;cases q2:J a with
  |none=>rw[q2] at e;cases e
  |some u =>
   rw[q2] at e;cases u with
   |tup vs=>cases e;rfl
   |frz o u' =>
    cases u' with|tup vs=>cases e;rfl| _=>cases e
   |_=>cases e
theorem Gn(h:aC Ha J)(a:Addr)(vs:List V)(e:Rd J a (.tup vs)):Rd (gP Ha J) a (.tup vs):=by
 rcases e with e|⟨o,e⟩
 .refine .inl ?_
  unfold gP;cases q:Ha a with|some u=>have:=h _ _ q;rw[e] at this;cases this;rfl|none=>rw[e]
 .refine .inr ⟨o,?_⟩
  unfold gP;cases q:Ha a with|some u=>have:=h _ _ q;rw[e] at this;cases this;rfl|none=>rw[e]
theorem dH.behind(h:dH K He H0e Ha σ H ρ)(g:bf H (frz He Ha H) H1 J):dH K He H0e (gP Ha J) σ H1 ρ:=by
 have hJ:aC Ha J:=h.frz_sub.trans g.z;have le:=Gp (Ha:=Ha) (J:=J) hJ;have z:aC Ha (gP Ha J):=λb o e=>by unfold gP;rw[e]
 refine⟨⟨h.g.s.trans g.s,h.g.z.trans z,λb o e=>g.sub _ _ (le b o e),λa h1 h2=>?_⟩,h.rd.mono z,λi d e=>?_,h.ap,h.ln,h.ex.upd (λj s e=>.inl ⟨e,rfl⟩) z (λa vs _ e=>g.s _ _ e) λp us hp h0 hl _=>⟨g.s _ _ hl,by
  have:frz He Ha H p=some (.lst us):=by unfold frz;rw[hp];exact hl
  have:=g.z _ _ this;unfold gP;rw[h0,this]⟩⟩
 .cases q:gP Ha J a with
  |none=>exact absurd q h1
  |some o =>
   have hj:=le a o q;exact(h.frz_grow.trans g).nw a (by rw[hj];simp) h2
 .obtain⟨a,k1,k2,k3,k4⟩:=h.ow i d e
  refine⟨a,k1,k2,?_,?_⟩
  .cases d with
   |lst ds =>
    obtain⟨vs,h5,_⟩:=k4;have:frz He Ha H a=some (.lst vs):=by unfold frz;rw[k2];exact h5
    have:=g.z _ _ this;unfold gP;rw[k3,this]
   |dic ks ds =>
    obtain⟨vs,h5,_⟩:=k4;have:frz He Ha H a=some (.dK ((ks.map Sum.inr).zip vs)):=by unfold frz;rw[k2];exact h5
    have:=g.z _ _ this;unfold gP;rw[k3,this]
   |_=>exact k4.elim
  .cases d with
   |lst ds=>obtain⟨vs,h5,h6⟩:=k4;exact⟨vs,g.s _ _ h5,h6.mono z⟩
   |dic ks ds=>obtain⟨vs,h5,hl,h6⟩:=k4;exact⟨vs,g.s _ _ h5,hl,h6.mono z⟩
   |_=>exact k4.elim
end
section
variable {X:Cx}{E:XK}{He H0e:Hp}{st:Stmt}{rest:List Stmt}{e a b:Expr}{es:List Expr}{f g:Ev->aj D}{fa:Ev->aj (List D)}{s t:Ev->aj Fl}{pos:Pos}
theorem bH{t t':TS}(h:PS X st t)(w:∀D σ H,t' D σ H->t D σ H):PS X st t':=λpins s σ H D I q=>h pins s σ H D I (w D σ H q)
theorem fJ{t t':TS}(h:vm X rest t)(w:∀D σ H,t' D σ H->t D σ H):vm X rest t':=λpins s σ H D I q=>h pins s σ H D I (w D σ H q)
noncomputable def ar:Ev->aj Fl:=λρ=>.ok (.nx ρ)
noncomputable def aw(s t:Ev->aj Fl):Ev->aj Fl:=λρ=>(s ρ).bind λr=>match r with
 |.nx ρ'=>t ρ'
 |r=>.ok r
theorem ao:BU X E He H0e [] ar:=⟨fJ uy λD σ H ⟨Ha,ρ,h,q⟩=>q σ H Ha (aC.refl _) h⟩
theorem ag(h1:DS X E He H0e st s)(h2:BU X E He H0e rest t):BU X E He H0e (st::rest) (aw s t):=by
 refine⟨?_⟩;refine fJ (iN h1.o h2.o) λD σ H ⟨Ha,ρ,h,q⟩=>⟨Ha,ρ,h,?_⟩
 unfold aw at q;cases e1:s ρ with
 |stuck|exn x=>rw[e1] at q;exact q
 |ok r =>
  rw[e1] at q;cases r with|nx ρ'=>exact λσ' H' Ha' s' h'=>⟨Ha',ρ',h',bW.grow (r:=t ρ') q s'⟩|rt d|bk ρ'|ct ρ'=>exact q
noncomputable def c7:Ev->aj Fl:=λ_=>.stuck
theorem c6:DS X E He H0e st c7:=⟨bH CK λD σ H ⟨Ha,ρ,h,q⟩=>q⟩
theorem plain{K:W.Frag}{Ha H:Hp}{σ:L2.St}{ρ:Ev}{k:D->aj Fl}{D':e7}(h:dH K He H0e Ha σ H ρ){r:aj D}{Q:VK}
  (q:bW K E He H0e Ha (r.bind k) D')(hk:∀d v H' Ha',r=.ok d->bf H Ha H' Ha'->Rep K Ha' d v->bW K E He H0e Ha' (k d) D'->Q v H'):post K E H Ha r Q:=by
 cases r with|stuck=>exact q|exn x=>exact λC ox H' Ha' g ex=>q C ox H' Ha' (h.g.trans g) ex|ok d=>exact λv H' Ha' g rp=>hk d v H' Ha' rfl g rp (bW.grow (r:=k d) q g.z)
theorem look{K:W.Frag}{Ha H:Hp}{σ:L2.St}{ρ:Ev}{k:D->aj Fl}{D':e7}(h:dH K He H0e Ha σ H ρ){r:aj D}{Q:VK}
  (q:bW K E He H0e Ha (r.bind k) D')(hk:∀d v H' J,r=.ok d->bf H (frz He Ha H) H' J->Rep K J d v->bW K E He H0e Ha (k d) D'->Q v H'):post K E H (frz He Ha H) r Q:=by
 cases r with|stuck=>exact q|exn x=>exact λC ox H' Ha' g ex=>q C ox H' Ha' (h.frz_grow.trans g) ex|ok d=>exact λv H' J g rp=>hk d v H' J rfl g rp q
theorem GS{K:W.Frag}{Ha H:Hp}{σ:L2.St}{ρ:Ev}{k:Bool->aj Fl}{D':e7}(h:dH K He H0e Ha σ H ρ){r:aj D}{Q:Bool->Hp->Prop}
  (q:bW K E He H0e Ha (r.bind λx=>match x with|.bl b=>k b|_=>.stuck) D')(hk:∀b H',aC H H'->bW K E He H0e Ha (k b) D'->Q b H'):pz K E H (frz He Ha H) r Q:=by
 cases r with
 |stuck=>exact q|exn x=>exact λC ox H' Ha' g ex=>q C ox H' Ha' (h.frz_grow.trans g) ex
 |ok d =>
  cases d with|bl b=>exact λH' J g=>hk b H' g.s q| _=>exact q.elim
noncomputable def bG(i:Nat) (f:Ev->aj D):Ev->aj Fl:=λρ=>(f ρ).bind λd=>.ok (.nx (ρ.set i (.sh d)))
noncomputable def bP(f:Ev->aj D):Ev->aj Fl:=λρ=>(f (fX ρ)).bind λd=>.ok (.rt d)
noncomputable def kQ(f:Ev->aj D):Ev->aj Fl:=λρ=>(f (fX ρ)).bind λ_=>.ok (.nx ρ)
noncomputable def dW(c:Ev->aj D) (s t:Ev->aj Fl):Ev->aj Fl:=λρ=>(c (fX ρ)).bind λx=>match x with
 |.bl b=>if b=true then s ρ else t ρ
 |_=>.stuck
theorem br{i:Nat}{x:Str}{pos':Pos}(hN:X.N.Nodup)(hi:X.N[i]?=some x)(hx:BR X.env.scope x)(he:DE X E e f)(hs:swapsWith e (some (.Name x pos')) pos.line X.env=pure false:=by rfl)
  (hf:X.fn x=true∨X.env.scope.names.lookup x=some .local := by first|exact .inl rfl|exact .inr rfl|assumption):DS X E He H0e (.Assign [.Name x pos'] e pos) (bG i f):=by
 refine⟨?_⟩;refine bH (mY hN hi hx he.o hs hf) λD σ H ⟨Ha,ρ,h,q⟩=>⟨Ha,ρ,h.g.sub,h.rd,?_⟩
 refine plain h q λd v H' Ha' _ g rp q'=>?_;exact q' _ H' Ha' (aC.refl _) ((h.grow g).put rp)
theorem aV(he:DE X E e f):DS X E He H0e (.Return (some e) pos) (bP f):=by
 refine⟨?_⟩;refine bH (uz he.o) λD σ H ⟨Ha,ρ,h,q⟩=>⟨frz He Ha H,fX ρ,h.frz_le,h.looks,?_⟩
 exact look h q λd v H' J _ g rp q'=>q' v H' J (h.frz_grow.trans g) rp
theorem mw(he:DE X E e f)(hs:swapsWith e none pos.line X.env=pure false:=by rfl):DS X E He H0e (.Expr e pos) (kQ f):=by
 refine⟨?_⟩;refine bH (uB he.o hs) λD σ H ⟨Ha,ρ,h,q⟩=>⟨frz He Ha H,fX ρ,h.frz_le,h.looks,?_⟩
 exact look h q λd v H' J _ g rp q'=>q' σ H' Ha (aC.refl _) (h.same g.s)
theorem bR{c:Expr}{fc:Ev->aj D}{sa sb:List Stmt}(hc:DT X E c fc)(ha:BU X E He H0e sa s)(hb:BU X E He H0e sb t):DS X E He H0e (.If c sa sb pos) (dW fc s t):=by
 refine⟨?_⟩;refine bH (GK hc.o ha.o hb.o) λD σ H ⟨Ha,ρ,h,q⟩=>⟨frz He Ha H,fX ρ,h.frz_le,h.looks,?_⟩
 refine GS (k:=λb=>if b=true then s ρ else t ρ) h q λb H' hs q'=>?_;cases b with|true=>rw[if_pos rfl] at q' ⊢;exact⟨Ha,ρ,h.same hs,q'⟩|false=>rw[if_neg Bool.false_ne_true] at q' ⊢;exact⟨Ha,ρ,h.same hs,q'⟩
noncomputable def tF(K:W.Frag) (E:XK) (f:Ev->aj D):TE:=λσ H Q=>∃Ha ρ,aC Ha H/\dX K Ha σ ρ/\match f ρ with
 |.ok (.lst ds)=>∀p vs H' Ha',bf H Ha H' Ha'->H p=none->Ha' p=none->H' p=some (.lst vs)->Reps K Ha' ds vs->Q (.ref p) H'
 |.ok _=>False
 |.exn x=>∀C ox H' Ha',bf H Ha H' Ha'->AM K Ha' x C ox->E C ox H'
 |.stuck=>False
structure DF (X:Cx) (E:XK) (e:Expr) (f:Ev->aj D):Prop where
 o:PE X e (tF X.K E f)
noncomputable def ke(i:Nat) (f:Ev->aj D):Ev->aj Fl:=λρ=>(f ρ).bind λd=>match d with
 |.lst ds=>.ok (.nx (ρ.set i (.ow (.lst ds))))
 |_=>.stuck
theorem i9{i:Nat}{x:Str}{pos':Pos}(hN:X.N.Nodup)(hi:X.N[i]?=some x)(hx:BR X.env.scope x)(he:DF X E e f)(hs:swapsWith e (some (.Name x pos')) pos.line X.env=pure false:=by rfl)
  (hf:X.fn x=true∨X.env.scope.names.lookup x=some .local := by first|exact .inl rfl|exact .inr rfl|assumption):DS X E He H0e (.Assign [.Name x pos'] e pos) (ke i f):=by
 refine⟨?_⟩;refine bH (mY hN hi hx he.o hs hf) λD σ H ⟨Ha,ρ,h,q⟩=>⟨Ha,ρ,h.g.sub,h.rd,?_⟩
 unfold ke at q;cases e1:f ρ with
 |stuck=>rw[e1] at q;exact q|exn x=>rw[e1] at q;exact λC ox H' Ha' g ex=>q C ox H' Ha' (h.g.trans g) ex
 |ok d =>
  rw[e1] at q;cases d with
  |lst ds =>
   intro p vs H' Ha' g hp h0 hv rp;refine q _ H' Ha' g.z ((h.grow g).putOwn (λj a ej ea d ed=>?_) (h.g.s.free hp) h0 hv rp (h.fresh_x g.s hp));subst ea;obtain⟨a',k1,_,_,k4⟩:=h.ow j d ed;rw[ej] at k1;cases k1;cases d with|lst ds'|dic ks ds'=>obtain⟨vs',h5,_⟩:=k4;rw[hp] at h5;cases h5| _=>exact k4.elim
  |_=>exact q.elim
theorem ku(h:DA X E es fa):DF X E (.List es pos) (au fa cu):=by
 refine⟨?_⟩;refine aZ (yh h.o) λσ H Q h=>?_;obtain⟨Ha,ρ,hs,hr,q⟩:=h;refine⟨Ha,ρ,hs,hr,?_⟩;unfold au at q;cases e1:fa ρ with
 |stuck|exn x=>rw[e1] at q;exact q
 |ok ds =>
  rw[e1] at q;intro vs H1 H01 g1 r1;replace q:match cu ds with
   |.ok (.lst ds)=>∀p vs H' Ha',bf H Ha H' Ha'->H p=none->Ha' p=none->H' p=some (.lst vs)->Reps X.K Ha' ds vs->Q (.ref p) H'
   |.ok _=>False
   |.exn x=>∀C ox H' Ha',bf H Ha H' Ha'->AM X.K Ha' x C ox->E C ox H'
   |.stuck=>False:=q
  unfold cu at q
  by_cases hl:ds.length<=line
  .rw[if_pos hl] at q
   refine⟨by rw[←r1.length];exact cO hl,λp hp=>?_⟩;have h0:H01 p=none:=g1.sub.free hp;refine q p vs _ H01 (g1.trans ⟨λb o q=>by rw[aA (bC q hp)];exact q,aC.refl _,λb o q=>?_,λa h1 h2=>absurd h2 h1⟩) (g1.s.free hp) h0 aI r1;rw[aA (by intro z;subst z;rw[h0] at q;cases q)];exact g1.sub _ _ q
  .rw[if_neg hl] at q;exact q.elim
noncomputable def zu(ρ:Ev) (i:Nat) (k:List D->aj Fl):aj Fl:=match ρ[i]? with
 |some (.ow (.lst ds))=>k ds
 |_=>.stuck
noncomputable def dw(i:Nat) (f:Ev->aj D):Ev->aj Fl:=λρ=>zu ρ i λds=>(f ρ).bind λd=>if ds.length<line then .ok (.nx (ρ.set i (.ow (.lst (ds++[d]))))) else .stuck
theorem vP{K:W.Frag}{Ha H:Hp}{σ:L2.St}{ρ:Ev}{i:Nat}{k:List D->aj Fl}{D':e7}(h:dH K He H0e Ha σ H ρ)(q:bW K E He H0e Ha (zu ρ i k) D') :
  ∃ds p vs,ρ[i]?=some (.ow (.lst ds))/\σ[i]?=some (some (.ref p))/\He p=none/\Ha p=none/\H p=some (.lst vs)/\Reps K Ha ds vs/\bW K E He H0e Ha (k ds) D':=by
 unfold zu at q;cases e:ρ[i]? with
 |none=>rw[e] at q;exact q.elim
 |some s =>
  rw[e] at q;cases s with
  |no|sh d|ox j ds|pt a=>exact q.elim
  |ow d =>
   cases d with
   |lst ds =>
    obtain⟨p,h1,h2,h3,vs,h4,h5⟩:=h.ow i _ e;exact⟨ds,p,vs,rfl,h1,h2,h3,h4,h5,q⟩
   |_=>exact q.elim
theorem gI{i:Nat}{x:Str}{p1 p2 p3:Pos}(hN:X.N[i]?=some x)(hv:BO X.env.scope x)(he:DE X E e f)
  (hd:(x==("__debug__":Str))=false:=by decide)(hcd:(x==("__classdict__":Str))=false:=by decide)
  (hbase:attributeBase (.Name x p1) "append" X.env (eval (.Name x p1) X.env)=eval (.Name x p1) X.env:=by rfl)
  (hfew:((backTo p3 (starEach [e] X.env)).all (λx=>!x.1)&&(backToKw p3 (keywordEach [] X.env)).all (λx=>x.1.isSome)
  &&decide ([e].length+([]:List Keyword).length+(if([]:List Keyword).isEmpty then 0 else 1)<30))=true:=by exact qc rfl)
  (hline:(p2.endLine==p3.line)=true:=by rfl) (hs:starEach [e] X.env=(false,eval e X.env)::starEach [] X.env:=by exact bK rfl) (hplain:(backTo p3 (starEach [] X.env)).any (·.1)=false:=by exact cv rfl)
  (hw:swapsWith (.Call (.Attribute (.Name x p1) "append" p2) [e] [] p3) none pos.line X.env=pure false:=by rfl) :
  DS X E He H0e (.Expr (.Call (.Attribute (.Name x p1) "append" p2) [e] [] p3) pos) (dw i f):=by
 refine⟨?_⟩;refine bH (uB (CW PySem.F.plainAttrs_list PySem.F.slot_list_append PySem.F.type_list_append nc (gX hN hv hd hcd) (d5 he.o gY hs) hbase hfew hline hs hplain) hw) λD σ H ⟨Ha,ρ,h,q⟩=>?_;obtain⟨ds,p,vs,e1,e2,e3,e4,e5,e6,q⟩:=vP h q;refine⟨.ref p,e2,.inl ⟨rfl,vs,eZ.of e5⟩,?_⟩;refine⟨Ha,ρ,h.g.sub,h.rd,plain h q λd v H' Ha' _ g rp q'=>?_⟩
 by_cases hl:ds.length<line
 .rw[if_pos hl] at q'
  have e5':H' p=some (.lst vs):=g.s _ _ e5;refine⟨p,vs,v,rfl,rfl,e5',by rw[←e6.length];exact Nat.lt_of_lt_of_le hl (by decide),?_⟩;exact q' σ _ Ha' (aC.refl _) ((h.grow g).write e1 e2 ((e6.mono g.z).app (Reps.cons rp Reps.nil)))
 .rw[if_neg hl] at q';exact q'.elim
noncomputable def putAt(ρ:Ev) (i:Nat) (ds:List D) (d:D) (j:D):aj Fl:=match j with
 |.int j=>match xJ ds.length j with
  |some n=>.ok (.nx (ρ.set i (.ow (.lst (ds.set n d)))))
  |none=>.stuck
 |_=>.stuck
noncomputable def Cp(i:Nat) (f k:Ev->aj D):Ev->aj Fl:=λρ=>zu ρ i λds=>(f ρ).bind λd=>(k ρ).bind λj=>putAt ρ i ds d j
theorem CF{K:W.Frag}{Ha H:Hp}{σ:L2.St}{ρ:Ev}{i:Nat}{D':e7}{ds:List D}{d j:D}{p:Addr}{vs:List V}{v u:V}(h:dH K He H0e Ha σ H ρ)(e1:ρ[i]?=some (.ow (.lst ds)))(e2:σ[i]?=some (some (.ref p)))(e5:H p=some (.lst vs))(e6:Reps K Ha ds vs)
  (rp:Rep K Ha d v)(rj:Rep K Ha j u)(q:bW K E He H0e Ha (putAt ρ i ds d j) D'):GH (.ref p) u v H λH'=>D'.nx σ H':=by
 unfold putAt at q;cases j with
 |int n =>
  cases en:xJ ds.length n with
  |none=>simp only[en] at q;exact q.elim
  |some m =>
   simp only[en] at q;refine⟨p,vs,n,m,rfl,az.mp rj,e5,by rw[←e6.length];exact en,?_⟩;exact q σ _ Ha (aC.refl _) (h.write e1 e2 (e6.set rp m))
 |_=>exact q.elim
section
variable {i:Nat}{x:Str}{p1 p2:Pos}{k:Ev->aj D}
theorem IQ(hN:X.N[i]?=some x)(hv:BO X.env.scope x)(he:DE X E e f)(hk:DE X E b k)
  (hd:(x==("__debug__":Str))=false:=by decide)(hcd:(x==("__classdict__":Str))=false:=by decide)
  (ha:∀v,assign (.Subscript (.Name x p1) b p2) X.env v=(do
   let ov ←holding [v] (eval (.Name x p1) X.env)
   let iv ←holding [v,ov] (eval b X.env)
   standAt p2
   holding [v,ov,iv] (setItem ov iv v)
   release [v,ov,iv] []):=by intro _;rfl)
  (hs:swapsWithSole [.Subscript (.Name x p1) b p2] e pos.line X.env=pure false:=by rfl) (hw:swappedStores [.Subscript (.Name x p1) b p2] e X.env=pure none:=by rfl)
  (h1:(assignEach [.Subscript (.Name x p1) b p2] X.env).map (·.2)=[assign (.Subscript (.Name x p1) b p2) X.env]:=by rfl) :
  DS X E He H0e (.Assign [.Subscript (.Name x p1) b p2] e pos) (Cp i f k):=by
 refine⟨?_⟩;refine bH (yd he.o (CP (gX hN hv hd hcd) hk.o vC ha) hs hw h1) λD σ H ⟨Ha,ρ,h,q⟩=>⟨Ha,ρ,h.g.sub,h.rd,?_⟩
 obtain⟨ds,p,vs,e1,e2,e3,e4,e5,e6,q⟩:=vP h q;refine plain (k:=λd=>(k ρ).bind λj=>putAt ρ i ds d j) h q λd v H1 H01 _ g1 r1 q1=>⟨.ref p,e2,?_⟩
 have h1':=h.grow g1;refine⟨H01,ρ,h1'.g.sub,h1'.rd,plain (k:=λj=>putAt ρ i ds d j) h1' q1 λj u H2 H02 _ g2 r2 q2=>?_⟩;exact CF (h1'.grow g2) e1 e2 (g2.s _ _ (g1.s _ _ e5)) ((e6.mono g1.z).mono g2.z) (r1.mono g2.z) r2 q2
end
noncomputable def bM(tg:Ev->D->aj Ev) (body:Ev->aj Fl):List D->Ev->aj Fl
 |[],ρ=>.ok (.nx ρ)
 |d::r,ρ=>(tg ρ d).bind λρ1=>(body ρ1).bind λx=>match x with
  |.nx ρ2=>bM tg body r ρ2
  |.ct ρ2=>bM tg body r ρ2
  |.bk ρ2=>.ok (.nx ρ2)
  |.rt d=>.ok (.rt d)
noncomputable def tG(K:W.Frag) (He H0e:Hp) (tg:Ev->D->aj Ev):TG:=λv σ H Q=>∃Ha ρ d,dH K He H0e Ha σ H ρ/\Rep K Ha d v/\match tg ρ d with
  |.ok ρ'=>∀σ' H' Ha',aC Ha Ha'->dH K He H0e Ha' σ' H' ρ'->Q σ' H'
  |_=>False
structure DG (X:Cx) (E:XK) (He H0e:Hp) (target:Expr) (tg:Ev->D->aj Ev):Prop where
 o:PG X target (tG X.K He H0e tg)
noncomputable def bw(i:Nat):Ev->D->aj Ev:=λρ d=>.ok (ρ.set i (.sh d))
theorem uD{tgt:Expr}{t t':TG}(h:PG X tgt t)(w:∀v σ H Q,t' v σ H Q->t v σ H Q):PG X tgt t':=λpins s σ H v u Q I r q=>h pins s σ H v u Q I r (w v σ H Q q)
theorem bO{i:Nat}{x:Str}(hN:X.N.Nodup)(hi:X.N[i]?=some x)(hx:BR X.env.scope x)(hf:X.fn x=true∨X.env.scope.names.lookup x=some .local := by first|exact .inl rfl|exact .inr rfl|assumption):DG X E He H0e (.Name x pos) (bw i) :=
 ⟨uD (zp hN hi hx hf) λv σ H Q ⟨Ha,ρ,d,h,rp,q⟩=>q _ H Ha (aC.refl _) (h.put rp)⟩
noncomputable def fj(K:W.Frag) (E:XK) (He H0e Hb:Hp) (tg:Ev->D->aj Ev) (s:Ev->aj Fl) (ds:List D) (D':e7) (i:Nat) (σ:L2.St) (H:Hp):Prop :=
 ∃Ha ρ,aC Hb Ha/\dH K He H0e Ha σ H ρ/\bW K E He H0e Ha (bM tg s (ds.drop i) ρ) D'
theorem fj.step{K:W.Frag}{Hb:Hp}{tg:Ev->D->aj Ev}{ds:List D}{D':e7}{i:Nat}{σ:L2.St}{H:Hp}{d:D}{v:V}(h:fj K E He H0e Hb tg s ds D' i σ H)(hd:ds[i]?=some d)(rv:Rep K Hb d v)
  (he:∀ρ,tg ρ d=.stuck∨∃ρ',tg ρ d=.ok ρ') :
  tG K He H0e tg v σ H λσ2 H2=>tS K E He H0e s { D' with nx:=fj K E He H0e Hb tg s ds D' (i+1),ct:=fj K E He H0e Hb tg s ds D' (i+1),bk:=D'.nx } σ2 H2:=by
 obtain⟨Ha,ρ,z,h,q⟩:=h;have hi:i<ds.length:=(List.getElem?_eq_some_iff.mp hd).1;have hdr:ds.drop i=d::ds.drop (i+1):=by
  rw[List.drop_eq_getElem_cons hi];rw[List.getElem?_eq_getElem hi] at hd;cases hd;rfl
 rw[hdr] at q;refine⟨Ha,ρ,d,h,rv.mono z,?_⟩;unfold bM at q;rcases he ρ with e1|⟨ρ1,e1⟩
 .rw[e1] at q;exact q.elim
 .rw[e1] at q ⊢
  intro σ' H' Ha' z' h';refine⟨Ha',ρ1,h',?_⟩;replace q:=bW.grow (r:=(s ρ1).bind λx=>match x with
   |.nx ρ2=>bM tg s (ds.drop (i+1)) ρ2
   |.ct ρ2=>bM tg s (ds.drop (i+1)) ρ2
   |.bk ρ2=>.ok (.nx ρ2)
   |.rt d=>.ok (.rt d)) q z'
  cases e2:s ρ1 with
  |stuck|exn x=>rw[e2] at q;exact q
  |ok r =>
   rw[e2] at q;cases r with|nx ρ2=>exact λσ3 H3 H03 z3 h3=>⟨H03,ρ2,(z.trans z').trans z3,h3,bW.grow (r:=bM tg s (ds.drop (i+1)) ρ2) q z3⟩|ct ρ2=>exact λσ3 H3 H03 z3 h3=>⟨H03,ρ2,(z.trans z').trans z3,h3,bW.grow (r:=bM tg s (ds.drop (i+1)) ρ2) q z3⟩|bk ρ2|rt d=>exact q
theorem fj.done{K:W.Frag}{Hb:Hp}{tg:Ev->D->aj Ev}{ds:List D}{D':e7}{σ:L2.St}{H:Hp}(h:fj K E He H0e Hb tg s ds D' ds.length σ H):D'.nx σ H:=by
 obtain⟨Ha,ρ,z,h,q⟩:=h;rw[List.drop_length] at q;unfold bM at q;exact q σ H Ha (aC.refl _) h
noncomputable def uc(tg:Ev->D->aj Ev):Prop:=∀ρ d,tg ρ d=.stuck∨∃ρ',tg ρ d=.ok ρ'
theorem bX{i:Nat}:uc (bw i):=λρ d=>.inr ⟨_,rfl⟩
noncomputable def n9(f:Ev->aj D) (tg:Ev->D->aj Ev) (s:Ev->aj Fl):Ev->aj Fl:=λρ=>(f ρ).bind λd=>match d with
 |.lst ds=>bM tg s ds ρ
 |_=>.stuck
theorem kq{tgt iter:Expr}{body:List Stmt}{tg:Ev->D->aj Ev}(hp:PassesOwn (model X.prog X.w) X.A X.env X.xe)(hc:X.calm=true)(hi:DE X E iter f)(hg:DG X E He H0e tgt tg)(ht:uc tg)(hb:BU X E He H0e body s)
  (hs:∀x,foldedSetIterable iter X.env x=pure x:=by intro _;rfl):DS X E He H0e (.For tgt iter body [] pos) (n9 f tg s):=by
 refine⟨?_⟩;refine bH (uA hp hc (zo hi.o) hg.o hb.o hs) λD' σ H ⟨Ha,ρ,h,q⟩=>⟨Ha,ρ,h.g.sub,h.rd,?_⟩
 refine plain h q λd v H1 H01 _ g rp q1=>?_;cases d with
 |lst ds =>
  obtain⟨a,vs,rfl,hv,hr⟩:=aG.mp rp;refine⟨a,rfl,⟨vs,aC.sqL g.sub hv⟩,?_⟩;refine Dy (K:=X.K) (a:=a) (g:=tG X.K He H0e tg) (tb:=tS X.K E He H0e s) (D:=D') (xs:=vs) (fj X.K E He H0e H01 tg s ds D') ⟨H01,ρ,aC.refl _,h.grow g,q1⟩ ?_ ?_ ?_
  .rintro i σ' H' _ ⟨Ha',ρ',z,h',_⟩
   exact aC.sqL (z.trans h'.g.sub) hv
  .intro i x σ' H' hx hI
   have hil:i<ds.length:=by rw[hr.length];exact(List.getElem?_eq_some_iff.mp hx).1
   obtain⟨u,e1,e2⟩:=hr.get (List.getElem?_eq_getElem hil);rw[hx] at e1;cases e1;exact hI.step (List.getElem?_eq_getElem hil) e2 λρ=>ht ρ _
  .intro σ' H' hI
   rw[←hr.length] at hI;exact hI.done
 |_=>exact q1.elim
noncomputable def intsFrom(lo:Int) (n:Nat):List D:=(List.range n).map λ(k:Nat)=>D.int (lo+(k:Int))
noncomputable def kP(f:Ev->aj D) (tg:Ev->D->aj Ev) (s:Ev->aj Fl):Ev->aj Fl:=λρ=>(f (fX ρ)).bind λd=>match d with
 |.int j=>if -4611686018427387904<=j/\j<4611686018427387904 then bM tg s (intsFrom 0 j.toNat) ρ else .stuck
 |_=>.stuck
theorem mv{tgt iter:Expr}{p pos2:Pos}{body:List Stmt}{tg:Ev->D->aj Ev}(hp:PassesOwn (model X.prog X.w) X.A X.env X.xe)(hc:X.calm=true)(hgl:Gl X "range")(hm:X.mg "range"=none)(hi:DE X E iter f)(hg:DG X E He H0e tgt tg)(ht:uc tg)(hb:BU X E He H0e body s)
  (hst:starEach [iter] X.env=[(false,eval iter X.env)]:=by exact fG rfl)(hs:∀x,foldedSetIterable (.Call (.Name "range" p) [iter] [] pos2) X.env x=pure x:=by intro _;rfl):DS X E He H0e (.For tgt (.Call (.Name "range" p) [iter] [] pos2) body [] pos) (kP f tg s):=by
 refine⟨?_⟩;refine bH (uA hp hc (mZ hgl hm (d5 hi.o gY hst) hst) hg.o hb.o hs) λD' σ H ⟨Ha,ρ,h,q⟩=>?_;refine⟨frz He Ha H,fX ρ,h.frz_le,h.looks,look h q λd v H1 J _ g rp q1=>?_⟩;cases d with
 |int j =>
  rw[az.mp rp];replace q1:bW X.K E He H0e Ha (if -4611686018427387904<=j/\j<4611686018427387904 then bM tg s (intsFrom 0 j.toNat) ρ else .stuck) D':=q1
  by_cases hj:-4611686018427387904<=j/\j<4611686018427387904
  .rw[if_pos hj] at q1
   refine⟨j,rfl,by omega,by omega,?_⟩;have hlen:(intsFrom 0 j.toNat).length=j.toNat:=by unfold intsFrom;simp
   refine Bu (lo:=0) (n:=j.toNat) (g:=tG X.K He H0e tg) (tb:=tS X.K E He H0e s) (D:=D') (fj X.K E He H0e Ha tg s (intsFrom 0 j.toNat) D') ⟨Ha,ρ,aC.refl _,h.same g.s,q1⟩ ?_ ?_
   .intro i σ' H' hlt hI
    refine hI.step (d:=.int (0+i)) ?_ (az.mpr rfl) λρ=>ht ρ _;unfold intsFrom;simp [hlt]
   .intro σ' H' hI
    exact fj.done (ds:=intsFrom 0 j.toNat) (by rw[hlen];exact hI)
  .rw[if_neg hj] at q1;exact q1.elim
 |_=>exact q1.elim
noncomputable def b7(c:Ev->aj D) (s:Ev->aj Fl):Nat->Ev->aj Fl
 |0,_=>.stuck
 |n+1,ρ=>(c (fX ρ)).bind λx=>match x with
  |.bl b=>if b=true then(s ρ).bind λx=>match x with
    |.nx ρ2=>b7 c s n ρ2
    |.ct ρ2=>b7 c s n ρ2
    |.bk ρ2=>.ok (.nx ρ2)
    |.rt d=>.ok (.rt d)
   else .ok (.nx ρ)
  |_=>.stuck
noncomputable def fI(fuel:Ev->Nat) (c:Ev->aj D) (s:Ev->aj Fl):Ev->aj Fl:=λρ=>b7 c s (fuel ρ) ρ
theorem mq(fuel:Ev->Nat){c:Expr}{body:List Stmt}{fc:Ev->aj D}(hp:PassesOwn (model X.prog X.w) X.A X.env X.xe)(hc:DT X E c fc)(hb:BU X E He H0e body s):DS X E He H0e (.While c body [] pos) (fI fuel fc s):=by
 refine⟨?_⟩;refine bH (CJ hp hc.o hb.o) λD' σ H ⟨Ha,ρ,h,q⟩=>?_;refine⟨λm σ H=>∃Ha ρ,dH X.K He H0e Ha σ H ρ/\bW X.K E He H0e Ha (b7 fc s m ρ) D',⟨fuel ρ,Ha,ρ,h,q⟩,?_⟩;rintro m σ1 H1 ⟨H01,ρ1,h1,q1⟩;cases m with
 |zero=>exact q1.elim
 |succ m =>
  refine⟨frz He H01 H1,fX ρ1,h1.frz_le,h1.looks,?_⟩;unfold b7 at q1;refine GS (k:=λb=>if b=true then(s ρ1).bind λx=>match x with
    |.nx ρ2=>b7 fc s m ρ2
    |.ct ρ2=>b7 fc s m ρ2
    |.bk ρ2=>.ok (.nx ρ2)
    |.rt d=>.ok (.rt d)
   else .ok (.nx ρ1)) h1 q1 λb H2 hs q2=>?_
  cases b with
  |false =>
   rw[if_neg Bool.false_ne_true] at q2 ⊢;exact q2 σ1 H2 H01 (aC.refl _) (h1.same hs)
  |true =>
   rw[if_pos rfl] at q2 ⊢;refine⟨λσ' H'=>∃m',m' < m+1/\∃Ha ρ,dH X.K He H0e Ha σ' H' ρ/\bW X.K E He H0e Ha (b7 fc s m' ρ) D',λσ' H' z=>z,H01,ρ1,h1.same hs,?_⟩;cases e2:s ρ1 with
   |stuck|exn x=>rw[e2] at q2;exact q2
   |ok r =>
    rw[e2] at q2;cases r with|nx ρ2=>exact λσ3 H3 H03 z3 h3=>⟨m,Nat.lt_succ_self _,H03,ρ2,h3,bW.grow (r:=b7 fc s m ρ2) q2 z3⟩|ct ρ2=>exact λσ3 H3 H03 z3 h3=>⟨m,Nat.lt_succ_self _,H03,ρ2,h3,bW.grow (r:=b7 fc s m ρ2) q2 z3⟩|bk ρ2|rt d=>exact q2
end
noncomputable def cp(n:Nat) (s:Ev->aj Fl) (ds:List D):aj D:=(s (ds.map Sl.sh++List.replicate (n-ds.length) .no)).bind λr=>match r with
 |.nx _=>.ok .non
 |.rt d=>.ok d
 |_=>.stuck
theorem nD{K:W.Frag}{Ha:Hp}{N:List Str}{ds:List D}{vs:List V}(h:Reps K Ha ds vs):dX K Ha (start N vs) (ds.map Sl.sh++List.replicate (N.length-ds.length) .no):=by
 intro i d e;have hl:=h.length
 by_cases hi:i<ds.length
 .rw[List.getElem?_append_left (by simpa using hi),List.getElem?_map] at e
  cases q:ds[i]? with
  |none=>rw[q] at e;cases e
  |some d' =>
   rw[q] at e;cases e;obtain⟨v,h1,h2⟩:=h.get q;refine⟨v,?_,h2⟩;unfold L2.start;rw[List.getElem?_append_left (by simp;omega),List.getElem?_map,h1];rfl
 .rw[List.getElem?_append_right (by simpa using hi),List.getElem?_replicate] at e
  split at e<;>cases e
theorem sN{ds:List D}{n:Nat}(i j:Nat)(es:List D):(ds.map Sl.sh++List.replicate n Sl.no)[i]?≠some (.ox j es):=λe=>by
 have:=List.mem_of_getElem? e;rw[List.mem_append] at this;rcases this with h|h
 .obtain⟨_,_,h⟩:=List.mem_map.mp h;cases h
 .have:=List.eq_of_mem_replicate h;cases this
theorem o7{ds:List D}{n:Nat}{σ:L2.St}(i:Nat)(a:Addr)(e:(ds.map Sl.sh++List.replicate n Sl.no)[i]?=some (.pt a)):σ[i]?=some (some (.ref a)):=by
 have:=List.mem_of_getElem? e;rw[List.mem_append] at this;rcases this with h|h
 .obtain⟨_,_,h⟩:=List.mem_map.mp h;cases h
 .have:=List.eq_of_mem_replicate h;cases this
theorem Bv{P:Program}{w:World}{K:W.Frag}{mg:Str->Option Value}{base:Heap}{x qual:Str}{st:Stmt}{f:Addr}{fd:FuncData}{N ps:List Str}{k:Nat}{s:Ev->aj Fl}(F:Gy K x qual st f fd)(S:gs N ps (defScope st))
  (hbody:∀(cdv:Value) (A:Around) (outer:List PySem.Env) (s0:Shared) (H Ha:Hp) (E:XK),du k (A.deeper (envOfC qual (defScope st) s0.heap.objs.size f cdv)) ->
   BU (oj CX0 P w K mg base N qual (defScope st) f cdv A outer s0 H E).nox E H Ha (defBody st) s):iz P w K mg base CX0 (k+1) f fd ps (spD K ps.length (cp N.length s)):=by
 have hpl:ps.length<=N.length:=by have:=congrArg List.length S.pre;rw[List.length_take] at this;omega
 refine F.ok S (λvs H Q E h=>h.1) λcdv A outer s0 H vs Q E hr h=>?_;obtain⟨hn,Ha,ds,hs,hv,q⟩:=h;refine⟨_,(hbody cdv A outer s0 H Ha E hr).o,Ha,ds.map Sl.sh++List.replicate (N.length-ds.length) .no,?_,?_⟩
 .refine⟨bf.refl hs,nD hv,λi d e=>?_,λi j d d' hij e=>?_,?_,OX.none sN o7⟩
  .by_cases hi:i<ds.length
   .rw[List.getElem?_append_left (by simpa using hi),List.getElem?_map] at e
    cases q:ds[i]? with|none|some d'=>rw[q] at e;cases e
   .rw[List.getElem?_append_right (by simpa using hi),List.getElem?_replicate] at e
    split at e<;>cases e
  .by_cases hi:i<ds.length
   .rw[List.getElem?_append_left (by simpa using hi),List.getElem?_map] at e
    cases q:ds[i]? with|none|some d'=>rw[q] at e;cases e
   .rw[List.getElem?_append_right (by simpa using hi),List.getElem?_replicate] at e
    split at e<;>cases e
  .unfold L2.start
   have:=hv.length;simp only[List.length_append,List.length_map,List.length_replicate];omega
 .unfold cp at q
  cases e1:s (ds.map Sl.sh++List.replicate (N.length-ds.length) .no) with
  |stuck|exn x=>rw[e1] at q;exact q
  |ok r =>
   rw[e1] at q;cases r with|nx ρ'=>exact λσ' H' Ha' _ h'=>q .non H' Ha' h'.g (aT.mpr rfl)|rt d=>exact λv H' Ha' g rp=>q v H' Ha' g rp|bk ρ'|ct ρ'=>exact q.elim
mutual
def cC:D->D->Bool
 |.non,.non=>true
 |.bl a,.bl b=>a==b
 |.bl a,.int b=>(if a then 1 else 0)==b
 |.int a,.bl b=>a==(if b then 1 else 0)
 |.int a,.int b=>a==b
 |.str a,.str b=>a==b
 |.tup xs,.tup ys=>eqDs xs ys
 |.lst xs,.lst ys=>eqDs xs ys
 |_,_=>false
def eqDs:List D->List D->Bool
 |[],[]=>true
 |x::xs,y::ys=>cC x y&&eqDs xs ys
 |_,_=>false
end
noncomputable def bo:Nat->D->Bool
 |_,.non=>true
 |_,.bl _=>true
 |_,.int _=>true
 |_,.str _=>true
 |n+1,.tup ds=>ds.all (bo n)
 |n+1,.lst ds=>ds.all (bo n)
 |_,_=>false
theorem tH{ds:List D}(h:∀d∈ds,cC d d=true):eqDs ds ds=true:=by
 induction ds with
 |nil=>simp [eqDs]
 |cons d r ih =>
  unfold eqDs;rw[h d List.mem_cons_self,ih λx hx=>h x (List.mem_cons_of_mem _ hx)];rfl
theorem mj:∀(n:Nat) (d:D),bo n d=true->cC d d=true
 |_,.non,_=>by simp [cC]
 |_,.bl b,_=>by simp [cC]
 |_,.int b,_=>by simp [cC]
 |_,.str b,_=>by simp [cC]
 |n+1,.tup ds,h=>by
  unfold bo at h;unfold cC;exact tH λd hd=>mj n d (List.all_eq_true.mp h d hd)
 |n+1,.lst ds,h=>by
  unfold bo at h;unfold cC;exact tH λd hd=>mj n d (List.all_eq_true.mp h d hd)
 |0,.tup ds,h=>by unfold bo at h;cases h
 |0,.lst ds,h=>by unfold bo at h;cases h
 |0,.dic ks ds,h=>by unfold bo at h;cases h
 |n+1,.dic ks ds,h=>by unfold bo at h;cases h
 |0,.exc x,h=>by unfold bo at h;cases h
 |0,.ob k x,h=>by unfold bo at h;cases h
 |n+1,.ob k x,h=>by unfold bo at h;cases h
 |n+1,.exc x,h=>by unfold bo at h;cases h
theorem FX{xs ys:List D}:cC (.tup xs) (.tup ys)=eqDs xs ys:=by rw[cC]
theorem Ad{xs ys:List D}:cC (.lst xs) (.lst ys)=eqDs xs ys:=by rw[cC]
theorem ko:∀(xs ys:List D),xs.length=ys.length->eqDs xs ys=(List.range xs.length).all λj=>cC (xs.getD j .non) (ys.getD j .non)
 |[],[],_=>by simp [eqDs]
 |x::xs,y::ys,h=>by
  have ih:=ko xs ys (by simpa using h);unfold eqDs;rw[ih,List.length_cons,List.range_succ_eq_map,List.all_cons,List.all_map];rfl
 |[],_::_,h=>by simp at h
 |_::_,[],h=>by simp at h
theorem qW:∀(xs ys:List D),xs.length≠ys.length->eqDs xs ys=false
 |[],[],h=>absurd rfl h
 |x::xs,y::ys,h=>by
  unfold eqDs;rw[qW xs ys (by simpa using h),Bool.and_false]
 |[],_::_,h=>by simp [eqDs]
 |_::_,[],h=>by simp [eqDs]
section
variable {X:Cx}{pins:List (Addr×Obj)}{σ:L2.St}{H:Hp}{s:Shared}
theorem bx(I:Inv X pins σ H s){ds:List D}{v:V}{u:Value}(r:Rep X.K H (.tup ds) v)(rv:bz v u):∃a vs its,v=.ref a/\u=.ref a/\jO X.K H a vs/\Reps X.K H ds vs/\bF vs its/\IsTup s.heap a its.toArray/\ds.length=its.length:=by
 obtain⟨a,vs,rfl,h1,h2⟩:=aP.mp r;obtain rfl:u=Value.ref a:=rv;obtain⟨its,h3,h4,_⟩:=I.tuple h1;exact⟨a,vs,its,rfl,rfl,h1,h2,h3,h4,h2.length.trans h3.length⟩
theorem bj(I:Inv X pins σ H s){ds:List D}{v:V}{u:Value}(r:Rep X.K H (.lst ds) v)(rv:bz v u):∃a vs its,v=.ref a/\u=.ref a/\eZ X.K H a vs/\Reps X.K H ds vs/\bF vs its/\s.heap.IsList a its.toArray/\ds.length=its.length:=by
 obtain⟨a,vs,rfl,h1,h2⟩:=aG.mp r;obtain rfl:u=Value.ref a:=rv;obtain⟨its,h3,h4,_⟩:=I.list h1;exact⟨a,vs,its,rfl,rfl,h1,h2,h3,h4.isList,h2.length.trans h3.length⟩
theorem pj{n:Nat}(ih:∀(d d':D) (v:V),bo n d=true->bo n d'=true->Rep X.K H d v->Rep X.K H d' v->d=d'):∀(ds ds':List D) (vs:List V),ds.all (bo n)=true->ds'.all (bo n)=true->Reps X.K H ds vs->Reps X.K H ds' vs->ds=ds'
 |[],ds',vs,_,_,h,h'=>by
  rw[Reps.nil_iff.mp h] at h';cases ds' with|nil=>rfl|cons d r=>obtain⟨_,_,e,_⟩:=aJ.mp h';cases e
 |d::ds,ds',vs,a,a',h,h'=>by
  obtain⟨v,r,rfl,h1,h2⟩:=aJ.mp h;cases ds' with
  |nil=>cases Reps.nil_iff.mp h'
  |cons d' ds' =>
   obtain⟨v',r',e,h1',h2'⟩:=aJ.mp h';cases e;rw[List.all_cons,Bool.and_eq_true] at a a';rw[ih d d' v a.1 a'.1 h1 h1',pj ih ds ds' r a.2 a'.2 h2 h2']
theorem Rep.inj(I:Inv X pins σ H s):∀(n:Nat) (d d':D) (v:V),bo n d=true->bo n d'=true->Rep X.K H d v->Rep X.K H d' v->d=d':=by
 have atom:∀(n:Nat) (d d':D) (v:V),(∀ds,d≠.tup ds)->(∀ds,d≠.lst ds)->bo n d=true->bo n d'=true->Rep X.K H d v->Rep X.K H d' v->d=d':=by
  intro n d d' v n1 n2 s1 s2 h h';have nd:∀m ks ds,bo m (.dic ks ds)=true->False:=λm ks ds h=>by cases m<;>(unfold bo at h;cases h)
  have nx:∀m x,bo m (.exc x)=true->False:=λm x h=>by cases m<;>(unfold bo at h;cases h)
  have nb:∀m k x,bo m (.ob k x)=true->False:=λm k x h=>by cases m<;>(unfold bo at h;cases h)
  cases d with
  |tup ds=>exact absurd rfl (n1 ds)|lst ds=>exact absurd rfl (n2 ds)|dic ks ds=>exact(nd _ _ _ s1).elim|exc x=>exact(nx _ _ s1).elim|ob k x=>exact(nb _ _ _ s1).elim
  |non =>
   rw[aT.mp h] at h';cases d' with|non=>rfl|bl b=>cases aK.mp h'|int b=>cases az.mp h'|str b=>cases Rep.str_iff.mp h'|tup ds=>obtain⟨_,_,e,_⟩:=aP.mp h';cases e|lst ds=>obtain⟨_,_,e,_⟩:=aG.mp h';cases e|dic ks ds=>exact(nd _ _ _ s2).elim|exc x=>exact(nx _ _ s2).elim|ob k x=>exact(nb _ _ _ s2).elim
  |bl x =>
   rw[aK.mp h] at h';cases d' with|non=>cases aT.mp h'|bl b=>cases aK.mp h';rfl|int b=>cases az.mp h'|str b=>cases Rep.str_iff.mp h'|tup ds=>obtain⟨_,_,e,_⟩:=aP.mp h';cases e|lst ds=>obtain⟨_,_,e,_⟩:=aG.mp h';cases e|dic ks ds=>exact(nd _ _ _ s2).elim|exc x=>exact(nx _ _ s2).elim|ob k x=>exact(nb _ _ _ s2).elim
  |int x =>
   rw[az.mp h] at h';cases d' with|non=>cases aT.mp h'|bl b=>cases aK.mp h'|int b=>cases az.mp h';rfl|str b=>cases Rep.str_iff.mp h'|tup ds=>obtain⟨_,_,e,_⟩:=aP.mp h';cases e|lst ds=>obtain⟨_,_,e,_⟩:=aG.mp h';cases e|dic ks ds=>exact(nd _ _ _ s2).elim|exc x=>exact(nx _ _ s2).elim|ob k x=>exact(nb _ _ _ s2).elim
  |str x =>
   rw[Rep.str_iff.mp h] at h';cases d' with|non=>cases aT.mp h'|bl b=>cases aK.mp h'|int b=>cases az.mp h'|str b=>cases Rep.str_iff.mp h';rfl|tup ds=>obtain⟨_,_,e,_⟩:=aP.mp h';cases e|lst ds=>obtain⟨_,_,e,_⟩:=aG.mp h';cases e|dic ks ds=>exact(nd _ _ _ s2).elim|exc x=>exact(nx _ _ s2).elim|ob k x=>exact(nb _ _ _ s2).elim
 intro n
 induction n with
 |zero =>
  intro d d' v s1 s2 h h';exact atom 0 d d' v (λds e=>by subst e;unfold bo at s1;cases s1) (λds e=>by subst e;unfold bo at s1;cases s1) s1 s2 h h'
 |succ n ih =>
  intro d d' v s1 s2 h h'
  by_cases t1:∃ds,d=.tup ds
  .obtain⟨ds,rfl⟩:=t1
   by_cases t2:∃ds',d'=.tup ds'
   .obtain⟨ds',rfl⟩:=t2
    obtain⟨a,vs,rfl,h1,h2⟩:=aP.mp h;obtain⟨a',vs',e,h1',h2'⟩:=aP.mp h';cases e;rw[I.tuple_inj h1' h1] at h2';unfold bo at s1 s2;rw[pj ih ds ds' vs s1 s2 h2 h2']
   .by_cases t3:∃ds',d'=.lst ds'
    .obtain⟨ds',rfl⟩:=t3
     obtain⟨a0,_,ev,_,_⟩:=aP.mp h;subst ev;obtain⟨a,vs,its,ea,_,h1,h2,h3,h4,_⟩:=bx I h rfl;cases ea;obtain⟨a',vs',its',e,_,h1',h2',h3',h4',_⟩:=bj I h' rfl;cases e;exact absurd rfl (SeqAt.ne_of_list_tuple h4' h4)
    .exact(atom (n+1) d' _ v (λds e=>t2 ⟨ds,e⟩) (λds e=>t3 ⟨ds,e⟩) s2 s1 h' h).symm
  .by_cases t1':∃ds,d=.lst ds
   .obtain⟨ds,rfl⟩:=t1'
    by_cases t2:∃ds',d'=.lst ds'
    .obtain⟨ds',rfl⟩:=t2
     obtain⟨a,vs,rfl,h1,h2⟩:=aG.mp h;obtain⟨a',vs',e,h1',h2'⟩:=aG.mp h';cases e;rw[I.list_inj h1' h1] at h2';unfold bo at s1 s2;rw[pj ih ds ds' vs s1 s2 h2 h2']
    .by_cases t3:∃ds',d'=.tup ds'
     .obtain⟨ds',rfl⟩:=t3
      obtain⟨a0,_,ev,_,_⟩:=aG.mp h;subst ev;obtain⟨a,vs,its,ea,_,h1,h2,h3,h4,_⟩:=bj I h rfl;cases ea;obtain⟨a',vs',its',e,_,h1',h2',h3',h4',_⟩:=bx I h' rfl;cases e;exact absurd rfl (SeqAt.ne_of_list_tuple h4 h4')
     .exact(atom (n+1) d' _ v (λds e=>t3 ⟨ds,e⟩) (λds e=>t2 ⟨ds,e⟩) s2 s1 h' h).symm
   .exact atom (n+1) d d' v (λds e=>t1 ⟨ds,e⟩) (λds e=>t1' ⟨ds,e⟩) s1 s2 h h'
theorem wA{n:Nat}{A:Around}{xs ys:List D}{vs us:List V}{is js:List Value}
  (ih:∀(x y:D) (v u:V) (a b:Value),bo n x=true->bo n y=true->Rep X.K H x v->Rep X.K H y u->bz v a->bz u b->SeqAt.EqAt A.in1 s a b (cC x y))
  (sx:xs.all (bo n)=true)(sy:ys.all (bo n)=true)(rx:Reps X.K H xs vs)(ry:Reps X.K H ys us)(qx:bF vs is)(qy:bF us js) :
  ∀j (h1:j<is.toArray.size) (h2:j<js.toArray.size),SeqAt.EqAt A.in1 s is.toArray[j] js.toArray[j] (cC (xs.getD j .non) (ys.getD j .non)):=by
 intro j h1 h2;have lx:=rx.length;have ly:=ry.length;have kx:=qx.length;have ky:=qy.length;have h1':j<is.length:=by simpa using h1
 have h2':j<js.length:=by simpa using h2
 have hx:j<xs.length:=by omega
 have hy:j<ys.length:=by omega
 obtain⟨v,e1,r1⟩:=rx.get (List.getElem?_eq_getElem hx);obtain⟨u,e2,r2⟩:=ry.get (List.getElem?_eq_getElem hy);obtain⟨a,e3,r3⟩:=qx.get e1;obtain⟨b,e4,r4⟩:=qy.get e2;have ea:is.toArray[j]=a:=by
  rw[List.getElem?_eq_getElem h1'] at e3;simpa using Option.some.inj e3
 have eb:js.toArray[j]=b:=by
  rw[List.getElem?_eq_getElem h2'] at e4;simpa using Option.some.inj e4
 rw[ea,eb];have gx:xs.getD j .non=xs[j]:=by simp [List.getD,List.getElem?_eq_getElem hx]
 have gy:ys.getD j .non=ys[j]:=by simp [List.getD,List.getElem?_eq_getElem hy]
 rw[gx,gy];exact ih _ _ v u a b (List.all_eq_true.mp sx _ (List.getElem_mem hx)) (List.all_eq_true.mp sy _ (List.getElem_mem hy)) r1 r2 r3 r4
theorem vH(I:Inv X pins σ H s){A:Around}(hu:A.units<cLine){x y:D}{v u:V}{a b:Value}(rx:Rep X.K H x v)(ry:Rep X.K H y u)(qx:bz v a)(qy:bz u b)
  (n1:∀ds ds',¬(x=.lst ds/\y=.lst ds'))(n2:∀ds ds',¬(x=.tup ds/\y=.tup ds'))(d1:∀ks ds,x≠.dic ks ds)(d2:∀ks ds,y≠.dic ks ds)(x1:∀c,x≠.exc c)(x2:∀c,y≠.exc c)(o1:∀k c,x≠.ob k c)(o2:∀k c,y≠.ob k c) :
  SeqAt.RcAt A s a b (cC x y)/\SeqAt.EqAt A s a b (cC x y)/\SeqAt.RcNeAt A s a b (!(cC x y)):=by
 cases x with
 |non =>
  cases y with
  |non =>
   obtain rfl:=aT.mp rx;obtain rfl:a=Value.none:=qx;obtain rfl:=aT.mp ry;obtain rfl:b=Value.none:=qy;unfold cC;exact⟨SeqAt.RcAt.none_none ,SeqAt.EqAt.same _,SeqAt.RcNeAt.none_none ⟩
  |bl y =>
   obtain rfl:=aT.mp rx;obtain rfl:a=Value.none:=qx;obtain rfl:=aK.mp ry;obtain rfl:b=Value.bool _:=qy;unfold cC;exact⟨SeqAt.RcAt.none_bool _,SeqAt.EqAt.none_bool _,SeqAt.RcNeAt.none_bool _⟩
  |int y =>
   obtain rfl:=aT.mp rx;obtain rfl:a=Value.none:=qx;obtain rfl:=az.mp ry;obtain⟨ty,rfl⟩:∃t,b=Value.int _ t:=qy;unfold cC;exact⟨SeqAt.RcAt.none_int _ _,SeqAt.EqAt.none_int _ _,SeqAt.RcNeAt.none_int _ _⟩
  |str y =>
   obtain rfl:=aT.mp rx;obtain rfl:a=Value.none:=qx;obtain rfl:=Rep.str_iff.mp ry;obtain⟨ty,rfl⟩:∃t,b=Value.str _ t:=qy;unfold cC;exact⟨SeqAt.RcAt.none_str _ _,SeqAt.EqAt.none_str _ _,SeqAt.RcNeAt.none_str _ _⟩
  |lst y =>
   obtain rfl:=aT.mp rx;obtain rfl:a=Value.none:=qx;obtain⟨ly,_,_,rfl,rfl,_,_,_,hy,_⟩:=bj I ry qy;unfold cC;exact⟨SeqAt.RcAt.none_list  hy hu,SeqAt.EqAt.none_list  hy hu,SeqAt.RcNeAt.none_list  hy hu⟩
  |tup y =>
   obtain rfl:=aT.mp rx;obtain rfl:a=Value.none:=qx;obtain⟨ly,_,_,rfl,rfl,_,_,_,hy,_⟩:=bx I ry qy;unfold cC;exact⟨SeqAt.RcAt.none_tuple  hy hu,SeqAt.EqAt.none_tuple  hy hu,SeqAt.RcNeAt.none_tuple  hy hu⟩
  |dic ks ds=>exact absurd rfl (d2 ks ds)|exc c=>exact absurd rfl (x2 c)|ob k c=>exact absurd rfl (o2 k c)
 |bl x =>
  cases y with
  |non =>
   obtain rfl:=aK.mp rx;obtain rfl:a=Value.bool _:=qx;obtain rfl:=aT.mp ry;obtain rfl:b=Value.none:=qy;unfold cC;exact⟨SeqAt.RcAt.bool_none _,SeqAt.EqAt.bool_none _,SeqAt.RcNeAt.bool_none _⟩
  |bl y =>
   obtain rfl:=aK.mp rx;obtain rfl:a=Value.bool _:=qx;obtain rfl:=aK.mp ry;obtain rfl:b=Value.bool _:=qy;unfold cC;exact⟨SeqAt.RcAt.bool_bool _ _,SeqAt.EqAt.bool_bool _ _,SeqAt.RcNeAt.bool_bool _ _⟩
  |int y =>
   obtain rfl:=aK.mp rx;obtain rfl:a=Value.bool _:=qx;obtain rfl:=az.mp ry;obtain⟨ty,rfl⟩:∃t,b=Value.int _ t:=qy;unfold cC;exact⟨SeqAt.RcAt.bool_int _ _ _,SeqAt.EqAt.bool_int _ _ _,SeqAt.RcNeAt.bool_int _ _ _⟩
  |str y =>
   obtain rfl:=aK.mp rx;obtain rfl:a=Value.bool _:=qx;obtain rfl:=Rep.str_iff.mp ry;obtain⟨ty,rfl⟩:∃t,b=Value.str _ t:=qy;unfold cC;exact⟨SeqAt.RcAt.bool_str _ _ _,SeqAt.EqAt.bool_str _ _ _,SeqAt.RcNeAt.bool_str _ _ _⟩
  |lst y =>
   obtain rfl:=aK.mp rx;obtain rfl:a=Value.bool _:=qx;obtain⟨ly,_,_,rfl,rfl,_,_,_,hy,_⟩:=bj I ry qy;unfold cC;exact⟨SeqAt.RcAt.bool_list _ hy hu,SeqAt.EqAt.bool_list _ hy hu,SeqAt.RcNeAt.bool_list _ hy hu⟩
  |tup y =>
   obtain rfl:=aK.mp rx;obtain rfl:a=Value.bool _:=qx;obtain⟨ly,_,_,rfl,rfl,_,_,_,hy,_⟩:=bx I ry qy;unfold cC;exact⟨SeqAt.RcAt.bool_tuple _ hy hu,SeqAt.EqAt.bool_tuple _ hy hu,SeqAt.RcNeAt.bool_tuple _ hy hu⟩
  |dic ks ds=>exact absurd rfl (d2 ks ds)|exc c=>exact absurd rfl (x2 c)|ob k c=>exact absurd rfl (o2 k c)
 |int x =>
  cases y with
  |non =>
   obtain rfl:=az.mp rx;obtain⟨tx,rfl⟩:∃t,a=Value.int _ t:=qx;obtain rfl:=aT.mp ry;obtain rfl:b=Value.none:=qy;unfold cC;exact⟨SeqAt.RcAt.int_none _ _,SeqAt.EqAt.int_none _ _,SeqAt.RcNeAt.int_none _ _⟩
  |bl y =>
   obtain rfl:=az.mp rx;obtain⟨tx,rfl⟩:∃t,a=Value.int _ t:=qx;obtain rfl:=aK.mp ry;obtain rfl:b=Value.bool _:=qy;unfold cC;exact⟨SeqAt.RcAt.int_bool _ _ _,SeqAt.EqAt.int_bool _ _ _,SeqAt.RcNeAt.int_bool _ _ _⟩
  |int y =>
   obtain rfl:=az.mp rx;obtain⟨tx,rfl⟩:∃t,a=Value.int _ t:=qx;obtain rfl:=az.mp ry;obtain⟨ty,rfl⟩:∃t,b=Value.int _ t:=qy;unfold cC;exact⟨SeqAt.RcAt.int_int _ _ _ _,SeqAt.EqAt.int_int _ _ _ _,SeqAt.RcNeAt.int_int _ _ _ _⟩
  |str y =>
   obtain rfl:=az.mp rx;obtain⟨tx,rfl⟩:∃t,a=Value.int _ t:=qx;obtain rfl:=Rep.str_iff.mp ry;obtain⟨ty,rfl⟩:∃t,b=Value.str _ t:=qy;unfold cC;exact⟨SeqAt.RcAt.int_str _ _ _ _,SeqAt.EqAt.int_str _ _ _ _,SeqAt.RcNeAt.int_str _ _ _ _⟩
  |lst y =>
   obtain rfl:=az.mp rx;obtain⟨tx,rfl⟩:∃t,a=Value.int _ t:=qx;obtain⟨ly,_,_,rfl,rfl,_,_,_,hy,_⟩:=bj I ry qy;unfold cC;exact⟨SeqAt.RcAt.int_list _ _ hy hu,SeqAt.EqAt.int_list _ _ hy hu,SeqAt.RcNeAt.int_list _ _ hy hu⟩
  |tup y =>
   obtain rfl:=az.mp rx;obtain⟨tx,rfl⟩:∃t,a=Value.int _ t:=qx;obtain⟨ly,_,_,rfl,rfl,_,_,_,hy,_⟩:=bx I ry qy;unfold cC;exact⟨SeqAt.RcAt.int_tuple _ _ hy hu,SeqAt.EqAt.int_tuple _ _ hy hu,SeqAt.RcNeAt.int_tuple _ _ hy hu⟩
  |dic ks ds=>exact absurd rfl (d2 ks ds)|exc c=>exact absurd rfl (x2 c)|ob k c=>exact absurd rfl (o2 k c)
 |str x =>
  cases y with
  |non =>
   obtain rfl:=Rep.str_iff.mp rx;obtain⟨tx,rfl⟩:∃t,a=Value.str _ t:=qx;obtain rfl:=aT.mp ry;obtain rfl:b=Value.none:=qy;unfold cC;exact⟨SeqAt.RcAt.str_none _ _,SeqAt.EqAt.str_none _ _,SeqAt.RcNeAt.str_none _ _⟩
  |bl y =>
   obtain rfl:=Rep.str_iff.mp rx;obtain⟨tx,rfl⟩:∃t,a=Value.str _ t:=qx;obtain rfl:=aK.mp ry;obtain rfl:b=Value.bool _:=qy;unfold cC;exact⟨SeqAt.RcAt.str_bool _ _ _,SeqAt.EqAt.str_bool _ _ _,SeqAt.RcNeAt.str_bool _ _ _⟩
  |int y =>
   obtain rfl:=Rep.str_iff.mp rx;obtain⟨tx,rfl⟩:∃t,a=Value.str _ t:=qx;obtain rfl:=az.mp ry;obtain⟨ty,rfl⟩:∃t,b=Value.int _ t:=qy;unfold cC;exact⟨SeqAt.RcAt.str_int _ _ _ _,SeqAt.EqAt.str_int _ _ _ _,SeqAt.RcNeAt.str_int _ _ _ _⟩
  |str y =>
   obtain rfl:=Rep.str_iff.mp rx;obtain⟨tx,rfl⟩:∃t,a=Value.str _ t:=qx;obtain rfl:=Rep.str_iff.mp ry;obtain⟨ty,rfl⟩:∃t,b=Value.str _ t:=qy;unfold cC;exact⟨SeqAt.RcAt.str_str _ _ _ _,SeqAt.EqAt.str_str _ _ _ _,SeqAt.RcNeAt.str_str _ _ _ _⟩
  |lst y =>
   obtain rfl:=Rep.str_iff.mp rx;obtain⟨tx,rfl⟩:∃t,a=Value.str _ t:=qx;obtain⟨ly,_,_,rfl,rfl,_,_,_,hy,_⟩:=bj I ry qy;unfold cC;exact⟨SeqAt.RcAt.str_list _ _ hy hu,SeqAt.EqAt.str_list _ _ hy hu,SeqAt.RcNeAt.str_list _ _ hy hu⟩
  |tup y =>
   obtain rfl:=Rep.str_iff.mp rx;obtain⟨tx,rfl⟩:∃t,a=Value.str _ t:=qx;obtain⟨ly,_,_,rfl,rfl,_,_,_,hy,_⟩:=bx I ry qy;unfold cC;exact⟨SeqAt.RcAt.str_tuple _ _ hy hu,SeqAt.EqAt.str_tuple _ _ hy hu,SeqAt.RcNeAt.str_tuple _ _ hy hu⟩
  |dic ks ds=>exact absurd rfl (d2 ks ds)|exc c=>exact absurd rfl (x2 c)|ob k c=>exact absurd rfl (o2 k c)
 |lst x =>
  cases y with
  |non =>
   obtain⟨lx,_,_,rfl,rfl,_,_,_,hx,_⟩:=bj I rx qx;obtain rfl:=aT.mp ry;obtain rfl:b=Value.none:=qy;unfold cC;exact⟨SeqAt.RcAt.list_none  hx hu,SeqAt.EqAt.list_none  hx hu,SeqAt.RcNeAt.list_none  hx hu⟩
  |bl y =>
   obtain⟨lx,_,_,rfl,rfl,_,_,_,hx,_⟩:=bj I rx qx;obtain rfl:=aK.mp ry;obtain rfl:b=Value.bool _:=qy;unfold cC;exact⟨SeqAt.RcAt.list_bool _ hx hu,SeqAt.EqAt.list_bool _ hx hu,SeqAt.RcNeAt.list_bool _ hx hu⟩
  |int y =>
   obtain⟨lx,_,_,rfl,rfl,_,_,_,hx,_⟩:=bj I rx qx;obtain rfl:=az.mp ry;obtain⟨ty,rfl⟩:∃t,b=Value.int _ t:=qy;unfold cC;exact⟨SeqAt.RcAt.list_int _ _ hx hu,SeqAt.EqAt.list_int _ _ hx hu,SeqAt.RcNeAt.list_int _ _ hx hu⟩
  |str y =>
   obtain⟨lx,_,_,rfl,rfl,_,_,_,hx,_⟩:=bj I rx qx;obtain rfl:=Rep.str_iff.mp ry;obtain⟨ty,rfl⟩:∃t,b=Value.str _ t:=qy;unfold cC;exact⟨SeqAt.RcAt.list_str _ _ hx hu,SeqAt.EqAt.list_str _ _ hx hu,SeqAt.RcNeAt.list_str _ _ hx hu⟩
  |lst y =>
   exact absurd ⟨rfl,rfl⟩ (n1 x y)
  |tup y =>
   obtain⟨lx,_,_,rfl,rfl,_,_,_,hx,_⟩:=bj I rx qx;obtain⟨ly,_,_,rfl,rfl,_,_,_,hy,_⟩:=bx I ry qy;unfold cC;exact⟨SeqAt.RcAt.list_tuple  hx hy hu,SeqAt.EqAt.list_tuple  hx hy hu,SeqAt.RcNeAt.list_tuple  hx hy hu⟩
  |dic ks ds=>exact absurd rfl (d2 ks ds)|exc c=>exact absurd rfl (x2 c)|ob k c=>exact absurd rfl (o2 k c)
 |tup x =>
  cases y with
  |non =>
   obtain⟨lx,_,_,rfl,rfl,_,_,_,hx,_⟩:=bx I rx qx;obtain rfl:=aT.mp ry;obtain rfl:b=Value.none:=qy;unfold cC;exact⟨SeqAt.RcAt.tuple_none  hx hu,SeqAt.EqAt.tuple_none  hx hu,SeqAt.RcNeAt.tuple_none  hx hu⟩
  |bl y =>
   obtain⟨lx,_,_,rfl,rfl,_,_,_,hx,_⟩:=bx I rx qx;obtain rfl:=aK.mp ry;obtain rfl:b=Value.bool _:=qy;unfold cC;exact⟨SeqAt.RcAt.tuple_bool _ hx hu,SeqAt.EqAt.tuple_bool _ hx hu,SeqAt.RcNeAt.tuple_bool _ hx hu⟩
  |int y =>
   obtain⟨lx,_,_,rfl,rfl,_,_,_,hx,_⟩:=bx I rx qx;obtain rfl:=az.mp ry;obtain⟨ty,rfl⟩:∃t,b=Value.int _ t:=qy;unfold cC;exact⟨SeqAt.RcAt.tuple_int _ _ hx hu,SeqAt.EqAt.tuple_int _ _ hx hu,SeqAt.RcNeAt.tuple_int _ _ hx hu⟩
  |str y =>
   obtain⟨lx,_,_,rfl,rfl,_,_,_,hx,_⟩:=bx I rx qx;obtain rfl:=Rep.str_iff.mp ry;obtain⟨ty,rfl⟩:∃t,b=Value.str _ t:=qy;unfold cC;exact⟨SeqAt.RcAt.tuple_str _ _ hx hu,SeqAt.EqAt.tuple_str _ _ hx hu,SeqAt.RcNeAt.tuple_str _ _ hx hu⟩
  |lst y =>
   obtain⟨lx,_,_,rfl,rfl,_,_,_,hx,_⟩:=bx I rx qx;obtain⟨ly,_,_,rfl,rfl,_,_,_,hy,_⟩:=bj I ry qy;unfold cC;exact⟨SeqAt.RcAt.tuple_list  hx hy hu,SeqAt.EqAt.tuple_list  hx hy hu,SeqAt.RcNeAt.tuple_list  hx hy hu⟩
  |tup y =>
   exact absurd ⟨rfl,rfl⟩ (n2 x y)
  |dic ks ds=>exact absurd rfl (d2 ks ds)|exc c=>exact absurd rfl (x2 c)|ob k c=>exact absurd rfl (o2 k c)
 |dic ks ds=>exact absurd rfl (d1 ks ds)
 |exc c=>exact absurd rfl (x1 c)
 |ob k c=>exact absurd rfl (o1 k c)
theorem HM(I:Inv X pins σ H s):∀(n:Nat) (A:Around),A.units+n<cLine->∀(x y:D) (v u:V) (a b:Value),bo n x=true->bo n y=true->Rep X.K H x v->Rep X.K H y u->bz v a->bz u b ->
  SeqAt.RcAt A s a b (cC x y)/\SeqAt.EqAt A s a b (cC x y)/\SeqAt.RcNeAt A s a b (!(cC x y)):=by
 have nd:∀m ks ds,bo m (.dic ks ds)=true->False:=λm ks ds h=>by cases m<;>(unfold bo at h;cases h)
 have nx:∀m x,bo m (.exc x)=true->False:=λm x h=>by cases m<;>(unfold bo at h;cases h)
 have nb:∀m k x,bo m (.ob k x)=true->False:=λm k x h=>by cases m<;>(unfold bo at h;cases h)
 intro n
 induction n with
 |zero =>
  intro A hu x y v u a b sx sy rx ry qa qb;refine vH I (by omega) rx ry qa qb (λds ds' z=>?_) (λds ds' z=>?_) (λks ds z=>?_) (λks ds z=>?_) (λc z=>nx _ _ (z▸sx)) (λc z=>nx _ _ (z▸sy)) (λk c z=>nb _ _ _ (z▸sx)) (λk c z=>nb _ _ _ (z▸sy))
  .rw[z.1] at sx;unfold bo at sx;cases sx
  .rw[z.1] at sx;unfold bo at sx;cases sx
  .rw[z] at sx;exact nd _ _ _ sx
  .rw[z] at sy;exact nd _ _ _ sy
 |succ n ih =>
  intro A hu x y v u a b sx sy rx ry qa qb;have ih':∀(x y:D) (v u:V) (a b:Value),bo n x=true->bo n y=true->Rep X.K H x v->Rep X.K H y u->bz v a->bz u b->SeqAt.EqAt A.in1 s a b (cC x y) :=
   λx y v u a b s1 s2 r1 r2 q1 q2=>(ih A.in1 (by show A.units+1+n<cLine;omega) x y v u a b s1 s2 r1 r2 q1 q2).2.1
  by_cases t1:∃ds ds',x=.tup ds/\y=.tup ds'
  .obtain⟨xs,ys,rfl,rfl⟩:=t1
   obtain⟨l,vs,is,rfl,rfl,h1,h2,h3,h4,h5⟩:=bx I rx qa;obtain⟨m,us,js,rfl,rfl,k1,k2,k3,k4,k5⟩:=bx I ry qb;have hsx:=sx;have hsy:=sy;unfold bo at sx sy;have each:=wA (A:=A) ih' sx sy h2 k2 h3 k3;have eall:cC (.tup xs) (.tup ys)=((List.range (min is.toArray.size js.toArray.size)).all (λj=>cC (xs.getD j .non) (ys.getD j .non))&&is.toArray.size==js.toArray.size):=by
    rw[FX];simp only[List.size_toArray,←h5,←k5]
    by_cases hl:xs.length=ys.length
    .rw[ko xs ys hl,←hl,Nat.min_self,beq_self_eq_true,Bool.and_true]
    .rw[qW xs ys hl,beq_eq_false_iff_ne.mpr hl,Bool.and_false]
   refine⟨?_,?_,?_⟩
   .rw[eall];exact SeqAt.RcAt.tuples h4 k4 (by omega) each
   .by_cases hlm:l=m
    .subst hlm
     rw[Rep.inj I (n+1) _ _ _ hsx hsy rx ry,mj (n+1) _ hsy];exact SeqAt.EqAt.same _
    .refine SeqAt.EqAt.of_refs hlm ?_
     rw[eall];exact SeqAt.RcAt.tuples h4 k4 (by omega) each
   .rw[eall];exact SeqAt.RcNeAt.tuples h4 k4 (by omega) each
  .by_cases t2:∃ds ds',x=.lst ds/\y=.lst ds'
   .obtain⟨xs,ys,rfl,rfl⟩:=t2
    obtain⟨l,vs,is,rfl,rfl,h1,h2,h3,h4,h5⟩:=bj I rx qa;obtain⟨m,us,js,rfl,rfl,k1,k2,k3,k4,k5⟩:=bj I ry qb;have hsx:=sx;have hsy:=sy;unfold bo at sx sy;have each:=wA (A:=A) ih' sx sy h2 k2 h3 k3
    by_cases hl:xs.length=ys.length
    .have hsz:is.toArray.size=js.toArray.size:=by simp only[List.size_toArray];omega
     have eall:cC (.lst xs) (.lst ys)=(List.range is.toArray.size).all (λj=>cC (xs.getD j .non) (ys.getD j .non)):=by
      rw[Ad];simp only[List.size_toArray,←h5];exact ko xs ys hl
     refine⟨?_,?_,?_⟩
     .rw[eall];exact SeqAt.RcAt.lists h4 k4 hsz (by omega) each
     .by_cases hlm:l=m
      .subst hlm
       rw[Rep.inj I (n+1) _ _ _ hsx hsy rx ry,mj (n+1) _ hsy];exact SeqAt.EqAt.same _
      .refine SeqAt.EqAt.of_refs hlm ?_
       rw[eall];exact SeqAt.RcAt.lists h4 k4 hsz (by omega) each
     .rw[eall];exact SeqAt.RcNeAt.lists h4 k4 hsz (by omega) each
    .have hsz:(is.toArray.size != js.toArray.size)=true:=by simp only[List.size_toArray,bne_iff_ne,ne_eq];omega
     have eall:cC (.lst xs) (.lst ys)=false:=by rw[Ad];exact qW xs ys hl
     rw[eall];refine⟨SeqAt.RcAt.lists_lengths h4 k4 hsz (by omega),?_,SeqAt.RcNeAt.lists_lengths h4 k4 hsz (by omega)⟩;refine SeqAt.EqAt.of_refs (λe=>?_) (SeqAt.RcAt.lists_lengths h4 k4 hsz (by omega));subst e;have:=Rep.inj I (n+1) _ _ _ hsx hsy rx ry;cases this;exact hl rfl
   .exact vH I (by omega) rx ry qa qb (λds ds' z=>t2 ⟨ds,ds',z⟩) (λds ds' z=>t1 ⟨ds,ds',z⟩) (λks ds z=>by rw[z] at sx;exact nd _ _ _ sx) (λks ds z=>by rw[z] at sy;exact nd _ _ _ sy) (λc z=>nx _ _ (z▸sx)) (λc z=>nx _ _ (z▸sy)) (λk c z=>nb _ _ _ (z▸sx)) (λk c z=>nb _ _ _ (z▸sy))
end
section
variable {X:Cx}{E:XK}
noncomputable def iD(x y:D):aj D:=if bo 40 x=true/\bo 40 y=true then .ok (.bl (cC x y)) else .stuck
noncomputable def jE(x y:D):aj D:=if bo 40 x=true/\bo 40 y=true then .ok (.bl (!(cC x y))) else .stuck
noncomputable def J7(K:W.Frag):R2:=λv u H Q=>∃x y,Rep K H x v/\Rep K H y u/\bo 40 x=true/\bo 40 y=true/\Q (.bl (cC x y)) H
noncomputable def J2(K:W.Frag):R2:=λv u H Q=>∃x y,Rep K H x v/\Rep K H y u/\bo 40 x=true/\bo 40 y=true/\Q (.bl (!(cC x y))) H
theorem c8(hu:X.A.units+64<cLine):ez X (compareOp .Eq) (J7 X.K):=by
 intro pins s σ H x y v u Q I rx ry h;obtain⟨d,d',h1,h2,s1,s2,q⟩:=h;exact(HM I 40 X.A (by omega) d d' x y v u s1 s2 h1 h2 rx ry).1 _ _ _ _ ⟨.bl _,H,I,rfl,q⟩
theorem gZ(hu:X.A.units+64<cLine):ez X (compareOp .NotEq) (J2 X.K):=by
 intro pins s σ H x y v u Q I rx ry h;obtain⟨d,d',h1,h2,s1,s2,q⟩:=h;exact(HM I 40 X.A (by omega) d d' x y v u s1 s2 h1 h2 rx ry).2.2 _ _ _ _ ⟨.bl _,H,I,rfl,q⟩
theorem eA:rZ X.K E (J7 X.K) iD:=by
 intro x y v u H Ha Q hs r1 r2 q;unfold iD at q
 by_cases c:bo 40 x=true/\bo 40 y=true
 .rw[if_pos c] at q
  exact⟨x,y,r1.mono hs,r2.mono hs,c.1,c.2,q _ H Ha (bf.refl hs) (aK.mpr rfl)⟩
 .rw[if_neg c] at q;exact q.elim
theorem kY:rZ X.K E (J2 X.K) jE:=by
 intro x y v u H Ha Q hs r1 r2 q;unfold jE at q
 by_cases c:bo 40 x=true/\bo 40 y=true
 .rw[if_pos c] at q
  exact⟨x,y,r1.mono hs,r2.mono hs,c.1,c.2,q _ H Ha (bf.refl hs) (aK.mpr rfl)⟩
 .rw[if_neg c] at q;exact q.elim
open Classical in
noncomputable def jL(K:W.Frag) (H:Hp) (ds:List D) (x:D) (u:Value):Bool :=
 if h:∃d,d∈ds/\∃v,Rep K H d v/\bz v u then cC h.choose x else false
theorem Ac{pins:List (Addr×Obj)}{σ:L2.St}{H:Hp}{s:Shared}(I:Inv X pins σ H s){ds:List D}{x d:D}{v:V}{u:Value}(sd:ds.all (bo 40)=true)(hd:d∈ds)(r:Rep X.K H d v)(q:bz v u):jL X.K H ds x u=cC d x:=by
 have h:∃d,d∈ds/\∃v,Rep X.K H d v/\bz v u:=⟨d,hd,v,r,q⟩
 unfold jL;rw[dif_pos h];obtain⟨h1,v',h2,h3⟩:=h.choose_spec;have e:v'=v:=h3.inj q;subst e;rw[Rep.inj I 40 _ _ _ (List.all_eq_true.mp sd _ h1) (List.all_eq_true.mp sd _ hd) h2 r]
noncomputable def yc(K:W.Frag) (neg:Bool):R2:=λv u H Q=>∃x ds,Rep K H x v/\(Rep K H (.lst ds) u∨Rep K H (.tup ds) u)/\bo 40 x=true/\ds.all (bo 40)=true/\Q (.bl (if neg then !(ds.any λd=>cC d x) else ds.any λd=>cC d x)) H
theorem jl{pins:List (Addr×Obj)}{σ:L2.St}{H:Hp}{s:Shared}(I:Inv X pins σ H s){x:D}{es:List D}(se:es.all (bo 40)=true):∀{ds:List D}{vs:List V}{us:List Value},(∀d∈ds,d∈es)->Reps X.K H ds vs->bF vs us->us.any (jL X.K H es x)=ds.any λd=>cC d x
 |[],_,_,_,h,q=>by
  rw[Reps.nil_iff.mp h] at q;cases q;rfl
 |d::ds,_,_,hm,h,q=>by
  obtain⟨v,r,rfl,h1,h2⟩:=aJ.mp h;cases q with
  |cons q1 q2 =>
   rw[List.any_cons,List.any_cons,Ac I se (hm d List.mem_cons_self) h1 q1,jl I se (λx hx=>hm x (List.mem_cons_of_mem _ hx)) h2 q2]
theorem gH{pins:List (Addr×Obj)}{σ:L2.St}{H:Hp}{s:Shared}(I:Inv X pins σ H s)(hu:X.A.units+64<cLine){x:D}{v:V}{u:Value}(sx:bo 40 x=true)(rx:Rep X.K H x v)(qx:bz v u){es:List D}(se:es.all (bo 40)=true):∀{ds:List D}{vs:List V}{us:List Value},(∀d∈ds,d∈es)->Reps X.K H ds vs->bF vs us->∀y∈us,SeqAt.EqAt X.A.in1 s y u (jL X.K H es x y)
 |[],_,_,_,h,q=>λy hy=>by
  rw[Reps.nil_iff.mp h] at q;cases q;cases hy
 |d::ds,_,_,hm,h,q=>λy hy=>by
  obtain⟨w,r,rfl,h1,h2⟩:=aJ.mp h;cases q with
  |cons q1 q2 =>
   rcases List.mem_cons.mp hy with rfl|hy
   .rw[Ac I se (hm d List.mem_cons_self) h1 q1]
    exact(HM I 40 X.A.in1 (by show X.A.units+1+40<cLine;omega) d x w v _ u (List.all_eq_true.mp se _ (hm d List.mem_cons_self)) sx h1 rx q1 qx).2.1
   .exact gH I hu sx rx qx se (λx hx=>hm x (List.mem_cons_of_mem _ hx)) h2 q2 y hy
theorem Ik(hu:X.A.units+64<cLine):ez X (compareOp .In) (yc X.K false):=by
 intro pins s σ H x y v u Q I rx ry h;obtain⟨d,ds,h1,h2,s1,s2,q⟩:=h;rcases h2 with h2|h2
 .obtain⟨a,vs,its,rfl,rfl,k1,k2,k3,k4,k5⟩:=bj I h2 ry
  refine SeqAt.in_listAt (jL X.K H ds d) k4 (λw hw=>gH I hu s1 h1 rx s2 (λ_ z=>z) k2 k3 w (by simpa using hw)) ⟨.bl _,H,I,rfl,?_⟩;rw[show its.toArray.any (jL X.K H ds d)=its.any (jL X.K H ds d) by simp,jl I s2 (λ_ z=>z) k2 k3];exact q
 .obtain⟨a,vs,its,rfl,rfl,k1,k2,k3,k4,k5⟩:=bx I h2 ry
  refine SeqAt.in_tupleAt (jL X.K H ds d) k4 (λw hw=>gH I hu s1 h1 rx s2 (λ_ z=>z) k2 k3 w (by simpa using hw)) ⟨.bl _,H,I,rfl,?_⟩;rw[show its.toArray.any (jL X.K H ds d)=its.any (jL X.K H ds d) by simp,jl I s2 (λ_ z=>z) k2 k3];exact q
theorem Ba(hu:X.A.units+64<cLine):ez X (compareOp .NotIn) (yc X.K true):=by
 intro pins s σ H x y v u Q I rx ry h;obtain⟨d,ds,h1,h2,s1,s2,q⟩:=h;rcases h2 with h2|h2
 .obtain⟨a,vs,its,rfl,rfl,k1,k2,k3,k4,k5⟩:=bj I h2 ry
  refine SeqAt.notIn_listAt (jL X.K H ds d) k4 (λw hw=>gH I hu s1 h1 rx s2 (λ_ z=>z) k2 k3 w (by simpa using hw)) ⟨.bl _,H,I,rfl,?_⟩;rw[show its.toArray.any (jL X.K H ds d)=its.any (jL X.K H ds d) by simp,jl I s2 (λ_ z=>z) k2 k3];exact q
 .obtain⟨a,vs,its,rfl,rfl,k1,k2,k3,k4,k5⟩:=bx I h2 ry
  refine SeqAt.notIn_tupleAt (jL X.K H ds d) k4 (λw hw=>gH I hu s1 h1 rx s2 (λ_ z=>z) k2 k3 w (by simpa using hw)) ⟨.bl _,H,I,rfl,?_⟩;rw[show its.toArray.any (jL X.K H ds d)=its.any (jL X.K H ds d) by simp,jl I s2 (λ_ z=>z) k2 k3];exact q
noncomputable def Ln(i j:Str):Bool:=!(Builtin.Str.occurrences j i 0 j.length 1).isEmpty
noncomputable def Du(x y:D):Option Bool:=match y with
 |.lst ds=>if bo 40 x=true/\ds.all (bo 40)=true then some (ds.any λd=>cC d x) else none
 |.tup ds=>if bo 40 x=true/\ds.all (bo 40)=true then some (ds.any λd=>cC d x) else none
 |.str j=>match x with
  |.str i=>some (Ln i j)
  |_=>none
 |_=>none
noncomputable def Ez(x y:D):aj D:=match Du x y with
 |some b=>.ok (.bl b)
 |none=>.stuck
noncomputable def cj(x y:D):aj D:=match Du x y with
 |some b=>.ok (.bl (!b))
 |none=>.stuck
noncomputable def Cy(neg:Bool):R2:=λx y H Q=>∃i j,x=.str i/\y=.str j/\Q (.bl (if neg then !(Ln i j) else Ln i j)) H
theorem C0(hu:X.A.units+64<cLine):ez X (compareOp .In) (λv u H Q=>yc X.K false v u H Q∨Cy false v u H Q):=ez.or (Ik hu) (by
 intro pins s σ H x y v u Q I rx ry h;obtain⟨i,j,rfl,rfl,q⟩:=h;exact Bb pins s σ H _ _ v u Q I rx ry ⟨i,j,rfl,rfl,q⟩)
theorem eM(hu:X.A.units+64<cLine):ez X (compareOp .NotIn) (λv u H Q=>yc X.K true v u H Q∨Cy true v u H Q):=ez.or (Ba hu) (by
 intro pins s σ H x y v u Q I rx ry h;obtain⟨i,j,rfl,rfl,q⟩:=h;exact uE pins s σ H _ _ v u Q I rx ry ⟨i,j,rfl,rfl,q⟩)
theorem v5{neg:Bool}{x y:D}{v u:V}{H Ha:Hp}{Q:VK}(hs:aC Ha H)(r1:Rep X.K Ha x v)(r2:Rep X.K Ha y u)
  (q:post X.K E H Ha (match Du x y with|some b=>.ok (.bl (if neg then !b else b))|none=>.stuck) Q):yc X.K neg v u H Q∨Cy neg v u H Q:=by
 cases y with
 |lst ds =>
  simp only[Du] at q
  by_cases c:bo 40 x=true/\ds.all (bo 40)=true
  .rw[if_pos c] at q
   exact .inl ⟨x,ds,r1.mono hs,.inl (r2.mono hs),c.1,c.2,q _ H Ha (bf.refl hs) (aK.mpr rfl)⟩
  .rw[if_neg c] at q;exact q.elim
 |tup ds =>
  simp only[Du] at q
  by_cases c:bo 40 x=true/\ds.all (bo 40)=true
  .rw[if_pos c] at q
   exact .inl ⟨x,ds,r1.mono hs,.inr (r2.mono hs),c.1,c.2,q _ H Ha (bf.refl hs) (aK.mpr rfl)⟩
  .rw[if_neg c] at q;exact q.elim
 |str j =>
  cases x with|str i=>exact .inr ⟨i,j,Rep.str_iff.mp r1,Rep.str_iff.mp r2,q _ H Ha (bf.refl hs) (aK.mpr rfl)⟩| _=>exact q.elim
 |_=>exact q.elim
theorem C3:rZ X.K E (λv u H Q=>yc X.K false v u H Q∨Cy false v u H Q) Ez:=λx y v u H Ha Q hs r1 r2 q=>v5 (neg:=false) (E:=E) hs r1 r2 (by
 unfold Ez at q;cases e:Du x y with
 |none=>rw[e] at q;exact q
 |some b=>rw[e] at q;exact q)
theorem eO:rZ X.K E (λv u H Q=>yc X.K true v u H Q∨Cy true v u H Q) cj:=λx y v u H Ha Q hs r1 r2 q=>v5 (neg:=true) (E:=E) hs r1 r2 (by
 unfold cj at q;cases e:Du x y with
 |none=>rw[e] at q;exact q
 |some b=>rw[e] at q;exact q)
end
@[irreducible] def B9:Nat:=2 ^ 9000
@[irreducible] def nY:Nat:=2 ^ 13500
@[irreducible] def xM:Nat:=2 ^ 60000
theorem AN:B9=2 ^ 9000:=by unfold B9;rfl
theorem nC:nY=2 ^ 13500:=by unfold nY;rfl
theorem nA:xM=2 ^ 60000:=by unfold xM;rfl
theorem pP{n k:Nat}(h:n<2 ^ k)(hk:0<k):n.log2<k:=by
 by_cases h0:n=0
 .rw[h0]
  have:Nat.log2 0=0:=by decide
  omega
 .exact(Nat.log2_lt h0).mpr h
theorem Ks{x y:Int}(h:y.natAbs<B9):Builtin.divisionGoesByPylong x y=false:=by
 rw[AN] at h;exact PyProof.noPylong_of_log2 (pP h (by omega))
theorem Il{x y:Int}(h:x.natAbs<nY):Builtin.divisionGoesByPylong x y=false:=by
 rw[nC] at h;have hx:x.natAbs.log2<13500:=pP h (by omega);show(decide ((if y==0 then 0 else y.natAbs.log2 / 30+1) > 300)&&decide ((if x==0 then 0 else x.natAbs.log2 / 30+1) > (if y==0 then 0 else y.natAbs.log2 / 30+1)+150))=false;have k:(if x==0 then 0 else x.natAbs.log2 / 30+1)<=450:=by
  by_cases hx0:(x==0)=true
  .rw[if_pos hx0];omega
  .rw[if_neg hx0];omega
 by_cases c:(if y==0 then 0 else y.natAbs.log2 / 30+1) > 300
 .rw[Bool.and_eq_false_iff];right;exact decide_eq_false (by omega)
 .rw[Bool.and_eq_false_iff];left;exact decide_eq_false c
noncomputable def eD(i j:Int):Bool:=decide (j≠0)&&(decide (j.natAbs<B9)||decide (i.natAbs<nY))
noncomputable def dG(i j:Int):Bool:=decide (i.natAbs<xM)&&decide (j.natAbs<xM)
theorem eD.ok{i j:Int}(h:eD i j=true):j≠0/\Builtin.divisionGoesByPylong i j=false:=by
 unfold eD at h;rw[Bool.and_eq_true,Bool.or_eq_true] at h;refine⟨of_decide_eq_true h.1,?_⟩;rcases h.2 with h|h
 .exact Ks (of_decide_eq_true h)
 .exact Il (of_decide_eq_true h)
theorem dG.ok{i j:Int}(h:dG i j=true):IntMulOk i j:=by
 unfold dG at h;rw[Bool.and_eq_true] at h;have h1:=of_decide_eq_true h.1;have h2:=of_decide_eq_true h.2;rw[nA] at h1 h2;exact PyProof.Rows.mulOk_of_bits (m:=60000) (n:=60000) (PySem.intBits_le_iff.mpr h1) (PySem.intBits_le_iff.mpr h2) (by decide)
section
variable {X:Cx}{E:XK}{e a b c:Expr}{es:List Expr}{f g k:Ev->aj D}{fa:Ev->aj (List D)}{pos:Pos}
theorem bq{K:W.Frag}{H Ha:Hp}{d:D}{v:V}{Q:VK}(hs:aC Ha H)(q:post K E H Ha (.ok d) Q)(r:Rep K Ha d v):Q v H:=q v H Ha (bf.refl hs) r
noncomputable def wF(c:Int->Int->Bool) (g:Int->Int->D) (x y:D):aj D:=match x,y with
 |.int i,.int j=>if c i j=true then .ok (g i j) else .stuck
 |_,_=>.stuck
theorem uI{C:Int->Int->Prop}{c:Int->Int->Bool}{gv:Int->Int->V}{g:Int->Int->D}(hc:∀i j,c i j=true->C i j)(hg:∀K H i j,Rep K H (g i j) (gv i j)):rZ X.K E (rI C gv) (wF c g):=by
 intro x y v u H Ha Q hs r1 r2 q;unfold wF at q;cases x with
 |int i =>
  cases y with
  |int j =>
   by_cases h:c i j=true
   .simp only[if_pos h] at q
    exact⟨i,j,az.mp r1,az.mp r2,hc i j h,bq hs q (hg _ _ i j)⟩
   .simp only[if_neg h] at q;exact q.elim
  |_=>exact q.elim
 |_=>exact q.elim
theorem dg{gv:Int->Int->V}{g:Int->Int->D}(hg:∀K H i j,Rep K H (g i j) (gv i j)):rZ X.K E (Ey gv) (wF (λ_ _=>true) g):=by
 intro x y v u H Ha Q hs r1 r2 q;unfold wF at q;cases x with
 |int i =>
  cases y with|int j=>simp only[if_pos] at q;exact⟨i,j,az.mp r1,az.mp r2,bq hs q (hg _ _ i j)⟩| _=>exact q.elim
 |_=>exact q.elim
theorem ri{K:W.Frag}{H:Hp}(n:Int):Rep K H (.int n) (.int n):=az.mpr rfl
theorem rb{K:W.Frag}{H:Hp}(n:Bool):Rep K H (.bl n) (.bl n):=aK.mpr rfl
noncomputable abbrev ra:=wF (λ_ _=>true) λi j=>.int (i-j)
noncomputable abbrev mC:=wF eD λi j=>.int (i.fdiv j)
noncomputable abbrev de:=wF (λ_ j=>decide (j≠0)) λi j=>.int (i.fmod j)
noncomputable abbrev sD:=wF (λi j=>decide (0<=j)&&decide (j<=1000000)&&decide (i.natAbs<18446744073709551616)) λi j=>.int (i ^ j.toNat)
noncomputable abbrev Ja:=wF (λ_ _=>true) λi j=>.bl (decide (i<j))
noncomputable abbrev Jb:=wF (λ_ _=>true) λi j=>.bl (decide (i<=j))
noncomputable abbrev Jd:=wF (λ_ _=>true) λi j=>.bl (decide (j<i))
noncomputable abbrev Mh:=wF (λ_ _=>true) λi j=>.bl (decide (j<=i))
theorem Fv:ez X (binaryOp .Mult) (rI IntMulOk λi j=>.int (i*j)):=Lm λ_ _ _ _ _ _ _ hc q=>mul_int q hc
theorem Fw:ez X (binaryOp .FloorDiv) (rI (λi j=>j≠0/\Builtin.divisionGoesByPylong i j=false) λi j=>.int (i.fdiv j)):=Lm λ_ _ _ _ _ _ _ hc q=>floordiv_int hc.1 q (.inl hc.2)
theorem u7(ha:DE X E a f)(hb:DE X E b g):DE X E (.BinOp a .Sub b pos) (aa f g ra):=tO Ii (dg λ_ _ _ _=>ri _) ha hb
theorem jc(ha:DE X E a f)(hb:DE X E b g):DE X E (.BinOp a .FloorDiv b pos) (aa f g mC):=tO Fw (uI (λ_ _ h=>eD.ok h) λ_ _ _ _=>ri _) ha hb
theorem fb(ha:DE X E a f)(hb:DE X E b g):DE X E (.BinOp a .Mod b pos) (aa f g de):=tO zv (uI (λ_ _ h=>of_decide_eq_true h) λ_ _ _ _=>ri _) ha hb
theorem yI(ha:DE X E a f)(hb:DE X E b g):DE X E (.BinOp a .Pow b pos) (aa f g sD):=tO Ij (uI (λi j h=>by
 rw[Bool.and_eq_true,Bool.and_eq_true] at h;exact⟨of_decide_eq_true h.1.1,of_decide_eq_true h.1.2,of_decide_eq_true h.2⟩) λ_ _ _ _=>ri _) ha hb
theorem nm{op:CmpOp}{b:Expr}(h1:op≠.In:=by decide)(h2:op≠.NotIn:=by decide):behindInMarks op b=false:=we _ h1 h2
noncomputable def xu(x:D):aj D:=match x with
 |.int i=>.ok (.int (-i))
 |_=>.stuck
theorem u9(ha:DE X E a f):DE X E (.UnaryOp .USub a pos) (cL f xu):=K5 Hr (by
 intro x v H Ha Q hs r q;cases x with
 |int i=>exact⟨i,az.mp r,bq hs q (ri _)⟩
 |_=>exact q.elim) ha
theorem zy:ez X (binaryOp .Add) (λx y H Q=>∃l b xs zs,x=.ref l/\y=.ref b/\eZ X.K H l xs/\eZ X.K H b zs/\xs.length+zs.length<=sizeLine/\∀p,H p=none->Q (.ref p) (upd H p (.lst (xs++zs)))):=by
 intro pins s σ H x y v u Q I rx ry h;obtain⟨l,b,xs,zs,rfl,rfl,hH,hB,hz,q⟩:=h;cases rx;cases ry;obtain⟨its,r,pl,z⟩:=I.list hH;obtain⟨its2,r2,pl2,z2⟩:=I.list hB;obtain⟨⟨cls,dd,data,sl⟩,ho,hc,n,hd⟩:=pl.isList;obtain⟨⟨cls2,dd2,data2,sl2⟩,ho2,hc2,n2,hd2⟩:=pl2.isList;simp only at hc hd hc2 hd2;subst hc hd hc2 hd2;have e:its.toArray++its2.toArray=(its++its2).toArray:=by simp
 have l1:=r.length;have l2:=r2.length;refine concat_meets ⟨_,ho,rfl⟩ ⟨_,ho2,rfl⟩ noFill_list_add seq_list_add PySem.F.slot_list_add PySem.F.entry_list_add (PySem.F.args_list_add_2 _ _) (list_addW l b its.toArray its2.toArray n n2 dd dd2 sl sl2 (by simp only[List.size_toArray];omega)) ⟨ho,ho2,?_⟩;rw[e];exact⟨.ref _,_,I.lnew (t':=s.toks) (r.append r2) (by rw[List.length_append];omega),rfl,q _ I.fresh⟩
noncomputable def cb(x y:D):aj D:=match x,y with
 |.int i,.int j=>.ok (.int (i+j))
 |.str i,.str j=>if i.length+j.length<=line then .ok (.str (i++j)) else .stuck
 |.lst ds,.lst es=>if ds.length+es.length<=line then .ok (.lst (ds++es)) else .stuck
 |.tup ds,.tup es=>if ds.isEmpty=false/\ds.length+es.length<=line then .ok (.tup (ds++es)) else .stuck
 |_,_=>.stuck
theorem da(ha:DE X E a f)(hb:DE X E b g):DE X E (.BinOp a .Add b pos) (aa f g cb):=tO (ez.or C2 (ez.or pE (ez.or zy zx))) (by
 intro x y v u H Ha Q hs r1 r2 q;unfold cb at q;cases x with
 |int i =>
  cases y with|int j=>exact .inl ⟨i,j,az.mp r1,az.mp r2,bq hs q (ri _)⟩| _=>exact q.elim
 |str i =>
  cases y with
  |str j =>
   by_cases h:i.length+j.length<=line
   .simp only[if_pos h] at q
    exact .inr (.inl ⟨i,j,Rep.str_iff.mp r1,Rep.str_iff.mp r2,cO h,bq hs q (Rep.str_iff.mpr rfl)⟩)
   .simp only[if_neg h] at q;exact q.elim
  |_=>exact q.elim
 |lst ds =>
  cases y with
  |lst es =>
   by_cases h:ds.length+es.length<=line
   .simp only[if_pos h] at q
    obtain⟨l,vs,rfl,h1,h2⟩:=aG.mp r1;obtain⟨m,us,rfl,k1,k2⟩:=aG.mp r2;refine .inr (.inr (.inl ⟨l,m,vs,us,rfl,rfl,aC.sqL hs h1,aC.sqL hs k1,by rw[←h2.length,←k2.length];exact cO h,λp hp=>?_⟩));exact q _ _ _ (bu hs hp) (aG.mpr ⟨p,_,rfl,eZ.of aI,(h2.app k2).mono (bu hs hp).z⟩)
   .simp only[if_neg h] at q;exact q.elim
  |_=>exact q.elim
 |tup ds =>
  cases y with
  |tup es =>
   by_cases h:ds.isEmpty=false/\ds.length+es.length<=line
   .simp only[if_pos h] at q
    obtain⟨l,vs,rfl,h1,h2⟩:=aP.mp r1;obtain⟨m,us,rfl,k1,k2⟩:=aP.mp r2;refine .inr (.inr (.inr ⟨l,m,vs,us,rfl,rfl,aC.sqT hs h1,aC.sqT hs k1,λz=>?_,by rw[←h2.length,←k2.length];exact cO h.2,λz=>?_,λz p hp=>?_⟩))
    .have:=h2.length
     rw[z] at this;have e:ds=[]:=List.length_eq_zero_iff.mp this;rw[e] at h;exact absurd h.1 (by decide)
    .have:=k2.length
     rw[z] at this;have e:es=[]:=List.length_eq_zero_iff.mp this;rw[e,List.append_nil] at q;exact bq hs q r1
    .exact q _ _ _ (bu hs hp) (aP.mpr ⟨p,_,rfl,jO.of aI,(h2.app k2).mono (bu hs hp).z⟩)
   .simp only[if_neg h] at q;exact q.elim
  |_=>exact q.elim
 |_=>exact q.elim) ha hb
noncomputable def aN(x y:D):aj D:=match y with
 |.int i=>match x with
  |.lst ds=>match atI ds i with
   |some d=>.ok d
   |none=>.stuck
  |.tup ds=>match atI ds i with
   |some d=>.ok d
   |none=>.stuck
  |.str z=>if z.length<=line then match atI z.cps.toList i with
   |some c=>.ok (.str ⟨#[c]⟩)
   |none=>.stuck else .stuck
  |_=>.stuck
 |_=>.stuck
theorem Reps.atI{K:W.Frag}{H:Hp}{ds:List D}{vs:List V}{i:Int}{d:D}(h:Reps K H ds vs)(e:atI ds i=some d):∃v,L2.atI vs i=some v/\Rep K H d v:=by
 unfold L2.atI at e ⊢;rw[←h.length];cases q:xJ ds.length i with
 |none=>rw[q] at e;cases e
 |some j =>
  rw[q] at e;exact h.get e
theorem GP:rZ X.K E (MG X.K) aN:=by
 intro x y v u H Ha Q hs r1 r2 q;unfold aN at q;cases y with
 |int i =>
  cases x with
  |lst ds =>
   obtain⟨l,vs,rfl,h1,h2⟩:=aG.mp r1;cases e:atI ds i with
   |none=>simp only[e] at q;exact q.elim
   |some d =>
    simp only[e] at q;obtain⟨w,e1,e2⟩:=h2.atI e;exact .inl ⟨l,vs,i,w,rfl,az.mp r2,aC.sqL hs h1,e1,bq hs q e2⟩
  |tup ds =>
   obtain⟨l,vs,rfl,h1,h2⟩:=aP.mp r1;cases e:atI ds i with
   |none=>simp only[e] at q;exact q.elim
   |some d =>
    simp only[e] at q;obtain⟨w,e1,e2⟩:=h2.atI e;exact .inr (.inl ⟨l,vs,i,w,rfl,az.mp r2,aC.sqT hs h1,e1,bq hs q e2⟩)
  |str z =>
   by_cases hz:z.length<=line
   .simp only[if_pos hz] at q
    cases e:atI z.cps.toList i with
    |none=>simp only[e] at q;exact q.elim
    |some c =>
     simp only[e] at q;exact .inr (.inr ⟨z,i,c,Rep.str_iff.mp r1,az.mp r2,cO hz,e,bq hs q (Rep.str_iff.mpr rfl)⟩)
   .simp only[if_neg hz] at q;exact q.elim
  |_=>exact q.elim
 |_=>exact q.elim
theorem aq(ha:DE X E a f)(hb:DE X E b g)(hs:mH b:=by intro _ _;rfl):DE X E (.Subscript a b pos) (aa f g aN):=K6 Dr GP ha hb hs
noncomputable def fg:Ev->aj (Option Int):=λ_=>.ok none
noncomputable def eP(f:Ev->aj D):Ev->aj (Option Int):=λρ=>(f ρ).bind λx=>match x with
 |.int i=>.ok (some i)
 |_=>.stuck
noncomputable def LP(K:W.Frag) (E:XK) (f:Ev->aj (Option Int)):TO:=λσ H Q=>∃Ha ρ,aC Ha H/\dX K Ha σ ρ/\match f ρ with
 |.ok o=>∀H' Ha',bf H Ha H' Ha'->Q o H'
 |.exn x=>∀C ox H' Ha',bf H Ha H' Ha'->AM K Ha' x C ox->E C ox H'
 |.stuck=>False
structure DO (X:Cx) (E:XK) (e:Option Expr) (f:Ev->aj (Option Int)):Prop where
 o:PO X e (LP X.K E f)
theorem zl{eo:Option Expr}{t t':TO}(h:PO X eo t)(w:∀σ H Q,t' σ H Q->t σ H Q):PO X eo t':=λpins s σ H Q I q=>h pins s σ H Q I (w σ H Q q)
theorem oR:DO X E none fg:=⟨zl Fi λσ H Q ⟨Ha,ρ,hs,hr,q⟩=>q H Ha (bf.refl hs)⟩
theorem oQ(ha:DE X E a f):DO X E (some a) (eP f):=by
 refine⟨?_⟩;refine zl (Fh ha.o) λσ H Q ⟨Ha,ρ,hs,hr,q⟩=>⟨Ha,ρ,hs,hr,?_⟩
 unfold eP at q;cases e1:f ρ with
 |stuck|exn x=>rw[e1] at q;exact q
 |ok d =>
  rw[e1] at q;intro v H1 H01 g1 r1;cases d with|int i=>exact⟨i,az.mp r1,q H1 H01 g1⟩| _=>exact q.elim
noncomputable def sE(xs:List D) (lo hi:Option Int):List D:=(xs.drop (HT.sIx xs.length 0 lo)).take (HT.sIx xs.length xs.length hi-HT.sIx xs.length 0 lo)
theorem Reps.cut{K:W.Frag}{H:Hp}{ds:List D}{vs:List V}(h:Reps K H ds vs)(lo hi:Option Int):Reps K H (sE ds lo hi) (xw vs lo hi):=by
 unfold sE xw;rw[←h.length];exact(h.drop _).take _
theorem vy{r:V->Option Int->Option Int->Hp->VK->Prop}{lo hi:Ev->aj (Option Int)}{m:D->Option Int->Option Int->aj D}
  (ho:∀x v l h H Ha Q,aC Ha H->Rep X.K Ha x v->post X.K E H Ha (m x l h) Q->r v l h H Q)(σ:L2.St)(H:Hp)(Q:VK)
  (h:tD X.K E (λρ=>(f ρ).bind λx=>(lo ρ).bind λl=>(hi ρ).bind λh=>m x l h) σ H Q):MB r (tD X.K E f) (LP X.K E lo) (LP X.K E hi) σ H Q:=by
 obtain⟨Ha,ρ,hs,hr,q⟩:=h;refine⟨Ha,ρ,hs,hr,?_⟩;replace q:post X.K E H Ha ((f ρ).bind λx=>(lo ρ).bind λl=>(hi ρ).bind λh=>m x l h) Q:=q;cases e1:f ρ with
 |stuck|exn x=>rw[e1] at q;exact q
 |ok x =>
  rw[e1] at q;intro v H1 H01 g1 r1;refine⟨H01,ρ,g1.sub,hr.mono g1.z,?_⟩;replace q:post X.K E H Ha ((lo ρ).bind λl=>(hi ρ).bind λh=>m x l h) Q:=q;replace q:=q.grow g1;cases e2:lo ρ with
  |stuck|exn x=>rw[e2] at q;exact q
  |ok l =>
   rw[e2] at q;intro H2 H02 g2;refine⟨H02,ρ,g2.sub,(hr.mono g1.z).mono g2.z,?_⟩;replace q:post X.K E H1 H01 ((hi ρ).bind λh=>m x l h) Q:=q;replace q:=q.grow g2;cases e3:hi ρ with
   |stuck|exn x=>rw[e3] at q;exact q
   |ok h =>
    rw[e3] at q;intro H3 H03 g3;exact ho x v l h H3 H03 Q g3.sub ((r1.mono g2.z).mono g3.z) (post.grow (r:=m x l h) q g3)
noncomputable def m1(m:D->aj D) (ds:List D):aj D:=match ds with
 |[x]=>m x
 |_=>.stuck
noncomputable def m2(m:D->D->aj D) (ds:List D):aj D:=match ds with
 |[x,y]=>m x y
 |_=>.stuck
theorem xD{r:List V->Hp->VK->Prop}{m:D->aj D}(h:∀x v H Ha Q,aC Ha H->Rep X.K Ha x v->post X.K E H Ha (m x) Q->r [v] H Q):gR X E r (m1 m):=by
 intro ds vs H Ha Q hs hr q;unfold m1 at q
 match ds,hr,q with
 |[x],hr,q =>
  obtain⟨v,r',rfl,h1,h2⟩:=aJ.mp hr;rw[Reps.nil_iff.mp h2];exact h x v H Ha Q hs h1 q
 |[],_,q=>exact q.elim
 |_::_::_,_,q=>exact q.elim
theorem Hf{r:List V->Hp->VK->Prop}{m:D->D->aj D}(h:∀x y v u H Ha Q,aC Ha H->Rep X.K Ha x v->Rep X.K Ha y u->post X.K E H Ha (m x y) Q->r [v,u] H Q):gR X E r (m2 m):=by
 intro ds vs H Ha Q hs hr q;unfold m2 at q
 match ds,hr,q with
 |[x,y],hr,q =>
  obtain⟨v,r',rfl,h1,h2⟩:=aJ.mp hr;obtain⟨u,r'',rfl,h3,h4⟩:=aJ.mp h2;rw[Reps.nil_iff.mp h4];exact h x y v u H Ha Q hs h1 h3 q
 |[],_,q=>exact q.elim
 |[_],_,q=>exact q.elim
 |_::_::_::_,_,q=>exact q.elim
noncomputable def BG(x:D):aj D:=match x with
 |.int i=>.ok (.int (if i<0 then -i else i))
 |_=>.stuck
noncomputable def I0(x y:D):aj D:=match x,y with
 |.int i,.int j=>.ok (.int (if j > i then j else i))
 |_,_=>.stuck
noncomputable def dE(x:D):aj D:=match x with
 |.lst ds=>.ok (.int ds.length)
 |.tup ds=>.ok (.int ds.length)
 |.str z=>if z.length<=line then .ok (.int z.length) else .stuck
 |_=>.stuck
noncomputable def kz(x:D):aj D:=match x with
 |.int i=>.ok (.int i)
 |.bl b=>.ok (.int (if b then 1 else 0))
 |_=>.stuck
theorem yO:gR X E (λxs H Q=>∃i,xs=[.int i]/\Q (.int (if i<0 then -i else i)) H) (m1 BG):=xD λx v H Ha Q hs r q=>by
 cases x with|int i=>exact⟨i,by rw[az.mp r],bq hs q (ri _)⟩| _=>exact q.elim
theorem Jh:gR X E (λxs H Q=>∃i j,xs=[.int i,.int j]/\Q (.int (if j > i then j else i)) H) (m2 I0):=Hf λx y v u H Ha Q hs r r' q=>by
 cases x with
 |int i =>
  cases y with|int j=>exact⟨i,j,by rw[az.mp r,az.mp r'],bq hs q (ri _)⟩| _=>exact q.elim
 |_=>exact q.elim
theorem dJ:gR X E (λxs H Q=>∃x n,xs=[x]/\Jw X.K x H n/\Q (.int n) H) (m1 dE):=xD λx v H Ha Q hs r q=>by
 cases x with
 |lst ds =>
  obtain⟨p,vs,rfl,h1,h2⟩:=aG.mp r;refine⟨_,vs.length,rfl,.inl ⟨vs,aC.sqL hs h1,rfl⟩,?_⟩;rw[←h2.length];exact bq hs q (ri _)
 |tup ds =>
  obtain⟨p,vs,rfl,h1,h2⟩:=aP.mp r;refine⟨_,vs.length,rfl,.inr ⟨vs,aC.sqT hs h1,rfl⟩,?_⟩;rw[←h2.length];exact bq hs q (ri _)
 |str z =>
  unfold dE at q
  by_cases hz:z.length<=line
  .simp only[if_pos hz] at q
   rw[Rep.str_iff.mp r];exact⟨_,z.length,rfl,⟨cO hz,rfl⟩,bq hs q (ri _)⟩
  .simp only[if_neg hz] at q;exact q.elim
 |_=>exact q.elim
theorem Jj:gR X E (λxs H Q=>(∃i,xs=[.int i]/\Q (.int i) H)∨∃k,xs=[.bl k]/\Q (.int (if k then 1 else 0)) H) (m1 kz):=xD λx v H Ha Q hs r q=>by
 cases x with|int i=>exact .inl ⟨i,by rw[az.mp r],bq hs q (ri _)⟩|bl i=>exact .inr ⟨i,by rw[aK.mp r],bq hs q (ri _)⟩| _=>exact q.elim
theorem Ed{T:String}{r:List V->Hp->VK->Prop}{m:List D->aj D}{x:Str}{p:Pos}(hc:jo X (.type T) r)(hd:gR X E r m)(hg:Gl X x)(hm:X.mg x=none)(hv:bootBuiltins x=some (.type T))(ha:DA X E (e::es) fa)(hn:x≠"__name__":=by decide)(hdb:(x==("__debug__":Str))=false:=by decide)
  (he:starEach (e::es) X.env=(false,eval e X.env)::starEach es X.env:=by exact bK rfl)(hpl:(backTo pos (starEach es X.env)).any (·.1)=false:=by exact cv rfl):DE X E (.Call (.Name x p) (e::es) [] pos) (au fa m) :=
 ⟨aZ (A8 hc hg hm hv ha.o hn hdb he hpl) (jH hd)⟩
noncomputable def tj:D->Bool
 |.non=>true
 |_=>false
noncomputable def gz(x y:D):aj D:=match y with
 |.non=>.ok (.bl (tj x))
 |_=>.stuck
noncomputable def cU(x y:D):aj D:=match y with
 |.non=>.ok (.bl (!(tj x)))
 |_=>.stuck
theorem Rep.is_non{K:W.Frag}{H:Hp}{x:D}{v:V}(r:Rep K H x v):decide (v=.non)=tj x:=by
 cases x with|non=>rw[aT.mp r];rfl|bl b=>rw[aK.mp r];rfl|int b=>rw[az.mp r];rfl|str b=>rw[Rep.str_iff.mp r];rfl|tup ds=>obtain⟨_,_,e,_⟩:=aP.mp r;rw[e];rfl|lst ds=>obtain⟨_,_,e,_⟩:=aG.mp r;rw[e];rfl|dic ks ds=>rw[Rep] at r;obtain⟨_,_,_,e,_⟩:=r;rw[e];rfl|exc x=>obtain⟨_,_,_,e,_⟩:=nW.mp r;rw[e];rfl|ob k x=>obtain⟨_,_,e,_⟩:=rS.mp r;rw[e];rfl
theorem ki:rZ X.K E (λx y H Q=>y=.non/\Q (.bl (decide (x=.non))) H) gz:=by
 intro x y v u H Ha Q hs r1 r2 q;unfold gz at q;cases y with|non=>exact⟨aT.mp r2,by rw[r1.is_non];exact bq hs q (rb _)⟩| _=>exact q.elim
theorem gj:rZ X.K E (λx y H Q=>y=.non/\Q (.bl (!decide (x=.non))) H) cU:=by
 intro x y v u H Ha Q hs r1 r2 q;unfold cU at q;cases y with
 |non =>
  refine⟨aT.mp r2,?_⟩;rw[r1.is_non];exact bq hs q (rb _)
 |_=>exact q.elim
noncomputable def xI:D->String
 |.non=>"NoneType"
 |.bl _=>"bool"
 |.int _=>"int"
 |.str _=>"str"
 |.tup _=>"tuple"
 |.lst _=>"list"
 |.dic _ _=>"dict"
 |.exc _=>"<exc>"
 |.ob (.ins _ _) _=>"<exc>"
 |.ob (.dint _) _=>"dict"
 |.ob (.exf _ _) _=>"<exc>"
noncomputable def jM(T:String) (x:D):aj D:=.ok (.bl (xI x==T||(xI x=="bool"&&T=="int")))
noncomputable def nX(K:W.Frag) (T:String):Prop:=∀S,S∈["NoneType","bool","int","str","tuple","list","dict"]->W.kitOne K (.type S) (.type T)=some (S==T||(S=="bool"&&T=="int"))
theorem Ds{pins:List (Addr×Obj)}{σ:L2.St}{H:Hp}{s:Shared}{A:Around}{Q:Value->Shared->Prop}{x:D}{v:V}{u:Value}{T:String}(I:Inv X pins σ H s)(r:Rep X.K H x v)(q:bz v u)(hk:nX X.K T)(hT:T∈ix)(h:∀tk,Q (.bool (xI x==T||(xI x=="bool"&&T=="int"))) { s with toks:=tk }) :
  wpAny (model X.prog X.w) A (call (.builtin "isinstance") [u,.type T]) Q X.xe s:=by
 cases x with
 |non=>rw[aT.mp r] at q;exact jv I q .non (hk _ (by simp)) h|bl b=>rw[aK.mp r] at q;exact jv I q (.bl b) (hk _ (by simp)) h|int b=>rw[az.mp r] at q;exact jv I q (.int b) (hk _ (by simp)) h|str b=>rw[Rep.str_iff.mp r] at q;exact jv I q (.str b) (hk _ (by simp)) h
 |tup ds =>
  obtain⟨a,vs,its,rfl,rfl,h1,h2,h3,h4,_⟩:=bx I r q;obtain⟨o,k1,k2,_⟩:=h4;exact W.kia_one W.kitx_tuple I.kIn ⟨o,k1,k2⟩ (hk _ (by simp)) (λz=>nomatch z) h
 |lst ds =>
  obtain⟨a,vs,its,rfl,rfl,h1,h2,h3,h4,_⟩:=bj I r q;obtain⟨o,k1,k2,_⟩:=h4;exact W.kia_one W.kitx_list I.kIn ⟨o,k1,k2⟩ (hk _ (by simp)) (λz=>nomatch z) h
 |dic ks ds =>
  rw[Rep] at r;obtain⟨a,kvs,vs,rfl,h1,h2,_⟩:=r;cases (show u=Value.ref a from q);obtain⟨_,_,vs',_,p⟩:=h1.ok I.hok;obtain⟨o,es,ep,k1,k2,_⟩:=p;exact W.kia_one W.kitx_dict I.kIn ⟨o,k1,k2.1⟩ (hk _ (by simp)) (λz=>nomatch z) h
 |exc x =>
  obtain⟨a,C,dc,rfl,hc,h1⟩:=nW.mp r;cases (show u=Value.ref a from q);obtain⟨p,_,_⟩:=h1.ok I.hok;have e:(xI (.exc x)==T||(xI (.exc x)=="bool"&&T=="int"))=false:=by
   have:∀T∈ix,(xI (.exc x)==T||(xI (.exc x)=="bool"&&T=="int"))=false:=by show ∀T∈ix,("<exc>"==T||("<exc>"=="bool"&&T=="int"))=false;decide
   exact this T hT
  rw[e] at h;exact W.kia_one (wu hc.ek hc.ek.isCls) I.kIn p (hc.bt T hT) (λz=>nomatch z) h
 |ob k xs =>
  obtain⟨a,vs,rfl,h1,_⟩:=rS.mp r;cases (show u=Value.ref a from q);cases k with
  |exf c ks =>
   obtain⟨C,dx,fs,hc,h2,_⟩:=h1;obtain⟨p,_,_⟩:=h2.ok I.hok;have e:(xI (.ob (.exf c ks) xs)==T||(xI (.ob (.exf c ks) xs)=="bool"&&T=="int"))=false:=by
    have:∀T∈ix,("<exc>"==T||("<exc>"=="bool"&&T=="int"))=false:=by decide
    exact this T hT
   rw[e] at h;exact W.kia_one (wu hc.ek hc.ek.isCls) I.kIn p (hc.bt T hT) (λz=>nomatch z) h
  |ins c ks =>
   obtain⟨C,dx,_,hc,h2,_⟩:=h1;obtain⟨mA,O,_⟩:=zP I.hok h2;obtain⟨od,O',_⟩:=O.look;have e:(xI (.ob (.ins c ks) xs)==T||(xI (.ob (.ins c ks) xs)=="bool"&&T=="int"))=false:=by
    have:∀T∈ix,(xI (.ob (.ins c ks) xs)==T||(xI (.ob (.ins c ks) xs)=="bool"&&T=="int"))=false:=by show ∀T∈ix,("<exc>"==T||("<exc>"=="bool"&&T=="int"))=false;decide
    exact this T hT
   rw[e] at h;exact W.kia_one (W.kitx_own (hc.cls.get _) hc.cls.hd hc.gc hc.gn hc.tk hc.mo) I.kIn O' (hc.bt T hT) (λz=>nomatch z) h
  |dint ks =>
   obtain⟨kvs,h2,_⟩:=h1;obtain⟨_,_,vs',_,p⟩:=h2.ok I.hok;obtain⟨o,es,ep,k1,k2,_⟩:=p;exact W.kia_one W.kitx_dict I.kIn ⟨o,k1,k2.1⟩ (hk _ (by simp)) (λz=>nomatch z) h
theorem cS{T:String}{x:Str}{p1 p2:Pos}(hk:nX X.K T)(hgi:Gl X "isinstance")(hmi:X.mg "isinstance"=none)(hg:Gl X x)(hm:X.mg x=none)(hv:bootBuiltins x=some (.type T))(ha:DE X E a f)
  (hn:x≠"__name__":=by decide)(hdb:(x==("__debug__":Str))=false:=by decide)(hT:T∈ix:=by decide)
  (he:starEach [a,.Name x p2] X.env=(false,eval a X.env)::starEach [.Name x p2] X.env:=by exact bK rfl)(he2:starEach [.Name x p2] X.env=(false,eval (.Name x p2) X.env)::starEach [] X.env:=by exact bK rfl)(hpl:(backTo pos (starEach [.Name x p2] X.env)).any (·.1)=false:=by exact cv rfl) :
  DE X E (.Call (.Name "isinstance" p1) [a,.Name x p2] [] pos) (cL f (jM T)):=by
 refine⟨?_⟩;refine aZ (vN (r:=λvs H Q=>∃d v,vs=[v,.ty T]/\Rep X.K H d v/\Q (.bl (xI d==T||(xI d=="bool"&&T=="int"))) H) ?_ hgi hmi PyProof.Rows.Boot.«isinstance» (d5 ha.o (d5 (Ft (v:=.ty T) hg hm hv rfl hn hdb) gY he2) he) (by decide) (by decide) he hpl) λσ H Q ⟨Ha,ρ,hs,hr,q⟩=>⟨Ha,ρ,hs,hr,?_⟩
 .intro pins s σ H xs us Q I r h
  obtain⟨d,v,rfl,h1,q⟩:=h;cases r with
  |cons r1 r2 =>
   cases r2 with
   |cons r3 r4 =>
    cases r4;rename_i u1 u2;obtain rfl:u2=Value.type T:=r3;exact Ds I h1 r1 hk hT λtk=>⟨.bl _,H,I.tok _,rfl,q⟩
 .unfold cL at q
  cases e1:f ρ with
  |stuck|exn x=>rw[e1] at q;exact q
  |ok d =>
   rw[e1] at q;intro v H1 H01 g1 r1;exact⟨d,v,rfl,r1.mono g1.sub,q _ H1 H01 g1 (rb _)⟩
end
theorem tJ{prog:Program}{w:World}{A:Around}{E:Value->Shared->Prop}{it t:Addr}{items:Array Value}(hne:t≠it):∀(n i:Nat) (s:Shared) (Q:List Value->Shared->Prop),s.heap.IsListIter it t i->s.heap.IsList t items->i+n<=items.size ->
  (∀h',h'.IsListIter it t (i+n)->Heap.SameBut it s.heap h'->Q ((items.toList.drop i).take n) { s with heap:=h' })->wpAny (model prog w) A (draw (.ref it) n) Q E s
 |0,i,s,Q,hit,_,_,hQ=>by
  show wpAny _ _ (pure []) Q E s;exact wpAny_pure (by simpa using hQ s.heap hit (Heap.SameBut.refl ..))
 |n+1,i,s,Q,hit,ht,hle,hQ=>by
  have hlt:i<items.size:=by omega
  show wpAny _ _ (pyNext (.ref it) >>= _) Q E s;refine wpAny_bind (wpAny_pyNext_list_item hit ht (x:=items[i]) (by simp [hlt]) λhE hit₁ hs₁=>?_);have ht₁:hE.IsList t items:=by
   obtain⟨o,k1,k2⟩:=ht;exact⟨o,(hs₁.2 t hne).trans k1,k2⟩
  refine wpAny_bind (wpAny_holding (tJ hne n (i+1) _ _ hit₁ ht₁ (by omega) λhU hit₂ hs₂=>wpAny_pure ?_));have hd:items.toList.drop i=items[i]::items.toList.drop (i+1):=by simp [List.drop_eq_getElem_cons,hlt]
  have:=hQ hU (by rw[show i+(n+1)=i+1+n by omega];exact hit₂) (hs₁.trans hs₂);rw[hd,List.take_succ_cons] at this;exact this
theorem mQ{prog:Program}{w:World}{A:Around}{E:Value->Shared->Prop}{s:Shared}{t:Addr}{items:Array Value}{Q:List Value->Shared->Prop}(hh:A.handled=none)(ht:s.heap.IsList t items)
  (hQ:∀h',Heap.ExtBut s.heap.objs.size s.heap h'->Q items.toList { s with heap:=h' }):wpAny (model prog w) A (unpackItems (.ref t) items.size none) Q E s:=by
 have hlt:t≠s.heap.objs.size:=by obtain⟨o,ho,_⟩:=ht;exact Nat.ne_of_lt (Heap.lt_size ho)
 unfold unpackItems;refine wpAny_bind ?_
 .unfold notIterableAtAll
  refine wpAny_bind (wpAny_specialOf ht.typeIs slot_list_iter.lookup ?_);refine wpAny_pure ?_;simp only[Bool.false_eq_true,if_false];refine wpAny_bind (wpAny_holding (wpAny_pyIter_list ht ?_));have ht0:(s.heap.push { cls:=.type "list_iterator",data:=.fields #[.ref t,.int 0 0] }).IsList t items:=by
   obtain⟨o,k1,k2⟩:=ht;exact⟨o,Heap.get?_push_of_some _ k1,k2⟩
  refine wpAny_bind (wpAny_holding (tJ hlt items.size 0 _ _ ⟨_,Heap.get?_push_size _ rfl,rfl,rfl⟩ ht0 (by omega) λhE hit₁ hs₁=>?_));have hall:List.take items.size (List.drop 0 items.toList)=items.toList:=by
   rw[List.drop_zero];exact List.take_of_length_le (by simp)
  rw[hall];rw[if_neg (by simp)];have ht₁:hE.IsList t items:=by
   obtain⟨o,k1,k2⟩:=ht0;exact⟨o,(hs₁.2 t hlt).trans k1,k2⟩
  refine wpAny_bind (wpAny_holding (wpAny_pyNext_list_end hh hit₁ ht₁ (by simp) λhU he₂=>?_));simp only[Option.isSome_none,Bool.false_eq_true,if_false];refine wpAny_pure (hQ hU λb o hb e=>he₂ b o hb (hs₁.extBut b o hb (Heap.get?_push_of_some _ e)))
noncomputable def xY(σ:L2.St):List Nat->List V->L2.St
 |i::is,v::vs=>xY (σ.set i (some v)) is vs
 |_,_=>σ
noncomputable def d4(ρ:Ev):List Nat->List D->Ev
 |i::is,d::ds=>d4 (ρ.set i (.sh d)) is ds
 |_,_=>ρ
theorem dH.putAll{K:W.Frag}{He H0e Ha H:Hp}:∀{is:List Nat}{ds:List D}{vs:List V}{σ:L2.St}{ρ:Ev},dH K He H0e Ha σ H ρ->Reps K Ha ds vs->dH K He H0e Ha (xY σ is vs) H (d4 ρ is ds)
 |[],_,_,_,_,h,_=>by unfold xY d4;exact h
 |_::_,[],_,_,_,h,r=>by rw[Reps.nil_iff.mp r];unfold xY d4;exact h
 |i::is,d::ds,_,_,_,h,r=>by
  obtain⟨v,vs,rfl,h1,h2⟩:=aJ.mp r;unfold xY d4;exact dH.putAll (h.put h1) h2
section
variable {X:Cx}{E:XK}{He H0e:Hp}{e a b:Expr}{es:List Expr}{f g:Ev->aj D}{fa:Ev->aj (List D)}{pos:Pos}{is:List Nat}
noncomputable def Jz(is:List Nat):EA:=λvs σ H Q=>vs.length=is.length/\Q (xY σ is vs) H
theorem vL{t t':EA}(h:BP X es t)(w:∀vs σ H Q,t' vs σ H Q->t vs σ H Q):BP X es t':=λpins s σ H vs us Q I r q=>h pins s σ H vs us Q I r (w vs σ H Q q)
theorem il:BP X [] (Jz []):=vL Fn λvs σ H Q ⟨h,q⟩=>by
 have e:vs=[]:=List.length_eq_zero_iff.mp h;subst e;exact⟨rfl,q⟩
theorem ck{i:Nat}{x:Str}{p:Pos}(hN:X.N.Nodup)(hi:X.N[i]?=some x)(hx:BR X.env.scope x)(h:BP X es (Jz is))(hf:X.fn x=true∨X.env.scope.names.lookup x=some .local := by first|exact .inl rfl|exact .inr rfl|assumption)
  (hs:(assignEach (.Name x p::es) X.env).map (·.2)=assign (.Name x p) X.env::(assignEach es X.env).map (·.2):=by rfl):BP X (.Name x p::es) (Jz (i::is)) :=
 vL (CO (zp hN hi hx hf) h hs) λvs σ H Q ⟨h,q⟩=>by
  cases vs with|nil=>simp at h|cons v vs=>exact⟨v,vs,rfl,by simpa using h,q⟩
theorem Fo{k:Nat}{t:EA}{n:Nat}(hc:X.calm=true)(h:BP X es t)
  (hn:(assignEach es X.env).length=n:=by rfl)(hst:(assignEach es X.env).findIdx? (·.1)=none:=by rfl):PG X (.Tuple es k pos) (λv σ H Q=>∃a xs,v=.ref a/\eZ X.K H a xs/\xs.length=n/\t xs σ H Q):=by
 intro pins s σ H v u Q I r hw;obtain⟨a,xs,e1,hq,hl,hw⟩:=hw;subst e1;cases r;obtain⟨its,rv,ht,hz⟩:=I.list hq;rw[assign_Tuple];refine wpAny_bind (wpAny_standAt ?_);unfold unpack;rw[hn,hst];have hsz:n=its.toArray.size:=by rw[List.size_toArray,←rv.length,hl]
 rw[hsz];refine wpAny_bind (wpAny_holding (mQ (I.ok.hd hc) ht.isList λh' hx=>?_));have I1:Inv X pins σ H { s with heap:=h' }:=I.kept (t':=s.toks) λb o e=>hx b o (Nat.ne_of_lt (Heap.lt_size e)) e;exact h pins _ σ H xs _ Q I1 (by simpa using rv) hw
theorem Kg{tgt:Expr}{t t':TG}(h:PG X tgt t)(h':PG X tgt t'):PG X tgt (λv σ H Q=>t v σ H Q∨t' v σ H Q):=λpins s σ H v u Q I r q=>q.elim (h pins s σ H v u Q I r) (h' pins s σ H v u Q I r)
theorem CQ{k:Nat}(hc:X.calm=true)(h:BP X es (Jz is))(hn:(assignEach es X.env).length=is.length:=by rfl)(hst:(assignEach es X.env).findIdx? (·.1)=none:=by rfl) :
  PG X (.Tuple es k pos) (λv σ H Q=>∃a xs,v=.ref a/\(jO X.K H a xs∨eZ X.K H a xs)/\xs.length=is.length/\Q (xY σ is xs) H) :=
 uD (Kg (HV hc h hn hst) (Fo hc h hn hst)) λv σ H Q ⟨a,xs,e,hq,hl,q⟩=>hq.elim (λz=>.inl ⟨a,xs,e,z,hl,hl,q⟩) λz=>.inr ⟨a,xs,e,z,hl,hl,q⟩
noncomputable def fq(n:Nat) (d:D):Option (List D):=match d with
 |.tup ds=>if ds.length=n then some ds else none
 |.lst ds=>if ds.length=n then some ds else none
 |_=>none
theorem nE{K:W.Frag}{H:Hp}{n:Nat}{d:D}{ds:List D}{v:V}(h:fq n d=some ds)(r:Rep K H d v):∃a vs,v=.ref a/\(jO K H a vs∨eZ K H a vs)/\vs.length=n/\Reps K H ds vs:=by
 unfold fq at h;cases d with
 |tup es =>
  by_cases c:es.length=n
  .simp only[if_pos c] at h;cases h
   obtain⟨a,vs,rfl,h1,h2⟩:=aP.mp r;exact⟨a,vs,rfl,.inl h1,by rw[←h2.length];exact c,h2⟩
  .simp only[if_neg c] at h;cases h
 |lst es =>
  by_cases c:es.length=n
  .simp only[if_pos c] at h;cases h
   obtain⟨a,vs,rfl,h1,h2⟩:=aG.mp r;exact⟨a,vs,rfl,.inr h1,by rw[←h2.length];exact c,h2⟩
  .simp only[if_neg c] at h;cases h
 |_=>cases h
theorem vD{K:W.Frag}{H H':Hp}{a:Addr}{vs:List V}(hs:aC H H')(h:jO K H a vs∨eZ K H a vs):jO K H' a vs∨eZ K H' a vs:=h.elim (λz=>.inl (aC.sqT hs z)) λz=>.inr (aC.sqL hs z)
noncomputable def Nd(is:List Nat) (f:Ev->aj D):Ev->aj Fl:=λρ=>(f ρ).bind λd=>match fq is.length d with
 |some ds=>.ok (.nx (d4 ρ is ds))
 |none=>.stuck
noncomputable def fM(is:List Nat):Ev->D->aj Ev:=λρ d=>match fq is.length d with
 |some ds=>.ok (d4 ρ is ds)
 |none=>.stuck
theorem fA:uc (fM is):=λρ d=>by
 unfold fM;cases fq is.length d with|none=>exact .inl rfl|some ds=>exact .inr ⟨_,rfl⟩
theorem nu{k:Nat}(hc:X.calm=true)(h:BP X es (Jz is))(hn:(assignEach es X.env).length=is.length:=by rfl)(hst:(assignEach es X.env).findIdx? (·.1)=none:=by rfl):DG X E He H0e (.Tuple es k pos) (fM is) :=
 ⟨uD (CQ hc h hn hst) λv σ H Q ⟨Ha,ρ,d,h,rp,q⟩=>by
  unfold fM at q;cases e1:fq is.length d with
  |none=>rw[e1] at q;exact q.elim
  |some ds =>
   rw[e1] at q;obtain⟨a,vs,rfl,k1,k2,k3⟩:=nE e1 rp;exact⟨a,vs,rfl,vD h.g.sub k1,k2,q _ H Ha (aC.refl _) (h.putAll k3)⟩⟩
noncomputable def su(i j:Nat) (fa:Ev->aj (List D)):Ev->aj Fl:=λρ=>(fa ρ).bind λds=>match ds with
 |[x,y]=>.ok (.nx ((ρ.set i (.sh x)).set j (.sh y)))
 |_=>.stuck
theorem IS{i j:Nat}{x y:Str}{px py pt pt2:Pos}{kt k2}(hc:X.calm=true)(hN:X.N.Nodup)(hi:X.N[i]?=some x)(hj:X.N[j]?=some y)(hij:i≠j)
  (hx:X.env.scope.names.lookup x=some .local)(hy:X.env.scope.names.lookup y=some .local)(ha:DA X E [a,b] fa)
  (hw:swappedStores [.Tuple [.Name x px,.Name y py] kt pt] (.Tuple [a,b] k2 pt2) X.env=pure (some [x,y]))
  (hs:swapsWithSole [.Tuple [.Name x px,.Name y py] kt pt] (.Tuple [a,b] k2 pt2) pos.line X.env=pure false:=by rfl) :
  DS X E He H0e (.Assign [.Tuple [.Name x px,.Name y py] kt pt] (.Tuple [a,b] k2 pt2) pos) (su i j fa):=by
 refine⟨?_⟩;refine bH (HQ hc hN hi hj hij hx hy ha.o hw hs) λD σ H ⟨Ha,ρ,h,q⟩=>⟨Ha,ρ,h.g.sub,h.rd,?_⟩
 unfold su at q;cases e1:fa ρ with
 |stuck=>rw[e1] at q;exact q|exn x=>rw[e1] at q;exact λC ox H' Ha' g ex=>q C ox H' Ha' (h.g.trans g) ex
 |ok ds =>
  rw[e1] at q;intro vs H1 H01 g1 r1
  match ds,r1,q with
  |[x,y],r1,q =>
   obtain⟨v,r',rfl,h1,h2⟩:=aJ.mp r1;obtain⟨u,r'',rfl,h3,h4⟩:=aJ.mp h2;rw[Reps.nil_iff.mp h4];exact⟨v,u,rfl,q _ H1 H01 g1.z (((h.grow g1).put h1).put h3)⟩
  |[],_,q=>exact q.elim
  |[_],_,q=>exact q.elim
  |_::_::_::_,_,q=>exact q.elim
end
theorem yx{K:W.Frag}:nX K "int":=by
 intro S hS;simp only[List.mem_cons,List.mem_nil_iff,or_false] at hS;rcases hS with rfl|rfl|rfl|rfl|rfl|rfl|rfl<;>first|rfl|decide +kernel
theorem wz{K:W.Frag}:nX K "bool":=by
 intro S hS;simp only[List.mem_cons,List.mem_nil_iff,or_false] at hS;rcases hS with rfl|rfl|rfl|rfl|rfl|rfl|rfl<;>first|rfl|decide +kernel
theorem pT{K:W.Frag}:nX K "str":=by
 intro S hS;simp only[List.mem_cons,List.mem_nil_iff,or_false] at hS;rcases hS with rfl|rfl|rfl|rfl|rfl|rfl|rfl<;>first|rfl|decide +kernel
theorem ic{K:W.Frag}:nX K "tuple":=by
 intro S hS;simp only[List.mem_cons,List.mem_nil_iff,or_false] at hS;rcases hS with rfl|rfl|rfl|rfl|rfl|rfl|rfl<;>first|rfl|decide +kernel
theorem iV{K:W.Frag}:nX K "list":=by
 intro S hS;simp only[List.mem_cons,List.mem_nil_iff,or_false] at hS;rcases hS with rfl|rfl|rfl|rfl|rfl|rfl|rfl<;>first|rfl|decide +kernel
theorem wx{K:W.Frag}:nX K "dict":=by
 intro S hS;simp only[List.mem_cons,List.mem_nil_iff,or_false] at hS;rcases hS with rfl|rfl|rfl|rfl|rfl|rfl|rfl<;>first|rfl|decide +kernel
section
variable {X:Cx}{E:XK}{He H0e:Hp}{e a b c:Expr}{f g h:Ev->aj D}{pos:Pos}
theorem dv(i:Nat){x:Str}(hN:X.N[i]?=some x:=by rfl)(hv:BO X.env.scope x:=by first|exact Or.inl rfl|exact Or.inr (Or.inl rfl)|exact Or.inr (Or.inr rfl))(hd:(x==("__debug__":Str))=false:=by decide)
  (hcd:(x==("__classdict__":Str))=false:=by decide):DE X E (.Name x pos) (ae i):=IZ hN hv hd hcd
noncomputable def ug(K:W.Frag) (mg:Str->Option Value) (x:Str) (d:D):Prop:=∃v u,mg x=some u/\bz v u/\∀H,Rep K H d v
theorem bb{x:Str}{d:D}(k:ug X.K X.mg x d)(hg:Gl X x)(hd:(x==("__debug__":Str))=false:=by decide):DE X E (.Name x pos) (dC d):=by
 obtain⟨v,u,h1,h2,h3⟩:=k;exact F8 hg h1 h2 h3 hd
theorem dA{K:W.Frag}{mg:Str->Option Value}{x:Str}{i:Int}{t:Tok}(h:mg x=some (.int i t)):ug K mg x (.int i):=⟨.int i,_,h,⟨t,rfl⟩,λ_=>ri _⟩
theorem FO{K:W.Frag}{mg:Str->Option Value}{x:Str}{i:Str}{t:Tok}(h:mg x=some (.str i t)):ug K mg x (.str i):=⟨.str i,_,h,⟨t,rfl⟩,λ_=>Rep.str_iff.mpr rfl⟩
theorem zJ{K:W.Frag}{mg:Str->Option Value}{x:Str}{a:Addr}{od:Option Addr}{its:Array Value}{n:Nat}{sl:Array (Option Value)}{ds:List D}{vs:List V}(h:mg x=some (.ref a))(l:K.lookup a=some ⟨.type "tuple",od,.seq its n,sl⟩)
  (hv:bF vs its.toList)(hz:its.size<=sizeLine)(hd:∀H,Reps K H ds vs):ug K mg x (.tup ds):=⟨.ref a,_,h,rfl,λH=>aP.mpr ⟨a,vs,rfl,.inr ⟨_,its,n,l,rfl,rfl,hz,hv⟩,hd H⟩⟩
noncomputable def gA(op op':D->D->aj D) (f g h:Ev->aj D):Ev->aj D:=λρ=>(f ρ).bind λx=>(g ρ).bind λy=>(op x y).bind λz=>match z with
 |.bl true=>(h ρ).bind λw=>op' y w
 |.bl false=>.ok (.bl false)
 |_=>.stuck
noncomputable def rV(r:R2) (o:D->D->aj D):Prop:=∀(K:W.Frag) (x y:D) (v u:V) (H Ha:Hp) (Q:VK) (d:D),aC Ha H->Rep K Ha x v->Rep K Ha y u->o x y=.ok d->(∀w,Rep K Ha d w->Q w H)->r v u H Q
theorem fB{gv:Int->Int->V}{g:Int->Int->D}(hg:∀K H i j,Rep K H (g i j) (gv i j)):rV (Ey gv) (wF (λ_ _=>true) g):=by
 intro K x y v u H Ha Q d hs r1 r2 e q;unfold wF at e;cases x with
 |int i =>
  cases y with|int j=>simp only[if_pos] at e;cases e;exact⟨i,j,az.mp r1,az.mp r2,q _ (hg _ _ i j)⟩| _=>cases e
 |_=>cases e
noncomputable def rW(o:D->D->aj D):Prop:=∀x y,∀z,o x y≠.exn z
theorem nO{r r':R2}{o o':D->D->aj D}(p:rV r o)(p':rV r' o')(n:rW o)(n':rW o')(σ:L2.St)(H:Hp)(Q:VK)(q:tD X.K E (gA o o' f g h) σ H Q) :
  xT r r' (tD X.K E f) (tD X.K E g) (tD X.K E h) σ H Q:=by
 obtain⟨Ha,ρ,hs,hr,q⟩:=q;refine⟨Ha,ρ,hs,hr,?_⟩;unfold gA at q;cases e1:f ρ with
 |stuck|exn x=>rw[e1] at q;exact q
 |ok x =>
  rw[e1] at q;intro v H1 H01 g1 r1;refine⟨H01,ρ,g1.sub,hr.mono g1.z,?_⟩;replace q:=post.grow (r:=(g ρ).bind λy=>(o x y).bind λz=>match z with
   |.bl true=>(h ρ).bind λw=>o' y w
   |.bl false=>.ok (.bl false)
   |_=>.stuck) q g1
  cases e2:g ρ with
  |stuck|exn x=>rw[e2] at q;exact q
  |ok y =>
   rw[e2] at q;intro u H2 H02 g2 r2;replace q:=post.grow (r:=(o x y).bind λz=>match z with
    |.bl true=>(h ρ).bind λw=>o' y w
    |.bl false=>.ok (.bl false)
    |_=>.stuck) q g2
   cases e3:o x y with
   |stuck=>rw[e3] at q;exact q.elim|exn z=>exact absurd e3 (n x y z)
   |ok z =>
    rw[e3] at q;refine p X.K x y v u H2 H02 _ z g2.sub (r1.mono g2.z) r2 e3 λw rw'=>?_;cases z with
    |bl b =>
     rw[aK.mp rw'];refine⟨b,rfl,?_⟩;cases b with
     |false=>rw[if_neg Bool.false_ne_true];exact q _ H2 H02 (bf.refl g2.sub) (rb _)
     |true =>
      rw[if_pos rfl];refine⟨H02,ρ,g2.sub,(hr.mono g1.z).mono g2.z,?_⟩;replace q:post X.K E H2 H02 ((h ρ).bind λw=>o' y w) Q:=q;cases e4:h ρ with
      |stuck|exn x=>rw[e4] at q;exact q
      |ok w2 =>
       rw[e4] at q;intro v3 H3 H03 g3 r3;replace q:=post.grow (r:=o' y w2) q g3;cases e5:o' y w2 with
       |stuck=>rw[e5] at q;exact q.elim|exn z=>exact absurd e5 (n' y w2 z)
       |ok d =>
        rw[e5] at q;exact p' X.K y w2 u v3 H3 H03 Q d g3.sub (r2.mono g3.z) r3 e5 λw3 r5=>q w3 H3 H03 (bf.refl g3.sub) r5
    |_=>exact q.elim
theorem Ec{op op':CmpOp}{r r':R2}{o o':D->D->aj D}(ho:ez X (compareOp op) r)(ho':ez X (compareOp op') r')(p:rV r o)(p':rV r' o')(n:rW o)(n':rW o')(ha:DE X E a f)(hb:DE X E b g)(hc:DE X E c h)
  (hm:lastMarks [op,op'] [b,c]=false:=by with_unfolding_all rfl):DE X E (.Compare a [op,op'] [b,c] pos) (gA o o' f g h):=⟨aZ (CV ho ho' ha.o hb.o hc.o hm) (nO p p' n n')⟩
theorem xo{op op':CmpOp}{r r':R2}{o o':D->D->aj D}(ho:ez X (compareOp op) r)(ho':ez X (compareOp op') r')(p:rV r o)(p':rV r' o')(n:rW o)(n':rW o')(ha:DE X E a f)(hb:DE X E b g)(hc:DE X E c h)
  (hm:lastMarks [op,op'] [b,c]=false:=by with_unfolding_all rfl):DT X E (.Compare a [op,op'] [b,c] pos) (gA o o' f g h):=by
 refine⟨?_⟩;refine fk (CI ho ho' ha.o hb.o hc.o hm) λσ H Q q=>?_;have w:tD X.K E (gA o o' f g h) σ H λx H'=>∃k,x=.bl k/\Q k H':=by
  obtain⟨Ha,ρ,hs,hr,q⟩:=q;refine⟨Ha,ρ,hs,hr,?_⟩;cases e1:gA o o' f g h ρ with
  |stuck|exn x=>rw[e1] at q;exact q
  |ok d =>
   rw[e1] at q;intro v H1 H01 g1 r1;cases d with|bl b=>rw[aK.mp r1];exact⟨b,rfl,q H1 H01 g1⟩| _=>exact q.elim
 exact nO p p' n n' σ H _ w
theorem fE{c:Int->Int->Bool}{g:Int->Int->D}:rW (wF c g):=by
 intro x y z;unfold wF;cases x<;>cases y<;>simp<;>split<;>simp
end
noncomputable def jy(i:Nat):Ev->Nat:=λρ=>match ρ[i]? with
 |some (.sh (.int j))=>j.natAbs+1
 |_=>0
section
variable {X:Cx}{E:XK}{a b:Expr}{f g:Ev->aj D}{pos:Pos}
noncomputable def b3(x y:D):aj D:=match x,y with
 |.int i,.int j=>if dG i j=true then .ok (.int (i*j)) else .stuck
 |_,_=>.stuck
theorem cR(ha:DE X E a f)(hb:DE X E b g):DE X E (.BinOp a .Mult b pos) (aa f g b3):=tO Fv (by
 intro x y v u H Ha Q hs r1 r2 q;unfold b3 at q;cases x with
 |int i =>
  cases y with
  |int j =>
   by_cases h:dG i j=true
   .simp only[if_pos h] at q
    exact⟨i,j,az.mp r1,az.mp r2,dG.ok h,bq hs q (ri _)⟩
   .simp only[if_neg h] at q;exact q.elim
  |_=>exact q.elim
 |_=>exact q.elim) ha hb
end
noncomputable def IG(K:W.Frag) (tg:Ev->D->aj Ev):TG:=λv σ H Q=>∃He H0e,tG K He H0e tg v σ H Q
noncomputable def gu:List D->Option (List Str)
 |[]=>some []
 |.str x::r=>(gu r).map (x::·)
 |_=>none
theorem vx{K:W.Frag}{H:Hp}:∀{ds:List D}{ys:List Str}{vs:List V}{us:List Value},gu ds=some ys->Reps K H ds vs->bF vs us->StrsAre us ys
 |[],ys,vs,us,h,r,q=>by
  cases h;rw[Reps.nil_iff.mp r] at q;cases q;exact .nil
 |d::ds,ys,vs,us,h,r,q=>by
  obtain⟨v,r',rfl,h1,h2⟩:=aJ.mp r;cases q with
  |cons q1 q2 =>
   cases d with
   |str x =>
    unfold gu at h;cases e:gu ds with
    |none=>rw[e] at h;cases h
    |some zs =>
     rw[e] at h;cases h;rw[Rep.str_iff.mp h1] at q1;obtain⟨t,rfl⟩:=q1;exact .cons _ _ (vx e h2 q2)
   |_=>cases h
section
variable {X:Cx}{E:XK}{o e:Expr}{fo:Ev->aj D}{fa:Ev->aj (List D)}
noncomputable def gp(z:Str) (ys:List Str):Bool:=decide (z.length<=16)&&decide ((ys.map (·.length)).sum+ys.length<=1048576)
noncomputable def J3(K:W.Frag):V->List V->Hp->VK->Prop:=λx xs H Q=>∃z p ds ys,x=.str z/\xs=[.ref p]/\Rep K H (.lst ds) (.ref p)/\gu ds=some ys/\gp z ys=true/\Q (.str (Txt.join z ys)) H
theorem FE:Mu X "str.join" (J3 X.K):=by
 intro pins s σ H x xs v us Q I rx rs h;obtain⟨z,p,ds,ys,rfl,rfl,hr,hy,hf,q⟩:=h;obtain⟨t,rfl⟩:=rx;obtain⟨u,rfl,ru⟩:=rs.one;obtain⟨a,vs,its,ea,rfl,h1,h2,h3,h4,_⟩:=bj I hr ru;unfold gp at hf;rw[Bool.and_eq_true] at hf;exact join_listW h4 (by simpa using vx hy h2 h3) (of_decide_eq_true hf.1) (of_decide_eq_true hf.2) λt' k=>⟨.str (Txt.join z ys),H,I.tok _,⟨_,rfl⟩,q⟩
noncomputable def lj(z:Str) (xs:List D):aj D:=match xs with
 |[.lst ds]=>match gu ds with
  |some ys=>if gp z ys=true then .ok (.str (Txt.join z ys)) else .stuck
  |none=>.stuck
 |_=>.stuck
noncomputable def tP(fo:Ev->aj D) (fa:Ev->aj (List D)):Ev->aj D:=λρ=>(fo ρ).bind λx=>match x with
 |.str z=>(fa ρ).bind λxs=>lj z xs
 |_=>.stuck
theorem F7{apos cpos:Pos}(ho:DE X E o fo)(ha:DA X E [e] fa)
  (hbase:attributeBase o "join" X.env (eval o X.env)=eval o X.env:=by rfl)
  (hfew:((backTo cpos (starEach [e] X.env)).all (λx=>!x.1)&&(backToKw cpos (keywordEach [] X.env)).all (λx=>x.1.isSome)
  &&decide ([e].length+([]:List Keyword).length+(if([]:List Keyword).isEmpty then 0 else 1)<30))=true:=by exact qc rfl)
  (hline:(apos.endLine==cpos.line)=true:=by rfl) (hs:starEach [e] X.env=(false,eval e X.env)::starEach [] X.env:=by exact bK rfl) (hplain:(backTo cpos (starEach [] X.env)).any (·.1)=false:=by exact cv rfl) :
  DE X E (.Call (.Attribute o "join" apos) [e] [] cpos) (tP fo fa):=by
 refine⟨?_⟩;refine aZ (CW PySem.F.plainAttrs_str PySem.F.slot_str_join PySem.F.type_str_join FE ho.o ha.o hbase hfew hline hs hplain) λσ H Q ⟨Ha,ρ,hs,hr,q⟩=>⟨Ha,ρ,hs,hr,?_⟩
 unfold tP at q;cases e1:fo ρ with
 |stuck|exn x=>rw[e1] at q;exact q
 |ok x =>
  rw[e1] at q;intro v H1 H01 g1 r1;cases x with
  |str z =>
   rw[Rep.str_iff.mp r1];refine⟨rfl,H01,ρ,g1.sub,hr.mono g1.z,?_⟩;replace q:=post.grow (r:=(fa ρ).bind λxs=>lj z xs) q g1;cases e2:fa ρ with
   |stuck|exn x=>rw[e2] at q;exact q
   |ok xs =>
    rw[e2] at q;intro us H2 H02 g2 r2;replace q:=post.grow (r:=lj z xs) q g2;unfold lj at q
    match xs,r2,q with
    |[.lst ds],r2,q =>
     obtain⟨w,r',rfl,k1,k2⟩:=aJ.mp r2;rw[Reps.nil_iff.mp k2];obtain⟨p,vs,rfl,k3,k4⟩:=aG.mp k1;cases e3:gu ds with
     |none=>simp only[e3] at q;exact q.elim
     |some ys =>
      simp only[e3] at q
      by_cases c:gp z ys=true
      .rw[if_pos c] at q
       exact⟨z,p,ds,ys,rfl,rfl,k1.mono g2.sub,e3,c,bq g2.sub q (Rep.str_iff.mpr rfl)⟩
      .rw[if_neg c] at q;exact q.elim
    |[],_,q=>exact q.elim
    |d1::_::_,_,q=>cases d1<;>exact False.elim q
    |[.non],_,q=>exact q.elim
    |[.bl _],_,q=>exact q.elim
    |[.int _],_,q=>exact q.elim
    |[.str _],_,q=>exact q.elim
    |[.tup _],_,q=>exact q.elim
    |[.dic _ _],_,q=>exact q.elim
    |[.exc _],_,q=>exact q.elim
    |[.ob _ _],_,q=>exact q.elim
  |_=>exact q.elim
end
section
variable {X:Cx}{E:XK}{a:Expr}{f:Ev->aj D}{pos:Pos}
noncomputable def LW:V->Option Int->Option Int->Hp->VK->Prop:=λx lo hi H Q=>∃z,x=.str z/\z.length<=sizeLine/\Q (.str (Txt.slice z lo hi)) H
theorem HD:EB X LW:=by
 intro pins s σ H x v vl vu lo hi sl Q I rx hs pl pu h;obtain⟨z,rfl,hz,q⟩:=h;obtain⟨t,rfl⟩:=rx;have fin:∀t' k,EP X pins σ Q (.str (Txt.slice z lo hi) t') { s with toks:=k }:=λt' k=>⟨.str (Txt.slice z lo hi),H,I.tok _,⟨_,rfl⟩,q⟩
 refine⟨"str",_,PySem.F.slot_str_getitem.lookup,typeIs_str s z t,?_⟩;cases pl with
 |none =>
  cases pu with|none=>exact wpAny_getItem_str_slice (l:=none) (u:=none) (st:=none) hs rfl (post_val_or_str ⟨Nat.le_trans (Txt.slice_le z _ _) hz,fin⟩)|int j uj=>exact wpAny_getItem_str_slice (l:=none) (u:=some (j,uj)) (st:=none) hs rfl (post_val_or_str ⟨Nat.le_trans (Txt.slice_le z _ _) hz,fin⟩)
 |int i ui =>
  cases pu with|none=>exact wpAny_getItem_str_slice (l:=some (i,ui)) (u:=none) (st:=none) hs rfl (post_val_or_str ⟨Nat.le_trans (Txt.slice_le z _ _) hz,fin⟩)|int j uj=>exact wpAny_getItem_str_slice (l:=some (i,ui)) (u:=some (j,uj)) (st:=none) hs rfl (post_val_or_str ⟨Nat.le_trans (Txt.slice_le z _ _) hz,fin⟩)
noncomputable def o9(x:D) (l h:Option Int):aj D:=match x with
 |.lst ds=>.ok (.lst (sE ds l h))
 |.str z=>if z.length<=line then .ok (.str (Txt.slice z l h)) else .stuck
 |.tup ds=>if HT.sIx ds.length 0 l=0/\HT.sIx ds.length ds.length h=ds.length then .stuck else .ok (.tup (sE ds l h))
 |_=>.stuck
noncomputable def BF(f:Ev->aj D) (lo hi:Ev->aj (Option Int)):Ev->aj D:=λρ=>(f ρ).bind λx=>(lo ρ).bind λl=>(hi ρ).bind λh=>o9 x l h
theorem tN{lo hi:Option Expr}{p2:Pos}{fl fh:Ev->aj (Option Int)}(ha:DE X E a f)(hl:DO X E lo fl)(hh:DO X E hi fh):DE X E (.Subscript a (.Slice lo hi none p2) pos) (BF f fl fh) :=
 ⟨aZ (vM (EB.or za (EB.or HD HC)) ha.o hl.o hh.o) (vy (m:=o9) λx v l h H Ha Q hs r q=>by
  cases x with
  |lst ds =>
   obtain⟨p,vs,rfl,h1,h2⟩:=aG.mp r;exact .inl ⟨p,vs,rfl,aC.sqL hs h1,λn hn=>q _ _ _ (bu hs hn) (aG.mpr ⟨n,_,rfl,eZ.of aI,(h2.cut l h).mono (bu hs hn).z⟩)⟩
  |str z =>
   unfold o9 at q
   by_cases c:z.length<=line
   .simp only[if_pos c] at q
    exact .inr (.inl ⟨z,Rep.str_iff.mp r,cO c,bq hs q (Rep.str_iff.mpr rfl)⟩)
   .simp only[if_neg c] at q;exact q.elim
  |tup ds =>
   unfold o9 at q
   by_cases c:HT.sIx ds.length 0 l=0/\HT.sIx ds.length ds.length h=ds.length
   .simp only[if_pos c] at q;exact q.elim
   .simp only[if_neg c] at q
    obtain⟨p,vs,rfl,h1,h2⟩:=aP.mp r;exact .inr (.inr ⟨p,vs,rfl,aC.sqT hs h1,by rw[←h2.length];exact c,λn hn=>q _ _ _ (bu hs hn) (aP.mpr ⟨n,_,rfl,jO.of aI,(h2.cut l h).mono (bu hs hn).z⟩)⟩)
  |_=>exact q.elim)⟩
end
noncomputable def Mx(z:Str):It:=⟨λi _=>i<z.cps.size,λi H x H'=>H'=H/\∃c,z.cps[i]?=some c/\x=.str ⟨#[c]⟩,λi _=>z.cps.size<=i⟩
theorem xR{P:Program}{w:World}{K:W.Frag}{tg:Expr}(z:Str)(t:Tok)(it:Addr):yV P w K tg (Mx z) [it] it (λi h=>h.IsStrIter it "str_ascii_iterator" z t i) where
 mem:=by simp
 obj:=λi h st b hb=>by
  have e:b=it:=by simpa using hb
  subst e;obtain⟨o,e,c,d⟩:=st;exact⟨o,e,λv z=>by rw[d] at z;cases z⟩
 keep:=λi h h' st k=>let ⟨o,ho,r⟩:=st;⟨o,k it (by simp) o ho,r⟩
 item:=by
  intro X hP hw hK hc i pins s σ H E I hf st hg;subst hP hw hK;have hg':i<z.cps.size:=hg;obtain⟨f0,f1,f2,f3,f4,f5⟩:=hf it (by simp);refine wpAny_pyNext_ascii_item st (c:=z.cps[i]) (by simp [hg']) λh' st' sb=>?_;have I1:Inv X pins σ H { s with heap:=h',toks:=s.toks+1 }:=I.turned (t':=s.toks+1) (λb o hb e=>(sb.2 b hb).trans e) f0 f1 f3 f4 f5;obtain⟨o,e,c,d⟩:=id st';exact⟨_,rfl,wH (s:={ s with heap:=h',toks:=s.toks+1 }) e c d (by decide) ⟨.str ⟨#[z.cps[i]]⟩,H,I1,⟨_,rfl⟩,⟨rfl,_,by simp [hg'],rfl⟩,st',λb hb=>(hf b hb).1⟩⟩
 done:=by
  intro X hP hw hK hc i pins s σ H E I hf st hg;subst hP hw hK;have hg':z.cps.size<=i:=hg;obtain⟨f0,f1,f2,f3,f4,f5⟩:=hf it (by simp);exact wpAny_pyNext_ascii_end (I.ok.hd hc) st (by simp [hg']) λh' eb=>⟨rfl,I.turned (t':=s.toks) (λb o hb e=>eb b o hb e) f0 f1 f3 f4 f5⟩
 self:=λ_ _ _ _ _ st h=>wpAny_pyIter_striter_ascii st h
theorem AR{P:Program}{w:World}{K:W.Frag}{tg:Expr}(z:Str)(t:Tok)(it:Addr):yV P w K tg (Mx z) [it] it (λi h=>h.IsStrIter it "str_iterator" z t i) where
 mem:=by simp
 obj:=λi h st b hb=>by
  have e:b=it:=by simpa using hb
  subst e;obtain⟨o,e,c,d⟩:=st;exact⟨o,e,λv z=>by rw[d] at z;cases z⟩
 keep:=λi h h' st k=>let ⟨o,ho,r⟩:=st;⟨o,k it (by simp) o ho,r⟩
 item:=by
  intro X hP hw hK hc i pins s σ H E I hf st hg;subst hP hw hK;have hg':i<z.cps.size:=hg;obtain⟨f0,f1,f2,f3,f4,f5⟩:=hf it (by simp);refine wpAny_pyNext_wide_item st (c:=z.cps[i]) (by simp [hg']) λh' st' sb=>?_;have I1:Inv X pins σ H { s with heap:=h',toks:=s.toks+1 }:=I.turned (t':=s.toks+1) (λb o hb e=>(sb.2 b hb).trans e) f0 f1 f3 f4 f5;obtain⟨o,e,c,d⟩:=id st';exact⟨_,rfl,wH (s:={ s with heap:=h',toks:=s.toks+1 }) e c d (by decide) ⟨.str ⟨#[z.cps[i]]⟩,H,I1,⟨_,rfl⟩,⟨rfl,_,by simp [hg'],rfl⟩,st',λb hb=>(hf b hb).1⟩⟩
 done:=by
  intro X hP hw hK hc i pins s σ H E I hf st hg;subst hP hw hK;have hg':z.cps.size<=i:=hg;obtain⟨f0,f1,f2,f3,f4,f5⟩:=hf it (by simp);exact wpAny_pyNext_wide_end (I.ok.hd hc) st (by simp [hg']) λh' eb=>⟨rfl,I.turned (t':=s.toks) (λb o hb e=>eb b o hb e) f0 f1 f3 f4 f5⟩
 self:=λ_ _ _ _ _ st h=>wpAny_pyIter_striter_wide st h
noncomputable def Mb(tl:TE):TI:=λσ H R=>tl σ H λx H1=>∃z,x=.str z/\R (Mx z) H1
theorem HU{X:Cx}{tg l:Expr}{tl:TE}(hl:PE X l tl):PI X tg l (Mb tl):=by
 intro pins s σ H R I h;refine cy (hl pins s σ H _ I h) λv s1 ⟨x,H1,I1,r1,q1⟩=>?_;obtain⟨z,rfl,q⟩:=q1;obtain⟨t,rfl⟩:=r1;have fpo:∀b∈[s1.heap.objs.size],mL X pins H1 b:=λb hb=>by
  have e:b=s1.heap.objs.size:=by simpa using hb
  subst e;exact I1.fpOk (Nat.le_refl _) (I1.hok.fresh (Nat.le_refl _))
 cases ha:z.cps.all (· < 128) with|false=>exact wpAny_pyIter_wide ha ⟨s1.heap.objs.size,[s1.heap.objs.size],_,_,H1,rfl,I1.kept (t':=s1.toks) λb o e=>Heap.get?_push_of_some _ e,AR z t _,⟨_,Heap.get?_push_size _ rfl,rfl,rfl⟩,fpo,q⟩|true=>exact wpAny_pyIter_ascii ha ⟨s1.heap.objs.size,[s1.heap.objs.size],_,_,H1,rfl,I1.kept (t':=s1.toks) λb o e=>Heap.get?_push_of_some _ e,xR z t _,⟨_,Heap.get?_push_size _ rfl,rfl,rfl⟩,fpo,q⟩
noncomputable def iM(z:Str):List D:=z.cps.toList.map λc=>.str ⟨#[c]⟩
theorem kc(z:Str):(iM z).length=z.cps.size:=by unfold iM;simp
section
variable {X:Cx}{E:XK}
noncomputable def Kb(K:W.Frag):List V->Hp->VK->Prop:=λxs H Q=>∃(p:Addr) (bs:List Bool),xs=[.ref p]/\eZ K H p (bs.map V.bl)/\Q (.bl (bs.all id)) H
theorem ub:∀bs:List Bool,(List.range bs.length).all (λi=>bs.getD i false)=bs.all id
 |[]=>rfl
 |b::r=>by
  rw[List.length_cons,List.range_succ_eq_map,List.all_cons,List.all_map,List.all_cons,←ub r];rfl
theorem xC(hc:X.calm=true):jo X (.builtin "all") (Kb X.K):=by
 intro pins s σ H xs us Q I r h;obtain⟨p,bs,rfl,hq,q⟩:=h;obtain⟨u,rfl,rx⟩:=sJ r;cases rx;obtain⟨its,rv,pl,hz⟩:=I.list hq;have hlen:=rv.length;rw[List.length_map] at hlen;have hne:p≠s.heap.objs.size:=Nat.ne_of_lt pl.lt;refine call_all_walk (wpAny_pyIter_list pl.isList ?_);have pl2:(s.heap.push { cls:=.type "list_iterator",data:=.fields #[.ref p,.int 0 0] }).IsList p its.toArray:=by
  obtain⟨o,k1,k2⟩:=pl.isList;exact⟨o,Heap.get?_push_of_some _ k1,k2⟩
 refine⟨s.heap.objs.size,_,_,_,_,_,λi=>bs.getD i false,rfl,Walks.list (A:=X.A.in1) (I.ok.hd hc) s.heap.objs.size p hne its.toArray,⟨⟨_,Heap.get?_push_size _ rfl,rfl,rfl⟩,pl2⟩,?_,λh' tk hk=>?_⟩
 .intro i v s' Q' E' hv hQ
  have hv':its[i]?=some v:=by simpa using hv
  have hi:i<its.length:=(List.getElem?_eq_some_iff.mp hv').1;obtain⟨w,e1,e2⟩:=rv.get (show(bs.map V.bl)[i]?=some (V.bl (bs.getD i false)) by
   rw[List.getElem?_map,List.getElem?_eq_getElem (by omega)];simp [List.getD,List.getElem?_eq_getElem (show i<bs.length by omega)])
  rw[hv'] at e1;cases e1;obtain rfl:v=Value.bool _:=e2;exact wpAny_truthy_bool hQ
 .have hall:(List.range its.toArray.size).all (λi=>bs.getD i false)=bs.all id:=by
   rw[List.size_toArray,←hlen];exact ub bs
  rw[hall];exact⟨.bl _,H,I.kept (t':=tk) (λb o e=>hk b o (by simp only[List.mem_singleton];exact Nat.ne_of_lt (Heap.lt_size e)) (Heap.get?_push_of_some _ e)),rfl,q⟩
noncomputable def eg:List D->Option (List Bool)
 |[]=>some []
 |.bl b::r=>(eg r).map (b::·)
 |_=>none
theorem tW{K:W.Frag}{H:Hp}:∀{ds:List D}{bs:List Bool}{vs:List V},eg ds=some bs->Reps K H ds vs->vs=bs.map V.bl
 |[],bs,vs,h,r=>by cases h;exact Reps.nil_iff.mp r
 |d::ds,bs,vs,h,r=>by
  obtain⟨v,r',rfl,h1,h2⟩:=aJ.mp r;cases d with
  |bl x =>
   unfold eg at h;cases e:eg ds with
   |none=>rw[e] at h;cases h
   |some zs =>
    rw[e] at h;cases h;rw[aK.mp h1,tW e h2];rfl
  |_=>cases h
noncomputable def yJ(x:D):aj D:=match x with
 |.lst ds=>match eg ds with
  |some bs=>.ok (.bl (bs.all id))
  |none=>.stuck
 |_=>.stuck
theorem Eg:gR X E (Kb X.K) (m1 yJ):=xD λx v H Ha Q hs r q=>by
 cases x with
 |lst ds =>
  unfold yJ at q;obtain⟨p,vs,rfl,h1,h2⟩:=aG.mp r;cases e:eg ds with
  |none=>simp only[e] at q;exact q.elim
  |some bs =>
   simp only[e] at q;exact⟨p,bs,rfl,by rw[←tW e h2];exact aC.sqL hs h1,bq hs q (rb _)⟩
 |_=>exact q.elim
end
end DL
namespace L2
open PySem PySem.Spec PyProof.Rows
section
variable {κ:Type}[DecidableEq κ]
noncomputable def n6(kvs:List (κ×V)) (k:κ):Option V:=(kvs.find? λkv=>decide (kv.1=k)).map (·.2)
noncomputable def gG(kvs:List (κ×V)) (k:κ) (v:V):List (κ×V) :=
 if(kvs.any λkv=>decide (kv.1=k))=true then kvs.map (λkv=>if kv.1=k then(kv.1,v) else kv) else kvs++[(k,v)]
theorem kL{p:κ×V}{r:List (κ×V)}{k:κ}(e:p.1=k):n6 (p::r) k=some p.2:=by simp [n6,List.find?_cons,e]
theorem iK{p:κ×V}{r:List (κ×V)}{k:κ}(e:¬p.1=k):n6 (p::r) k=n6 r k:=by simp [n6,List.find?_cons,e]
theorem vq(k:κ):∀kvs:List (κ×V),(kvs.any λkv=>decide (kv.1=k))=(n6 kvs k).isSome
 |[]=>rfl
 |p::r=>by
  rw[List.any_cons]
  by_cases e:p.1=k
  .simp only[kL e,decide_eq_true e,Bool.true_or,Option.isSome_some]
  .rw[iK e,decide_eq_false e,Bool.false_or];exact vq k r
theorem iU(kvs:List (κ×V))(k:κ)(v:V):(gG kvs k v).length<=kvs.length+1:=by
 unfold gG;split
 .rw[List.length_map];omega
 .rw[List.length_append,List.length_cons,List.length_nil];omega
theorem xG.isSome_eq{o:Option V}{u:Option Value}(r:xG o u):o.isSome=u.isSome:=by
 cases o with
 |none=>cases u with
  |none=>rfl
  |some _=>exact(show False from r).elim
 |some _=>cases u with
  |none=>exact(show False from r).elim
  |some _=>rfl
theorem KV.val{kvs:List (κ×V)}{vs:List (κ×Value)}(r:KV kvs vs)(k:κ):xG (n6 kvs k) (valueAt vs k):=by
 unfold KV at r
 induction r with
 |nil=>exact True.intro
 |@cons p q ps qs h t ih =>
  obtain⟨h1,h2⟩:=h
  by_cases e:p.1=k
  .have e':q.1=k:=h1.symm.trans e
   have b:valueAt (q::qs) k=some q.2:=by simp [valueAt,List.find?_cons,e']
   rw[kL e,b];exact h2
  .have e':¬q.1=k:=λz=>e (h1.trans z)
   have b:valueAt (q::qs) k=valueAt qs k:=by simp [valueAt,List.find?_cons,e']
   rw[iK e,b];exact ih
theorem KV.any{kvs:List (κ×V)}{vs:List (κ×Value)}(r:KV kvs vs)(k:κ):(kvs.any λkv=>decide (kv.1=k))=vs.any λkv=>decide (kv.1=k):=by
 unfold KV at r
 induction r with|nil=>rfl|cons h t ih=>rw[List.any_cons,List.any_cons,ih,h.1]
theorem KV.repl{kvs:List (κ×V)}{vs:List (κ×Value)}(r:KV kvs vs)(k:κ){y:V}{u:Value}(ry:bz y u) :
  KV (kvs.map λkv=>if kv.1=k then(kv.1,y) else kv) (vs.map λkv=>if kv.1=k then(kv.1,u) else kv):=by
 unfold KV at r ⊢
 induction r with
 |nil=>exact .nil
 |@cons p q ps qs h t ih =>
  rw[List.map_cons,List.map_cons];refine .cons ?_ ih;obtain⟨h1,h2⟩:=h
  by_cases e:p.1=k
  .rw[if_pos e,if_pos (h1.symm.trans e)];exact⟨h1,ry⟩
  .rw[if_neg e,if_neg (λz=>e (h1.trans z))];exact⟨h1,h2⟩
theorem KV.put{kvs:List (κ×V)}{vs:List (κ×Value)}(r:KV kvs vs)(k:κ){y:V}{u:Value}(ry:bz y u):KV (gG kvs k y) (stored vs k u):=by
 unfold gG stored;rw[r.any k]
 by_cases e:(vs.any λkv=>decide (kv.1=k))=true
 .rw[if_pos e,if_pos e];exact r.repl k ry
 .rw[if_neg e,if_neg e];exact Paired.snoc r ⟨rfl,ry⟩
theorem KV.length{kvs:List (κ×V)}{vs:List (κ×Value)}(r:KV kvs vs):kvs.length=vs.length:=Paired.length r
end
theorem sY{P:Program}{w:World}{k:dM}{u:Value}(r:bz (kV k) u):(cN P w).is k u=true:=by
 cases k with|inl i=>obtain⟨t,e⟩:=(show ∃t,u=Value.int i t from r);subst e;exact wm P w i t|inr x=>obtain⟨t,e⟩:=(show ∃t,u=Value.str x t from r);subst e;exact wj P w x t
theorem sZ{P:Program}{w:World}:∀{ks:List dM}{us:List Value},bF (ks.map kV) us->ItemsAre (cN P w) ks us
 |[],_,r=>by rw[List.map_nil] at r;cases r;exact .nil
 |k::ks,_,r=>by
  rw[List.map_cons] at r;cases r with|cons h t=>exact .cons (sY h) (sZ t)
noncomputable abbrev KT(H:Hp):List (List dM×V)->List (List dM×Addr×Value)->Prop:=Paired λp q=>p.1=q.1/\H q.2.1=some (.tup (p.1.map kV))/\bz p.2 q.2.2
theorem KT.val{H:Hp}{kvs:List (List dM×V)}{xs:List (List dM×Addr×Value)}(r:KT H kvs xs)(k:List dM):xG (n6 kvs k) ((atKey xs k).map (·.2)):=by
 induction r with
 |nil=>exact True.intro
 |@cons p q ps qs h t ih =>
  obtain⟨h1,_,h2⟩:=h
  by_cases e:p.1=k
  .have e':q.1=k:=h1.symm.trans e
   have b:atKey (q::qs) k=some q.2:=by simp [atKey,List.find?_cons,e']
   rw[kL e,b];exact h2
  .have e':¬q.1=k:=λz=>e (h1.trans z)
   have b:atKey (q::qs) k=atKey qs k:=by simp [atKey,List.find?_cons,e']
   rw[iK e,b];exact ih
theorem KT.repl{H:Hp}{kvs:List (List dM×V)}{xs:List (List dM×Addr×Value)}(r:KT H kvs xs)(k:List dM){y:V}{u:Value}(ry:bz y u) :
  KT H (kvs.map λkv=>if kv.1=k then(kv.1,y) else kv) (xs.map (putAt k u)):=by
 induction r with
 |nil=>exact .nil
 |@cons p q ps qs h t ih =>
  rw[List.map_cons,List.map_cons];refine .cons ?_ ih;obtain⟨h1,h2,h3⟩:=h;unfold putAt
  by_cases e:p.1=k
  .rw[if_pos e,if_pos (h1.symm.trans e)];exact⟨h1,h2,ry⟩
  .rw[if_neg e,if_neg (λz=>e (h1.trans z))];exact⟨h1,h2,h3⟩
theorem KT.put{H:Hp}{kvs:List (List dM×V)}{xs:List (List dM×Addr×Value)}(r:KT H kvs xs)(k:List dM){b:Addr}{y:V}{u:Value}(hb:H b=some (.tup (k.map kV)))(ry:bz y u) :
  KT H (gG kvs k y) (storedH xs k b u):=by
 have e:(kvs.any λkv=>decide (kv.1=k))=(atKey xs k).isSome:=by
  rw[vq,(r.val k).isSome_eq,Option.isSome_map]
 unfold gG storedH;rw[e]
 by_cases q:(atKey xs k).isSome=true
 .rw[if_pos q,if_pos q];exact r.repl k ry
 .rw[if_neg q,if_neg q];exact Paired.snoc r ⟨rfl,hb,ry⟩
theorem KT.keeps{H H':Hp}{kvs:List (List dM×V)}{xs:List (List dM×Addr×Value)}(r:KT H kvs xs)(ht:∀b ys,H b=some (.tup ys)->H' b=some (.tup ys)):KT H' kvs xs :=
 jn r λ_ _ z=>⟨z.1,ht _ _ z.2.1,z.2.2⟩
section
variable {P:Program}{w:World}{H:Hp}{h:Heap}{a:Addr}
theorem GG{u:HO}(ok:kI P w H h)(e:Rd H a u):cW P w H h a u:=e.ok ok
theorem tK{kvs:List (dM×V)}(ok:kI P w H h)(e:Rd H a (.dK kvs)):kvs.length<=sizeLine/\(a==sysModules)=false/\∃vs,KV kvs vs/\h.DictOf (cN P w) a vs :=
 show cW P w H h a (.dK kvs) from GG ok e
theorem G9{kvs:List (dM×V)}(ok:kI P w H h)(e:H a=some (.dK kvs)):kvs.length<=sizeLine/\(a==sysModules)=false/\∃vs,KV kvs vs/\h.DictOf (cN P w) a vs:=tK ok (.inl e)
theorem pU{ks:List dM}(ok:kI P w H h)(e:H a=some (.tup (ks.map kV))):(tupleKind (cN P w)).is h ks a:=by
 obtain⟨_,its,r,o,h1,h2,n,h3⟩:=(show cW P w H h a (.tup (ks.map kV)) from ok a _ e)
 exact⟨o,its.toArray,n,h1,h2,h3,by simpa using sZ r⟩
theorem xn{kvs:List (List dM×V)}(ok:kI P w H h)(e:Rd H a (.dT kvs)):kvs.length<=sizeLine/\(a==sysModules)=false /\
  ∃xs,KT H kvs xs/\h.DictOfH (tupleKind (cN P w)) a xs:=by
 obtain⟨z,y,xs,r,o,es,ep,h1,h2,h3,h4,h5⟩:=(show cW P w H h a (.dT kvs) from GG ok e)
 refine⟨z,y,xs,r,o,es,ep,h1,h2,h3,h4,λx hx=>?_,h5⟩;have all:∀{l:List (List dM×V)}{m:List (List dM×Addr×Value)},KT H l m->∀x∈m,(tupleKind (cN P w)).is h x.1 x.2.1:=by
  intro l m q
  induction q with
  |nil=>intro x hx;exact nomatch hx
  |@cons p q ps qs hq t ih =>
   intro x hx;rcases List.mem_cons.mp hx with e|hx
   .subst e
    exact pU ok (by rw[←hq.1];exact hq.2.1)
   .exact ih x hx
 exact all r x hx
theorem K2{kvs:List (List dM×V)}(ok:kI P w H h)(e:H a=some (.dT kvs)):kvs.length<=sizeLine/\(a==sysModules)=false /\
  ∃xs,KT H kvs xs/\h.DictOfH (tupleKind (cN P w)) a xs:=xn ok (.inl e)
end
noncomputable def vj(H:Hp) (a:Addr) (y:V) (r:Option V):Prop :=
 (∃kvs k,Rd H a (.dK kvs)/\y=kV k/\r=n6 kvs k)∨∃kvs k b,Rd H a (.dT kvs)/\y=.ref b/\H b=some (.tup (k.map kV))/\r=n6 kvs k
noncomputable def yY(H:Hp) (a:Addr) (y v:V) (H':Hp):Prop :=
 (∃kvs k,H a=some (.dK kvs)/\y=kV k/\kvs.length<sizeLine/\H'=upd H a (.dK (gG kvs k v))) ∨
 ∃kvs k b,H a=some (.dT kvs)/\y=.ref b/\H b=some (.tup (k.map kV))/\kvs.length<sizeLine/\H'=upd H a (.dT (gG kvs k v))
theorem yY.k{H:Hp}{a:Addr}{kvs:List (dM×V)}{k:dM}{v:V}(e:H a=some (.dK kvs))(hl:kvs.length<sizeLine):yY H a (kV k) v (upd H a (.dK (gG kvs k v))):=.inl ⟨kvs,k,e,rfl,hl,rfl⟩
section
variable {X:Cx}{pins:List (Addr×Obj)}{σ:St}{H:Hp}{s:Shared}{a:Addr}{y v:V}{u r:Value}{o:Option V}{A:Around}{E:Value->Shared->Prop}
theorem Inv.big(I:Inv X pins σ H s):sysModules<s.heap.objs.size:=by
 have h:mainGlobals<s.heap.objs.size:=(I.mod.glob.keeps I.bk).lt;exact Nat.lt_trans (by decide) h
theorem BE{Q:Value->Shared->Prop}(hu:A.units+1<cLine)(I:Inv X pins σ H s)(g:vj H a y (some v))(ry:bz y u)(h:∀w' s',Inv X pins σ H s'->bz v w'->Q w' s') :
  wpAny (model X.prog X.w) A (getItem (.ref a) u) Q E s:=by
 rcases g with⟨kvs,k,e,ey,l⟩|⟨kvs,k,b,e,ey,eb,l⟩
 .subst ey
  obtain⟨z,hd,vs,rel,dd⟩:=tK I.hok e;obtain⟨w',hw,rw'⟩:=mG (v:=v) (o:=valueAt vs k) (by rw[l];exact rel.val k);exact wpAny_getItem_of (sY ry) dd.mapOf hw (h w' _ (I.tok _) rw')
 .subst ey
  cases (show u=Value.ref b from ry);obtain⟨z,hd,xs,rel,dd⟩:=xn I.hok e;obtain⟨w',hw,rw'⟩:=mG (v:=v) (o:=(atKey xs k).map (·.2)) (by rw[l];exact rel.val k);obtain⟨p,hp,hp2⟩:=Option.map_eq_some_iff.mp hw;refine wpAny_getItem_heap (tupleKind_room_in1 hu) (pU I.hok eb) dd hp ?_;rw[hp2];exact h w' _ (I.tok _) rw'
theorem Mg{Q:Value->Shared->Prop}(hu:A.units+1<cLine)(I:Inv X pins σ H s)(g:vj H a y o)(ry:bz y u)(h:∀s',Inv X pins σ H s'->Q (.bool o.isSome) s') :
  wpAny (model X.prog X.w) A (compareOp .In u (.ref a)) Q E s:=by
 rcases g with⟨kvs,k,e,ey,l⟩|⟨kvs,k,b,e,ey,eb,l⟩
 .subst ey
  obtain⟨z,hd,vs,rel,dd⟩:=tK I.hok e;refine wpAny_in_of (sY ry) hd dd.mapOf ?_;rw[←(rel.val k).isSome_eq,←l];exact h _ (I.tok _)
 .subst ey
  cases (show u=Value.ref b from ry);obtain⟨z,hd,xs,rel,dd⟩:=xn I.hok e;refine wpAny_in_heap (tupleKind_room_in1 hu) (pU I.hok eb) hd dd ?_;have q:=(rel.val k).isSome_eq;rw[Option.isSome_map] at q;rw[←q,←l];exact h _ (I.tok _)
theorem Ga{Q:Value->Shared->Prop}(hu:A.units+1<cLine)(I:Inv X pins σ H s)(g:vj H a y o)(ry:bz y u)(h:∀s',Inv X pins σ H s'->Q (.bool (!o.isSome)) s') :
  wpAny (model X.prog X.w) A (compareOp .NotIn u (.ref a)) Q E s:=by
 rcases g with⟨kvs,k,e,ey,l⟩|⟨kvs,k,b,e,ey,eb,l⟩
 .subst ey
  obtain⟨z,hd,vs,rel,dd⟩:=tK I.hok e;refine wpAny_notIn_of (sY ry) hd dd.mapOf ?_;rw[←(rel.val k).isSome_eq,←l];exact h _ (I.tok _)
 .subst ey
  cases (show u=Value.ref b from ry);obtain⟨z,hd,xs,rel,dd⟩:=xn I.hok e;refine wpAny_notIn_heap (tupleKind_room_in1 hu) (pU I.hok eb) hd dd ?_;have q:=(rel.val k).isSome_eq;rw[Option.isSome_map] at q;rw[←q,←l];exact h _ (I.tok _)
theorem vb{h':Heap}{t':Nat}{ob:HO}(I:Inv X pins σ H s)(mu:Lc (H a))(hs:Heap.SameBut a s.heap h')(he:∃q,h'.get? a=some q)(new:cW X.prog X.w (upd H a ob) h' a ob) :
  Inv X pins σ (upd H a ob) { s with heap:=h',toks:=t' } :=
 I.write (x:=a) (e:=a) mu (.inl rfl) (λb q hb z=>(hs.2 b hb).trans z) he new
theorem D6{P:Program}{w:World}{H':Hp}{h':Heap}{kvs:List (dM×V)}{vs:List (dM×Value)}(z:kvs.length<=sizeLine)(hd:(a==sysModules)=false)(rel:KV kvs vs)(dd:h'.DictOf (cN P w) a vs) :
  cW P w H' h' a (.dK kvs):=⟨z,hd,vs,rel,dd⟩
theorem BD{H':Hp}{Q:Unit->Shared->Prop}(hu:A.units+1<cLine)(I:Inv X pins σ H s)(g:yY H a y v H')(ry:bz y u)(rv:bz v r)(h:∀s',Inv X pins σ H' s'->Q () s') :
  wpAny (model X.prog X.w) A (setItem (.ref a) u r) Q E s:=by
 rcases g with⟨kvs,k,e,ey,l,eH⟩|⟨kvs,k,b,e,ey,eb,l,eH⟩
 .subst ey eH
  obtain⟨z,hd,vs,rel,dd⟩:=G9 I.hok e;have hz:vs.length<=sizeLine:=by rw[←rel.length];exact z
  have hl:(gG kvs k v).length<=sizeLine:=by have:=iU kvs k v;omega
  refine wpAny_setItem_pairs (hsz:=hz) (sY ry) dd λh' dd' hs=>h _ ?_;have he:∃q,h'.get? a=some q:=let ⟨q,_,_,hq,_⟩:=dd';⟨q,hq⟩;exact vb I (by rw[e];exact True.intro) hs he (D6 hl hd (rel.put k rv) dd')
 .subst ey eH
  cases (show u=Value.ref b from ry);obtain⟨z,hd,xs,rel,dd⟩:=K2 I.hok e;have hz:xs.length<=sizeLine:=by rw[←Paired.length rel];exact z
  have hl:(gG kvs k v).length<=sizeLine:=by have:=iU kvs k v;omega
  refine wpAny_setItem_heap (hsz:=hz) (tupleKind_room_in1 hu) (pU I.hok eb) dd λh' dd' hs=>h _ ?_;obtain⟨q,es,ep,hq,h2,h3,h4,_,h5⟩:=dd';refine vb I (by rw[e];exact True.intro) hs ⟨q,hq⟩ ⟨hl,hd,_,(rel.put k eb rv).keeps λc ys ec=>?_,q,es,ep,hq,h2,h3,h4,h5⟩;rw[aA (Ku ec e (λz=>nomatch z))];exact ec
end
section
variable {X:Cx}{pins:List (Addr×Obj)}{σ:St}{H:Hp}{s:Shared}{a:Addr}{kvs:List (dM×V)}{k:dM}{u:Value}{A:Around}{E:Value->Shared->Prop}
theorem K7{Q:Value->Shared->Prop}(I:Inv X pins σ H s)(e:Rd H a (.dK kvs))(h:∀t s',Inv X pins σ H s'->Q (.int kvs.length t) s'):wpAny (model X.prog X.w) A (call (.builtin "len") [.ref a]) Q E s:=by
 obtain⟨z,hd,vs,rel,dd⟩:=tK I.hok e;refine call_len_dict hd dd (by rw[←rel.length];rw[sizeLine_eq] at z;omega) ?_;rw[←rel.length];exact h _ _ (I.tok _)
end
noncomputable def Jt(i:Expr):Prop:=∀ov iv,subscripted i false ov iv=operate [ov,iv] (getItem ov iv)
theorem E3{prog:Program}{w:World}{A:Around}{E:Value->Shared->Prop}{s:Shared}{env:Env}{value slice:Expr}{pos:Pos}{T id:String}{Q:Value->Shared->Prop}
  (hl:typeLookup (.type T) "__getitem__"=pure (some (.builtin id)))(hs:Jt slice)
  (h:wpAny (model prog w) A (eval value env) (λo sg=>wpAny (model prog w) A (eval slice env) (λi si=>si.TypeIs o T/\wpAny (model prog w) A (getItem o i) Q E si) E sg) E s) :
  wpAny (model prog w) A (eval (.Subscript value slice pos) env) Q E s:=by
 refine Subscript_ (wpAny_mono h (λo sg hE=>wpAny_mono hE (λi si hU=>?_) λ_ _ x=>x) λ_ _ x=>x);obtain⟨hT,hU⟩:=hU;unfold subscriptTail;refine wpAny_bind ?_;rw[getitemInPython_of_ne hT.not_modules];refine wpAny_bind (wpAny_specialOf hT hl ?_);have fin:wpAny (model prog w) A (subscripted slice false o i) (λr sj=>wpAny (model prog w) A (letTemporaryGo value o r >>= λ_=>pure r) Q E sj) E si:=by
  rw[hs o i];exact wpAny_operating (wpAny_mono hU (λr sj hV=>wpAny_bind (wpAny_letTemporaryGo (wpAny_pure hV))) λ_ _ x=>x)
 first
  |exact wpAny_pure (wpAny_bind fin)
  |exact wpAny_bind (wpAny_pure (wpAny_bind fin))
  |exact wpAny_bind fin
theorem xq{X:Cx}{pins:List (Addr×Obj)}{σ:St}{H:Hp}{s:Shared}{a:Addr}{y:V}{o:Option V}(I:Inv X pins σ H s)(g:vj H a y o):s.TypeIs (.ref a) "dict":=by
 rcases g with⟨kvs,k,e,_,_⟩|⟨kvs,k,b,e,_,_,_⟩
 .obtain⟨_,_,vs,_,dd⟩:=tK I.hok e
  exact dd.typeIs
 .obtain⟨_,_,xs,_,dd⟩:=xn I.hok e
  exact dd.typeIs
noncomputable def JT(td ty:TE):TE:=λσ H Q=>td σ H λx H1=>ty σ H1 λy H2=>∃a v,x=.ref a/\vj H2 a y (some v)/\Q v H2
noncomputable def J0(td ty tv:TE):TS:=λD σ H=>tv σ H λv H1=>td σ H1 λx H2=>ty σ H2 λy H3=>∃a H4,x=.ref a/\yY H3 a y v H4/\D.nx σ H4
section
variable {X:Cx}{o i e value:Expr}{pos pos' tpos:Pos}{td ty tv:TE}
theorem Fs(hu:X.A.units+1<cLine)(ho:PE X o td)(hi:PE X i ty)(hs:Jt i):PE X (.Subscript o i pos) (JT td ty):=by
 intro pins s σ H Q I h;refine E3 PySem.F.slot_dict_getitem.lookup hs (cy (ho pins s σ H _ I h) λu s1 ⟨x,H1,I1,rx,q1⟩=>cy (hi pins s1 σ H1 _ I1 q1) λiv s2 ⟨y,H2,I2,ry,a,v,ex,g,q2⟩=>?_);subst ex;obtain rfl:u=Value.ref a:=rx;exact⟨xq I2 g,BE hu I2 g ry λw' s3 I3 rw'=>⟨v,H2,I3,rw',q2⟩⟩
theorem zk(hu:X.A.units+1<cLine)(ho:PE X o td)(hi:PE X i ty)(hv:PE X value tv)(hs:swapsWith value (some (.Subscript o i pos')) pos.line X.env=pure false) :
  PS X (.Assign [.Subscript o i pos'] value pos) (J0 td ty tv):=by
 intro pins s σ H D I h;refine wpAny_Assign_Subscript (cy (hv pins s σ H _ I h) λr s1 ⟨v,H1,I1,rv,q1⟩=>cy (ho pins s1 σ H1 _ I1 q1) λu s2 ⟨x,H2,I2,rx,q2⟩=>cy (hi pins s2 σ H2 _ I2 q2) λiv s3 ⟨y,H3,I3,ry,a,H4,ex,g,q3⟩=>?_) hs;subst ex;obtain rfl:u=Value.ref a:=rx;exact BD hu I3 g ry rv λs4 I4=>⟨σ,H4,I4,q3⟩
end
theorem xp{P:Program}{w:World}{H:Hp}(h:Heap)(hb:sysModules<h.objs.size):cW P w H (h.push { cls:=.type "dict",data:=.dict #[] }) h.objs.size (.dK []) :=
 ⟨Nat.zero_le _,beq_eq_false_iff_ne.mpr (Ne.symm (Nat.ne_of_lt hb)),[],.nil,Heap.DictOf.new h⟩
noncomputable def HA:TE:=λ_ H Q=>∀p,H p=none->Q (.ref p) (upd H p (.dK []))
section
variable {X:Cx}{pos:Pos}
theorem CU:PE X (.Dict [] [] pos) HA:=λpins s σ H Q I h =>
 wpAny_Dict_empty ⟨.ref s.heap.objs.size,_,I.laid (a:=s.heap.objs.size) (o:=.dK []) (t':=s.toks) (λ_ _ q=>Heap.get?_push_of_some _ q) (Nat.le_refl _) (xp s.heap I.big),rfl,h _ (I.hok.fresh (Nat.le_refl _))⟩
end
noncomputable def xS:List (TE×TE)->St->Hp->(List (V×V)->Hp->Prop)->Prop
 |[],_,H,Q=>Q [] H
 |(tk,tv)::r,σ,H,Q=>tk σ H λx H1=>tv σ H1 λy H2=>xS r σ H2 λps H3=>Q ((x,y)::ps) H3
noncomputable abbrev VV:List (V×V)->List (Value×Value)->Prop:=Paired λp q=>bz p.1 q.1/\bz p.2 q.2
noncomputable def Lu(X:Cx) (pos:Pos) (keys:List (Option Expr)) (values:List Expr) (trs:List (TE×TE)):Prop :=
 ∀(pins:List (Addr×Obj)) (s:Shared) (σ:St) (H:Hp) (Q:List (V×V)->Hp->Prop),Inv X pins σ H s->xS trs σ H Q ->
  wpAny (model X.prog X.w) X.A (evalPairs (pairTrees keys values X.env pos)) (λvs s'=>∃ps H',Inv X pins σ H' s'/\VV ps vs/\Q ps H') X.xe s
theorem Fg{X:Cx}{pos:Pos}:Lu X pos [] [] []:=λpins s σ H Q I h=>pairTrees_nil_walk ⟨[],H,I,.nil,h⟩
theorem CM{X:Cx}{pos:Pos}{k v:Expr}{ks:List (Option Expr)}{vs:List Expr}{tk tv:TE}{trs:List (TE×TE)}(hk:PE X k tk)(hv:PE X v tv)(hr:Lu X pos ks vs trs) :
  Lu X pos (some k::ks) (v::vs) ((tk,tv)::trs):=λpins s σ H Q I h =>
 pairTrees_cons_walk (cy (hk pins s σ H _ I h) λu s1 ⟨x,H1,I1,rx,q1⟩=>cy (hv pins s1 σ H1 _ I1 q1) λw2 s2 ⟨y,H2,I2,ry,q2⟩ =>
  cy (hr pins s2 σ H2 _ I2 q2) λws s3 ⟨ps,H3,I3,rel,q3⟩=>⟨(x,y)::ps,H3,I3,.cons ⟨rx,ry⟩ rel,q3⟩)
noncomputable def pM(kvs more:List (dM×V)):List (dM×V):=more.foldl (λacc kv=>gG acc kv.1 kv.2) kvs
theorem KV.merge:∀{more:List (dM×V)}{rs:List (dM×Value)}{kvs:List (dM×V)}{vs:List (dM×Value)},KV more rs->KV kvs vs->KV (pM kvs more) (merged vs rs):=by
 intro more rs kvs vs r;unfold KV at r
 induction r generalizing kvs vs with
 |nil=>intro q;exact q
 |@cons p q ps qs h t ih =>
  intro r0;have e:KV (gG kvs p.1 p.2) (stored vs q.1 q.2):=by
   have:=r0.put p.1 h.2;rw[←h.1];exact this
  exact ih e
theorem jW:∀(more kvs:List (dM×V)),(pM kvs more).length<=kvs.length+more.length
 |[],kvs=>by show kvs.length<=kvs.length+0;omega
 |p::r,kvs=>by
  have h1:=jW r (gG kvs p.1 p.2);have h2:=iU kvs p.1 p.2;show(pM (gG kvs p.1 p.2) r).length<=_;rw[List.length_cons];omega
theorem rA{P:Program}{w:World}:∀{kvs:List (dM×V)}{ws:List (Value×Value)},VV (kvs.map λkv=>(kV kv.1,kv.2)) ws->∃rs,Carries (cN P w) ws rs/\KV kvs rs
 |[],_,r=>by rw[List.map_nil] at r;cases r;exact⟨[],True.intro,.nil⟩
 |p::kvs,_,r=>by
  rw[List.map_cons] at r;cases r with
  |@cons a b as bs h t =>
   obtain⟨rs,c,q⟩:=rA (P:=P) (w:=w) t;obtain⟨b1,b2⟩:=b;exact⟨(p.1,b2)::rs,⟨sY h.1,rfl,c⟩,.cons ⟨rfl,h.2⟩ q⟩
noncomputable def JS(trs:List (TE×TE)):TE:=λσ H Q=>∀p,H p=none->xS trs σ (upd H p (.dK [])) λps H2=>H2 p=some (.dK [])/\∃kvs:List (dM×V),ps=kvs.map (λkv=>(kV kv.1,kv.2))/\kvs.length<=15/\Q (.ref p) (upd H2 p (.dK (pM [] kvs)))
theorem Fq{X:Cx}{pos:Pos}{keys:List (Option Expr)}{values:List Expr}{trs:List (TE×TE)}(h:Lu X pos keys values trs)(hall:keys.all (·.isSome)=true)(hl:keys.length=values.length)(h0:keys≠[])
  (h15:keys.length<=15):PE X (.Dict keys values pos) (JS trs):=by
 intro pins s σ H Q I q;have hn:=I.hok.fresh (Nat.le_refl s.heap.objs.size);have I1:=I.laid (a:=s.heap.objs.size) (o:=.dK []) (h':=s.heap.push { cls:=.type "dict",data:=.dict #[] }) (t':=s.toks) (λ_ _ q=>Heap.get?_push_of_some _ q) (Nat.le_refl _) (xp s.heap I.big);refine wpAny_Dict_walk (knd:=cN X.prog X.w) hall hl h0 h15 (cy (h pins _ σ _ _ I1 (q _ hn)) λws s2 ⟨ps,H2,I2,rel,e,kvs,ep,lk,q2⟩=>?_);subst ep;obtain⟨rs,c,rk⟩:=rA (P:=X.prog) (w:=X.w) rel;obtain⟨z,hd,vs0,r0,dd⟩:=G9 I2.hok e;cases r0;refine⟨rs,c,dd,λh' dd' hs=>⟨.ref s.heap.objs.size,_,?_,rfl,q2⟩⟩;have hz:(pM [] kvs).length<=sizeLine:=by
  have h1:=jW kvs [];rw[List.length_nil] at h1;rw[sizeLine_eq];omega
 have he:∃q,h'.get? s.heap.objs.size=some q:=let ⟨q,_,_,hq,_⟩:=dd';⟨q,hq⟩;exact vb I2 (by rw[e];exact True.intro) hs he (D6 hz hd (rk.merge .nil) dd')
end L2
namespace DL
open PySem PySem.Spec PyProof.Rows L2
section
variable {X:Cx}{E:XK}{e:Expr}{f:Ev->aj D}{pos p1:Pos}
noncomputable def dOne(x:Str) (d:D):aj D:=.ok (.dic [x] [d])
end
noncomputable def fR(cells:List (Str×Addr)):List (Str×NameKind)->List (Str×Addr)->List (Str×Addr)
 |[],acc=>acc
 |(n,k)::r,acc=>if(k==NameKind.free)=true then fR cells r ((n,(cells.lookup n).getD 0)::acc) else fR cells r acc
theorem jX{scope:Scope}{env:PySem.Env}(h:∀x∈scope.names,x.2=.free->∃c,env.cells.lookup x.1=some c):closureFor scope env=pure (fR env.cells scope.names []):=by
 simp only[closureFor];have key:∀(names:List (Str×NameKind)) (acc:List (Str×Addr)),(∀x∈names,x.2=.free->∃c,env.cells.lookup x.1=some c) ->
   (forIn names acc λ(x:Str×NameKind) (z:List (Str×Addr)) =>
      if(x.snd==NameKind.free)=true then do
       let y ←cellOf env x.fst
       pure (ForInStep.yield ((x.fst,y)::z))
      else(pure (ForInStep.yield z):Sem _))=pure (fR env.cells names acc):=by
  intro names
  induction names with
  |nil=>intro acc _;rfl
  |cons x r ih =>
   intro acc hh;obtain⟨n,k⟩:=x;rw[List.forIn_cons]
   by_cases hk:(k==NameKind.free)=true
   .obtain⟨c,hc⟩:=hh (n,k) List.mem_cons_self (by simpa using hk)
    have hcell:cellOf env n=pure c:=by unfold cellOf;rw[show env.cells.lookup n=some c from hc]
    simp only[hk,if_true];rw[hcell];have:=ih ((n,c)::acc) (λy hy=>hh y (List.mem_cons_of_mem _ hy));rw[show fR env.cells ((n,k)::r) acc=fR env.cells r ((n,c)::acc) by
     show(if(k==NameKind.free)=true then _ else _)=_;rw[if_pos hk,show env.cells.lookup n=some c from hc];rfl]
    rw[←this];rfl
   .have:=ih acc (λy hy=>hh y (List.mem_cons_of_mem _ hy))
    rw[if_neg hk];rw[show fR env.cells ((n,k)::r) acc=fR env.cells r acc by
     show(if(k==NameKind.free)=true then _ else _)=_;rw[if_neg hk]]
    rw[←this];rfl
 rw[key _ _ h];rfl
theorem rn{cells:List (Str×Addr)}:∀{names:List (Str×NameKind)}{acc:List (Str×Addr)}{x:Str}{c:Addr},(∀y∈names,y.2=.free->∃c,cells.lookup y.1=some c) ->
  (fR cells names acc).lookup x=some c->acc.lookup x=some c∨cells.lookup x=some c
 |[],acc,x,c,_,h=>.inl h
 |(n,k)::r,acc,x,c,hh,h=>by
  unfold fR at h
  by_cases hk:(k==NameKind.free)=true
  .rw[if_pos hk] at h
   obtain⟨d,hd⟩:=hh (n,k) List.mem_cons_self (by simpa using hk);rcases rn (λy hy=>hh y (List.mem_cons_of_mem _ hy)) h with h|h
   .rw[List.lookup_cons] at h
    cases e:x==n with
    |true =>
     rw[e] at h;rw[show cells.lookup n=some d from hd] at h;cases h;rw[eq_of_beq e];exact .inr hd
    |false=>rw[e] at h;exact .inl h
   .exact .inr h
  .rw[if_neg hk] at h
   exact rn (λy hy=>hh y (List.mem_cons_of_mem _ hy)) h
theorem nH{α:Type}{x:Str}:∀{l:List (Str×α)},(∃v,(x,v)∈l)->∃v,l.lookup x=some v
 |[],⟨v,h⟩=>by cases h
 |(n,w)::r,⟨v,h⟩=>by
  rw[List.lookup_cons];cases e:x==n with
  |true=>exact⟨w,rfl⟩
  |false =>
   rcases List.mem_cons.mp h with h|h
   .cases h;simp at e
   .exact nH ⟨v,h⟩
theorem rz{cells:List (Str×Addr)}{x:Str}{c:Addr}:∀{names:List (Str×NameKind)}{acc:List (Str×Addr)},(x,c)∈acc->(x,c)∈fR cells names acc
 |[],acc,h=>h
 |(n,k)::r,acc,h=>by
  unfold fR
  by_cases hk:(k==NameKind.free)=true
  .rw[if_pos hk];exact rz (List.mem_cons_of_mem _ h)
  .rw[if_neg hk];exact rz h
theorem rq{cells:List (Str×Addr)}{x:Str}:∀{names:List (Str×NameKind)}{acc:List (Str×Addr)},(x,NameKind.free)∈names->∃c,(fR cells names acc).lookup x=some c:=by
 intro names
 induction names with
 |nil=>intro acc h;cases h
 |cons y r ih =>
  intro acc h;obtain⟨n,k⟩:=y;unfold fR;rcases List.mem_cons.mp h with h|h
  .cases h
   rw[if_pos (by rfl)];exact nH ⟨_,rz List.mem_cons_self⟩
  .by_cases hk:(k==NameKind.free)=true
   .rw[if_pos hk];exact ih h
   .rw[if_neg hk];exact ih h
noncomputable def cK(X:Cx) (N:List Str) (scope:Scope) (s:Shared) (H:Hp) (C:Addr) (fp:List Addr) (pn:List (Addr×Obj)):Cx :=
 { X with N:=N,sf:=s,Ha:=H,env:=compEnvC scope (fR X.env.cells scope.names []) C X.env,outer:=X.stack,stack:=X.stack,ex:=fp,fn:=λ_=>false,pn:=pn,xe:=λ_ _=>False }
noncomputable def iE(n:Nat) (fr:List Nat) (σ:L2.St):L2.St:=List.replicate n none++fr.map λ(i:Nat)=>(σ[i]?).getD none
noncomputable def yX(X:Cx) (N:List Str) (n:Nat) (fr:List Nat) (scope:Scope):Prop :=
 N.length=n+fr.length/\((N.drop n).zip fr).all (λp=>X.N[p.2]?==some p.1&&X.env.scope.names.lookup p.1==some .cell&&scope.names.lookup p.1==some .free&&(relabel scope X.env).names.lookup p.1==some .cell)=true
theorem yX.at{X:Cx}{N:List Str}{n:Nat}{fr:List Nat}{scope:Scope}(h:yX X N n fr scope){k:Nat}{x:Str}{v:V}{σ:L2.St}(hx:N[k]?=some x)(hv:(iE n fr σ)[k]?=some (some v)) :
  ∃i:Nat,X.N[i]?=some x/\σ[i]?=some (some v)/\X.env.scope.names.lookup x=some .cell/\scope.names.lookup x=some .free/\(relabel scope X.env).names.lookup x=some .cell:=by
 unfold iE at hv
 by_cases hk:k<n
 .rw[List.getElem?_append_left (by simpa using hk),List.getElem?_replicate,if_pos hk] at hv
  cases hv
 .rw[List.getElem?_append_right (by simpa using hk),List.length_replicate,List.getElem?_map] at hv
  cases hi:fr[k-n]? with
  |none=>rw[hi] at hv;cases hv
  |some i =>
   rw[hi] at hv;have hz:((N.drop n).zip fr)[k-n]?=some (x,i):=by
    rw[List.getElem?_zip_eq_some];exact⟨by rw[List.getElem?_drop,show n+(k-n)=k by omega];exact hx,hi⟩
   have:=List.all_eq_true.mp h.2 _ (List.mem_of_getElem? hz);simp only[Bool.and_eq_true,beq_iff_eq] at this;refine⟨i,this.1.1.1,?_,this.1.1.2,this.1.2,this.2⟩;simp only[Option.map_some,Option.some.injEq] at hv;cases hs:σ[i]? with|none=>rw[hs] at hv;cases hv|some u=>rw[hs] at hv;exact congrArg some hv
noncomputable def JH(X:Cx) (ifs:List Expr) (t:TT):Prop :=
 ∀(pins:List (Addr×Obj)) (s:Shared) (σ:L2.St) (H:Hp) (Q:Bool->Hp->Prop),Inv X pins σ H s->t σ H Q ->
  wpAny (model X.prog X.w) X.A (forIn ifs true λc r=>if r=true then do let ok ←isTrue c X.env (eval c X.env);pure (ForInStep.yield ok) else pure (ForInStep.yield r)) (TP X pins σ Q) X.xe s
noncomputable def Ce:TT:=λ_ H Q=>Q true H
theorem zm{X:Cx}:JH X [] Ce:=λ_ _ _ H _ I h=>wpAny_tests_nil ⟨H,I,h⟩
theorem Fj{X:Cx}{c:Expr}{t:TT}(h:PT X c t):JH X [c] t:=λpins s σ H Q I q=>wpAny_tests_one (h pins s σ H Q I q)
theorem rh{prog:Program}{w:World}{A:Around}{R:Result->Shared->Prop}{s:Shared}{elt target iter:Expr}{ifs:List Expr}{scope:Scope}{pos:Pos}{it acc:Value}{env:PySem.Env}(I:Nat->Shared->Prop)
  (turn:∀n s,I n s->wpAny (model prog w) A (pyNext it) (λr sg=>match r with
   |none=>R (.ok .next) sg
   |some v=>wpAny (model prog w) A (letOwnedTupleGo target it v) (λ_ sg'=>wpAny (model prog w) A (assign target env v) (λ_ si =>
     wpAny (model prog w) A (forIn ifs true λc r=>if r=true then do let ok ←isTrue c env (eval c env);pure (ForInStep.yield ok) else pure (ForInStep.yield r)) (λok sj =>
      if ok=true then wpAny (model prog w) A (eval elt env) (λx sk =>
       wpAny (model prog w) A (call (.builtin "list.append") [acc,x]) (λ_ sn=>∃m,m<n/\I m sn) (λ_ _=>False) sk) (λ_ _=>False) sj
      else ∃m,m<n/\I m sj) (λ_ _=>False) si) (λ_ _=>False) sg') (λ_ _=>False) sg) (λ_ _=>False) s)
  (n:Nat) (h:I n s) :
  codeAny (model prog w) A (.compLoop (.ListComp elt [⟨target,iter,ifs,0⟩] scope pos) 0 it acc env) R s:=by
 refine codeAny_loop rfl I (λn s hI=>?_) n h;show wpAny _ A ((compTurn (.ListComp elt [⟨target,iter,ifs,0⟩] scope pos) 0 it acc env).onRaise (λx=>do noteFrame x env;theTreesLotGoes x)) _ _ s;refine wpAny_noted ?_;rw[compTurn_list];refine wpAny_bind (wpAny_standAt (wpAny_bind (wpAny_mono (turn n s hI) (λr sg hE=>?_) λ_ _ h'=>h'.elim)));cases r with
 |none=>exact wpAny_pure hE
 |some v =>
  refine wpAny_bind (wpAny_mono hE (λ_ sg' hE'=>?_) λ_ _ h'=>h'.elim);refine wpAny_bind (wpAny_mono hE' (λ_ si hU=>wpAny_bind (wpAny_mono hU (λok sj hV=>?_) λ_ _ h'=>h'.elim)) λ_ _ h'=>h'.elim);cases ok with
  |false=>exact wpAny_pure ⟨rfl,hV⟩
  |true =>
   exact wpAny_bind (wpAny_bind (wpAny_mono hV (λx sk hW=>wpAny_bind (wpAny_mono hW (λ_ sn hX=>wpAny_pure (wpAny_pure ⟨rfl,hX⟩)) λ_ _ h'=>h'.elim)) λ_ _ h'=>h'.elim))
noncomputable def o5(n:Nat) (fr:List Nat) (g:TG) (tt:TT) (te:TE) (J:It) (σ:L2.St) (H1:Hp) (Q:VK):Prop:=∀D,H1 D=none->∃W:Nat->Nat->List V->L2.St->Hp->Prop,(∃m,W 0 m [] (iE n fr σ) (upd H1 D (.lst []))) /\
 ∀i m ys σ' H',W i m ys σ' H'->H' D=some (.lst ys)/\((J.stop i H'/\Q (.ref D) H')∨(J.go i H'/\ys.length<sizeLine/\∀x H2,J.yld i H' x H2->g x σ' H2 λσ3 H3=>tt σ3 H3 λb H4 =>
  if b=true then te σ3 H4 λy H5=>H5 D=some (.lst ys)/\∃m',m' < m/\W (i+1) m' (ys++[y]) σ3 (upd H5 D (.lst (ys++[y])))
  else ∃m',m' < m/\W (i+1) m' ys σ3 H4))
theorem tR{X:Cx}{tg iter elt:Expr}{ifs:List Expr}{scope:Scope}{pos:Pos}{N:List Str}{n:Nat}{fr:List Nat}{g:TG}{tt:TT}{te:TE}(hc:X.calm=true)(hfr:yX X N n fr scope)
  (hcell:∀x∈scope.names,x.2≠.cell)(hfree:∀x∈scope.names,x.2=.free->X.env.scope.names.lookup x.1=some .cell)(hkind:scope.kind=.function)
  (blk:∀s H C fp pn,PG (cK X N scope s H C fp pn) tg g/\JH (cK X N scope s H C fp pn) ifs tt/\PE (cK X N scope s H C fp pn) elt te)
  {pins:List (Addr×Obj)}{σ:L2.St}{s2:Shared}{Q:VK}{itv:Value}{RR:Value->Addr->Result->Shared->Prop}
  (h2:Mt X pins σ tg (λJ H1=>o5 n fr g tt te J σ H1 Q) itv s2)
  (fin:∀(Da C:Addr) (s6:Shared) (H5:Hp) (m:Str->Option Value),Inv X pins σ H5 s6->s6.heap.Ns C m->mL X pins H5 C->Q (.ref Da) H5->RR (.ref Da) C (.ok .next) s6) :
  wpAny (model X.prog X.w) X.A (newList []) (λacc sj=>wpAny (model X.prog X.w) X.A (newFunctionEnv scope X.env.globals (fR X.env.cells scope.names []) [] X.env.qual none .none (some X.env)) (λcenv sk =>
   codeAny (model X.prog X.w) X.A (.compStart (.ListComp elt [⟨tg,iter,ifs,0⟩] scope pos) 0 itv acc { cenv with scope:=relabel scope X.env }) (RR acc cenv.locals) sk) X.xe sj) X.xe s2:=by
 obtain⟨it,fp,tn,J,H2,e,I2,T,st2,f2,q⟩:=h2;subst e;have hD:H2 s2.heap.objs.size=none:=I2.fresh;refine wpAny_newObj_type ?_;have I3:Inv X pins σ (upd H2 s2.heap.objs.size (.lst [])) { s2 with heap:=s2.heap.push { cls:=.type "list",data:=.seq ([]:List Value).toArray } }:=I2.lnew (t':=s2.toks) (its:=[]) .nil (Nat.zero_le _);obtain⟨W,⟨m0,w0⟩,turn⟩:=q s2.heap.objs.size hD;generalize hs3:({ s2 with heap:=s2.heap.push { cls:=.type "list",data:=.seq ([]:List Value).toArray } }:Shared)=s3 at I3 ⊢;have hs3h:s3.heap=s2.heap.push { cls:=.type "list",data:=.seq ([]:List Value).toArray }:=by rw[←hs3]
 have hDs:s2.heap.objs.size<s3.heap.objs.size:=by rw[hs3h,Heap.size_push];exact Nat.lt_succ_self _
 have fpl:∀b∈fp,b<s2.heap.objs.size:=λb hb=>by
  obtain⟨o,ho,_⟩:=T.obj _ _ st2 b hb;exact Heap.lt_size ho
 have kept3:∀b o,s2.heap.get? b=some o->s3.heap.get? b=some o:=λb o e=>by rw[hs3h];exact Heap.get?_push_of_some _ e
 have st3:tn 0 s3.heap:=T.keep _ _ _ st2 λb _ o e=>kept3 b o e;generalize hDa:s2.heap.objs.size=Da at *;generalize hH3:upd H2 Da (.lst [])=H3 at *;have fr3:∀b∈fp,H3 b=none:=λb hb=>by rw[←hH3,aA (Nat.ne_of_lt (fpl b hb))];exact(f2 b hb).1
 have cls:∀x c,(fR X.env.cells scope.names []).lookup x=some c->X.env.cells.lookup x=some c:=λx c e=>by
  rcases rn (λy hy hf=>I3.ok.has y.1 (.inl (hfree y hy hf))) e with e|e
  .cases e
  .exact e
 refine wpAny_newFunctionEnv hcell (by intro y hy;simp at hy) (λh4 ns4 sb4=>?_) hkind;have k4:∀b o,s3.heap.get? b=some o->h4.get? b=some o:=λb o e=>(sb4.2 b (Nat.ne_of_lt (Heap.lt_size e))).trans (Heap.get?_push_of_some _ e);generalize hC:s3.heap.objs.size=C at *;have hCn:H3 C=none:=I3.hok.fresh (by rw[hC];exact Nat.le_refl _);have ltC:∀b o,s3.heap.get? b=some o->b≠C:=λb o e=>by rw[←hC];exact Nat.ne_of_lt (Heap.lt_size e)
 have cellC:∀x c,X.env.cells.lookup x=some c->c≠C:=λx c e=>by
  obtain⟨v,o,ho,_⟩:=I3.cell x c e;exact ltC c o ho
 have fpC:∀b∈fp,b≠C:=λb hb=>by
  have:=fpl b hb;exact Nat.ne_of_lt (Nat.lt_trans this hDs)
 show codeAny (model X.prog X.w) X.A (.compStart (.ListComp elt [⟨tg,iter,ifs,0⟩] scope pos) 0 (.ref it) (.ref Da) (compEnvC scope (fR X.env.cells scope.names []) C X.env)) _ _;generalize hs4:({ s3 with heap:=h4,toks:=s3.toks+([]:List (Str×Value)).length }:Shared)=s4;have hs4h:s4.heap=h4:=by rw[←hs4]
 have ok:(cK X N scope s3 H3 C fp (X.pn++pins)).Ok:=by
  refine⟨I3.ok.mod,hkind,I3.ok.glob,I3.ok.blt,Nat.le_of_eq hC,λx y c e1 e2=>I3.ok.inj x y c (cls x c e1) (cls y c e2),λx e=>?_,λx c e=>?_,λ_=>I3.ok.hd hc,I3.ok.frames,.inl rfl,λb hb=>⟨fpC b hb,λx c e=>(f2 b hb).2.2.2.2.1 x c (cls x c e)⟩,I3.bs,Nat.le_trans I3.ok.bsz I3.sz,λb o e hb=>?_,λb hb z=>?_,I3.stack,I3.stkFree⟩
  .have mm:∀k:NameKind,(relabel scope X.env).names.lookup x=some k->(k=.cell∨k=.free)->(x,NameKind.free)∈scope.names:=λk hk hk2=>by
    have hm:=PySem.mem_of_lookup hk;obtain⟨⟨n',k'⟩,hm1,hm2⟩:=List.mem_map.mp hm;dsimp only at hm2;split at hm2
    .rename_i hcnd
     cases hm2;simp only[Bool.and_eq_true,beq_iff_eq] at hcnd;rw[hcnd.1.1] at hm1;exact hm1
    .cases hm2
     rcases hk2 with rfl|rfl
     .exact absurd rfl (hcell _ hm1)
     .exact hm1
   rcases e with e|e
   .exact rq (mm _ e (.inl rfl))
   .exact rq (mm _ e (.inr rfl))
  .cases e
  .rcases(f2 b hb).2.2.2.1 with z|z
   .exact I3.ok.noex b o e z
   .exact absurd (Nat.lt_of_lt_of_le (Heap.lt_size e) (Nat.le_trans I3.ok.bsz z)) (Nat.lt_irrefl _)
  .rcases List.mem_cons.mp (I3.stkSub b z) with z|z
   .exact(f2 b hb).2.1 z
   .exact(f2 b hb).2.2.1 z
 have I4:Inv (cK X N scope s3 H3 C fp (X.pn++pins)) [] (iE n fr σ) H3 s4:=by
  refine⟨ok,by rw[←hs4];rfl,by rw[←hs4];exact I3.bare,by rw[hs4h];exact Un.kept k4,⟨_,by rw[hs4h];exact ns4,λi x v h1 h2 h3=>?_⟩,λx c e=>?_,hCn,λx c e=>I3.freeC x c (cls x c e),λp hp=>?_,by rw[hs4h];exact I3.hok.kept k4,?_⟩
  .obtain⟨j,j1,j2,j3,j4,j5⟩:=hfr.at h1 h2
   obtain⟨m,hn,hl⟩:=I3.loc;obtain⟨u,ru,l⟩:=hl j x v j1 j2 (.inr (.inl j3));refine⟨u,ru,.inr ⟨.inl j5,?_⟩⟩;rcases l with⟨z,_⟩|⟨_,c,z1,z2⟩
   .rw[show X.env.kindOf x=X.env.scope.names.lookup x from rfl,j3] at z;cases z
   .obtain⟨c',hc'⟩:=rq (cells:=X.env.cells) (names:=scope.names) (acc:=[]) (PySem.mem_of_lookup j4)
    have:=cls x c' hc';rw[z1] at this;cases this;obtain⟨oc,q1,q2⟩:=z2;exact⟨c,hc',oc,by rw[hs4h];exact k4 _ _ q1,q2⟩
  .obtain⟨v,oc,q1,q2⟩:=I3.cell x c (cls x c e)
   exact⟨v,oc,by rw[hs4h];exact k4 _ _ q1,q2⟩
  .rw[List.append_nil] at hp
   obtain⟨p1,p2,p3,p4,p5⟩:=I3.pin p hp;refine⟨by rw[hs4h];exact k4 _ _ p1,p2,ltC _ _ p1,λz=>?_,p5⟩;rcases List.mem_cons.mp (I3.stkSub _ z) with z|z
   .exact p3 z
   .exact p4 z
  .show(iE n fr σ).length=N.length
   unfold iE;rw[List.length_append,List.length_replicate,List.length_map,hfr.1]
 have st4:tn 0 s4.heap:=by rw[hs4h];exact T.keep _ _ _ st3 λb _ o e=>k4 b o e
 have stat:∀{H':Hp},(∀b∈fp,H' b=none)->∀b∈fp,mL (cK X N scope s3 H3 C fp (X.pn++pins)) [] H' b:=λhn b hb=>by
  refine⟨hn b hb,fpC b hb,λz=>?_,.inl hb,λx c e=>(f2 b hb).2.2.2.2.1 x c (cls x c e),λp hp=>?_⟩
  .rcases List.mem_cons.mp (I3.stkSub b z) with z|z
   .exact(f2 b hb).2.1 z
   .exact(f2 b hb).2.2.1 z
  .rw[List.append_nil] at hp
   exact(f2 b hb).2.2.2.2.2 p hp
 have loop:codeAny (model X.prog X.w) X.A (.compLoop (.ListComp elt [⟨tg,iter,ifs,0⟩] scope pos) 0 (.ref it) (.ref Da) (compEnvC scope (fR X.env.cells scope.names []) C X.env)) (RR (.ref Da) C) s4:=by
  refine rh (λn s'=>∃i ys σ' H',Inv (cK X N scope s3 H3 C fp (X.pn++pins)) [] σ' H' s'/\tn i s'.heap/\(∀b∈fp,H' b=none)/\W i n ys σ' H') ?_ m0 ⟨0,[],_,H3,I4,st4,fr3,w0⟩;rintro k s5 ⟨i,ys,σ5,H5,I5,st5,fr5,w5⟩;obtain⟨hDl,ways⟩:=turn i k ys σ5 H5 w5;rcases ways with⟨stop,fin'⟩|⟨go,hz,step⟩
  .refine cy (T.done (cK X N scope s3 H3 C fp (X.pn++pins)) rfl rfl rfl hc i [] s5 σ5 H5 (λ_ _=>False) I5 (stat fr5) st5 stop) λr s6 ⟨hr,I6⟩=>?_
   subst hr;obtain⟨mm,nsm,_⟩:=I6.loc;have free6:H5 C=none:=I6.free;have hok:kI X.prog X.w H5 s6.heap:=I6.hok;have un:Un (BQ X.stack) fp H3 H5 s3.heap s6.heap:=I6.base;have IX:Inv X pins σ H5 s6:=I3.call' (s':=s6) (ch:=fp) I6.os un hok I6.bare (λb hb=>⟨(f2 b hb).2.2.2.1,(f2 b hb).2.1,(f2 b hb).2.2.2.2.1,(f2 b hb).2.2.2.2.2⟩);have fC:mL X pins H5 C:=I3.fpOk (b:=C) (H':=H5) (by rw[hC];exact Nat.le_refl _) free6;exact fin Da C s6 H5 mm IX nsm fC fin'
  .refine cy (T.item (cK X N scope s3 H3 C fp (X.pn++pins)) rfl rfl rfl hc i [] s5 σ5 H5 (λ_ _=>False) I5 (stat fr5) st5 go) λr s6 ⟨u,hr,h6⟩=>?_
   subst hr;refine cy h6 λ_ s7 ⟨x,H7,I7,r7,y7,st7,fr7⟩=>?_;have I7':=I7.pinned (stat fr7) (T.obj _ _ st7);refine cy ((blk s3 H3 C fp (X.pn++pins)).1 _ s7 σ5 H7 x u _ I7' r7 (step x H7 y7)) λ_ s8 ⟨σ8,H8,I8,q8⟩=>?_;refine cy ((blk s3 H3 C fp (X.pn++pins)).2.1 _ s8 σ8 H8 _ I8 q8) λb s8b ⟨H8b,I8b,q8b⟩=>?_;have back:∀{σ':L2.St}{H':Hp}{s':Shared},L2.Inv (cK X N scope s3 H3 C fp (X.pn++pins)) (([]:List (Addr×Obj))++pC fp s7.heap) σ' H' s'->tn (i+1) s'.heap/\∀b∈fp,H' b=none:=λ{σ' H' s'} I'=>by
    refine⟨T.keep _ _ _ st7 λb hb o e=>(I'.pin (b,o) (List.mem_append_right _ (List.mem_append_right _ (ib hb e)))).1,λb hb=>?_⟩;obtain⟨o,e,d⟩:=T.obj _ _ st7 b hb;exact(I'.pin (b,o) (List.mem_append_right _ (List.mem_append_right _ (ib hb e)))).2.1
   cases b with
   |false =>
    rw[if_neg Bool.false_ne_true] at q8b ⊢;obtain⟨m',hm,w9⟩:=q8b;exact⟨m',hm,i+1,ys,σ8,_,I8b.unpinned,(back I8b).1,(back I8b).2,w9⟩
   |true =>
    rw[if_pos rfl] at q8b ⊢;refine cy ((blk s3 H3 C fp (X.pn++pins)).2.2 _ s8b σ8 H8b _ I8b q8b) λy s9 ⟨yv,H9,I9,r9,hD9,m',hm,w9⟩=>?_;refine cy (nc (X:=cK X N scope s3 H3 C fp (X.pn++pins)) _ s9 σ8 H9 (.ref Da) [yv] (.ref Da) [y] (λv H'=>H'=upd H9 Da (.lst (ys++[yv]))) I9 rfl (.cons r9 .nil) ⟨Da,ys,yv,rfl,rfl,hD9,hz,rfl⟩) λ_ s10 ⟨v10,H10,I10,_,e10⟩=>?_;subst e10;exact⟨m',hm,i+1,ys++[yv],σ8,_,I10.unpinned,(back I10).1,(back I10).2,w9⟩
 exact codeAny_compStart_list loop (T.self _ 0 _ _ _ st4 loop)
structure Jy (K:W.Frag) (ds:List D) (J:It) (Ha:Hp):Prop where
 go:∀(i:Nat) (H' Ha':Hp),aC Ha Ha'->aC Ha' H'->i<ds.length->J.go i H'
 yld:∀(i:Nat) (H' Ha':Hp) (x:V) (H2:Hp) (d:D),aC Ha Ha'->aC Ha' H'->ds[i]?=some d->J.yld i H' x H2->∃H₀2,bf H' Ha' H2 H₀2/\Rep K H₀2 d x
 stop:∀(i:Nat) (H' Ha':Hp),aC Ha Ha'->aC Ha' H'->ds.length<=i->J.stop i H'
noncomputable def Nb(K:W.Frag) (E:XK) (src:Ev->aj (List D)):TI:=λσ H R=>∃Ha ρ,aC Ha H/\dX K Ha σ ρ/\match src ρ with
 |.ok ds=>∀J H' Ha',bf H Ha H' Ha'->Jy K ds J Ha'->R J H'
 |.exn x=>∀C ox H' Ha',bf H Ha H' Ha'->AM K Ha' x C ox->E C ox H'
 |.stuck=>False
structure DI (X:Cx) (E:XK) (tg iter:Expr) (src:Ev->aj (List D)):Prop where
 o:PI X tg iter (Nb X.K E src)
theorem gW{X:Cx}{tg iter:Expr}{t t':TI}(h:PI X tg iter t)(w:∀σ H R,t' σ H R->t σ H R):PI X tg iter t':=λpins s σ H R I q=>h pins s σ H R I (w σ H R q)
noncomputable def jJ(f:Ev->aj D):Ev->aj (List D):=λρ=>(f ρ).bind λd=>match d with
 |.lst ds=>.ok ds
 |_=>.stuck
noncomputable def Cg(f:Ev->aj D):Ev->aj (List D):=λρ=>(f ρ).bind λd=>match d with
 |.tup ds=>.ok ds
 |_=>.stuck
noncomputable def E4(f:Ev->aj D):Ev->aj (List D):=λρ=>(f ρ).bind λd=>match d with
 |.str z=>.ok (iM z)
 |_=>.stuck
noncomputable def gb(f:Ev->aj D):Ev->aj (List D):=λρ=>(f ρ).bind λd=>match d with
 |.int j=>if -4611686018427387904<=j/\j<4611686018427387904 then .ok (intsFrom 0 j.toNat) else .stuck
 |_=>.stuck
section
variable {X:Cx}{E:XK}{tg e a b:Expr}{f g:Ev->aj D}
theorem fw(h:DE X E e f):DI X E tg e (jJ f):=by
 refine⟨gW (zo h.o) λσ H R ⟨Ha,ρ,hs,hr,q⟩=>⟨Ha,ρ,hs,hr,?_⟩⟩;unfold jJ at q;cases e1:f ρ with
 |stuck|exn x=>rw[e1] at q;exact q
 |ok d =>
  rw[e1] at q;intro v H1 H01 g1 r1;cases d with
  |lst ds =>
   obtain⟨p,vs,rfl,hv,hrv⟩:=aG.mp r1;refine⟨p,rfl,⟨vs,aC.sqL g1.sub hv⟩,q _ H1 H01 g1 ⟨λi H' Ha' s1 s2 hi=>?_,λi H' Ha' x H2 d s1 s2 hd hy=>?_,λi H' Ha' s1 s2 hi=>?_⟩⟩
   .exact⟨vs,vs[i]'(by rw[←hrv.length];exact hi),aC.sqL (s1.trans s2) hv,by simp⟩
   .obtain⟨rfl,hy⟩:=hy
    obtain⟨u,k1,k2⟩:=hrv.get hd;have:=hy vs (aC.sqL (s1.trans s2) hv);rw[k1] at this;cases this;exact⟨Ha',bf.refl s2,k2.mono s1⟩
   .exact⟨vs,aC.sqL (s1.trans s2) hv,by rw[←hrv.length];exact hi⟩
  |_=>exact q.elim
theorem IW(h:DE X E e f):DI X E tg e (Cg f):=by
 refine⟨gW (HS h.o) λσ H R ⟨Ha,ρ,hs,hr,q⟩=>⟨Ha,ρ,hs,hr,?_⟩⟩;unfold Cg at q;cases e1:f ρ with
 |stuck|exn x=>rw[e1] at q;exact q
 |ok d =>
  rw[e1] at q;intro v H1 H01 g1 r1;cases d with
  |tup ds =>
   obtain⟨p,vs,rfl,hv,hrv⟩:=aP.mp r1;refine⟨p,rfl,⟨vs,aC.sqT g1.sub hv⟩,q _ H1 H01 g1 ⟨λi H' Ha' s1 s2 hi=>?_,λi H' Ha' x H2 d s1 s2 hd hy=>?_,λi H' Ha' s1 s2 hi=>?_⟩⟩
   .exact⟨vs,vs[i]'(by rw[←hrv.length];exact hi),aC.sqT (s1.trans s2) hv,by simp⟩
   .obtain⟨rfl,hy⟩:=hy
    obtain⟨u,k1,k2⟩:=hrv.get hd;have:=hy vs (aC.sqT (s1.trans s2) hv);rw[k1] at this;cases this;exact⟨Ha',bf.refl s2,k2.mono s1⟩
   .exact⟨vs,aC.sqT (s1.trans s2) hv,by rw[←hrv.length];exact hi⟩
  |_=>exact q.elim
theorem IY(h:DE X E e f):DI X E tg e (E4 f):=by
 refine⟨gW (HU h.o) λσ H R ⟨Ha,ρ,hs,hr,q⟩=>⟨Ha,ρ,hs,hr,?_⟩⟩;unfold E4 at q;cases e1:f ρ with
 |stuck|exn x=>rw[e1] at q;exact q
 |ok d =>
  rw[e1] at q;intro v H1 H01 g1 r1;cases d with
  |str z =>
   refine⟨z,Rep.str_iff.mp r1,q _ H1 H01 g1 ⟨λi H' Ha' s1 s2 hi=>?_,λi H' Ha' x H2 d s1 s2 hd hy=>?_,λi H' Ha' s1 s2 hi=>?_⟩⟩
   .rw[kc] at hi;exact hi
   .obtain⟨rfl,c,hc,rfl⟩:=hy
    have:d=.str ⟨#[c]⟩:=by
     unfold iM at hd;rw[List.getElem?_map] at hd;have h2:z.cps.toList[i]?=some c:=by simpa using hc
     rw[h2] at hd;cases hd;rfl
    subst this;exact⟨Ha',bf.refl s2,Rep.str_iff.mpr rfl⟩
   .rw[kc] at hi;exact hi
  |_=>exact q.elim
theorem tf{K:W.Frag}{lo:Int}{n:Nat}{H:Hp}:Jy K (intsFrom lo n) (Jx lo n) H:=by
 have hl:(intsFrom lo n).length=n:=by unfold intsFrom;simp
 refine⟨λi H' Ha' _ _ hi=>?_,λi H' Ha' x H2 d s1 s2 hd hy=>?_,λi H' Ha' _ _ hi=>?_⟩
 .rw[hl] at hi;exact hi
 .obtain⟨rfl,rfl⟩:=hy
  have:d=.int (lo+i):=by
   unfold intsFrom at hd;rw[List.getElem?_map] at hd;cases e:(List.range n)[i]? with
   |none=>rw[e] at hd;cases hd
   |some k =>
    rw[e] at hd;have hk:k=i:=by
     obtain⟨h1,h2⟩:=List.getElem?_eq_some_iff.mp e;simpa using h2.symm
    subst hk;cases hd;rfl
  subst this;exact⟨Ha',bf.refl s2,az.mpr rfl⟩
 .rw[hl] at hi;exact hi
theorem jD{p pos:Pos}(hg:Gl X "range")(hm:X.mg "range"=none)(h:DE X E a f)(hn:JC a=true:=by exact rfl):DI X E tg (.Call (.Name "range" p) [a] [] pos) (gb f):=by
 refine⟨gW (mZ hg hm (d5 h.o gY (fG hn)) (fG hn)) λσ H R ⟨Ha,ρ,hs,hr,q⟩=>⟨Ha,ρ,hs,hr,?_⟩⟩;unfold gb at q;cases e1:f ρ with
 |stuck|exn x=>rw[e1] at q;exact q
 |ok d =>
  rw[e1] at q;intro v H1 H01 g1 r1;cases d with
  |int j =>
   replace q:match (if -4611686018427387904<=j/\j<4611686018427387904 then aj.ok (intsFrom 0 j.toNat) else .stuck) with
    |.ok ds=>∀J H' Ha',bf H Ha H' Ha'->Jy X.K ds J Ha'->R J H'
    |.exn x=>∀C ox H' Ha',bf H Ha H' Ha'->AM X.K Ha' x C ox->E C ox H'
    |.stuck=>False:=q
   by_cases hj:-4611686018427387904<=j/\j<4611686018427387904
   .rw[if_pos hj] at q
    rw[az.mp r1];exact⟨j,rfl,hj.1,hj.2,q _ H1 H01 g1 tf⟩
   .rw[if_neg hj] at q;exact q.elim
  |_=>exact q.elim
end
noncomputable def jQ(src:Ev->aj (List D)) (tg:Ev->D->aj Ev) (s:Ev->aj Fl):Ev->aj Fl:=λρ=>(src ρ).bind λds=>bM tg s ds ρ
section
variable {X:Cx}{E:XK}{He H0e:Hp}{st:Stmt}{s:Ev->aj Fl}{pos:Pos}
theorem fj.step2{K:W.Frag}{Hb Ha:Hp}{tg:Ev->D->aj Ev}{ds:List D}{D':e7}{i:Nat}{σ:L2.St}{H:Hp}{d:D}{v:V}{ρ:Ev}(z:aC Hb Ha)(h:dH K He H0e Ha σ H ρ)(q:bW K E He H0e Ha (bM tg s (ds.drop i) ρ) D')(hd:ds[i]?=some d)(rv:Rep K Ha d v)
  (he:∀ρ,tg ρ d=.stuck∨∃ρ',tg ρ d=.ok ρ') :
  tG K He H0e tg v σ H λσ2 H2=>tS K E He H0e s { D' with nx:=fj K E He H0e Hb tg s ds D' (i+1),ct:=fj K E He H0e Hb tg s ds D' (i+1),bk:=D'.nx } σ2 H2:=by
 have hi:i<ds.length:=(List.getElem?_eq_some_iff.mp hd).1;have hdr:ds.drop i=d::ds.drop (i+1):=by
  rw[List.drop_eq_getElem_cons hi];rw[List.getElem?_eq_getElem hi] at hd;cases hd;rfl
 rw[hdr] at q;refine⟨Ha,ρ,d,h,rv,?_⟩;unfold bM at q;rcases he ρ with e1|⟨ρ1,e1⟩
 .rw[e1] at q;exact q.elim
 .rw[e1] at q ⊢
  intro σ' H' Ha' z' h';refine⟨Ha',ρ1,h',?_⟩;replace q:=bW.grow (r:=(s ρ1).bind λx=>match x with
   |.nx ρ2=>bM tg s (ds.drop (i+1)) ρ2
   |.ct ρ2=>bM tg s (ds.drop (i+1)) ρ2
   |.bk ρ2=>.ok (.nx ρ2)
   |.rt d=>.ok (.rt d)) q z'
  cases e2:s ρ1 with
  |stuck|exn x=>rw[e2] at q;exact q
  |ok r =>
   rw[e2] at q;cases r with|nx ρ2=>exact λσ3 H3 H03 z3 h3=>⟨H03,ρ2,(z.trans z').trans z3,h3,bW.grow (r:=bM tg s (ds.drop (i+1)) ρ2) q z3⟩|ct ρ2=>exact λσ3 H3 H03 z3 h3=>⟨H03,ρ2,(z.trans z').trans z3,h3,bW.grow (r:=bM tg s (ds.drop (i+1)) ρ2) q z3⟩|bk ρ2|rt d=>exact q
theorem oP{tgt iter:Expr}{body:List Stmt}{tg:Ev->D->aj Ev}{src:Ev->aj (List D)}(hp:PassesOwn (model X.prog X.w) X.A X.env X.xe)(hc:X.calm=true)(hi:DI X E tgt iter src)(hg:DG X E He H0e tgt tg)(ht:uc tg)(hb:BU X E He H0e body s)
  (hs:∀x,foldedSetIterable iter X.env x=pure x:=by intro _;rfl):DS X E He H0e (.For tgt iter body [] pos) (jQ src tg s):=by
 refine⟨bH (uA hp hc hi.o hg.o hb.o hs) λD' σ H ⟨Ha,ρ,h,q⟩=>⟨Ha,ρ,h.g.sub,h.rd,?_⟩⟩;unfold jQ at q;cases e1:src ρ with
 |stuck=>rw[e1] at q;exact q|exn x=>rw[e1] at q;exact λC ox H' Ha' g r=>q C ox H' Ha' (h.g.trans g) r
 |ok ds =>
  rw[e1] at q;intro J H1 H01 g it;have q1:bW X.K E He H0e H01 (bM tg s ds ρ) D':=bW.grow (r:=bM tg s ds ρ) q g.z;refine⟨λi m σ' H'=>m+i=ds.length/\fj X.K E He H0e H01 tg s ds D' i σ' H',⟨ds.length,rfl,H01,ρ,aC.refl _,h.grow g,q1⟩,?_⟩;rintro i m σ' H' ⟨hm,Ha',ρ',z,h',hq⟩
  by_cases hlt:i<ds.length
  .refine .inr ⟨it.go i H' Ha' z h'.g.sub hlt,λσ2 H2=>fj X.K E He H0e H01 tg s ds D' (i+1) σ2 H2,λσ2 H2 hl=>⟨m-1,by omega,by omega,hl⟩,λx H2 hy=>?_⟩
   obtain⟨H₀2,g2,rp⟩:=it.yld i H' Ha' x H2 ds[i] z h'.g.sub (List.getElem?_eq_getElem hlt) hy;exact fj.step2 (z.trans g2.z) (h'.grow g2) (bW.grow (r:=bM tg s (ds.drop i) ρ') hq g2.z) (List.getElem?_eq_getElem hlt) rp λρ=>ht ρ _
  .have e:i=ds.length:=by omega
   refine .inl ⟨it.stop i H' Ha' z h'.g.sub (by omega),?_⟩;subst e;exact fj.done ⟨Ha',ρ',z,h',hq⟩
end
noncomputable def mK(f:Ev->aj D):Prop:=∀ρ d,f ρ=.ok d->∃ds,d=.lst ds
theorem vv{K:W.Frag}{E:XK}{f:Ev->aj D}(hf:mK f){σ:L2.St}{H:Hp}{Q:VK}(h:tD K E f σ H Q):tF K E f σ H Q:=by
 obtain⟨Ha,ρ,hs,hr,q⟩:=h;refine⟨Ha,ρ,hs,hr,?_⟩;cases e1:f ρ with
 |stuck|exn x=>rw[e1] at q;exact q
 |ok d =>
  obtain⟨ds,rfl⟩:=hf ρ d e1;rw[e1] at q;intro p vs H' Ha' g hp h0 hv rp;have n0:Ha p=none:=hs.free hp;refine q (.ref p) H' (upd Ha' p (.lst vs)) ⟨g.s,λb o e=>?_,λb o e=>?_,λb k1 k2=>?_⟩ (aG.mpr ⟨p,vs,rfl,eZ.of aI,rp.mono λb o e=>?_⟩)
  .rw[aA (by intro z;subst z;rw[n0] at e;cases e)];exact g.z _ _ e
  .by_cases hb:b=p
   .subst hb;rw[aI] at e;cases e;exact hv
   .rw[aA hb] at e;exact g.sub _ _ e
  .by_cases hb:b=p
   .subst hb;exact hp
   .rw[aA hb] at k1;exact g.nw b k1 k2
  .rw[aA (by intro z;subst z;rw[h0] at e;cases e)];exact e
theorem Ea{X:Cx}{E:XK}{e:Expr}{f:Ev->aj D}(hf:mK f)(h:DF X E e f):DE X E e f:=⟨aZ h.o λσ H Q q=>vv hf q⟩
noncomputable def cV(n:Nat) (fr:List Nat) (ρ:Ev):Ev:=List.replicate n .no++fr.map λ(i:Nat)=>match ρ[i]? with
 |some (.sh d)=>.sh d
 |_=>.no
noncomputable def bS(b:Ev) (tg:Ev->D->aj Ev) (tt fe:Ev->aj D):List D->aj (List D)
 |[]=>.ok []
 |d::r=>(tg b d).bind λρ1=>(tt ρ1).bind λt=>match t with
  |.bl true=>(fe ρ1).bind λx=>(bS b tg tt fe r).bind λxs=>.ok (x::xs)
  |.bl false=>bS b tg tt fe r
  |_=>.stuck
noncomputable def dh(n:Nat) (fr:List Nat) (src:Ev->aj (List D)) (tg:Ev->D->aj Ev) (tt fe:Ev->aj D):Ev->aj D:=λρ=>(src ρ).bind λds =>
 if ds.length<=line then match bS (cV n fr ρ) tg tt fe ds with
  |.ok es=>.ok (.lst es)
  |_=>.stuck
 else .stuck
theorem tQ{n:Nat}{fr:List Nat}{src:Ev->aj (List D)}{tg:Ev->D->aj Ev}{tt fe:Ev->aj D}:mK (dh n fr src tg tt fe):=λρ d h=>by
 unfold dh at h;cases e1:src ρ with
 |stuck|exn x=>rw[e1] at h;cases h
 |ok ds =>
  rw[e1] at h;replace h:(if ds.length<=line then match bS (cV n fr ρ) tg tt fe ds with
   |.ok es=>aj.ok (D.lst es)
   |_=>.stuck else .stuck)=.ok d:=h
  split at h
  .split at h
   .cases h;exact⟨_,rfl⟩
   .cases h
  .cases h
theorem iu{b:Ev}{tg:Ev->D->aj Ev}{tt fe:Ev->aj D}{d:D}{r es:List D}(h:bS b tg tt fe (d::r)=.ok es) :
  ∃ρ1 t,tg b d=.ok ρ1/\tt ρ1=.ok (.bl t)/\((t=true/\∃x xs,fe ρ1=.ok x/\bS b tg tt fe r=.ok xs/\es=x::xs)∨(t=false/\bS b tg tt fe r=.ok es)):=by
 unfold bS at h;cases e1:tg b d with
 |stuck|exn z=>rw[e1] at h;cases h
 |ok ρ1 =>
  rw[e1] at h;replace h:((tt ρ1).bind λt=>match t with
   |.bl true=>(fe ρ1).bind λx=>(bS b tg tt fe r).bind λxs=>aj.ok (x::xs)
   |.bl false=>bS b tg tt fe r
   |_=>.stuck)=.ok es:=h
  cases e2:tt ρ1 with
  |stuck|exn z=>rw[e2] at h;cases h
  |ok t =>
   rw[e2] at h;cases t with
   |bl t =>
    cases t with
    |true =>
     replace h:((fe ρ1).bind λx=>(bS b tg tt fe r).bind λxs=>aj.ok (x::xs))=.ok es:=h;cases e3:fe ρ1 with
     |stuck|exn z=>rw[e3] at h;cases h
     |ok x =>
      rw[e3] at h;replace h:((bS b tg tt fe r).bind λxs=>aj.ok (x::xs))=.ok es:=h;cases e4:bS b tg tt fe r with|stuck|exn z=>rw[e4] at h;cases h|ok xs=>rw[e4] at h;cases h;exact⟨ρ1,true,rfl,e2,.inl ⟨rfl,x,xs,e3,rfl,rfl⟩⟩
    |false=>exact⟨ρ1,false,rfl,e2,.inr ⟨rfl,h⟩⟩
   |_=>cases h
theorem gK{b:Ev}{tg:Ev->D->aj Ev}{tt fe:Ev->aj D}{d x:D}{r:List D}{ρ1:Ev}(h1:tg b d=.ok ρ1)(h2:tt ρ1=.ok (.bl true))(h3:fe ρ1=.ok x):bS b tg tt fe (d::r)=(bS b tg tt fe r).bind λxs=>.ok (x::xs):=by
 rw[bS,h1];simp only[aj.bind,h2,h3]
theorem rl{b:Ev}{tg:Ev->D->aj Ev}{tt fe:Ev->aj D}{d:D}{r:List D}{ρ1:Ev}(h1:tg b d=.ok ρ1)(h2:tt ρ1=.ok (.bl false)):bS b tg tt fe (d::r)=bS b tg tt fe r:=by
 rw[bS,h1];simp only[aj.bind,h2]
theorem ny{b:Ev}{tg:Ev->D->aj Ev}{tt fe:Ev->aj D}:∀{r q es:List D},bS b tg tt fe (r++q)=.ok es->∃e1 e2,bS b tg tt fe r=.ok e1/\bS b tg tt fe q=.ok e2/\es=e1++e2
 |[],q,es,h=>⟨[],es,rfl,h,rfl⟩
 |d::r,q,es,h=>by
  obtain⟨ρ1,t,h1,h2,h3⟩:=iu h;rcases h3 with⟨rfl,x,xs,h3,h4,rfl⟩|⟨rfl,h4⟩
  .obtain⟨e1,e2,k1,k2,rfl⟩:=ny h4
   refine⟨x::e1,e2,?_,k2,rfl⟩;rw[gK h1 h2 h3,k1];rfl
  .obtain⟨e1,e2,k1,k2,rfl⟩:=ny h4
   refine⟨e1,e2,?_,k2,rfl⟩;rw[rl h1 h2];exact k1
theorem ir{b:Ev}{tg:Ev->D->aj Ev}{tt fe:Ev->aj D}:∀{r q e1 e2:List D},bS b tg tt fe r=.ok e1->bS b tg tt fe q=.ok e2->bS b tg tt fe (r++q)=.ok (e1++e2)
 |[],q,e1,e2,h,h'=>by cases h;exact h'
 |d::r,q,e1,e2,h,h'=>by
  obtain⟨ρ1,t,h1,h2,h3⟩:=iu h;show bS b tg tt fe (d::(r++q))=_;rcases h3 with⟨rfl,x,xs,h3,h4,rfl⟩|⟨rfl,h4⟩
  .rw[gK h1 h2 h3,ir h4 h'];rfl
  .rw[rl h1 h2];exact ir h4 h'
theorem rm{b:Ev}{tg:Ev->D->aj Ev}{tt fe:Ev->aj D}:∀{r es:List D},bS b tg tt fe r=.ok es->es.length<=r.length
 |[],es,h=>by cases h;exact Nat.le_refl _
 |d::r,es,h=>by
  obtain⟨ρ1,t,h1,h2,h3⟩:=iu h;rcases h3 with⟨rfl,x,xs,h3,h4,rfl⟩|⟨rfl,h4⟩
  .exact Nat.succ_le_succ (rm h4)
  .exact Nat.le_succ_of_le (rm h4)
noncomputable def yW(n:Nat) (tg:Ev->D->aj Ev):Prop:=∀ρ d ρ',tg ρ d=.ok ρ'->ρ'.length=ρ.length/\∀(k:Nat),n<=k->ρ'[k]?=ρ[k]?
theorem dN{i n:Nat}(h:i<n):yW n (bw i):=λρ d ρ' e=>by
 cases e;exact⟨by simp,λk hk=>by rw[List.getElem?_set_ne (by omega)]⟩
theorem yR{K:W.Frag}{Ha:Hp}{σ:L2.St}{ρ:Ev}{n:Nat}{fr:List Nat}(h:dX K Ha σ ρ):dX K Ha (iE n fr σ) (cV n fr ρ):=λi d e=>by
 unfold cV at e;unfold iE
 by_cases hi:i<n
 .rw[List.getElem?_append_left (by simpa using hi),List.getElem?_replicate,if_pos hi] at e
  cases e
 .rw[List.getElem?_append_right (by simpa using hi),List.length_replicate,List.getElem?_map] at e ⊢
  cases hf:fr[i-n]? with
  |none=>rw[hf] at e;cases e
  |some j =>
   rw[hf] at e;simp only[Option.map_some,Option.some.injEq] at e ⊢;cases hj:ρ[j]? with
   |none=>rw[hj] at e;cases e
   |some s =>
    rw[hj] at e;cases s with
    |sh d' =>
     cases e;obtain⟨v,h1,h2⟩:=h j d hj;exact⟨v,by rw[h1];rfl,h2⟩
    |_=>cases e
theorem Gj{n:Nat}{fr:List Nat}{ρ:Ev}{k:Nat}(h:k<n):(cV n fr ρ)[k]?=some .no:=by
 unfold cV;rw[List.getElem?_append_left (by simpa using h),List.getElem?_replicate,if_pos h]
theorem El{n:Nat}{fr:List Nat}{ρ:Ev}(i j:Nat)(es:List D):(cV n fr ρ)[i]?≠some (.ox j es):=λe=>by
 unfold cV at e
 by_cases hj:i<n
 .rw[List.getElem?_append_left (by simpa using hj),List.getElem?_replicate,if_pos hj] at e;cases e
 .rw[List.getElem?_append_right (by simpa using hj),List.getElem?_map] at e
  cases hf:fr[i-(List.replicate n Sl.no).length]? with
  |none=>rw[hf] at e;cases e
  |some z =>
   rw[hf] at e;simp only[Option.map_some,Option.some.injEq] at e;split at e<;>cases e
theorem BM{n:Nat}{fr:List Nat}{ρ:Ev}{σ:L2.St}(i:Nat)(a:Addr)(e:(cV n fr ρ)[i]?=some (.pt a)):σ[i]?=some (some (.ref a)):=by
 unfold cV at e
 by_cases hj:i<n
 .rw[List.getElem?_append_left (by simpa using hj),List.getElem?_replicate,if_pos hj] at e;cases e
 .rw[List.getElem?_append_right (by simpa using hj),List.getElem?_map] at e
  cases hf:fr[i-(List.replicate n Sl.no).length]? with
  |none=>rw[hf] at e;cases e
  |some z =>
   rw[hf] at e;simp only[Option.map_some,Option.some.injEq] at e;split at e<;>cases e
theorem xE{n:Nat}{fr:List Nat}{ρ:Ev}:(cV n fr ρ).length=n+fr.length:=by unfold cV;simp
theorem yL{K:W.Frag}{E:XK}{n:Nat}{fr:List Nat}{tg:Ev->D->aj Ev}{tt fe:Ev->aj D}{σ:L2.St}{ρ:Ev}{H Ha H1 H01:Hp}{ds es:List D}{J:It}{Q:VK}(hsame:aC Ha H)(g1:bf H Ha H1 H01)(it:Jy K ds J H01)(hl:ds.length<=line)
  (e2:bS (cV n fr ρ) tg tt fe ds=.ok es)(hr:dX K H01 σ ρ)(hok:yW n tg)
  (q:∀p vs H' Ha',bf H Ha H' Ha'->H p=none->Ha' p=none->H' p=some (.lst vs)->Reps K Ha' es vs->Q (.ref p) H') :
  o5 n fr (IG K tg) (JB K E tt) (tD K E fe) J σ H1 Q:=by
 intro Da hDa;have h0D:H01 Da=none:=g1.sub.free hDa;refine⟨λi m ys σ' H'=>m=ds.length-i/\i<=ds.length/\σ'.length=n+fr.length/\∃Ha',bf H1 H01 H' Ha'/\Ha' Da=none/\H' Da=some (.lst ys)/\dX K Ha' σ' (cV n fr ρ)/\∃es1,bS (cV n fr ρ) tg tt fe (ds.take i)=.ok es1/\Reps K Ha' es1 ys,
  ⟨ds.length,by simp,Nat.zero_le _,by unfold iE;simp,H01,?_,h0D,aI,yR hr,[],rfl,Reps.nil⟩,?_⟩
 .refine⟨λb o e=>by rw[aA (bC e hDa)];exact e,aC.refl _,λb o e=>?_,λb k1 k2=>absurd k2 k1⟩
  rw[aA (by intro z;subst z;rw[h0D] at e;cases e)];exact g1.sub _ _ e
 .rintro i m ys σ' H' ⟨rfl,hile,hsl,Ha',gg,hD0,hDl,hrd,es1,hes1,hys⟩
  refine⟨hDl,?_⟩
  by_cases hlt:i<ds.length
  .refine .inr ⟨it.go i H' Ha' gg.z gg.sub hlt,?_,?_⟩
   .rw[←hys.length]
    have:=rm hes1;rw[List.length_take] at this;have h2:line<sizeLine:=by decide
    omega
   .intro x H2 hy
    obtain⟨H₀2,g2,rp⟩:=it.yld i H' Ha' x H2 ds[i] gg.z gg.sub (List.getElem?_eq_getElem hlt) hy;have hsplit:ds=ds.take i++(ds[i]::ds.drop (i+1)):=by rw[←List.drop_eq_getElem_cons hlt,List.take_append_drop]
    rw[hsplit] at e2;obtain⟨a1,a2,k1,k2,k3⟩:=ny e2;rw[hes1] at k1;cases k1;obtain⟨ρ1,t,t1,t2,t3⟩:=iu k2;have hn2:H₀2 Da=none:=by
     cases qq:H₀2 Da with|none=>rfl|some o=>have:=g2.nw Da (by rw[qq];simp) hD0;rw[hDl] at this;cases this
    have hD2:H2 Da=some (.lst ys):=g2.s _ _ hDl;refine⟨H2,H₀2,H₀2,cV n fr ρ,ds[i],⟨bf.refl g2.sub,hrd.mono g2.z,λj d' e=>?_,λj k d1 d2 _ e=>?_,by rw[xE,hsl],OX.none El BM⟩,rp,?_⟩
    .unfold cV at e
     by_cases hj:j<n
     .rw[List.getElem?_append_left (by simpa using hj),List.getElem?_replicate,if_pos hj] at e;cases e
     .rw[List.getElem?_append_right (by simpa using hj),List.getElem?_map] at e
      cases hf:fr[j-(List.replicate n Sl.no).length]? with
      |none=>rw[hf] at e;cases e
      |some z =>
       rw[hf] at e;simp only[Option.map_some,Option.some.injEq] at e;split at e<;>cases e
    .unfold cV at e
     by_cases hj:j<n
     .rw[List.getElem?_append_left (by simpa using hj),List.getElem?_replicate,if_pos hj] at e;cases e
     .rw[List.getElem?_append_right (by simpa using hj),List.getElem?_map] at e
      cases hf:fr[j-(List.replicate n Sl.no).length]? with
      |none=>rw[hf] at e;cases e
      |some z =>
       rw[hf] at e;simp only[Option.map_some,Option.some.injEq] at e;split at e<;>cases e
    .rw[t1]
     intro σ3 H3 H03 z3 s3;have hrl:=hok _ _ _ t1;have hσ3:σ3.length=n+fr.length:=by rw[←s3.ln,hrl.1,xE]
     have back:∀{Hx:Hp},aC H03 Hx->dX K Hx σ3 (cV n fr ρ):=λ{Hx} sx k d e=>by
      by_cases hk:k<n
      .rw[Gj hk] at e;cases e
      .rw[←hrl.2 k (by omega)] at e
       obtain⟨v,h1,h2⟩:=s3.rd k d e;exact⟨v,h1,h2.mono sx⟩
     have n3:H03 Da=none:=by
      cases qq:H03 Da with|none=>rfl|some o=>have:=s3.g.nw Da (by rw[qq];simp) hn2;rw[hD2] at this;cases this
     have hD3:H3 Da=some (.lst ys):=s3.g.s _ _ hD2;refine⟨H03,ρ1,s3.g.sub,s3.rd,?_⟩;rw[t2];intro H4 H04 g4;have hD4:H4 Da=some (.lst ys):=g4.s _ _ hD3;have n4:H04 Da=none:=by
      cases qq:H04 Da with|none=>rfl|some o=>have:=g4.nw Da (by rw[qq];simp) n3;rw[hD3] at this;cases this
     have htake:ds.take (i+1)=ds.take i++[ds[i]]:=by rw[List.take_add_one,List.getElem?_eq_getElem hlt];rfl
     have g04:=(gg.trans g2).trans (s3.g.trans g4);rcases t3 with⟨rfl,y,xs,t3,t4,_⟩|⟨rfl,t4⟩
     .rw[if_pos rfl]
      refine⟨H04,ρ1,g4.sub,s3.rd.mono g4.z,?_⟩;rw[t3];intro yv H5 H05 g5 ry;have hD5:H5 Da=some (.lst ys):=g5.s _ _ hD4;have n5:H05 Da=none:=by
       cases qq:H05 Da with|none=>rfl|some o=>have:=g5.nw Da (by rw[qq];simp) n4;rw[hD4] at this;cases this
      have gall:=g04.trans g5;refine⟨hD5,ds.length-(i+1),by omega,rfl,hlt,hσ3,H05,⟨λb o e=>?_,gall.z,λb o e=>?_,gall.nw⟩,n5,aI,back (g4.z.trans g5.z),es1++[y],?_,?_⟩
      .rw[aA (bC e hDa)];exact gall.s _ _ e
      .rw[aA (by intro z;subst z;rw[n5] at e;cases e)];exact gall.sub _ _ e
      .rw[htake]
       refine ir hes1 ?_;rw[gK t1 t2 t3];rfl
      .exact(hys.mono ((g2.z.trans s3.g.z).trans (g4.z.trans g5.z))).app (Reps.cons ry Reps.nil)
     .rw[if_neg Bool.false_ne_true]
      refine⟨ds.length-(i+1),by omega,rfl,hlt,hσ3,H04,g04,n4,hD4,back g4.z,es1,?_,hys.mono ((g2.z.trans s3.g.z).trans g4.z)⟩;rw[htake];rw[show es1=es1++[] by simp];refine ir hes1 ?_;rw[rl t1 t2];rfl
  .have hi2:i=ds.length:=by omega
   refine .inl ⟨it.stop i H' Ha' gg.z gg.sub (by omega),?_⟩;rw[hi2,List.take_length] at hes1;rw[e2] at hes1;cases hes1;exact q Da ys H' Ha' (g1.trans gg) (g1.s.free hDa) hD0 hDl hys
structure Lw (X:Cx) (E:XK) (ifs:List Expr) (f:Ev->aj D):Prop where
 o:JH X ifs (JB X.K E f)
noncomputable def mYes:Ev->aj D:=λ_=>.ok (.bl true)
theorem jC{X:Cx}{E:XK}:Lw X E [] mYes:=⟨λpins s σ H Q I ⟨Ha,ρ,hs,hr,q⟩=>zm pins s σ H Q I (q H Ha (bf.refl hs))⟩
theorem u4{X:Cx}{E:XK}{c:Expr}{f:Ev->aj D}(h:DT X E c f):Lw X E [c] f:=⟨Fj h.o⟩
structure Lh (X:Cx) (E:XK) (e:Expr) (f:Ev->aj D):Prop where
 ev:PE X e (tF X.K E f)
 st:∀{i:Nat}{x:Str}{pos' spos:Pos},X.N.Nodup->X.N[i]?=some x->X.env.scope.names.lookup x=some .local -> swapsWith e (some (.Name x pos')) spos.line X.env=pure true->PS X (.Assign [.Name x pos'] e spos) (E2 (tF X.K E f) (zV i))
theorem Nj{X:Cx}{E:XK}{tgt iter elt:Expr}{ifs:List Expr}{scope:Scope}{pos:Pos}(N:List Str)(n:Nat)(fr:List Nat){src:Ev->aj (List D)}{tg:Ev->D->aj Ev}{tt fe:Ev->aj D}(hc:X.calm=true)(hi:DI X E tgt iter src)(hok:yW n tg)
  (blk:∀s H C fp pn,(∀He H0e,DG (cK X N scope s H C fp pn) E He H0e tgt tg)/\Lw (cK X N scope s H C fp pn) E ifs tt/\DE (cK X N scope s H C fp pn) E elt fe)
  (hfr:yX X N n fr scope)(hcell:∀x∈scope.names,x.2≠.cell)(hfree:∀x∈scope.names,x.2=.free->X.env.scope.names.lookup x.1=some .cell)(hkind:scope.kind=.function)(hnames:∀x∈scope.names,x.2=.local -> scope.names.lookup x.1=some .local)
  (hs:∀x,foldedSetIterable iter X.env x=pure x:=by intro _;rfl):Lh X E (.ListComp elt [⟨tgt,iter,ifs,0⟩] scope pos) (dh n fr src tg tt fe):=by
 have blk':∀s H C fp pn,PG (cK X N scope s H C fp pn) tgt (IG X.K tg)/\JH (cK X N scope s H C fp pn) ifs (JB X.K E tt)/\PE (cK X N scope s H C fp pn) elt (tD X.K E fe):=λs H C fp pn =>
  ⟨λpins s' σ' H' v u Q' I r ⟨He,H0e,q'⟩=>((blk s H C fp pn).1 He H0e).o pins s' σ' H' v u Q' I r q',(blk s H C fp pn).2.1.o,(blk s H C fp pn).2.2.o⟩
 have first:∀{pins:List (Addr×Obj)}{s:Shared}{σ:L2.St}{H:Hp}{Q:VK}{RR:Value->Addr->Result->Shared->Prop},L2.Inv X pins σ H s->tF X.K E (dh n fr src tg tt fe) σ H Q ->
   (∀(Da C:Addr) (s6:Shared) (H5:Hp) (m:Str->Option Value),L2.Inv X pins σ H5 s6->s6.heap.Ns C m->mL X pins H5 C->Q (.ref Da) H5->RR (.ref Da) C (.ok .next) s6) ->
   wpAny (model X.prog X.w) X.A (eval iter X.env) (λx sg=>wpAny (model X.prog X.w) X.A (pyIter x) (λit si=>wpAny (model X.prog X.w) X.A (newList []) (λacc sj =>
    wpAny (model X.prog X.w) X.A (newFunctionEnv scope X.env.globals (fR X.env.cells scope.names []) [] X.env.qual none .none (some X.env)) (λcenv sk =>
     codeAny (model X.prog X.w) X.A (.compStart (.ListComp elt [⟨tgt,iter,ifs,0⟩] scope pos) 0 it acc { cenv with scope:=relabel scope X.env }) (RR acc cenv.locals) sk) X.xe sj) X.xe si) X.xe sg) X.xe s:=by
  intro pins s σ H Q RR I ⟨Ha,ρ,hsame,hr,q⟩ fin;refine cy (hi.o pins s σ H (λJ H1=>o5 n fr (IG X.K tg) (JB X.K E tt) (tD X.K E fe) J σ H1 Q) I ⟨Ha,ρ,hsame,hr,?_⟩) λv s1 h1=>cy h1 λitv s2 h2=>tR (N:=N) hc hfr hcell hfree hkind blk' h2 fin;unfold dh at q;cases e1:src ρ with
  |stuck|exn x=>rw[e1] at q;exact q
  |ok ds =>
   rw[e1] at q;intro J H1 H01 g1 it;replace q:match (if ds.length<=line then match bS (cV n fr ρ) tg tt fe ds with
     |.ok es=>aj.ok (D.lst es)
     |_=>.stuck else .stuck) with
    |.ok (.lst ds)=>∀p vs H' Ha',bf H Ha H' Ha'->H p=none->Ha' p=none->H' p=some (.lst vs)->Reps X.K Ha' ds vs->Q (.ref p) H'
    |.ok _=>False
    |.exn x=>∀C ox H' Ha',bf H Ha H' Ha'->AM X.K Ha' x C ox->E C ox H'
    |.stuck=>False:=q
   by_cases hl:ds.length<=line
   .rw[if_pos hl] at q
    cases e2:bS (cV n fr ρ) tg tt fe ds with
    |stuck|exn x=>rw[e2] at q;exact q.elim
    |ok es =>
     rw[e2] at q;exact yL hsame g1 it hl e2 (hr.mono g1.z) hok q
   .rw[if_neg hl] at q;exact q.elim
 have hcl:∀{pins:List (Addr×Obj)}{s:Shared}{σ:L2.St}{H:Hp},L2.Inv X pins σ H s->closureFor scope X.env=pure (fR X.env.cells scope.names []):=λ{pins s σ H} I=>jX λy hy hf=>I.ok.has y.1 (.inl (hfree y hy hf));refine⟨λpins s σ H Q I h=>?_,λ{i x pos' spos} hN hi' hx hsw pins s σ H D' I h=>?_⟩
 .rw[eval_ListComp]
  refine wpAny_comprehension_free (use:=none) rfl hs (hcl I) hkind hnames (first (RR:=λacc C=>compPost (model X.prog X.w) X.A X.xe none (EP X pins σ Q) acc C) I h λDa C s6 H5 m I6 ns fC q=>?_);refine⟨m,ns,λh' sb=>⟨.ref Da,H5,?_,rfl,q⟩⟩;exact I6.turned (t':=s6.toks) (it:=C) (λb o hb e=>(sb.2 b hb).trans e) fC.1 fC.2.1 fC.2.2.2.1 fC.2.2.2.2.1 fC.2.2.2.2.2
 .rw[exec_Assign_Name_used _ _ _ _ hsw]
  refine wpAny_bind (wpAny_standAt (wpAny_bind ?_));show wpAny _ X.A (do let _ ←comprehension (.ListComp elt [⟨tgt,iter,ifs,0⟩] scope pos) scope X.env _ (newList []) false (eval iter X.env) (some (assign (.Name x pos') X.env))) _ _ s;refine wpAny_bind (wpAny_mono (wpAny_comprehension_free (use:=some (assign (.Name x pos') X.env)) (Q:=λ_ s'=>SP X pins D' .next s') rfl hs (hcl I) hkind hnames
   (first (RR:=λacc C=>compPost (model X.prog X.w) X.A X.xe (some (assign (.Name x pos') X.env)) (λ_ s'=>SP X pins D' .next s') acc C) I h λDa C s6 H5 m I6 ns fC q=>?_)) (λ_ s' hq=>wpAny_pure (wpAny_pure hq)) λ_ _ e=>e)
  show wpAny _ X.A (assign (.Name x pos') X.env (.ref Da)) _ _ _;refine wpAny_assign_Name (mU (v:=.ref Da) I6 hN hi' (.inl hx) rfl (λs' I' ⟨a,sb,ha⟩=>?_) (.inr hx));have hCa:C≠a:=by
   rcases ha with rfl|ha
   .exact fC.2.1
   .exact λz=>fC.2.2.2.2.1 x a ha z.symm
  refine⟨m,ns.sameBut sb hCa,λh' sb'=>⟨_,H5,?_,q⟩⟩;exact I'.turned (t':=s'.toks) (it:=C) (λb o hb e=>(sb'.2 b hb).trans e) fC.1 fC.2.1 fC.2.2.2.1 fC.2.2.2.2.1 fC.2.2.2.2.2
theorem K4{X:Cx}{E:XK}{e:Expr}{f:Ev->aj D}(h:Lh X E e f):DF X E e f:=⟨h.ev⟩
theorem nJ{X:Cx}{E:XK}{e:Expr}{n:Nat}{fr:List Nat}{src:Ev->aj (List D)}{tg:Ev->D->aj Ev}{tt fe:Ev->aj D}(h:Lh X E e (dh n fr src tg tt fe)):DE X E e (dh n fr src tg tt fe):=Ea tQ (K4 h)
section
variable {X:Cx}{E:XK}{He H0e:Hp}{e:Expr}{f:Ev->aj D}{s:Ev->aj Fl}{pos:Pos}{st:Stmt}
noncomputable def unown(i:Nat) (ρ:Ev):Ev:=match ρ[i]? with
 |some (.ow d)=>ρ.set i (.sh d)
 |_=>ρ
noncomputable def Cq(i:Nat) (s:Ev->aj Fl):Ev->aj Fl:=λρ=>s (unown i ρ)
theorem dH.unown{K:W.Frag}{Ha H:Hp}{σ:L2.St}{ρ:Ev}(h:dH K He H0e Ha σ H ρ)(i:Nat):∃Ha',aC Ha Ha'/\dH K He H0e Ha' σ H (DL.unown i ρ):=by
 unfold DL.unown;cases e:ρ[i]? with
 |none=>exact⟨Ha,aC.refl _,h⟩
 |some s =>
  cases s with
  |no|sh d|ox j ds|pt a=>exact⟨Ha,aC.refl _,h⟩
  |ow d =>
   obtain⟨a,k1,k2,k3,k4⟩:=h.ow i d e;obtain⟨o,h5,hrep⟩:∃o,H a=some o/\∀Hb,aC Ha Hb->Hb a=some o->Rep K Hb d (.ref a):=by
    cases d with
    |lst ds=>obtain⟨vs,h5,h6⟩:=k4;exact⟨_,h5,λHb z e=>aG.mpr ⟨a,vs,rfl,eZ.of e,h6.mono z⟩⟩
    |dic ks ds=>obtain⟨vs,h5,hl,h6⟩:=k4;exact⟨_,h5,λHb z e=>by rw[Rep];exact⟨a,_,vs,rfl,.inl e,rfl,hl,h6.mono z⟩⟩
    |_=>exact k4.elim
   have z:aC Ha (upd Ha a o):=λb o' q=>by rw[aA (by intro z;subst z;rw[k3] at q;cases q)];exact q
   have h':dH K He H0e (upd Ha a o) σ H (ρ.set i .no):=by
    have nset:∀(j:Nat) (s:Sl),(ρ.set i .no)[j]?=some s->s≠.no->j≠i/\ρ[j]?=some s:=λj s q hs=>by
     by_cases hj:i=j
     .subst hj
      rw[List.getElem?_set_self'] at q;rw[e] at q;cases q;exact absurd rfl hs
     .rw[List.getElem?_set_ne hj] at q;exact⟨λz=>hj z.symm,q⟩
    refine⟨⟨h.g.s,h.g.z.trans z,λb o' q=>?_,λb q1 q2=>?_⟩,λj d' q=>?_,λj d' q=>?_,λj k d1 d2 hn q1 q2=>?_,by simp [h.ln],h.ex.upd (λj s q=>?_) z (λb us _ eb=>eb) λq us _ q0 hq hd=>?_⟩
    rotate_left 5
    .by_cases hs:s=.no
     .exact .inr (.inr (.inl hs))
     .exact .inl ⟨(nset j s q hs).2,rfl⟩
    .have hq':q≠a:=by
      intro zz;subst zz;exact hd i _ e k1
     exact⟨hq,by rw[aA hq'];exact q0⟩
    .by_cases hb:b=a
     .subst hb;rw[aI] at q;cases q;exact h5
     .rw[aA hb] at q;exact h.g.sub _ _ q
    .by_cases hb:b=a
     .subst hb;exact k2
     .rw[aA hb] at q1;exact h.g.nw b q1 q2
    .obtain⟨hj,q⟩:=nset j _ q (λz=>nomatch z)
     obtain⟨v,q1,q2⟩:=h.rd j d' q;exact⟨v,q1,q2.mono z⟩
    .obtain⟨hj,q⟩:=nset j _ q (λz=>nomatch z)
     obtain⟨b,q1,q2,q3,q4⟩:=h.ow j d' q;have hb:b≠a:=by
      intro zz;subst zz;exact h.ap j i d' d hj q e (by rw[q1,k1])
     refine⟨b,q1,q2,by rw[aA hb];exact q3,?_⟩;cases d' with|lst ds'=>obtain⟨vs',h7,h8⟩:=q4;exact⟨vs',h7,h8.mono z⟩|dic ks' ds'=>obtain⟨vs',h7,hl,h8⟩:=q4;exact⟨vs',h7,hl,h8.mono z⟩| _=>exact q4.elim
    .obtain⟨_,q1⟩:=nset j _ q1 (λz=>nomatch z)
     obtain⟨_,q2⟩:=nset k _ q2 (λz=>nomatch z);exact h.ap j k d1 d2 hn q1 q2
   refine⟨_,z,?_⟩;have hp:=h'.put (i:=i) (d:=d) (v:=.ref a) (hrep _ z aI);rw[List.set_set] at hp;have hσ:σ.set i (some (V.ref a))=σ:=by
    apply List.ext_getElem?;intro k
    by_cases hk:i=k
    .subst hk
     obtain⟨hil,_⟩:=List.getElem?_eq_some_iff.mp k1;rw[List.getElem?_set_self hil,k1]
    .rw[List.getElem?_set_ne hk]
   rw[hσ] at hp;exact hp
theorem IT(i:Nat)(h:DS X E He H0e st s):DS X E He H0e st (Cq i s):=⟨bH h.o λD' σ H ⟨Ha,ρ,hr,q⟩=>by
 obtain⟨Ha',z,hr'⟩:=hr.unown i;exact⟨Ha',DL.unown i ρ,hr',bW.grow (r:=s (DL.unown i ρ)) q z⟩⟩
end
theorem va{X:Cx}{E:XK}{tgt iter elt:Expr}{ifs:List Expr}{scope:Scope}{pos:Pos}(N:List Str)(n:Nat)(fr:List Nat){src:Ev->aj (List D)}{tg:Ev->D->aj Ev}{tt fe:Ev->aj D}(hc:X.calm=true)(hi:DI X E tgt iter src)(hok:yW n tg)
  (blk:∀s H C fp pn,(∀He H0e,DG (cK X N scope s H C fp pn) E He H0e tgt tg)/\Lw (cK X N scope s H C fp pn) E ifs tt/\DE (cK X N scope s H C fp pn) E elt fe)
  (hfr:yX X N n fr scope)(hcell:(scope.names.all λx=>!(x.2==.cell))=true)(hfree:(scope.names.all λx=>!(x.2==.free)||(X.env.scope.names.lookup x.1==some .cell))=true)(hkind:scope.kind=.function)
  (hnames:(scope.names.all λx=>!(x.2==.local)||(scope.names.lookup x.1==some .local))=true)
  (hs:∀x,foldedSetIterable iter X.env x=pure x:=by intro _;rfl):Lh X E (.ListComp elt [⟨tgt,iter,ifs,0⟩] scope pos) (dh n fr src tg tt fe):=by
 refine Nj N n fr hc hi hok blk hfr (λx hx z=>?_) (λx hx z=>?_) hkind (λx hx z=>?_) hs
 .have:=List.all_eq_true.mp hcell x hx
  rw[z] at this;simp at this
 .have:=List.all_eq_true.mp hfree x hx
  rw[z] at this;simpa using this
 .have:=List.all_eq_true.mp hnames x hx
  rw[z] at this;simpa using this
theorem FZ{X:Cx}{E:XK}{He H0e:Hp}{e:Expr}{f:Ev->aj D}{pos:Pos}{i:Nat}{x:Str}{pos':Pos}(hN:X.N.Nodup)(hi:X.N[i]?=some x)(hx:X.env.scope.names.lookup x=some .local)(hl:mK f)(he:Lh X E e f)(hs:swapsWith e (some (.Name x pos')) pos.line X.env=pure true:=by rfl):DS X E He H0e (.Assign [.Name x pos'] e pos) (bG i f):=by
 refine⟨bH (he.st hN hi hx hs) λD σ H ⟨Ha,ρ,h,q⟩=>?_⟩;refine vv hl ⟨Ha,ρ,h.g.sub,h.rd,?_⟩;refine plain h q λd v H' Ha' _ g rp q'=>?_;exact q' _ H' Ha' (aC.refl _) ((h.grow g).put rp)
end DL
namespace Com
open PySem L2 DL
noncomputable def er:Ev->aj Fl :=
 (aw (fI (jy 1) (aa (ae 1) (dC (.int 0)) jE)
 (aw (su 0 1 (ai (ae 1) (ai (aa (ae 0) (ae 1) de) aE)))
 ar))
 (aw (bP (au (ai (ae 0) aE) (m1 BG)))
 ar))
noncomputable def iT:List D->aj D:=cp 2 er
noncomputable def eI:Ev->aj Fl :=
 (aw (bG 2 (au (ai (ae 0) (ai (ae 1) aE)) iT))
 (aw (bP (au (ai (aa (ae 0) (ae 2) mC) (ai (aa (ae 1) (ae 2) mC) aE)) e8))
 ar))
noncomputable def sA:List D->aj D:=cp 3 eI
noncomputable def yS:Ev->aj Fl :=
 (aw (bP (eW (cL (ae 0) (jM "int")) (cI (cL (ae 0) (jM "bool")))))
 ar)
noncomputable def m_is_whole:List D->aj D:=cp 1 yS
noncomputable def dF:Ev->aj Fl :=
 (aw (bG 2 (au (ai (ae 0) aE) (m1 BG)))
 (aw (bG 3 (au (ai (ae 1) aE) (m1 BG)))
 (aw (fI (jy 3) (aa (ae 3) (dC (.int 0)) jE)
 (aw (bG 4 (aa (ae 2) (ae 3) de))
 (aw (bG 2 (ae 3))
 (aw (bG 3 (ae 4))
 ar))))
 (aw (bP (ae 2))
 ar))))
noncomputable def m_common_divisor:List D->aj D:=cp 5 dF
noncomputable def oU:Ev->aj Fl :=
 (aw (dW (iq (cI (au (ai (ae 0) aE) m_is_whole)) (cI (au (ai (ae 1) aE) m_is_whole)))
 (aw c7
 ar)
 ar)
 (aw (dW (aa (ae 1) (dC (.int 0)) iD)
 (aw c7
 ar)
 ar)
 (aw (bG 2 (au (ai (ae 0) (ai (ae 1) aE)) m_common_divisor))
 (aw (dW (aa (ae 1) (dC (.int 0)) Ja)
 (aw (bG 2 (cL (ae 2) xu))
 ar)
 ar)
 (aw (bP (au (ai (aa (ae 0) (ae 2) mC) (ai (aa (ae 1) (ae 2) mC) aE)) e8))
 ar)))))
noncomputable def m_ratio:List D->aj D:=cp 3 oU
noncomputable def Em:Ev->aj Fl :=
 (aw (bP (au (ai (aa (aa (aa (ae 0) (dC (.int 0)) aN) (aa (ae 1) (dC (.int 1)) aN) b3) (aa (aa (ae 1) (dC (.int 0)) aN) (aa (ae 0) (dC (.int 1)) aN) b3) cb) (ai (aa (aa (ae 0) (dC (.int 1)) aN) (aa (ae 1) (dC (.int 1)) aN) b3) aE)) m_ratio))
 ar)
noncomputable def m_plus:List D->aj D:=cp 2 Em
noncomputable def t9:Ev->aj Fl :=
 (aw (bP (aa (aa (aa (ae 0) (dC (.int 0)) aN) (aa (ae 1) (dC (.int 1)) aN) b3) (aa (aa (ae 1) (dC (.int 0)) aN) (aa (ae 0) (dC (.int 1)) aN) b3) Ja))
 ar)
noncomputable def m_is_less:List D->aj D:=cp 2 t9
theorem yQ{α β:Type}{a:α}{f:α->aj β}:(aj.ok a).bind f=f a:=rfl
theorem gw{s t:Ev->aj Fl}{ρ ρ':Ev}(h:s ρ=.ok (.nx ρ')):aw s t ρ=t ρ':=by unfold aw;rw[h];rfl
theorem uv{s t:Ev->aj Fl}{ρ:Ev}{d:D}(h:s ρ=.ok (.rt d)):aw s t ρ=.ok (.rt d):=by unfold aw;rw[h];rfl
theorem Cn{s:Ev->aj Fl}{ρ ρ':Ev}(h:s ρ=.ok (.nx ρ')):aw s ar ρ=.ok (.nx ρ'):=by unfold aw;rw[h];rfl
theorem xX{i:Nat}{f:Ev->aj D}{ρ:Ev}{d:D}(h:f ρ=.ok d):bG i f ρ=.ok (.nx (ρ.set i (.sh d))):=by unfold bG;rw[h];rfl
theorem uw{f:Ev->aj D}{ρ:Ev}{d:D}(h:f (fX ρ)=.ok d):bP f ρ=.ok (.rt d):=by unfold bP;rw[h];rfl
theorem IE{c:Ev->aj D}{s t:Ev->aj Fl}{ρ:Ev}(h:c (fX ρ)=.ok (.bl false)):dW c s t ρ=t ρ:=by unfold dW;rw[h];rfl
theorem kj{i j:Int}:jE (.int i) (.int j)=.ok (.bl (!(i==j))):=by unfold jE;rw[if_pos ⟨rfl,rfl⟩,cC]
theorem nk{i j:Int}:iD (.int i) (.int j)=.ok (.bl (i==j)):=by unfold iD;rw[if_pos ⟨rfl,rfl⟩,cC]
theorem gQ{f:Ev->aj D}{fa:Ev->aj (List D)}{ρ:Ev}{x:D}{xs:List D}(h:f ρ=.ok x)(h':fa ρ=.ok xs):ai f fa ρ=.ok (x::xs):=by unfold ai;rw[h,yQ,h'];rfl
theorem jg{f g:Ev->aj D}{op:D->D->aj D}{ρ:Ev}{x y:D}(h:f ρ=.ok x)(h':g ρ=.ok y):aa f g op ρ=op x y:=by unfold aa;rw[h,yQ,h'];rfl
theorem mD{fa:Ev->aj (List D)}{m:List D->aj D}{ρ:Ev}{xs:List D}(h:fa ρ=.ok xs):au fa m ρ=m xs:=by unfold au;rw[h];rfl
theorem yq{a b:Int}(h:b≠0):de (.int a) (.int b)=.ok (.int (a.fmod b)):=by
 show(if decide (b≠0)=true then aj.ok (D.int (a.fmod b)) else .stuck)=_;rw[if_pos (decide_eq_true h)]
theorem uZ{a b:Int}(h:eD a b=true):mC (.int a) (.int b)=.ok (.int (a.fdiv b)):=by
 show(if eD a b=true then aj.ok (D.int (a.fdiv b)) else .stuck)=_;rw[if_pos h]
theorem pY(a b:Int):Int.gcd b (a.fmod b)=Int.gcd a b:=by
 rw[Int.fmod_def,Int.gcd_sub_mul_left_right,Int.gcd_comm]
theorem zX{a b:Int}(h:b≠0):(a.fmod b).natAbs<b.natAbs:=by
 rcases Int.lt_or_gt_of_ne h with hb|hb
 .have h1:=Int.fmod_lt_of_pos (-a) (show 0 < -b by omega)
  have h2:=Int.fmod_nonneg_of_pos (-a) (show 0 < -b by omega);rw[Int.neg_fmod_neg] at h1 h2;omega
 .have h1:=Int.fmod_lt_of_pos a hb
  have h2:=Int.fmod_nonneg_of_pos a hb;omega
theorem mz:∀(n:Nat) (a b:Int),b.natAbs<n->∃g:Int,g.natAbs=Int.gcd a b /\
  b7 (aa (ae 1) (dC (.int 0)) jE) (aw (su 0 1 (ai (ae 1) (ai (aa (ae 0) (ae 1) de) aE))) ar) n [.sh (.int a),.sh (.int b)]=.ok (.nx [.sh (.int g),.sh (.int 0)])
 |0,a,b,h=>absurd h (Nat.not_lt_zero _)
 |n+1,a,b,h=>by
  unfold b7;have c:(aa (ae 1) (dC (.int 0)) jE) (fX [.sh (.int a),.sh (.int b)])=.ok (.bl (!(b==0))):=kj;rw[c]
  by_cases hb:b=0
  .subst hb
   exact⟨a,by simp,rfl⟩
  .have e:(!(b==0))=true:=by simp [hb]
   obtain⟨g,h1,h2⟩:=mz n b (a.fmod b) (by have:=zX (a:=a) hb;omega);refine⟨g,by rw[h1,pY],?_⟩;rw[←h2];rw[e];have st:(aw (su 0 1 (ai (ae 1) (ai (aa (ae 0) (ae 1) de) aE))) ar) [.sh (.int a),.sh (.int b)]=.ok (.nx [.sh (.int b),.sh (.int (a.fmod b))]):=by
    refine Cn ?_;unfold su;have:(ai (ae 1) (ai (aa (ae 0) (ae 1) de) aE)) [.sh (.int a),.sh (.int b)]=.ok [.int b,.int (a.fmod b)]:=by
     exact gQ rfl (gQ (yq hb) rfl)
    rw[this];rfl
   show(aj.bind _ _)=_;rw[st];rfl
theorem yG(a b:Int):iT [.int a,.int b]=.ok (.int (Int.gcd a b)):=by
 obtain⟨g,h1,h2⟩:=mz (b.natAbs+1) a b (Nat.lt_succ_self _);have w:fI (jy 1) (aa (ae 1) (dC (.int 0)) jE) (aw (su 0 1 (ai (ae 1) (ai (aa (ae 0) (ae 1) de) aE))) ar) [.sh (.int a),.sh (.int b)]=.ok (.nx [.sh (.int g),.sh (.int 0)]):=h2;have r:er [.sh (.int a),.sh (.int b)]=.ok (.rt (.int (if g<0 then -g else g))):=by
  unfold er;rw[gw w];exact uv (uw rfl)
 show(er [.sh (.int a),.sh (.int b)]).bind _=_;rw[r];show aj.ok (D.int (if g<0 then -g else g))=_
 congr 2
 rw[←h1];split<;>omega
theorem nM:∀(n:Nat) (x y:D) (a b:Int) (r:Sl),0<=a->0<=b->b.natAbs<n->∃r',
  b7 (aa (ae 3) (dC (.int 0)) jE) (aw (bG 4 (aa (ae 2) (ae 3) de)) (aw (bG 2 (ae 3)) (aw (bG 3 (ae 4)) ar))) n [.sh x,.sh y,.sh (.int a),.sh (.int b),r]=.ok (.nx [.sh x,.sh y,.sh (.int (Int.gcd a b)),.sh (.int 0),r'])
 |0,_,_,a,b,_,_,_,h=>absurd h (Nat.not_lt_zero _)
 |n+1,x,y,a,b,r,ha,hb0,h=>by
  unfold b7;have c:∀r,(aa (ae 3) (dC (.int 0)) jE) (fX [.sh x,.sh y,.sh (.int a),.sh (.int b),r])=.ok (.bl (!(b==0))):=λr=>kj;rw[c]
  by_cases hb:b=0
  .subst hb
   refine⟨r,?_⟩;have e:((Int.gcd a 0:Nat):Int)=a:=by simp;omega
   rw[e];rfl
  .have e:(!(b==0))=true:=by simp [hb]
   have hp:0<b:=by omega
   obtain⟨r',h2⟩:=nM n x y b (a.fmod b) (.sh (.int (a.fmod b))) hb0 (Int.fmod_nonneg_of_pos a hp) (by have:=zX (a:=a) hb;omega);refine⟨r',?_⟩;rw[pY] at h2;rw[←h2,e];have st:(aw (bG 4 (aa (ae 2) (ae 3) de)) (aw (bG 2 (ae 3)) (aw (bG 3 (ae 4)) ar))) [.sh x,.sh y,.sh (.int a),.sh (.int b),r]=.ok (.nx [.sh x,.sh y,.sh (.int b),.sh (.int (a.fmod b)),.sh (.int (a.fmod b))]):=by
    have m:(aa (ae 2) (ae 3) de) [.sh x,.sh y,.sh (.int a),.sh (.int b),r]=.ok (.int (a.fmod b)):=by
     exact yq hb
    rw[gw (xX m)];rfl
   show(aj.bind _ _)=_;rw[st];rfl
theorem jF(a b:Int):m_common_divisor [.int a,.int b]=.ok (.int (Int.gcd a b)):=by
 have e:∀i:Int,(if i<0 then -i else i)=(i.natAbs:Int):=λi=>by split<;>omega
 obtain⟨r',h⟩:=nM ((b.natAbs:Int).natAbs+1) (.int a) (.int b) a.natAbs b.natAbs .no (Int.natCast_nonneg _) (Int.natCast_nonneg _) (Nat.lt_succ_self _);have hg:Int.gcd (a.natAbs:Int) (b.natAbs:Int)=Int.gcd a b:=by simp [Int.gcd]
 rw[hg] at h;have r:dF [.sh (.int a),.sh (.int b),.no,.no,.no]=.ok (.rt (.int (Int.gcd a b))):=by
  unfold dF;rw[gw (ρ':=[.sh (.int a),.sh (.int b),.sh (.int (a.natAbs:Int)),.no,.no]) (by rw[←e a];rfl)];rw[gw (ρ':=[.sh (.int a),.sh (.int b),.sh (.int (a.natAbs:Int)),.sh (.int (b.natAbs:Int)),.no]) (by rw[←e b];rfl)];have w:fI (jy 3) (aa (ae 3) (dC (.int 0)) jE) (aw (bG 4 (aa (ae 2) (ae 3) de)) (aw (bG 2 (ae 3)) (aw (bG 3 (ae 4)) ar))) [.sh (.int a),.sh (.int b),.sh (.int (a.natAbs:Int)),.sh (.int (b.natAbs:Int)),.no]=.ok (.nx [.sh (.int a),.sh (.int b),.sh (.int (Int.gcd a b)),.sh (.int 0),r']):=h;rw[gw w];exact uv (uw rfl)
 show(dF [.sh (.int a),.sh (.int b),.no,.no,.no]).bind _=_;rw[r];rfl
theorem ye:(2:Nat) ^ 64<=xM:=by rw[nA];exact Nat.pow_le_pow_right (by decide) (by decide)
theorem KD{i:Int}(h:i.natAbs<18446744073709551616):i.natAbs<xM:=Nat.lt_of_lt_of_le h ye
theorem fL{i j:Int}(h:i.natAbs<18446744073709551616)(h':j.natAbs<18446744073709551616):dG i j=true:=by
 unfold dG;rw[Bool.and_eq_true];exact⟨decide_eq_true (KD h),decide_eq_true (KD h')⟩
theorem d9{i j:Int}(h:i.natAbs<xM)(h':j.natAbs<xM):dG i j=true:=by
 unfold dG;rw[Bool.and_eq_true];exact⟨decide_eq_true h,decide_eq_true h'⟩
theorem D7{i j:Int}(h0:j≠0)(h:j.natAbs<B9):eD i j=true:=by
 unfold eD;rw[Bool.and_eq_true,Bool.or_eq_true];exact⟨decide_eq_true h0,.inl (decide_eq_true h)⟩
theorem kr{i j:Int}(h0:j≠0)(h:i.natAbs<nY):eD i j=true:=by
 unfold eD;rw[Bool.and_eq_true,Bool.or_eq_true];exact⟨decide_eq_true h0,.inr (decide_eq_true h)⟩
theorem pV{ds:List D}{k:Nat}{d:D}(h:ds[k]?=some d):aN (.lst ds) (.int (k:Int))=.ok d:=by
 unfold aN;simp only[eJ h]
theorem eC{a b:Int}(hb:0<b):0<=a.fmod b/\a.fmod b<b:=⟨Int.fmod_nonneg_of_pos a hb,Int.fmod_lt_of_pos a hb⟩
theorem Br{n k:Nat}(h:k<n):(DL.intsFrom 0 n).drop k=.int (k:Int)::(DL.intsFrom 0 n).drop (k+1):=by
 have hl:(DL.intsFrom 0 n).length=n:=by unfold DL.intsFrom;simp
 rw[List.drop_eq_getElem_cons (by rw[hl];exact h)]
 congr 1
 unfold DL.intsFrom;simp
theorem Dt{n:Nat}:(DL.intsFrom 0 n).drop n=[]:=by
 have hl:(DL.intsFrom 0 n).length=n:=by unfold DL.intsFrom;simp
 exact List.drop_eq_nil_of_le (by omega)
theorem c3{tg:Ev->D->aj Ev}{s:Ev->aj Fl}{d:D}{r:List D}{ρ ρ1 ρ2:Ev}(h1:tg ρ d=.ok ρ1)(h2:s ρ1=.ok (.nx ρ2)):bM tg s (d::r) ρ=bM tg s r ρ2:=by
 rw[bM,h1,yQ,h2,yQ]
theorem FR{tg:Ev->D->aj Ev}{s:Ev->aj Fl}{d v:D}{r:List D}{ρ ρ1:Ev}(h1:tg ρ d=.ok ρ1)(h2:s ρ1=.ok (.rt v)):bM tg s (d::r) ρ=.ok (.rt v):=by
 rw[bM,h1,yQ,h2,yQ]
noncomputable def JF:D->Bool
 |.int _=>true
 |_=>false
theorem eR(d:D):m_is_whole [d]=.ok (.bl (JF d)):=by cases d<;>first|rfl|(rename_i k _;cases k<;>rfl)
theorem eS{a g:Int}(hg:0<g):a.fdiv g=a / g:=Int.fdiv_eq_ediv_of_nonneg a (by omega)
theorem jx{a b:Int}(h:b≠0):0<(Int.gcd a b:Int):=by
 have:=Int.gcd_pos_of_ne_zero_right a h;omega
theorem JD{a b:Int}(hb:0<b)(h1:a.natAbs<nY)(h2:b.natAbs<nY):sA [.int a,.int b]=.ok (.tup [.int (a / Int.gcd a b),.int (b / Int.gcd a b)]):=by
 have hg:=jx (a:=a) (b:=b) (by omega);have r:eI [.sh (.int a),.sh (.int b),.no]=.ok (.rt (.tup [.int (a / Int.gcd a b),.int (b / Int.gcd a b)])):=by
  unfold eI;rw[gw (ρ':=[.sh (.int a),.sh (.int b),.sh (.int (Int.gcd a b))]) (xX ((mD (xs:=[.int a,.int b]) rfl).trans (yG a b)))];refine uv (uw ?_);refine(mD (xs:=[.int (a / Int.gcd a b),.int (b / Int.gcd a b)]) (gQ ?_ (gQ ?_ rfl))).trans rfl
  .rw[←eS hg]
   exact(jg (x:=.int a) (y:=.int (Int.gcd a b)) rfl rfl).trans (uZ (kr (by omega) h1))
  .rw[←eS hg]
   exact(jg (x:=.int b) (y:=.int (Int.gcd a b)) rfl rfl).trans (uZ (kr (by omega) h2))
 show(eI [.sh (.int a),.sh (.int b),.no]).bind _=_;rw[r];rfl
theorem Cu{a b:Int}(hb:0<b)(h1:a.natAbs<nY)(h2:b.natAbs<nY):m_ratio [.int a,.int b]=.ok (.tup [.int (a / Int.gcd a b),.int (b / Int.gcd a b)]):=by
 have hg:=jx (a:=a) (b:=b) (by omega);have r:oU [.sh (.int a),.sh (.int b),.no]=.ok (.rt (.tup [.int (a / Int.gcd a b),.int (b / Int.gcd a b)])):=by
  unfold oU;rw[gw (ρ':=[.sh (.int a),.sh (.int b),.no]) (IE (t:=ar) rfl)];rw[gw (ρ':=[.sh (.int a),.sh (.int b),.no]) (IE (t:=ar) ((jg (x:=.int b) (y:=.int 0) rfl rfl).trans (nk.trans (by rw[beq_eq_false_iff_ne.mpr (by omega)]))))];rw[gw (ρ':=[.sh (.int a),.sh (.int b),.sh (.int (Int.gcd a b))]) (xX ((mD (xs:=[.int a,.int b]) rfl).trans (jF a b)))];rw[gw (ρ':=[.sh (.int a),.sh (.int b),.sh (.int (Int.gcd a b))]) (IE (t:=ar) (by
   show aj.ok (D.bl (decide (b<0)))=_;rw[decide_eq_false (by omega)]))]
  refine uv (uw ?_);refine(mD (xs:=[.int (a / Int.gcd a b),.int (b / Int.gcd a b)]) (gQ ?_ (gQ ?_ rfl))).trans rfl
  .rw[←eS hg]
   exact(jg (x:=.int a) (y:=.int (Int.gcd a b)) rfl rfl).trans (uZ (kr (by omega) h1))
  .rw[←eS hg]
   exact(jg (x:=.int b) (y:=.int (Int.gcd a b)) rfl rfl).trans (uZ (kr (by omega) h2))
 show(oU [.sh (.int a),.sh (.int b),.no]).bind _=_;rw[r];rfl
noncomputable def KP(p q:Int):D:=.tup [.int p,.int q]
end Com
open Com
namespace Com
open PySem L2 DL
noncomputable abbrev cw:=Int×Int
noncomputable def fr(x:cw):D:=KP x.1 x.2
noncomputable def xH:Nat:=1000000000000000000000000000000000000000000000000000000000000
theorem Jv:xH<=B9:=by rw[AN];exact Nat.le_trans (show xH<=2 ^ 200 by decide) (Nat.pow_le_pow_right (by decide) (by decide))
theorem Gw:xH<=nY:=by rw[nC];exact Nat.le_trans (show xH<=2 ^ 200 by decide) (Nat.pow_le_pow_right (by decide) (by decide))
theorem AL:xH<=xM:=by rw[nA];exact Nat.le_trans (show xH<=2 ^ 200 by decide) (Nat.pow_le_pow_right (by decide) (by decide))
theorem oV:nY<=xM:=by rw[nC,nA];exact Nat.pow_le_pow_right (by decide) (by decide)
structure Low (x:cw):Prop where
 q1:1<=x.2
 g1:Int.gcd x.1 x.2=1
structure fW (x:cw):Prop extends Low x where
 pN:x.1.natAbs<xH
 qN:x.2.natAbs<xH
noncomputable def cQ(a b:Int):cw:=(a / Int.gcd a b,b / Int.gcd a b)
theorem dz{a b:Int}(hb:0<b):Low (cQ a b):=by
 have hg:=jx (a:=a) (b:=b) (by omega);refine⟨?_,Int.gcd_ediv_gcd_ediv_gcd (by omega)⟩;have:=Int.ediv_gcd_ne_zero_if_ne_zero_right a (show b≠0 by omega);have h2:0<=b / (Int.gcd a b:Int):=Int.ediv_nonneg (by omega) (by omega);show 1<=b / (Int.gcd a b:Int);omega
theorem FJ{a b:Int}:(cQ a b).1*b=a*(cQ a b).2:=by
 unfold cQ;obtain⟨x,hx⟩:=Int.gcd_dvd_left a b;obtain⟨y,hy⟩:=Int.gcd_dvd_right a b
 by_cases hg:(Int.gcd a b:Int)=0
 .simp only[hg,Int.ediv_zero,Int.zero_mul,Int.mul_zero]
 .generalize hG:(Int.gcd a b:Int)=G at *
  have e1:a / G=x:=by rw[hx];exact Int.mul_ediv_cancel_left x hg
  have e2:b / G=y:=by rw[hy];exact Int.mul_ediv_cancel_left y hg
  show a / G*b=a*(b / G);rw[e1,e2]
  calc x*b=x*(G*y):=by rw[←hy]
   _=G*x*y:=by grind
   _=a*y:=by rw[←hx]
theorem uM{a b:Int}:(cQ a b).1.natAbs<=a.natAbs:=Int.natAbs_ediv_le_natAbs _ _
theorem uL{a b:Int}:(cQ a b).2.natAbs<=b.natAbs:=Int.natAbs_ediv_le_natAbs _ _
theorem pO{x y:cw}(hx:Low x)(hy:Low y)(h:x.1*y.2=y.1*x.2):x=y:=by
 have d1:x.2∣y.2:=by
  have:x.2∣x.1*y.2:=⟨y.1,by rw[h];exact Int.mul_comm _ _⟩
  rw[←Int.dvd_gcd_mul_iff_dvd_mul,Int.gcd_comm,hx.g1] at this;simpa using this
 have d2:y.2∣x.2:=by
  have:y.2∣y.1*x.2:=⟨x.1,by rw[←h];exact Int.mul_comm _ _⟩
  rw[←Int.dvd_gcd_mul_iff_dvd_mul,Int.gcd_comm,hy.g1] at this;simpa using this
 have e:x.2=y.2:=Int.dvd_antisymm (by have:=hx.q1;omega) (by have:=hy.q1;omega) d1 d2;have e1:x.1=y.1:=by
  rw[e] at h;exact Int.eq_of_mul_eq_mul_right (by have:=hy.q1;omega) h
 exact Prod.ext e1 e
theorem vI{a b:Int}(hb:0<b)(h1:a.natAbs<nY)(h2:b.natAbs<nY):m_ratio [.int a,.int b]=.ok (fr (cQ a b)):=Cu hb h1 h2
theorem KH{a b:Int}(hb:0<b)(h1:a.natAbs<xH)(h2:b.natAbs<xH):fW (cQ a b):=⟨dz hb,Nat.lt_of_le_of_lt uM h1,Nat.lt_of_le_of_lt uL h2⟩
noncomputable def flt(x y:cw):Bool:=decide (x.1*y.2<y.1*x.2)
theorem aH{α:Type}{a b:α}(h:a=b):a=b:=h
noncomputable def HH(t:Ev->aj Fl) (r:Fl):aj Fl:=match r with
 |.nx ρ'=>t ρ'
 |r=>.ok r
noncomputable def JZ(i:Nat) (ρ:Ev) (d:D):aj Fl:=.ok (.nx (ρ.set i (.sh d)))
noncomputable def J1(d:D):aj Fl:=.ok (.rt d)
noncomputable def G7(ρ:Ev) (_:D):aj Fl:=.ok (.nx ρ)
noncomputable def L9(s t:Ev->aj Fl) (ρ:Ev) (x:D):aj Fl:=match x with
 |.bl b=>if b=true then s ρ else t ρ
 |_=>.stuck
noncomputable def Kn(i:Nat) (ρ:Ev) (d:D):aj Fl:=match d with
 |.lst ds=>.ok (.nx (ρ.set i (.ow (.lst ds))))
 |_=>.stuck
noncomputable def Ig(s:Option Sl) (k:List D->aj Fl):aj Fl:=match s with
 |some (.ow (.lst ds))=>k ds
 |_=>.stuck
noncomputable def Jl(i:Nat) (ρ:Ev) (ds:List D) (d:D):aj Fl:=if ds.length<line then .ok (.nx (ρ.set i (.ow (.lst (ds++[d]))))) else .stuck
noncomputable def gG(i:Nat) (ρ:Ev) (k:Ev->aj D) (ds:List D) (d:D):aj Fl:=(k ρ).bind (DL.putAt ρ i ds d)
noncomputable def Km(i j:Nat) (ρ:Ev) (ds:List D):aj Fl:=match ds with
 |[x,y]=>.ok (.nx ((ρ.set i (.sh x)).set j (.sh y)))
 |_=>.stuck
noncomputable def k2(g:Ev->aj D) (op:D->D->aj D) (ρ:Ev) (x:D):aj D:=(g ρ).bind (op x)
noncomputable def yK(x:D) (xs:List D):aj (List D):=.ok (x::xs)
noncomputable def Hd(fa:Ev->aj (List D)) (ρ:Ev) (x:D):aj (List D):=(fa ρ).bind (yK x)
noncomputable def Jm(g:Ev->aj D) (ρ:Ev) (x:D):aj D:=match x with
 |.bl true=>g ρ
 |.bl false=>.ok (.bl false)
 |_=>.stuck
noncomputable def L4(g:Ev->aj D) (ρ:Ev) (x:D):aj D:=match x with
 |.bl true=>.ok (.bl true)
 |.bl false=>g ρ
 |_=>.stuck
noncomputable def Kq(x:D):aj D:=match x with
 |.bl b=>.ok (.bl (!b))
 |_=>.stuck
noncomputable def ID(f g:Ev->aj D) (ρ:Ev) (x:D):aj D:=match x with
 |.bl true=>f ρ
 |.bl false=>g ρ
 |_=>.stuck
noncomputable def JM(s:Option Sl):aj D:=match s with
 |some (.sh d)=>.ok d
 |_=>.stuck
noncomputable def A1(s:Sl):Sl:=match s with
 |.ow d=>.sh d
 |.ox _ ds=>.sh (.tup ds)
 |x=>x
noncomputable def HL(r:Fl):aj D:=match r with
 |.nx _=>.ok .non
 |.rt d=>.ok d
 |_=>.stuck
noncomputable def MH(x:D):aj (Option Int):=match x with
 |.int i=>.ok (some i)
 |_=>.stuck
noncomputable def Ck(x:D) (l:Option Int) (h:Option Int):aj D:=o9 x l h
noncomputable def LU(hi:Ev->aj (Option Int)) (ρ:Ev) (x:D) (l:Option Int):aj D:=(hi ρ).bind (Ck x l)
noncomputable def JY(lo hi:Ev->aj (Option Int)) (ρ:Ev) (x:D):aj D:=(lo ρ).bind (LU hi ρ x)
noncomputable def KQ(tg:Ev->D->aj Ev) (s:Ev->aj Fl) (ρ:Ev) (d:D):aj Fl:=match d with
 |.lst ds=>bM tg s ds ρ
 |_=>.stuck
noncomputable def Gg(op':D->D->aj D) (h:Ev->aj D) (ρ:Ev) (y z:D):aj D:=match z with
 |.bl true=>(h ρ).bind (op' y)
 |.bl false=>.ok (.bl false)
 |_=>.stuck
noncomputable def Jf(op op':D->D->aj D) (h:Ev->aj D) (ρ:Ev) (x y:D):aj D:=(op x y).bind (Gg op' h ρ y)
noncomputable def MU(op op':D->D->aj D) (g h:Ev->aj D) (ρ:Ev) (x:D):aj D:=(g ρ).bind (Jf op op' h ρ x)
section
variable {s t:Ev->aj Fl}{f g h:Ev->aj D}{fa:Ev->aj (List D)}{ρ r:Ev}{i j:Nat}{d x y:D}{ds xs:List D}{op op':D->D->aj D}{a b:Int}
theorem iC{α β:Type}{a:α}{k:α->aj β}:(aj.ok a).bind k=k a:=aH rfl
theorem kn:aw s t ρ=(s ρ).bind (HH t):=aH rfl
theorem lH:HH t (.nx ρ)=t ρ:=aH rfl
theorem lG:HH t (.rt d)=.ok (.rt d):=aH rfl
theorem lQ:ar ρ=.ok (.nx ρ):=aH rfl
theorem ql:bG i f ρ=(f ρ).bind (JZ i ρ):=aH rfl
theorem lF:JZ i ρ d=.ok (.nx (ρ.set i (.sh d))):=aH rfl
theorem qp:bP f ρ=(f (fX ρ)).bind J1:=aH rfl
theorem lK:J1 d=.ok (.rt d):=aH rfl
theorem me:kQ f ρ=(f (fX ρ)).bind (G7 ρ):=aH rfl
theorem iZ:G7 ρ d=.ok (.nx ρ):=aH rfl
theorem wV:dW f s t ρ=(f (fX ρ)).bind (L9 s t ρ):=aH rfl
theorem qL:L9 s t ρ (.bl true)=s ρ:=aH rfl
theorem qK:L9 s t ρ (.bl false)=t ρ:=aH rfl
theorem qu:ke i f ρ=(f ρ).bind (Kn i ρ):=aH rfl
theorem lO:Kn i ρ (.lst ds)=.ok (.nx (ρ.set i (.ow (.lst ds)))):=aH rfl
theorem qT:dw i f ρ=Ig ρ[i]? λds=>(f ρ).bind (Jl i ρ ds):=aH rfl
theorem lN{k:List D->aj Fl}:Ig (some (.ow (.lst ds))) k=k ds:=aH rfl
theorem fu(h:decide (ds.length<=999)=true):Jl i ρ ds d=.ok (.nx (ρ.set i (.ow (.lst (ds++[d]))))):=if_pos (Nat.lt_of_le_of_lt (of_decide_eq_true h) (by decide))
theorem qr:Cp i f g ρ=Ig ρ[i]? λds=>(f ρ).bind (gG i ρ g ds):=aH rfl
theorem lL:gG i ρ g ds d=(g ρ).bind (DL.putAt ρ i ds d):=aH rfl
theorem qM:Cq i s ρ=s (unown i ρ):=aH rfl
theorem qt:su i j fa ρ=(fa ρ).bind (Km i j ρ):=aH rfl
theorem lM:Km i j ρ [x,y]=.ok (.nx ((ρ.set i (.sh x)).set j (.sh y))):=aH rfl
theorem w8{o:D->aj D}:cL f o ρ=(f ρ).bind o:=aH rfl
theorem w6:aa f g op ρ=(f ρ).bind (k2 g op ρ):=aH rfl
theorem qS:k2 g op ρ x=(g ρ).bind (op x):=aH rfl
theorem w4{m:List D->aj D}:au fa m ρ=(fa ρ).bind m:=aH rfl
theorem qE:aE ρ=.ok []:=aH rfl
theorem mf:ai f fa ρ=(f ρ).bind (Hd fa ρ):=aH rfl
theorem i7:Hd fa ρ x=(fa ρ).bind (yK x):=aH rfl
theorem i6:yK x xs=.ok (x::xs):=aH rfl
theorem qU:eW f g ρ=(f ρ).bind (Jm g ρ):=aH rfl
theorem mi:Jm g ρ (.bl true)=g ρ:=aH rfl
theorem mh:Jm g ρ (.bl false)=.ok (.bl false):=aH rfl
theorem wO:iq f g ρ=(f ρ).bind (L4 g ρ):=aH rfl
theorem qB:L4 g ρ (.bl true)=.ok (.bl true):=aH rfl
theorem qA:L4 g ρ (.bl false)=g ρ:=aH rfl
theorem qC:cI f ρ=(f ρ).bind Kq:=aH rfl
theorem lP{c:Bool}:Kq (.bl c)=.ok (.bl (!c)):=aH rfl
theorem qJ:Jc h f g ρ=(h ρ).bind (ID f g ρ):=aH rfl
theorem l7:ID f g ρ (.bl true)=f ρ:=aH rfl
theorem lZ:ID f g ρ (.bl false)=g ρ:=aH rfl
theorem qd:ae i ρ=JM ρ[i]?:=aH rfl
theorem ll:JM (some (.sh d))=.ok d:=aH rfl
theorem Dz:dC d ρ=.ok d:=aH rfl
theorem lE:fX []=[]:=aH rfl
theorem qk{c:Sl}:fX (c::r)=A1 c::fX r:=aH rfl
theorem lD:A1 (.ow d)=.sh d:=aH rfl
theorem oJ:A1 (.ox j ds)=.sh (.tup ds):=aH rfl
theorem lC:A1 (.sh d)=.sh d:=aH rfl
theorem lA:A1 .no=.no:=aH rfl
theorem qo{n:Nat}:cp n s ds=(s (ds.map Sl.sh++List.replicate (n-ds.length) .no)).bind HL:=aH rfl
theorem lJ:HL (.rt d)=.ok d:=aH rfl
theorem lI:HL (.nx ρ)=.ok .non:=aH rfl
theorem wN:eP f ρ=(f ρ).bind MH:=aH rfl
theorem qv:MH (.int a)=.ok (some a):=aH rfl
theorem wQ:fg ρ=.ok none:=aH rfl
theorem wK{lo hi:Ev->aj (Option Int)}:BF f lo hi ρ=(f ρ).bind (JY lo hi ρ):=aH rfl
theorem qj{lo hi:Ev->aj (Option Int)}:JY lo hi ρ x=(lo ρ).bind (LU hi ρ x):=aH rfl
theorem qi{hi:Ev->aj (Option Int)}{l:Option Int}:LU hi ρ x l=(hi ρ).bind (Ck x l):=aH rfl
theorem qh{l l':Option Int}:Ck (.lst ds) l l'=.ok (.lst (sE ds l l')):=aH rfl
theorem qO{tg:Ev->D->aj Ev}:n9 f tg s ρ=(f ρ).bind (KQ tg s ρ):=aH rfl
theorem md{tg:Ev->D->aj Ev}:KQ tg s ρ (.lst ds)=bM tg s ds ρ:=aH rfl
theorem i8:gA op op' f g h ρ=(f ρ).bind (MU op op' g h ρ):=aH rfl
theorem wW:MU op op' g h ρ x=(g ρ).bind (Jf op op' h ρ x):=aH rfl
theorem qR:Jf op op' h ρ x y=(op x y).bind (Gg op' h ρ y):=aH rfl
theorem qQ:Gg op' h ρ y (.bl true)=(h ρ).bind (op' y):=aH rfl
theorem qP:Gg op' h ρ y (.bl false)=.ok (.bl false):=aH rfl
theorem qI{o:Int->Int->D}:wF (λ_ _=>true) o (.int a) (.int b)=.ok (o a b):=aH rfl
theorem qV:cb (.int a) (.int b)=.ok (.int (a+b)):=aH rfl
theorem gq{es:List D}(h:decide (ds.length+es.length<=1000)=true):cb (.lst ds) (.lst es)=.ok (.lst (ds++es)):=if_pos (Nat.le_trans (of_decide_eq_true h) (by decide))
theorem qF:xu (.int a)=.ok (.int (-a)):=aH rfl
theorem wU{m:D->aj D}:m1 m [x]=m x:=aH rfl
theorem wR{m:D->D->aj D}:m2 m [x,y]=m x y:=aH rfl
theorem dB:dE (.lst ds)=.ok (.int ds.length):=aH rfl
theorem lR:dE (.tup ds)=.ok (.int ds.length):=aH rfl
theorem qf(h:decide (ds.length<=1000)=true):e8 ds=.ok (.tup ds):=if_pos (Nat.le_trans (of_decide_eq_true h) (by decide))
theorem qH(h:decide (ds.length<=1000)=true):cu ds=.ok (.lst ds):=if_pos (Nat.le_trans (of_decide_eq_true h) (by decide))
theorem dR{z:Str}:jM "str" (.str z)=.ok (.bl true):=aH rfl
theorem c5:jM "tuple" (.tup ds)=.ok (.bl true):=aH rfl
theorem di:jM "list" (.lst ds)=.ok (.bl true):=aH rfl
theorem fO:gz (.non) .non=.ok (.bl true):=aH rfl
theorem eV:cU (.non) .non=.ok (.bl false):=aH rfl
theorem eU{z:Str}:cU (.str z) .non=.ok (.bl true):=aH rfl
theorem fN:gz (.tup ds) .non=.ok (.bl false):=aH rfl
theorem eT:cU (.tup ds) .non=.ok (.bl true):=aH rfl
theorem cm(h:dG a b=true):b3 (.int a) (.int b)=.ok (.int (a*b)):=if_pos h
theorem qG(h:(b==0)=false):de (.int a) (.int b)=.ok (.int (a.fmod b)):=yq (λz=>by rw[z] at h;cases h)
theorem nj(h:eD a b=true):mC (.int a) (.int b)=.ok (.int (a.fdiv b)):=if_pos h
theorem wL{is:List Nat}:d4 ρ (i::is) (d::ds)=d4 (ρ.set i (.sh d)) is ds:=aH rfl
theorem qm:d4 ρ [] ds=ρ:=aH rfl
noncomputable def MA(i:Nat) (ρ:Ev) (s:Option Sl):Ev:=match s with
 |some (.ow d)=>ρ.set i (.sh d)
 |_=>ρ
theorem wJ:unown i ρ=MA i ρ ρ[i]?:=aH rfl
theorem qe:MA i ρ (some (.ow d))=ρ.set i (.sh d):=aH rfl
theorem wM{n:Nat}{j:Int}(h:xJ ds.length j=some n):DL.putAt ρ i ds d (.int j)=.ok (.nx (ρ.set i (.ow (.lst (ds.set n d))))):=by
 unfold DL.putAt;simp only[h]
theorem jA{x0:D}:aN (.lst (x0::xs)) (.int 0)=.ok x0:=by
 unfold aN;simp only[show atI (x0::xs) 0=some x0 from eJ (j:=0) rfl]
theorem lX{x0:D}:aN (.tup (x0::xs)) (.int 0)=.ok x0:=by
 unfold aN;simp only[show atI (x0::xs) 0=some x0 from eJ (j:=0) rfl]
theorem jz{x0 x1:D}:aN (.lst (x0::x1::xs)) (.int 1)=.ok x1:=by
 unfold aN;simp only[show atI (x0::x1::xs) 1=some x1 from eJ (j:=1) rfl]
theorem lW{x0 x1:D}:aN (.tup (x0::x1::xs)) (.int 1)=.ok x1:=by
 unfold aN;simp only[show atI (x0::x1::xs) 1=some x1 from eJ (j:=1) rfl]
theorem lY{x0 x1 x2:D}:aN (.lst (x0::x1::x2::xs)) (.int 2)=.ok x2:=by
 unfold aN;simp only[show atI (x0::x1::x2::xs) 2=some x2 from eJ (j:=2) rfl]
theorem lV{x0 x1 x2:D}:aN (.tup (x0::x1::x2::xs)) (.int 2)=.ok x2:=by
 unfold aN;simp only[show atI (x0::x1::x2::xs) 2=some x2 from eJ (j:=2) rfl]
theorem lU{x0 x1 x2 x3:D}:aN (.tup (x0::x1::x2::x3::xs)) (.int 3)=.ok x3:=by
 unfold aN;simp only[show atI (x0::x1::x2::x3::xs) 3=some x3 from eJ (j:=3) rfl]
theorem lT{x0 x1 x2 x3 x4:D}:aN (.tup (x0::x1::x2::x3::x4::xs)) (.int 4)=.ok x4:=by
 unfold aN;simp only[show atI (x0::x1::x2::x3::x4::xs) 4=some x4 from eJ (j:=4) rfl]
theorem wZ:((2:Nat):Int)=2:=aH rfl
theorem wY:((4:Nat):Int)=4:=aH rfl
theorem wX:((5:Nat):Int)=5:=aH rfl
end
noncomputable def GU(fa:Ev->aj (List D)) (ρ:Ev) (x:D):aj D:=match x with
 |.str z=>(fa ρ).bind (lj z)
 |_=>.stuck
theorem lS{f:Ev->aj D}{fa:Ev->aj (List D)}{ρ:Ev}:tP f fa ρ=(f ρ).bind (GU fa ρ):=aH rfl
theorem iY{fa:Ev->aj (List D)}{ρ:Ev}{z:Str}:GU fa ρ (.str z)=(fa ρ).bind (lj z):=aH rfl
end Com
local macro_rules|`(tactic|open_line with[$xs,*])=>`(tactic|simp only[iC,kn,lH,lG,lQ,ql,lF,qp,lK,me,iZ,wV,qL,qK,qu,lO,qT,lN,qr,lL,qM,qt,lM,w8,w6,qS,w4,qE,mf,i7,i6,qU,mi,mh,wO,qB,qA,qC,lP,qJ,l7,lZ,qd,ll,Dz,lE,qk,lD,lC,lA,qo,lJ,lI,wN,qv,wQ,wK,qj,qi,qh,qO,md,i8,wW,qR,qQ,qP,qI,qV,qF,wU,wR,dB,lR,nk,kj,List.map_cons,List.map_nil,List.length_cons,List.length_nil,List.replicate_succ,List.replicate_zero,List.nil_append,List.cons_append,List.getElem?_cons_zero,List.getElem?_cons_succ,List.set_cons_zero,List.set_cons_succ,Nat.sub_zero,Nat.reduceSub,Nat.reduceAdd,Nat.add_zero,Nat.zero_add,Bool.not_true,Bool.not_false,qf,qH,gq,fu,qG,wL,qm,wJ,qe,jA,jz,lY,lX,lW,lV,lU,lT,decide_true,decide_false,Nat.reduceLeDiff,Nat.reduceBEq,Int.reduceBEq,beq_self_eq_true,DL.dOne,DL.mYes,dR,c5,di,fO,eV,eU,fN,eT,wZ,wY,wX,Int.reduceLT,Int.reduceLE,Int.reduceSub,Int.reduceAdd,Int.reduceMul,Int.reduceNeg,lS,iY,Int.reduceToNat,Bool.and_self,$[$xs:term],*])
namespace Com
open PySem L2 DL
noncomputable def gO:Ev->aj Fl :=
 (aw (dW (iq (cI (cL (ae 0) (jM "str"))) (cI (gA Jb Jb (dC (.int 1)) (au (ai (ae 0) aE) (m1 dE)) (dC (.int 8)))))
 (aw (bP (dC (.bl false)))
 ar)
 ar)
 (aw (bP (au (ai (dh 1 [] (E4 (ae 0)) (bw 0) mYes (aa (ae 0) (dC (.str "abcdefghijklmnopqrstuvwxyz")) Ez)) aE) (m1 yJ)))
 ar))
noncomputable def m_is_name:List D->aj D:=cp 1 gO
noncomputable def dr:Ev->aj Fl :=
 (aw (dW (iq (cI (cL (ae 0) (jM "tuple"))) (aa (au (ai (ae 0) aE) (m1 dE)) (dC (.int 2)) jE))
 (aw (bP (dC (.bl false)))
 ar)
 ar)
 (aw (dW (iq (cI (au (ai (aa (ae 0) (dC (.int 0)) aN) aE) m_is_whole)) (cI (au (ai (aa (ae 0) (dC (.int 1)) aN) aE) m_is_whole)))
 (aw (bP (dC (.bl false)))
 ar)
 ar)
 (aw (bP (eW (aa (aa (ae 0) (dC (.int 1)) aN) (dC (.int 1)) Mh) (aa (au (ai (aa (ae 0) (dC (.int 0)) aN) (ai (aa (ae 0) (dC (.int 1)) aN) aE)) m_common_divisor) (dC (.int 1)) iD)))
 ar)))
noncomputable def m_is_ratio:List D->aj D:=cp 1 dr
noncomputable def Nq:Str:="abcdefghijklmnopqrstuvwxyz"
noncomputable def tm(c:Nat):Bool:=Ln ⟨#[c]⟩ Nq
noncomputable def nameB(z:Str):Bool:=decide (1<=z.length)&&(decide (z.length<=8)&&z.cps.toList.all tm)
noncomputable def Kx:D->Bool
 |.str z=>nameB z
 |_=>false
noncomputable def Lq:D->Bool
 |.str z=>decide (z.length<=line)
 |_=>true
theorem tV{b:Ev}{tg:Ev->D->aj Ev}{tt fe:Ev->aj D}{F:D->D}:∀{ds:List D},(∀d∈ds,∃ρ1,tg b d=.ok ρ1/\tt ρ1=.ok (.bl true)/\fe ρ1=.ok (F d))->bS b tg tt fe ds=.ok (ds.map F)
 |[],_=>rfl
 |d::r,h=>by
  obtain⟨ρ1,h1,h2,h3⟩:=h d List.mem_cons_self;rw[gK h1 h2 h3,tV (λe he=>h e (List.mem_cons_of_mem _ he))];rfl
theorem nP{α:Type}(F:α->Bool):∀(cs:List α),eg (cs.map λc=>D.bl (F c))=some (cs.map F)
 |[]=>rfl
 |c::r=>by
  show(eg (r.map λc=>D.bl (F c))).map (F c::·)=_;rw[nP F r];rfl
theorem ym{z:Str}(hz:z.length<=line):dh 1 [] (E4 (ae 0)) (bw 0) mYes (aa (ae 0) (dC (.str "abcdefghijklmnopqrstuvwxyz")) Ez) [.sh (.str z)]=.ok (.lst (z.cps.toList.map λc=>.bl (tm c))):=by
 have hl:(iM z).length<=line:=by rw[kc];exact hz
 unfold dh;show(if(iM z).length<=line then _ else _)=_;rw[if_pos hl];have:bS (cV 1 [] [.sh (.str z)]) (bw 0) mYes (aa (ae 0) (dC (.str "abcdefghijklmnopqrstuvwxyz")) Ez) (iM z)=.ok (z.cps.toList.map λc=>D.bl (tm c)):=by
  unfold iM
  induction z.cps.toList with
  |nil=>rfl
  |cons c r ih =>
   rw[List.map_cons,gK (x:=.bl (tm c)) rfl rfl rfl,ih];rfl
 rw[this]
theorem yA{d:D}(h:Lq d=true):m_is_name [d]=.ok (.bl (Kx d)):=by
 cases d with
 |str z =>
  have hz:z.length<=line:=of_decide_eq_true h;have hlen:dE (.str z)=.ok (.int z.length):=if_pos hz;show cp 1 gO _=.ok (.bl (nameB z));unfold nameB
  by_cases h1:1<=z.length
  .by_cases h8:z.length<=8
   .have e1:decide ((1:Int)<=(z.length:Int))=true:=decide_eq_true (by omega)
    have e2:decide ((z.length:Int)<=8)=true:=decide_eq_true (by omega);open_line with[gO,hlen,e1,e2,ym hz,yJ,nP,decide_eq_true h1,decide_eq_true h8,Bool.true_and]
    simp [List.all_map,Function.comp_def]
   .have e1:decide ((1:Int)<=(z.length:Int))=true:=decide_eq_true (by omega)
    have e2:decide ((z.length:Int)<=8)=false:=decide_eq_false (by omega);open_line with[gO,hlen,e1,e2,decide_eq_true h1,decide_eq_false h8,Bool.false_and,Bool.and_false]
  .have e1:decide ((1:Int)<=(z.length:Int))=false:=decide_eq_false (by omega)
   open_line with[gO,hlen,e1,decide_eq_false h1,Bool.false_and]
 |ob k _=>cases k<;>rfl
 |_=>rfl
noncomputable def pw:D->Bool
 |.tup [.int p,.int q]=>decide (1<=q)&&(Int.gcd p q==1)
 |_=>false
theorem IL{g:Nat}:((g:Int)==1)=(g==1):=by
 cases h:(g==1) with
 |true=>rw[eq_of_beq h];rfl
 |false =>
  have:g≠1:=λz=>by rw[z] at h;cases h
  exact beq_eq_false_iff_ne.mpr (by omega)
theorem Hs{xs:List D}:(∃x y,xs=[x,y])∨xs.length≠2:=by
 match xs with
 |[]=>exact .inr (by decide)
 |[x]=>exact .inr (by simp)
 |[x,y]=>exact .inl ⟨x,y,rfl⟩
 |x::y::z::r=>exact .inr (by simp)
theorem Ct:∀{xs:List D},xs.length≠2->pw (.tup xs)=false
 |[],_=>rfl
 |[x],_=>by cases x<;>rfl
 |[x,y],h=>absurd rfl h
 |x::y::z::r,_=>by cases x<;>cases y<;>rfl
theorem ya{x y:D}:pw (.tup [x,y])=(JF x&&(JF y&&pw (.tup [x,y]))):=by
 cases x<;>cases y<;>rfl
theorem uO(d:D):m_is_ratio [d]=.ok (.bl (pw d)):=by
 cases d with
 |tup xs =>
  rcases Hs (xs:=xs) with⟨x,y,rfl⟩|h
  .rw[ya]
   show cp 1 dr _=_;cases hx:JF x with
   |false=>open_line with[dr,eR,hx,Bool.false_and]
   |true =>
    cases hy:JF y with
    |false=>open_line with[dr,eR,hx,hy,Bool.false_and,Bool.true_and]
    |true =>
     cases x<;>first|(cases hx;done)|skip
     cases y<;>first|(cases hy;done)|skip
     rename_i p q;show _=aj.ok (D.bl (decide (1<=q)&&(Int.gcd p q==1)))
     by_cases hq:1<=q
     .open_line with[dr,eR,hx,hy,jF,Bool.true_and,decide_eq_true hq,IL]
     .open_line with[dr,eR,hx,hy,jF,Bool.true_and,decide_eq_false hq,Bool.false_and]
  .have e2:((xs.length:Int)==2)=false:=beq_eq_false_iff_ne.mpr (by omega)
   rw[Ct h];show cp 1 dr _=_;open_line with[dr,e2]
 |ob k _=>cases k<;>rfl
 |_=>rfl
theorem Gd{α:Type}{F:α->D}{xs:List α}{lo hi:Option Int}:sE (xs.map F) lo hi=((xs.drop (HT.sIx xs.length 0 lo)).take (HT.sIx xs.length xs.length hi-HT.sIx xs.length 0 lo)).map F:=by
 unfold sE;rw[List.length_map,←List.map_drop,←List.map_take]
end Com
namespace DL
open PySem PySem.Spec PyProof.Rows L2
structure Hi (k:Nat) (A:Around):Prop where
 dp:A.depth+3*k+5<recursionLimit
 un:A.units+16*k+200<cLine
theorem du.h{k:Nat}{A:Around}(r:du k A):Hi k A:=⟨r.dp,r.un⟩
structure M1 (P:Program) (w:World) (K:W.Frag) (mg:Str->Option Value) (base:Heap) (k:Nat) (f:Addr) (fd:FuncData) (ps:List Str) (sp:Sp):Prop where
 len:∀vs H Q E,sp vs H Q E->vs.length=ps.length
 run:∀(A:Around) (outer:List PySem.Env) (s:Shared) (H:Hp) (args:Args) (us:List Value) (vs:List V) (Q:VK) (E:XK),Hi k A->Eu P w K mg base A outer s H->BindsTo s fd args (ps.zip us)->bF vs us->sp vs H Q E ->
  codeAny (model P w) A (.call (.ref f) args) (CR CX0 outer P w H s Q E) s
theorem M1.ok{P:Program}{w:World}{K:W.Frag}{mg:Str->Option Value}{base:Heap}{k:Nat}{f:Addr}{fd:FuncData}{ps:List Str}{sp:Sp}(F:M1 P w K mg base k f fd ps sp):iz P w K mg base CX0 k f fd ps sp :=
 ⟨F.len,λA outer s H args us vs Q E hr=>F.run A outer s H args us vs Q E (du.h hr)⟩
section
variable {X:Cx}{pins:List (Addr×Obj)}{σ:L2.St}{H:Hp}{s:Shared}{h':Heap}
theorem AQ{t':Nat}{fp:List Addr}{T:Addr}{xs:List V}(I:Inv X pins σ H s)(k:∀b o,b∉fp->s.heap.get? b=some o->h'.get? b=some o)(hf:∀b∈fp,mL X pins H b)(hT:s.heap.objs.size<=T)
  (new:cW X.prog X.w (upd H T (.tup xs)) h' T (.tup xs)):Inv X pins σ (upd H T (.tup xs)) { s with heap:=h',toks:=t' }:=by
 have hn:H T=none:=I.hok.fresh hT;have nit:∀b u,H b=some u->b∉fp:=λb u e z=>by rw[(hf b z).1] at e;cases e
 refine I.step (g':=s.gens) (d':=s.drawn) (ch:=fp) (λb hb=>?_) (λb o _ _ hc e _=>k b o hc e) (λb o _ _ hc e _=>⟨o.slots,k b o hc e⟩) (λb o _ e n=>?_)
  (λb o hc e=>⟨o,k b o hc e⟩) (λb xs e=>by rw[aA (bC e hn)];exact e) (λb o u e=>by rw[aA (bC e hn)];exact e) (λb ps e=>⟨#[],by rw[aA (bC e hn),e];simp⟩) (λm hm=>?_) (λb u e=>?_) I.bare
 .obtain⟨_,f1,_,f3,f4,f5⟩:=hf b hb
  exact⟨f3,f1,f4,f5⟩
 .rw[aA (Nat.ne_of_lt (Nat.lt_of_lt_of_le (Heap.lt_size e) hT))];exact n
 .obtain⟨o,es,ep,ho,r⟩:=hm
  exact⟨o,es,ep,k _ o (λz=>(hf _ z).2.1 rfl) ho,r⟩
 .by_cases hb:b=T
  .subst hb;rw[aI] at e;cases e;exact new
  .rw[aA hb] at e
   refine(I.hok b u e).stay (λc v hc q=>k c v ?_ q) (λc q=>by rw[aA (bC q hn)];exact q) λc xs q=>by rw[aA (bC q hn)];exact q
   rcases hc with z|z
   .rw[z];exact nit b u e
   .exact nit c _ z
theorem ET{t':Nat}{fp:List Addr}(I:Inv X pins σ H s)(k:∀b o,b∉fp->s.heap.get? b=some o->h'.get? b=some o)(hf:∀b∈fp,mL X pins H b):Inv X pins σ H { s with heap:=h',toks:=t' }:=by
 have nit:∀b u,H b=some u->b∉fp:=λb u e z=>by rw[(hf b z).1] at e;cases e
 refine I.step (g':=s.gens) (d':=s.drawn) (ch:=fp) (λb hb=>?_) (λb o _ _ hc e _=>k b o hc e) (λb o _ _ hc e _=>⟨o.slots,k b o hc e⟩) (λb o _ e n=>n)
  (λb o hc e=>⟨o,k b o hc e⟩) (λb xs e=>e) (λb o u e=>e) (λb ps e=>⟨#[],by rw[e];simp⟩) (λm hm=>?_) (λb u e=>?_) I.bare
 .obtain⟨_,f1,_,f3,f4,f5⟩:=hf b hb
  exact⟨f3,f1,f4,f5⟩
 .obtain⟨o,es,ep,ho,r⟩:=hm
  exact⟨o,es,ep,k _ o (λz=>(hf _ z).2.1 rfl) ho,r⟩
 .refine(I.hok b u e).stay (λc v hc q=>k c v ?_ q) (λ_ q=>q) λ_ _ q=>q
  rcases hc with z|z
  .rw[z];exact nit b u e
  .exact nit c _ z
end
noncomputable def M0(K:W.Frag) (a:Addr):It :=
 ⟨λi H=>∃xs x,eZ K H a xs/\xs[i]?=some x,λi H x H'=>∃p y,H p=none/\x=.ref p/\(∀xs,eZ K H a xs->xs[i]?=some y)/\H'=upd H p (.tup [.int i,y]),λi H=>∃xs,eZ K H a xs/\xs.length<=i⟩
theorem AU{P:Program}{w:World}{K:W.Frag}{elts:List Expr}{k:Nat}{pos:Pos}(a it e:Addr)(hne:e≠it)(hae:a≠e)(hai:a≠it) :
  yV P w K (.Tuple elts k pos) (M0 K a) [e,it] e (λi h=>(∃old,IsEnum h e it i old)/\h.IsListIter it a i) where
 mem:=by simp
 obj:=λi h st b hb=>by
  obtain⟨⟨old,he⟩,o,h1,h2,h3⟩:=st;rcases List.mem_cons.mp hb with rfl|hb
  .exact⟨_,he,λv z=>by cases z⟩
  .rcases List.mem_cons.mp hb with rfl|hb
   .exact⟨o,h1,λv z=>by rw[h3] at z;cases z⟩
   .cases hb
 keep:=λi h h' st k=>by
  obtain⟨⟨old,he⟩,hi⟩:=st;exact⟨⟨old,k e (by simp) _ he⟩,hi.at λo y=>k it (by simp) o y⟩
 item:=by
  intro X hP hw hK hc i pins s σ H E I hf st hg;subst hP hw hK;obtain⟨xs,x,hq,hx⟩:=hg;obtain⟨its,rv,p,hz⟩:=I.list hq;obtain⟨u,hu,ru⟩:=rv.get hx;have W:=WalksT.enumerate (prog:=X.prog) (w:=X.w) (I.ok.hd hc) e it a hne hae hai its.toArray;have hil:i<its.toArray.size:=by simpa using (List.getElem?_eq_some_iff.mp hu).1
  refine W.item i s _ _ hil ⟨st.1,st.2,p.isList⟩ λT vals h' tk hPt hT hTup hMid hk=>?_;refine⟨_,rfl,W.go elts k pos i T _ _ _ hMid λh'' st'' hk''=>?_⟩;obtain⟨t,y,hy,rfl⟩:=hPt;have hyu:y=u:=by
   have:its[i]?=some y:=by simpa using hy
   rw[hu] at this;cases this;rfl
  subst hyu;obtain⟨o,ho,hr⟩:=hTup;have ho':=hk'' T o (W.apart i T _ hMid) ho;refine⟨.ref T,upd H T (.tup [.int i,x]),AQ (s:=s) (h':=h'') (t':=tk) I (λb o hb e=>hk'' b o hb (hk b o hb e)) hf hT ⟨by show 2<=sizeLine;decide,[.int i t,y],.cons ⟨t,rfl⟩ (.cons ru .nil),o,ho',hr⟩,rfl,⟨T,x,I.hok.fresh hT,rfl,λys hy=>by rw[I.list_inj hy hq];exact hx,rfl⟩,⟨st''.1,st''.2.1⟩,λb hb=>?_⟩;have hb0:=(hf b hb).1;obtain⟨ob,hob,_⟩:∃o,s.heap.get? b=some o/\∀v,o.data≠.cell v:=by
   obtain⟨⟨old,he⟩,o,h1,h2,h3⟩:=st;rcases List.mem_cons.mp hb with rfl|hb
   .exact⟨_,he,λv z=>by cases z⟩
   .rcases List.mem_cons.mp hb with rfl|hb
    .exact⟨o,h1,λv z=>by rw[h3] at z;cases z⟩
    .cases hb
  rw[aA (Nat.ne_of_lt (Nat.lt_of_lt_of_le (Heap.lt_size hob) hT))];exact hb0
 done:=by
  intro X hP hw hK hc i pins s σ H E I hf st hg;subst hP hw hK;obtain⟨xs,hq,hx⟩:=hg;obtain⟨its,rv,p,hz⟩:=I.list hq;have hl:=rv.length;obtain⟨⟨old,he⟩,hi⟩:=st;exact wpAny_pyNext_enum_end (I.ok.hd hc) he hi p.isList (by simp;omega) λh' hx=>⟨rfl,ET (t':=s.toks) I (λb o hb e=>hx b o (λz=>hb (by simp [z])) e) hf⟩
 self:=λ_ _ _ _ _ st h=>by
  obtain⟨⟨old,he⟩,_⟩:=st;exact wpAny_pyIter_enum he h
section
variable {X:Cx}{E:XK}{elts:List Expr}{k:Nat}{tp:Pos}{e a b:Expr}{f g:Ev->aj D}
noncomputable def KL(K:W.Frag) (ta:TA):TI:=λσ H R=>ta σ H λvs H1=>∃a,vs=[.ref a]/\(∃xs,eZ K H1 a xs)/\R (M0 K a) H1
theorem Fm{ta:TA}{p pos:Pos}(hg:Gl X "enumerate")(hm:X.mg "enumerate"=none)(ha:PA X [a] ta)(hs:starEach [a] X.env=[(false,eval a X.env)]:=by rfl):PI X (.Tuple elts k tp) (.Call (.Name "enumerate" p) [a] [] pos) (KL X.K ta):=by
 intro pins s σ H R I h;refine Call_ (pS I hg hm PyProof.Rows.Boot.«enumerate» (PyProof.Rows.callWith_type1 (cy (ha pos pins s σ H _ I h) λus s1 ⟨vs,H1,I1,r1,q1⟩=>?_) hs rfl));obtain⟨l,e,⟨xs,hq⟩,q⟩:=q1;subst e;cases r1 with
 |cons r rr =>
  cases rr;cases r;obtain⟨its,rv,p,hz⟩:=I1.list hq;have hlt:l<s1.heap.objs.size:=by obtain⟨o,n,e,_⟩:=p;exact Heap.lt_size e
  refine call_enumerate_list p.isList λh' he hi hsz hk=>?_;refine wpAny_pyIter_enum he ?_;refine⟨s1.heap.objs.size+1,[s1.heap.objs.size+1,s1.heap.objs.size],_,_,H1,rfl,I1.kept (t':=s1.toks) hk,AU l s1.heap.objs.size (s1.heap.objs.size+1) (Nat.succ_ne_self _) (Nat.ne_of_lt (Nat.lt_succ_of_lt hlt)) (Nat.ne_of_lt hlt),⟨⟨_,he⟩,hi⟩,λb hb=>?_,q⟩;have hb':s1.heap.objs.size<=b:=by
   rcases List.mem_cons.mp hb with rfl|hb
   .omega
   .rcases List.mem_cons.mp hb with rfl|hb
    .exact Nat.le_refl _
    .cases hb
  exact I1.fpOk hb' (I1.hok.fresh hb')
noncomputable def numbered(n:Nat):List D->List D
 |[]=>[]
 |d::ds=>.tup [.int n,d]::numbered (n+1) ds
theorem g9:∀(ds:List D) (n:Nat),(numbered n ds).length=ds.length
 |[],_=>rfl
 |d::ds,n=>by simp [numbered,g9 ds]
theorem hZ:∀(ds:List D) (n i:Nat),(numbered n ds)[i]?=(ds[i]?).map λd=>D.tup [.int (n+i:Nat),d]
 |[],_,_=>by simp [numbered]
 |d::ds,n,0=>by simp [numbered]
 |d::ds,n,i+1=>by simp only[numbered,List.getElem?_cons_succ];rw[hZ ds (n+1) i,show n+1+i=n+(i+1) by omega]
noncomputable def AY(f:Ev->aj D):Ev->aj (List D):=λρ=>(f ρ).bind λd=>match d with
 |.lst ds=>.ok (numbered 0 ds)
 |_=>.stuck
theorem EV{K:W.Frag}{H Ha:Hp}{p:Addr}{vs:List V}{ds:List D}(hs:aC Ha H)(hp:H p=none)(r:Reps K Ha ds vs):∃H₀2,bf H Ha (upd H p (.tup vs)) H₀2/\Rep K H₀2 (.tup ds) (.ref p) :=
 ⟨upd Ha p (.tup vs),bu hs hp,aP.mpr ⟨p,vs,rfl,jO.of aI,r.mono (bu (o:=.tup vs) hs hp).z⟩⟩
theorem u6{p pos:Pos}(hg:Gl X "enumerate")(hm:X.mg "enumerate"=none)(h:DE X E a f)(hn:JC a=true:=by exact rfl):DI X E (.Tuple elts k tp) (.Call (.Name "enumerate" p) [a] [] pos) (AY f):=by
 refine⟨gW (Fm hg hm (d5 h.o gY (fG hn)) (fG hn)) λσ H R ⟨Ha,ρ,hs,hr,q⟩=>⟨Ha,ρ,hs,hr,?_⟩⟩;unfold AY at q;cases e1:f ρ with
 |stuck|exn x=>rw[e1] at q;exact q
 |ok d =>
  rw[e1] at q;intro v H1 H01 g1 r1;cases d with
  |lst ds =>
   obtain⟨l,vs,rfl,hv,hrv⟩:=aG.mp r1;refine⟨l,rfl,⟨vs,aC.sqL g1.sub hv⟩,q _ H1 H01 g1 ⟨λi H' Ha' s1 s2 hi=>?_,λi H' Ha' x H2 d s1 s2 hd hy=>?_,λi H' Ha' s1 s2 hi=>?_⟩⟩
   .rw[g9] at hi
    exact⟨vs,vs[i]'(by rw[←hrv.length];exact hi),aC.sqL (s1.trans s2) hv,by simp⟩
   .obtain⟨p,y,hp,rfl,hy,rfl⟩:=hy
    rw[hZ] at hd;cases ei:ds[i]? with
    |none=>rw[ei] at hd;cases hd
    |some d' =>
     rw[ei] at hd;cases hd;obtain⟨u,k1,k2⟩:=hrv.get ei;have:=hy vs (aC.sqL (s1.trans s2) hv);rw[k1] at this;cases this;exact EV s2 hp (Reps.cons (az.mpr (by simp)) (Reps.cons (k2.mono s1) Reps.nil))
   .rw[g9] at hi
    exact⟨vs,aC.sqL (s1.trans s2) hv,by rw[←hrv.length];exact hi⟩
  |_=>exact q.elim
end
end DL
namespace Com
open PySem L2 DL
noncomputable def GV(tg:Ev->D->aj Ev) (s:Ev->aj Fl) (ρ:Ev) (ds:List D):aj Fl:=bM tg s ds ρ
noncomputable def GF(d:D):aj (List D):=match d with
 |.lst ds=>.ok (numbered 0 ds)
 |_=>.stuck
noncomputable def GD(d:D):aj (List D):=match d with
 |.lst ds=>.ok ds
 |_=>.stuck
noncomputable def GC(d:D):aj (List D):=match d with
 |.tup ds=>.ok ds
 |_=>.stuck
noncomputable def fQ(n:Nat) (fr:List Nat) (tg:Ev->D->aj Ev) (tt fe:Ev->aj D) (ρ:Ev) (ds:List D):aj D:=if ds.length<=line then match bS (cV n fr ρ) tg tt fe ds with
  |.ok es=>.ok (.lst es)
  |_=>.stuck
 else .stuck
noncomputable def zW(tg:Ev->D->aj Ev) (s:Ev->aj Fl) (ρ:Ev) (d:D):aj Fl:=match d with
 |.int j=>if -4611686018427387904<=j/\j<4611686018427387904 then bM tg s (intsFrom 0 j.toNat) ρ else .stuck
 |_=>.stuck
section
variable {s t:Ev->aj Fl}{f g h:Ev->aj D}{src:Ev->aj (List D)}{fa:Ev->aj (List D)}{ρ r:Ev}{i j n:Nat}{d x y:D}{ds es xs:List D}{a b:Int}{tg:Ev->D->aj Ev}{tt fe:Ev->aj D}{fr:List Nat}
theorem oK:jQ src tg s ρ=(src ρ).bind (GV tg s ρ):=aH rfl
theorem ma:GV tg s ρ ds=bM tg s ds ρ:=aH rfl
theorem oI:AY f ρ=(f ρ).bind GF:=aH rfl
theorem lu:GF (.lst ds)=.ok (numbered 0 ds):=aH rfl
theorem oH:jJ f ρ=(f ρ).bind GD:=aH rfl
theorem lr:GD (.lst ds)=.ok ds:=aH rfl
theorem oG:Cg f ρ=(f ρ).bind GC:=aH rfl
theorem lp:GC (.tup ds)=.ok ds:=aH rfl
theorem ie:dh n fr src tg tt fe ρ=(src ρ).bind (fQ n fr tg tt fe ρ):=aH rfl
theorem tE{is:List Nat}(h:(ds.length==is.length)=true):fM is ρ (.tup ds)=.ok (d4 ρ is ds):=by
 show(match (if ds.length=is.length then some ds else none) with|some ds=>aj.ok (d4 ρ is ds)|none=>.stuck)=_;rw[if_pos (eq_of_beq h)]
theorem l9:kP f tg s ρ=(f (fX ρ)).bind (zW tg s ρ):=aH rfl
theorem iX{k:Nat}(h:k<=1000000):zW tg s ρ (.int (k:Int))=bM tg s (intsFrom 0 k) ρ:=by
 unfold zW;dsimp only;rw[if_pos ⟨by omega,by omega⟩,Int.toNat_natCast]
theorem qg{l h:Option Int}(c:(HT.sIx ds.length 0 l==0&&HT.sIx ds.length ds.length h==ds.length)=false):Ck (.tup ds) l h=.ok (.tup (sE ds l h)):=by
 show(if _ then _ else _)=_;rw[if_neg (λz=>by rw[z.1,z.2] at c;simp at c)]
theorem zZ:I0 (.int a) (.int b)=.ok (.int (if b > a then b else a)):=aH rfl
theorem Aa:kz (.bl true)=.ok (.int 1):=aH rfl
theorem uU:kz (.bl false)=.ok (.int 0):=aH rfl
theorem ni:sD (.int 10) (.int 18)=.ok (.int 1000000000000000000):=aH rfl
theorem rf{F:D->D}(hl:ds.length<=1000000)(h:∀d∈ds,∃ρ1,tg (cV n fr ρ) d=.ok ρ1/\tt ρ1=.ok (.bl true)/\fe ρ1=.ok (F d)):fQ n fr tg tt fe ρ ds=.ok (.lst (ds.map F)):=by
 unfold fQ;rw[if_pos (show ds.length<=line from hl),tV h]
theorem nN{B:Ev}{F:D->D}{p:D->Bool}:∀{ds:List D},(∀d∈ds,∃ρ1,tg B d=.ok ρ1/\tt ρ1=.ok (.bl (p d))/\(p d=true->fe ρ1=.ok (F d)))->bS B tg tt fe ds=.ok ((ds.filter p).map F)
 |[],_=>rfl
 |d::ds,h=>by
  obtain⟨ρ1,h1,h2,h3⟩:=h d List.mem_cons_self;have ih:=nN (ds:=ds) λd hd=>h d (List.mem_cons_of_mem _ hd);unfold bS;rw[h1,yQ,h2,yQ];cases hp:p d with
  |true =>
   show(fe ρ1).bind _=_;rw[h3 hp,yQ,ih,yQ,List.filter_cons_of_pos hp];rfl
  |false =>
   show bS B tg tt fe ds=_;rw[ih,List.filter_cons_of_neg (by rw[hp];decide)]
theorem xy{F:D->D}{p:D->Bool}(hl:ds.length<=1000000)(h:∀d∈ds,∃ρ1,tg (cV n fr ρ) d=.ok ρ1/\tt ρ1=.ok (.bl (p d))/\(p d=true->fe ρ1=.ok (F d))):fQ n fr tg tt fe ρ ds=.ok (.lst ((ds.filter p).map F)):=by
 unfold fQ;rw[if_pos (show ds.length<=line from hl),nN h]
end
theorem Gx:xH<=2 ^ 200:=by decide
noncomputable def un(s x:cw):cw:=(s.1*x.2+x.1*s.2,s.2*x.2)
end Com
local macro_rules|`(tactic|open_line with[$xs,*])=>`(tactic|simp only[iC,kn,lH,lG,lQ,ql,lF,qp,lK,me,iZ,wV,qL,qK,qu,lO,qT,lN,qr,lL,qM,qt,lM,w8,w6,qS,w4,qE,mf,i7,i6,qU,mi,mh,wO,qB,qA,qC,lP,qJ,l7,lZ,qd,ll,Dz,lE,qk,lD,lC,lA,oJ,qo,lJ,lI,wN,qv,wQ,wK,qj,qi,qh,qO,md,i8,wW,qR,qQ,qP,qI,qV,qF,wU,wR,dB,lR,nk,kj,List.map_cons,List.map_nil,List.length_cons,List.length_nil,List.replicate_succ,List.replicate_zero,List.nil_append,List.cons_append,List.getElem?_cons_zero,List.getElem?_cons_succ,List.set_cons_zero,List.set_cons_succ,Nat.sub_zero,Nat.reduceSub,Nat.reduceAdd,Nat.add_zero,Nat.zero_add,Bool.not_true,Bool.not_false,qf,qH,gq,fu,qG,wL,qm,wJ,qe,jA,jz,lY,lX,lW,lV,lU,lT,decide_true,decide_false,Nat.reduceLeDiff,Nat.reduceBEq,Int.reduceBEq,beq_self_eq_true,DL.dOne,DL.mYes,dR,c5,di,fO,eV,eU,fN,eT,wZ,wY,wX,Int.reduceLT,Int.reduceLE,Int.reduceSub,Int.reduceAdd,Int.reduceMul,Int.reduceNeg,lS,iY,Int.reduceToNat,Bool.and_self,oK,ma,oI,lu,oH,lr,oG,lp,ie,tE,l9,qg,zZ,Aa,uU,ni,$[$xs:term],*])
local macro_rules|`(tactic|open_line with[$xs,*] seeing $h)=>`(tactic|simp only[iC,kn,lH,lG,lQ,ql,lF,qp,lK,me,iZ,wV,qL,qK,qu,lO,qT,lN,qr,lL,qM,qt,lM,w8,w6,qS,w4,qE,mf,i7,i6,qU,mi,mh,wO,qB,qA,qC,lP,qJ,l7,lZ,qd,ll,Dz,lE,qk,lD,lC,lA,oJ,qo,lJ,lI,wN,qv,wQ,wK,qj,qi,qh,qO,md,i8,wW,qR,qQ,qP,qI,qV,qF,wU,wR,dB,lR,nk,kj,List.map_cons,List.map_nil,List.length_cons,List.length_nil,List.replicate_succ,List.replicate_zero,List.nil_append,List.cons_append,List.getElem?_cons_zero,List.getElem?_cons_succ,List.set_cons_zero,List.set_cons_succ,Nat.sub_zero,Nat.reduceSub,Nat.reduceAdd,Nat.add_zero,Nat.zero_add,Bool.not_true,Bool.not_false,qf,qH,gq,fu,qG,wL,qm,wJ,qe,jA,jz,lY,lX,lW,lV,lU,lT,decide_true,decide_false,Nat.reduceLeDiff,Nat.reduceBEq,Int.reduceBEq,beq_self_eq_true,DL.dOne,DL.mYes,dR,c5,di,fO,eV,eU,fN,eT,wZ,wY,wX,Int.reduceLT,Int.reduceLE,Int.reduceSub,Int.reduceAdd,Int.reduceMul,Int.reduceNeg,lS,iY,Int.reduceToNat,Bool.and_self,oK,ma,oI,lu,oH,lr,oG,lp,ie,tE,l9,qg,zZ,Aa,uU,ni,$[$xs:term],*] at $(⟨h⟩):ident)
namespace Com
open PySem L2 DL
theorem km{a b:Int}(ha:0<=a)(hb:0<b):0<=(cQ a b).1:=Int.ediv_nonneg ha (by omega)
theorem FK{a b:Int}(ha:0<a)(hb:0<b):0<(cQ a b).1:=by
 have hg:0<(Int.gcd a b:Int):=jx (by omega);have hd:(Int.gcd a b:Int)∣a:=Int.gcd_dvd_left ..;exact Int.ediv_pos_of_pos_of_dvd ha (by omega) hd
theorem JG{a:Int}(h0:0<=a)(h1:a<(xH:Int)):fW (a,1):=⟨⟨by show(1:Int)<=1;decide,by show Int.gcd a 1=1;exact Int.gcd_one_right ..⟩,by show a.natAbs<xH;omega,by show(1:Int).natAbs<xH;decide⟩
theorem KG{a:Int}(h0:0<=a)(h1:a<(xH:Int)):a.natAbs<nY:=Nat.lt_of_lt_of_le (show a.natAbs<xH by omega) Gw
theorem uR{i:Nat}{body:Ev->aj Fl}(P:Nat->Ev->Prop){n:Nat}(h:∀k,k<n->∀ρ,P k ρ->∃ρ2,body (ρ.set i (.sh (.int (k:Int))))=.ok (.nx ρ2)/\P (k+1) ρ2){ρ:Ev}(h0:P 0 ρ):∃ρ',bM (bw i) body (intsFrom 0 n) ρ=.ok (.nx ρ')/\P n ρ':=by
 have key:∀(m k:Nat) (ρ:Ev),k+m=n->P k ρ->∃ρ',bM (bw i) body ((intsFrom 0 n).drop k) ρ=.ok (.nx ρ')/\P n ρ':=by
  intro m
  induction m with
  |zero =>
   intro k ρ hk hp;have:k=n:=by omega
   subst this;rw[Dt];exact⟨ρ,rfl,hp⟩
  |succ m ih =>
   intro k ρ hk hp;obtain⟨ρ2,h1,h2⟩:=h k (by omega) ρ hp;rw[Br (by omega),c3 (tg:=bw i) rfl h1];exact ih (k+1) ρ2 (by omega) h2
 exact key n 0 ρ (by omega) h0
theorem uS{tg:Ev->D->aj Ev}{body:Ev->aj Fl}{ds:List D}(P:Nat->Ev->Prop)(h:∀k d,ds[k]?=some d->∀ρ,P k ρ->∃ρ1 ρ2,tg ρ d=.ok ρ1/\body ρ1=.ok (.nx ρ2)/\P (k+1) ρ2){ρ:Ev}(h0:P 0 ρ):∃ρ',bM tg body ds ρ=.ok (.nx ρ')/\P ds.length ρ':=by
 have key:∀(m k:Nat) (ρ:Ev),k+m=ds.length->P k ρ->∃ρ',bM tg body (ds.drop k) ρ=.ok (.nx ρ')/\P ds.length ρ':=by
  intro m
  induction m with
  |zero =>
   intro k ρ hk hp;have:k=ds.length:=by omega
   subst this;rw[List.drop_length];exact⟨ρ,rfl,hp⟩
  |succ m ih =>
   intro k ρ hk hp;have hlt:k<ds.length:=by omega
   obtain⟨ρ1,ρ2,h1,h2,h3⟩:=h k ds[k] (List.getElem?_eq_getElem hlt) ρ hp;rw[List.drop_eq_getElem_cons hlt,c3 h1 h2];exact ih (k+1) ρ2 (by omega) h3
 exact key ds.length 0 ρ (by omega) h0
theorem Gr:("abcdefghijklmnopqrstuvwxyz":Str).cps.toList=(List.range 26).map (97 + ·):=by decide +kernel
theorem Jq:∀n,n<26->tm (97+n)=true:=by decide +kernel
theorem Jp{v:Int}(h0:0<=v)(h1:v<26):aN (.str "abcdefghijklmnopqrstuvwxyz") (.int v)=.ok (.str ⟨#[97+v.toNat]⟩):=by
 obtain⟨n,rfl⟩:=Int.eq_ofNat_of_zero_le h0;have hn:n<26:=by omega
 have e:atI ("abcdefghijklmnopqrstuvwxyz":Str).cps.toList ((n:Nat):Int)=some (97+n):=eJ (by rw[Gr];simp [hn]);show(if("abcdefghijklmnopqrstuvwxyz":Str).length<=line then(match atI ("abcdefghijklmnopqrstuvwxyz":Str).cps.toList ((n:Nat):Int) with|some c=>aj.ok (D.str ⟨#[c]⟩)|none=>.stuck) else .stuck)=_;rw[if_pos (by decide),e];rfl
theorem zL:∀cs:List Nat,Str.join "" (cs.map λc=>(⟨#[c]⟩:Str))=⟨cs.toArray⟩
 |[]=>rfl
 |[c]=>rfl
 |c::d::cs=>by
  show(⟨#[c]⟩:Str)++""++Str.join "" ((d::cs).map λc=>(⟨#[c]⟩:Str))=_;rw[zL (d::cs)];apply Str.ext';show(#[c]++("":Str).cps)++(d::cs).toArray=_;have:("":Str).cps=#[]:=rfl;rw[this];simp
theorem y0:∀cs:List Nat,gu (cs.map λc=>D.str ⟨#[c]⟩)=some (cs.map λc=>(⟨#[c]⟩:Str))
 |[]=>rfl
 |c::cs=>by
  show(gu (cs.map λc=>D.str ⟨#[c]⟩)).map _=_;rw[y0 cs];rfl
theorem yz{cs:List Nat}(h:cs.length<=1000):lj "" [.lst (cs.map λc=>D.str ⟨#[c]⟩)]=.ok (.str ⟨cs.toArray⟩):=by
 have Lq:gp "" (cs.map λc=>(⟨#[c]⟩:Str))=true:=by
  unfold gp;have e:((cs.map λc=>(⟨#[c]⟩:Str)).map (·.length)).sum=cs.length:=by
   clear h
   induction cs with
   |nil=>rfl
   |cons c cs ih =>
    simp only[List.map_cons,List.sum_cons,List.length_cons,ih];show 1+cs.length=_;omega
  rw[e,Bool.and_eq_true];exact⟨by decide,decide_eq_true (by rw[List.length_map];omega)⟩
 show(match gu (cs.map λc=>D.str ⟨#[c]⟩) with|some ys=>if gp "" ys=true then aj.ok (D.str (Txt.join "" ys)) else .stuck|none=>.stuck)=_;rw[y0];show(if gp "" _=true then aj.ok (D.str (Txt.join "" _)) else .stuck)=_;rw[if_pos Lq];show aj.ok (D.str (Builtin.Str.glued "" _))=_;rw[StrLaws.glued_eq_join,zL]
structure mI (zs:List Str):Prop where
 nd:zs.Nodup
 nm:∀z∈zs,nameB z=true
theorem Je(a:List Nat):(⟨a.toArray⟩:Str).length=a.length:=by show a.toArray.size=_;simp
structure kH where
 a:Str
 b:Str
 w:Str
 l:cw
 o:Option cw
noncomputable def aM:Option cw->D
 |none=>.non
 |some x=>fr x
noncomputable def bL(t:kH):D:=.tup [.str t.a,.str t.b,.str t.w,fr t.l,aM t.o]
structure rR (zs:List Str) (t:kH):Prop where
 a:t.a∈zs
 b:t.b∈zs
 ne:t.a≠t.b
 w:t.w="one"∨t.w="both"
 l:fW t.l
 l0:0<=t.l.1
 o:∀x,t.o=some x->fW x/\0<x.1
theorem mS{zs:List Str}{k:Int}(h0:0<=k)(h1:k<zs.length):∃z,zs[k.toNat]?=some z/\aN (.lst (zs.map D.str)) (.int k)=.ok (.str z):=by
 obtain⟨n,rfl⟩:=Int.eq_ofNat_of_zero_le h0;have hn:n<zs.length:=by omega
 refine⟨zs[n],by simp [hn],pV ?_⟩;rw[List.getElem?_map,List.getElem?_eq_getElem hn];rfl
theorem EL{k:Int}(h0:0<=k)(h1:k<2):∃z:Str,(z="one"∨z="both")/\aN (.lst [.str "one",.str "both"]) (.int k)=.ok (.str z):=by
 have:k=0∨k=1:=by omega
 rcases this with rfl|rfl
 .exact⟨_,.inl rfl,jA⟩
 .exact⟨_,.inr rfl,jz⟩
theorem ua{n d e:Int}(h2:2<=n)(d0:0<=d)(d1:d<n)(e0:0<=e)(e1:e<n-1):(0<=(d+1+e).fmod n/\(d+1+e).fmod n<n)/\(d+1+e).fmod n≠d:=by
 refine⟨eC (by omega),?_⟩;rw[Int.fmod_eq_emod_of_nonneg _ (by omega)]
 by_cases h:d+1+e<n
 .rw[Int.emod_eq_of_lt (by omega) h];omega
 .have:(d+1+e) % n=d+1+e-n:=by
   rw[←Int.sub_emod_right (d+1+e) n,Int.emod_eq_of_lt (by omega) (by omega)]
  rw[this];omega
theorem k7{α:Type}{zs:List α}(nd:zs.Nodup){i j:Nat}{x y:α}(hi:zs[i]?=some x)(hj:zs[j]?=some y)(hij:i≠j):x≠y:=by
 intro e;subst e;obtain⟨h1,e1⟩:=List.getElem?_eq_some_iff.mp hi;obtain⟨h2,e2⟩:=List.getElem?_eq_some_iff.mp hj;exact hij ((List.getElem_inj nd).mp (e1.trans e2.symm))
noncomputable def nR:Ev->aj Fl :=
 (aw (bP (eW (au (ai (ae 0) aE) m_is_ratio) (aa (aa (ae 0) (dC (.int 0)) aN) (dC (.int 0)) Mh)))
 ar)
noncomputable def m_is_length:List D->aj D:=cp 1 nR
noncomputable def rL:Ev->aj Fl :=
 (aw (bP (iq (aa (ae 0) (dC (.non)) gz) (eW (au (ai (ae 0) aE) m_is_ratio) (aa (aa (ae 0) (dC (.int 0)) aN) (dC (.int 0)) Jd))))
 ar)
noncomputable def m_is_worth:List D->aj D:=cp 1 rL
noncomputable def xF:Ev->aj Fl :=
 (aw (dW (iq (cI (cL (ae 0) (jM "tuple"))) (aa (au (ai (ae 0) aE) (m1 dE)) (dC (.int 5)) jE))
 (aw (bP (dC (.bl false)))
 ar)
 ar)
 (aw (dW (iq (cI (au (ai (aa (ae 0) (dC (.int 0)) aN) aE) m_is_name)) (iq (cI (au (ai (aa (ae 0) (dC (.int 1)) aN) aE) m_is_name)) (aa (aa (ae 0) (dC (.int 0)) aN) (aa (ae 0) (dC (.int 1)) aN) iD)))
 (aw (bP (dC (.bl false)))
 ar)
 ar)
 (aw (dW (iq (cI (cL (aa (ae 0) (dC (.int 2)) aN) (jM "str"))) (aa (aa (ae 0) (dC (.int 2)) aN) (dC (.tup [(.str "one"),(.str "both")])) cj))
 (aw (bP (dC (.bl false)))
 ar)
 ar)
 (aw (bP (eW (au (ai (aa (ae 0) (dC (.int 3)) aN) aE) m_is_length) (au (ai (aa (ae 0) (dC (.int 4)) aN) aE) m_is_worth)))
 ar))))
noncomputable def m_is_tie:List D->aj D:=cp 1 xF
noncomputable def gN:Ev->aj Fl :=
 (aw (dW (iq (cI (cL (ae 0) (jM "list"))) (cI (gA Jb Jb (dC (.int 2)) (au (ai (ae 0) aE) (m1 dE)) (dC (.int 7)))))
 (aw c7
 ar)
 ar)
 (aw (jQ (AY (ae 0)) (fM [1,2])
 (aw (dW (iq (cI (au (ai (ae 2) aE) m_is_name)) (aa (ae 2) (BF (ae 0) fg (eP (ae 1))) Ez))
 (aw c7
 ar)
 ar)
 ar))
 ar))
noncomputable def m_look_at_places:List D->aj D:=cp 3 gN
noncomputable def jj:Ev->aj Fl :=
 (aw (dW (iq (cI (cL (ae 0) (jM "list"))) (aa (au (ai (ae 0) aE) (m1 dE)) (dC (.int 14)) Jd))
 (aw c7
 ar)
 ar)
 (aw (jQ (AY (ae 0)) (fM [2,3])
 (aw (dW (iq (cI (au (ai (ae 3) aE) m_is_tie)) (iq (aa (aa (ae 3) (dC (.int 0)) aN) (ae 1) cj) (aa (aa (ae 3) (dC (.int 1)) aN) (ae 1) cj)))
 (aw c7
 ar)
 ar)
 ar))
 ar))
noncomputable def m_look_at_ties:List D->aj D:=cp 4 jj
noncomputable def rN:Ev->aj Fl :=
 (aw (bP (eW (au (ai (ae 0) aE) m_is_name) (aa (ae 0) (ae 1) Ez)))
 ar)
noncomputable def m_is_place:List D->aj D:=cp 2 rN
noncomputable def jY:Ev->aj Fl :=
 (aw (dW (iq (cI (cL (ae 0) (jM "tuple"))) (aa (au (ai (ae 0) aE) (m1 dE)) (dC (.int 4)) jE))
 (aw c7
 ar)
 ar)
 (aw (kQ (au (ai (aa (ae 0) (dC (.int 0)) aN) aE) m_look_at_places))
 (aw (kQ (au (ai (aa (ae 0) (dC (.int 1)) aN) (ai (aa (ae 0) (dC (.int 0)) aN) aE)) m_look_at_ties))
 (aw (dW (cI (au (ai (aa (ae 0) (dC (.int 2)) aN) (ai (aa (ae 0) (dC (.int 0)) aN) aE)) m_is_place))
 (aw c7
 ar)
 ar)
 (aw (dW (iq (cI (au (ai (aa (ae 0) (dC (.int 3)) aN) (ai (aa (ae 0) (dC (.int 0)) aN) aE)) m_is_place)) (aa (aa (ae 0) (dC (.int 3)) aN) (aa (ae 0) (dC (.int 2)) aN) iD))
 (aw c7
 ar)
 ar)
 ar)))))
noncomputable def m_look_at_web:List D->aj D:=cp 1 jY
noncomputable def iG:Ev->aj Fl :=
 (aw (bP (eW (au (ai (ae 1) aE) m_is_whole) (gA Jb Ja (dC (.int 0)) (ae 1) (au (ai (aa (ae 0) (dC (.int 1)) aN) aE) (m1 dE)))))
 ar)
noncomputable def m_is_tie_number:List D->aj D:=cp 2 iG
noncomputable def gM:Ev->aj Fl :=
 (aw (kQ (au (ai (ae 0) aE) m_look_at_web))
 (aw (dW (cI (cL (ae 1) (jM "list")))
 (aw c7
 ar)
 ar)
 (aw (bG 2 (cL (dC (.int 1)) xu))
 (aw (n9 (ae 1) (bw 3)
 (aw (dW (iq (cI (au (ai (ae 0) (ai (ae 3) aE)) m_is_tie_number)) (aa (ae 3) (ae 2) Jb))
 (aw c7
 ar)
 ar)
 (aw (dW (aa (aa (aa (aa (ae 0) (dC (.int 1)) aN) (ae 3) aN) (dC (.int 4)) aN) (dC (.non)) gz)
 (aw c7
 ar)
 ar)
 (aw (bG 2 (ae 3))
 ar))))
 ar))))
noncomputable def m_look_at_taking:List D->aj D:=cp 4 gM
structure cq where
 ps:List Str
 ts:List kH
 fi:Str
 la:Str
noncomputable def aS(w:cq):D:=.tup [.lst (w.ps.map D.str),.lst (w.ts.map bL),.str w.fi,.str w.la]
structure bT (w:cq):Prop where
 n2:2<=w.ps.length
 n7:w.ps.length<=7
 nm:mI w.ps
 t14:w.ts.length<=14
 ts:∀t∈w.ts,rR w.ps t
 fi:w.fi∈w.ps
 la:w.la∈w.ps
 ne:w.fi≠w.la
theorem jt{z:Str}(h:nameB z=true):m_is_name [.str z]=.ok (.bl true):=by
 have hl:z.length<=8:=by
  unfold nameB at h;simp only[Bool.and_eq_true,decide_eq_true_eq] at h;exact h.2.1
 rw[yA (show Lq (.str z)=true from decide_eq_true (Nat.le_trans hl (by decide)))];show aj.ok (D.bl (nameB z))=_;rw[h]
theorem pv{x:cw}(h:Low x):m_is_ratio [fr x]=.ok (.bl true):=by
 rw[uO];show aj.ok (D.bl (pw (.tup [.int x.1,.int x.2])))=_;have h1:=h.q1;have h2:=h.g1;show aj.ok (D.bl (decide (1<=x.2)&&(Int.gcd x.1 x.2==1)))=_;rw[decide_eq_true h1,h2];rfl
theorem nI{x:cw}(h:Low x)(h0:0<=x.1):m_is_length [fr x]=.ok (.bl true):=by
 have e:fr x=.tup [.int x.1,.int x.2]:=rfl;have h1:=pv h;rw[e] at h1 ⊢;open_line with[m_is_length,nR,h1,decide_eq_true h0,decide_eq_true (show x.1≥0 from h0)]
theorem xO{o:Option cw}(h:∀x,o=some x->Low x/\0<x.1):m_is_worth [aM o]=.ok (.bl true):=by
 cases o with
 |none=>rfl
 |some x =>
  obtain⟨hx,h0⟩:=h x rfl;have e:aM (some x)=.tup [.int x.1,.int x.2]:=rfl;have h1:=pv hx;rw[show fr x=.tup [.int x.1,.int x.2] from rfl] at h1;rw[e];open_line with[m_is_worth,rL,h1,decide_eq_true h0]
theorem Ab{x y:Str}:iD (.str x) (.str y)=.ok (.bl (x==y)):=by unfold iD;rw[if_pos ⟨rfl,rfl⟩,cC]
theorem Cb{zs:List Str}{t:kH}(nm:mI zs)(h:rR zs t):m_is_tie [bL t]=.ok (.bl true):=by
 obtain⟨a,b,w,l,o⟩:=t;obtain⟨ha,hb,hne,hw,hl,hl0,ho⟩:=h;have h1:=jt (nm.nm a ha);have h2:=jt (nm.nm b hb);have h3:=nI hl.toLow hl0;have h4:=xO (o:=o) λx hx=>⟨(ho x hx).1.toLow,(ho x hx).2⟩
 have h5:(a==b)=false:=beq_eq_false_iff_ne.mpr hne;have h6:cj (.str w) (.tup [.str "one",.str "both"])=.ok (.bl false):=by
  rcases hw with rfl|rfl<;>rfl
 have e:bL ⟨a,b,w,l,o⟩=.tup [.str a,.str b,.str w,fr l,aM o]:=rfl;rw[e];open_line with[m_is_tie,xF,h1,h2,Ab,h5,h6,h3,h4]
theorem AG{zs:List Str}{z:Str}:(zs.map D.str).any (λd=>cC d (.str z))=decide (z∈zs):=by
 induction zs with
 |nil=>rfl
 |cons y zs ih =>
  rw[List.map_cons,List.any_cons,ih];show((y==z)||decide (z∈zs))=_
  by_cases h:y=z
  .subst h;simp
  .have:(y==z)=false:=beq_eq_false_iff_ne.mpr h
   rw[this,Bool.false_or];have:z∈y::zs↔z∈zs:=by simp [Ne.symm h]
   exact decide_eq_decide.mpr this.symm
theorem mX{n:Nat}{zs:List Str}:(zs.map D.str).all (bo n)=true:=List.all_eq_true.mpr λd hd=>by
 obtain⟨z,_,rfl⟩:=List.mem_map.mp hd;cases n<;>rfl
theorem zQ{zs:List Str}{z:Str}:Ez (.str z) (.lst (zs.map D.str))=.ok (.bl (decide (z∈zs))):=by
 have e:Du (.str z) (.lst (zs.map D.str))=some (decide (z∈zs)):=(if_pos ⟨rfl,mX⟩).trans (congrArg some AG);unfold Ez;rw[e]
theorem ia{zs:List Str}{z:Str}:cj (.str z) (.lst (zs.map D.str))=.ok (.bl (!(decide (z∈zs)))):=by
 have e:Du (.str z) (.lst (zs.map D.str))=some (decide (z∈zs)):=(if_pos ⟨rfl,mX⟩).trans (congrArg some AG);unfold cj;rw[e]
theorem pA{zs:List Str}{z:Str}(h:nameB z=true)(hz:z∈zs):m_is_place [.str z,.lst (zs.map D.str)]=.ok (.bl true):=by
 open_line with[m_is_place,rN,jt h,zQ,decide_eq_true hz]
theorem kZ{α:Type}{F:α->D}{xs:List α}{k:Nat}{d:D}(h:(numbered 0 (xs.map F))[k]?=some d):∃x,xs[k]?=some x/\d=.tup [.int (k:Int),F x]:=by
 rw[hZ,List.getElem?_map] at h;cases e:xs[k]? with
 |none=>rw[e] at h;cases h
 |some x =>
  rw[e] at h;cases h;exact⟨x,rfl,by simp⟩
theorem Ee{α:Type}{F:α->D}{xs:List α}{k:Nat}(h:k<=xs.length):sE (xs.map F) none (some (k:Int))=(xs.take k).map F:=by
 rw[Gd,HT.sIx_none,HT.sIx_nat,Nat.min_eq_left h,List.drop_zero,Nat.sub_zero]
theorem A7{zs:List Str}(h2:2<=zs.length)(h7:zs.length<=7)(nm:mI zs):m_look_at_places [.lst (zs.map D.str)]=.ok .non:=by
 obtain⟨ρ',hl,_⟩:=uS (ds:=numbered 0 (zs.map D.str)) (tg:=fM [1,2]) (ρ:=[.sh (.lst (zs.map D.str)),.no,.no])
  (body:=(aw (dW (iq (cI (au (ai (ae 2) aE) m_is_name)) (aa (ae 2) (BF (ae 0) fg (eP (ae 1))) Ez)) (aw c7 ar) ar) ar))
  (λk ρ=>∃a b,ρ=[.sh (.lst (zs.map D.str)),a,b]) (by
   rintro k d hd ρ ⟨a,b,rfl⟩;obtain⟨z,hz,rfl⟩:=kZ hd;refine⟨_,[.sh (.lst (zs.map D.str)),.sh (.int (k:Int)),.sh (.str z)],tE rfl,?_,_,_,rfl⟩;have hk:k<zs.length:=(List.getElem?_eq_some_iff.mp hz).1;have hnot:decide (z∈zs.take k)=false:=decide_eq_false λhm=>by
    obtain⟨j,hj⟩:=List.mem_iff_getElem?.mp hm;have hjk:j<k:=by have:=(List.getElem?_eq_some_iff.mp hj).1;simp at this;omega
    rw[List.getElem?_take_of_lt hjk] at hj;exact k7 nm.nd hj hz (by omega) rfl
   open_line with[jt (nm.nm z (List.mem_of_getElem? hz)),Ee (Nat.le_of_lt hk),zQ,hnot]) ⟨.no,.no,rfl⟩
 have e1:decide ((2:Int)<=(zs.length:Int))=true:=decide_eq_true (by omega);have e2:decide ((zs.length:Int)<=7)=true:=decide_eq_true (by omega);open_line with[m_look_at_places,gN,List.length_map,e1,e2,hl]
theorem oz{zs:List Str}{ts:List kH}(h14:ts.length<=14)(nm:mI zs)(ht:∀t∈ts,rR zs t):m_look_at_ties [.lst (ts.map bL),.lst (zs.map D.str)]=.ok .non:=by
 obtain⟨ρ',hl,_⟩:=uS (ds:=numbered 0 (ts.map bL)) (tg:=fM [2,3]) (ρ:=[.sh (.lst (ts.map bL)),.sh (.lst (zs.map D.str)),.no,.no])
  (body:=(aw (dW (iq (cI (au (ai (ae 3) aE) m_is_tie)) (iq (aa (aa (ae 3) (dC (.int 0)) aN) (ae 1) cj) (aa (aa (ae 3) (dC (.int 1)) aN) (ae 1) cj))) (aw c7 ar) ar) ar))
  (λk ρ=>∃a b,ρ=[.sh (.lst (ts.map bL)),.sh (.lst (zs.map D.str)),a,b]) (by
   rintro k d hd ρ ⟨a,b,rfl⟩;obtain⟨t,ht',rfl⟩:=kZ hd;refine⟨_,[.sh (.lst (ts.map bL)),.sh (.lst (zs.map D.str)),.sh (.int (k:Int)),.sh (bL t)],tE rfl,?_,_,_,rfl⟩;have hT:=ht t (List.mem_of_getElem? ht');have h1:=Cb nm hT;rw[show bL t=.tup [.str t.a,.str t.b,.str t.w,fr t.l,aM t.o] from rfl] at h1 ⊢;open_line with[h1,ia,decide_eq_true hT.a,decide_eq_true hT.b]) ⟨.no,.no,rfl⟩
 have e1:decide ((14:Int)<(ts.length:Int))=false:=decide_eq_false (by omega);open_line with[m_look_at_ties,jj,List.length_map,e1,decide_eq_false (show ¬(ts.length:Int) > 14 by omega),hl]
theorem Hq{w:cq}(h:bT w):m_look_at_web [aS w]=.ok .non:=by
 obtain⟨ps,ts,fi,la⟩:=w;have h1:=A7 h.n2 h.n7 h.nm;have h2:=oz h.t14 h.nm h.ts;have h3:=pA (h.nm.nm fi h.fi) h.fi;have h4:=pA (h.nm.nm la h.la) h.la;have h5:(la==fi)=false:=beq_eq_false_iff_ne.mpr (Ne.symm h.ne);rw[show aS ⟨ps,ts,fi,la⟩=.tup [.lst (ps.map D.str),.lst (ts.map bL),.str fi,.str la] from rfl];open_line with[m_look_at_web,jY,h1,h2,h3,h4,Ab,h5]
noncomputable def iF:Ev->aj Fl :=
 (aw (bG 1 (dC (.int 1)))
 (aw (n9 (ae 0) (bw 2)
 (aw (bG 1 (aa (aa (ae 1) (au (ai (ae 1) (ai (aa (ae 2) (dC (.int 1)) aN) aE)) m_common_divisor) mC) (aa (ae 2) (dC (.int 1)) aN) b3))
 ar))
 (aw (bP (ae 1))
 ar)))
noncomputable def m_shared_bottom:List D->aj D:=cp 3 iF
noncomputable def rO:Ev->aj Fl :=
 (aw (bP (aa (aa (ae 0) (dC (.int 0)) aN) (aa (ae 1) (aa (ae 0) (dC (.int 1)) aN) mC) b3))
 ar)
noncomputable def m_as_whole:List D->aj D:=cp 2 rO
noncomputable def jh:Ev->aj Fl :=
 (aw (bG 1 (au (ai (dh 1 [] (jJ (ae 0)) (bw 0) (aa (ae 0) (dC (.non)) cU) (ae 0)) aE) m_shared_bottom))
 (aw (bP (au (ai (dh 1 [1] (jJ (ae 0)) (bw 0) mYes (Jc (aa (ae 0) (dC (.non)) gz) (dC (.non)) (au (ai (ae 0) (ai (ae 1) aE)) m_as_whole))) (ai (ae 1) aE)) e8))
 ar))
noncomputable def m_on_one_scale:List D->aj D:=cp 2 jh
noncomputable def aU(ks:List Nat):D:=.lst (ks.map λ(k:Nat)=>D.int (k:Int))
structure mF (w:cq) (ks:List Nat):Prop where
 up:ks.Pairwise (· < ·)
 wo:∀k∈ks,∃t x,w.ts[k]?=some t/\t.o=some x
theorem mF.lt{w:cq}{ks:List Nat}(T:mF w ks):∀k∈ks,k<w.ts.length:=λk hk=>by
 obtain⟨t,x,h1,h2⟩:=T.wo k hk;exact(List.getElem?_eq_some_iff.mp h1).1
theorem mR{w:cq}{k:Nat}{t:kH}(h:w.ts[k]?=some t):aN (.lst (w.ts.map bL)) (.int (k:Int))=.ok (bL t):=pV (by rw[List.getElem?_map,h];rfl)
theorem v8{w:cq}{k:Nat}(h:k<w.ts.length):m_is_tie_number [aS w,.int (k:Int)]=.ok (.bl true):=by
 rw[show aS w=.tup [.lst (w.ps.map D.str),.lst (w.ts.map bL),.str w.fi,.str w.la] from rfl];open_line with[m_is_tie_number,iG,eR,JF,List.length_map,decide_eq_true (show(0:Int)<=(k:Int) by omega),decide_eq_true (show(k:Int)<(w.ts.length:Int) by omega)]
theorem taking_ok{w:cq}{ks:List Nat}(W:bT w)(T:mF w ks):m_look_at_taking [aS w,aU ks]=.ok .non:=by
 obtain⟨ρ',hl,_⟩:=uS (ds:=ks.map λ(k:Nat)=>D.int (k:Int)) (tg:=bw 3) (ρ:=[.sh (aS w),.sh (aU ks),.sh (.int (-1)),.no])
  (body:=(aw (dW (iq (cI (au (ai (ae 0) (ai (ae 3) aE)) m_is_tie_number)) (aa (ae 3) (ae 2) Jb))
   (aw c7 ar) ar)
   (aw (dW (aa (aa (aa (aa (ae 0) (dC (.int 1)) aN) (ae 3) aN) (dC (.int 4)) aN) (dC (.non)) gz)
   (aw c7 ar) ar)
   (aw (bG 2 (ae 3)) ar))))
  (λj ρ=>∃(ah:Int) (x:Sl),ρ=[.sh (aS w),.sh (aU ks),.sh (.int ah),x]/\∀v∈ks.drop j,ah<(v:Int)) (by
   rintro j d hd ρ ⟨ah,x,rfl,hah⟩;rw[List.getElem?_map] at hd;cases e:ks[j]? with
   |none=>rw[e] at hd;cases hd
   |some k =>
    rw[e] at hd;cases hd;have hj:j<ks.length:=(List.getElem?_eq_some_iff.mp e).1;have hkm:=List.mem_of_getElem? e;obtain⟨t,y,h1,h2⟩:=T.wo k hkm;have hdr:ks.drop j=k::ks.drop (j+1):=by
     rw[List.drop_eq_getElem_cons hj]
     congr 1
     rw[List.getElem?_eq_getElem hj] at e;exact Option.some.inj e
    have hk:ah<(k:Int):=hah k (by rw[hdr];exact List.mem_cons_self);refine⟨_,[.sh (aS w),.sh (aU ks),.sh (.int (k:Int)),.sh (.int (k:Int))],rfl,?_,_,_,rfl,λv hv=>?_⟩
    .have hn:=v8 (T.lt k hkm)
     have hix:=mR h1;rw[show aS w=.tup [.lst (w.ps.map D.str),.lst (w.ts.map bL),.str w.fi,.str w.la] from rfl] at hn ⊢;rw[show bL t=.tup [.str t.a,.str t.b,.str t.w,fr t.l,aM t.o] from rfl,h2] at hix;open_line with[hn,decide_eq_false (show ¬(k:Int)<=ah by omega),hix,aM,fr,KP]
    .have hp:(k::ks.drop (j+1)).Pairwise (· < ·):=by rw[←hdr];exact T.up.sublist (List.drop_sublist _ _)
     have:=(List.pairwise_cons.mp hp).1 v hv;omega) ⟨-1,.no,rfl,λv _=>by omega⟩
 have hw:=Hq W;unfold aU at hl ⊢;open_line with[m_look_at_taking,gM,hw,hl]
theorem wD{x y:cw}(h1:x.1.natAbs<xM)(h2:x.2.natAbs<xM)(h3:y.1.natAbs<xM)(h4:y.2.natAbs<xM):m_is_less [fr x,fr y]=.ok (.bl (flt x y)):=by
 rw[show fr x=.tup [.int x.1,.int x.2] from rfl,show fr y=.tup [.int y.1,.int y.2] from rfl];open_line with[m_is_less,t9,cm (d9 h1 h4),cm (d9 h3 h2)]
 rfl
noncomputable def eY(b:Int) (x:cw):Int:=b / (Int.gcd b x.2:Int)*x.2
noncomputable def Gi(xs:List cw):Int:=xs.foldl eY 1
structure uk (k:Nat) (b:Int):Prop where
 pos:0<b
 bd:b.natAbs<=2 ^ (200*k)
theorem uC{k:Nat}(h:k<=60):2 ^ (200*k)<nY:=by rw[nC];exact Nat.pow_lt_pow_right (by decide) (by omega)
theorem pZ{a b:Int}(h:b≠0):0<(Int.gcd a b:Int):=jx h
theorem uk.step{k:Nat}{b:Int}{x:cw}(h:uk k b)(hx:fW x):uk (k+1) (eY b x)/\b∣eY b x/\x.2∣eY b x:=by
 have q1:=hx.q1;have hg:0<(Int.gcd b x.2:Int):=pZ (by omega);have hd:(Int.gcd b x.2:Int)∣b:=Int.gcd_dvd_left ..;have hd2:(Int.gcd b x.2:Int)∣x.2:=Int.gcd_dvd_right ..;have hq:0<b / (Int.gcd b x.2:Int):=Int.ediv_pos_of_pos_of_dvd h.pos (by omega) hd;refine⟨⟨Int.mul_pos hq (by omega),?_⟩,?_,⟨b / (Int.gcd b x.2:Int),by unfold eY;rw[Int.mul_comm]⟩⟩
 .unfold eY
  rw[Int.natAbs_mul,show 200*(k+1)=200*k+200 by omega,Nat.pow_add];refine Nat.mul_le_mul (Nat.le_trans (Int.natAbs_ediv_le_natAbs _ _) h.bd) (Nat.le_trans (Nat.le_of_lt hx.qN) Gx)
 .obtain⟨c,hc⟩:=hd
  obtain⟨d,hd'⟩:=hd2;refine⟨d,?_⟩;unfold eY;generalize (Int.gcd b x.2:Int)=g at *;have e1:b / g=c:=by rw[hc];exact Int.mul_ediv_cancel_left c (by omega)
  rw[e1,hd',hc,←Int.mul_assoc,Int.mul_comm c g]
theorem Eh{xs:List cw}(hx:∀x∈xs,fW x):∀(b:Int) (k:Nat),uk k b->uk (k+xs.length) (xs.foldl eY b)/\b∣xs.foldl eY b/\∀x∈xs,x.2∣xs.foldl eY b:=by
 induction xs with
 |nil=>intro b k h;exact⟨h,Int.dvd_refl b,λx hx=>nomatch hx⟩
 |cons x xs ih =>
  intro b k h;obtain⟨h1,h2,h3⟩:=h.step (hx x List.mem_cons_self);obtain⟨k1,k2,k3⟩:=ih (λy hy=>hx y (List.mem_cons_of_mem _ hy)) _ _ h1;refine⟨?_,Int.dvd_trans h2 k2,λy hy=>?_⟩
  .rw[List.length_cons,show k+(xs.length+1)=k+1+xs.length by omega];exact k1
  .rcases List.mem_cons.mp hy with rfl|hy
   .exact Int.dvd_trans h3 k2
   .exact k3 y hy
theorem Ei{L:Sl}:∀(xs:List cw) (k:Nat) (b:Int) (z:Sl),uk k b->k+xs.length<=60->(∀x∈xs,fW x)->∃z',bM (bw 2) (aw (bG 1 (aa (aa (ae 1) (au (ai (ae 1) (ai (aa (ae 2) (dC (.int 1)) aN) aE)) m_common_divisor) mC) (aa (ae 2) (dC (.int 1)) aN) b3)) ar) (xs.map fr) [L,.sh (.int b),z] =
  .ok (.nx [L,.sh (.int (xs.foldl eY b)),z']):=by
 intro xs
 induction xs with
 |nil=>intro k b z _ _ _;exact⟨z,rfl⟩
 |cons x xs ih =>
  intro k b z h hk hx;have hxx:=hx x List.mem_cons_self;have q1:=hxx.q1;obtain⟨h1,h2,h3⟩:=h.step hxx;simp only[List.length_cons] at hk;obtain⟨z',hz'⟩:=ih (k+1) _ (.sh (fr x)) h1 (by omega) (λy hy=>hx y (List.mem_cons_of_mem _ hy));refine⟨z',?_⟩;have hg:0<(Int.gcd b x.2:Int):=pZ (by omega);have hdiv:eD b (Int.gcd b x.2:Int)=true:=kr (by omega) (Nat.lt_of_le_of_lt h.bd (uC (by omega)));have hb13:(b / (Int.gcd b x.2:Int)).natAbs<nY:=Nat.lt_of_le_of_lt (Nat.le_trans (Int.natAbs_ediv_le_natAbs _ _) h.bd) (uC (by omega));have hmul:dG (b / (Int.gcd b x.2:Int)) x.2=true:=d9 (Nat.lt_of_lt_of_le hb13 oV) (Nat.lt_of_lt_of_le hxx.qN AL);rw[List.map_cons,c3 (ρ1:=[L,.sh (.int b),.sh (fr x)]) (ρ2:=[L,.sh (.int (eY b x)),.sh (fr x)]) rfl ?_]
  .exact hz'
  .rw[show fr x=.tup [.int x.1,.int x.2] from rfl]
   open_line with[jF,nj hdiv,eS hg,cm hmul]
   rfl
theorem BL{xs:List cw}(hl:xs.length<=60)(hx:∀x∈xs,fW x):m_shared_bottom [.lst (xs.map fr)]=.ok (.int (Gi xs)):=by
 obtain⟨z',hz⟩:=Ei (L:=.sh (.lst (xs.map fr))) xs 0 1 .no ⟨by decide,by decide⟩ (by omega) hx;open_line with[m_shared_bottom,iF,hz]
 rfl
noncomputable def wI(b:Int):Option cw->D
 |none=>.non
 |some x=>.int (x.1*(b / x.2))
noncomputable def fH(os:List (Option cw)):List cw:=os.filterMap id
theorem Bk{os:List (Option cw)}{x:cw}:x∈fH os↔some x∈os:=by unfold fH;simp
theorem B1{x:cw}{b:Int}(hx:fW x)(hb:b.natAbs<nY):m_as_whole [fr x,.int b]=.ok (.int (x.1*(b / x.2))):=by
 have q1:=hx.q1;have hdiv:eD b x.2=true:=D7 (by omega) (Nat.lt_of_lt_of_le hx.qN Jv);have hmul:dG x.1 (b / x.2)=true:=d9 (Nat.lt_of_lt_of_le hx.pN AL) (Nat.lt_of_lt_of_le (Nat.lt_of_le_of_lt (Int.natAbs_ediv_le_natAbs _ _) hb) oV);rw[show fr x=.tup [.int x.1,.int x.2] from rfl];open_line with[m_as_whole,rO,nj hdiv,eS (show 0<x.2 by omega),cm hmul]
theorem gT:∀os:List (Option cw),(os.map aM).filter (λd=>!(tj d))=(fH os).map fr
 |[]=>rfl
 |none::os=>by
  rw[List.map_cons,List.filter_cons_of_neg (by decide),gT os];rfl
 |some x::os=>by
  have:tj (aM (some x))=false:=rfl;rw[List.map_cons,List.filter_cons_of_pos (by rw[this];rfl),gT os];rfl
theorem Co{os:List (Option cw)}(hl:os.length<=60)(hx:∀x,some x∈os->fW x):m_on_one_scale [.lst (os.map aM)]=.ok (.tup [.lst (os.map (wI (Gi (fH os)))),.int (Gi (fH os))]):=by
 have hxs:∀x∈fH os,fW x:=λx h=>hx x (Bk.mp h);have hls:(fH os).length<=60:=Nat.le_trans (List.length_filterMap_le _ _) hl;have h1:=BL hls hxs;obtain⟨B,_,_⟩:=Eh hxs 1 0 ⟨by decide,by decide⟩;have hb:(Gi (fH os)).natAbs<nY:=Nat.lt_of_le_of_lt B.bd (uC (by omega));have c1:fQ 1 [] (bw 0) (aa (ae 0) (dC (.non)) cU) (ae 0) [.sh (.lst (os.map aM)),.no] (os.map aM)=.ok (.lst ((fH os).map fr)):=by
  rw[xy (F:=id) (p:=λd=>!(tj d)) (by rw[List.length_map];omega)]
  .rw[List.map_id,gT]
  .intro d hd
   exact⟨[.sh d],rfl,rfl,λ_=>rfl⟩
 have c2:fQ 1 [1] (bw 0) mYes (Jc (aa (ae 0) (dC (.non)) gz) (dC (.non)) (au (ai (ae 0) (ai (ae 1) aE)) m_as_whole)) [.sh (.lst (os.map aM)),.sh (.int (Gi (fH os)))] (os.map aM)=.ok (.lst (os.map (wI (Gi (fH os))))):=by
  rw[rf (F:=λd=>match d with|.tup [.int p,.int q]=>.int (p*(Gi (fH os) / q))|_=>.non) (by rw[List.length_map];omega)]
  .congr 2
   rw[List.map_map];apply List.map_congr_left;intro o _;cases o<;>rfl
  .intro d hd
   obtain⟨o,ho,rfl⟩:=List.mem_map.mp hd;refine⟨[.sh (aM o),.sh (.int (Gi (fH os)))],rfl,rfl,?_⟩;cases o with
   |none=>rfl
   |some x =>
    have hw:=B1 (hx x ho) hb;rw[show fr x=.tup [.int x.1,.int x.2] from rfl] at hw;rw[show aM (some x)=.tup [.int x.1,.int x.2] from rfl];open_line with[hw]
 open_line with[m_on_one_scale,jh,c1,h1,c2]
theorem FQ{xs:List D}{x:D}:aN (.lst (xs++[x])) (.int (-1))=.ok x:=by
 have e:atI (xs++[x]) (-1)=some x:=by
  unfold atI xJ;rw[if_neg (by decide)];have h:(-((xs++[x]).length:Int))<=-1:=by simp;omega
  rw[if_pos h];have e:(-1+((xs++[x]).length:Int)).toNat=xs.length:=by simp;omega
  rw[e];simp
 show(match atI (xs++[x]) (-1) with|some d=>aj.ok d|none=>.stuck)=_;rw[e]
theorem oY{c:Ev->aj D}{s:Ev->aj Fl}{n:Nat}{ρ ρ2:Ev}(h1:c (fX ρ)=.ok (.bl true))(h2:s ρ=.ok (.nx ρ2)):b7 c s (n+1) ρ=b7 c s n ρ2:=by
 conv=>lhs;unfold b7
 rw[h1,h2];rfl
theorem mM{c:Ev->aj D}{s:Ev->aj Fl}{n:Nat}{ρ:Ev}(h1:c (fX ρ)=.ok (.bl false)):b7 c s (n+1) ρ=.ok (.nx ρ):=by
 conv=>lhs;unfold b7
 rw[h1];rfl
end Com
namespace DL
open PySem PySem.Spec PyProof.Rows L2
noncomputable def Kf(K:W.Frag) (E:XK) (He H0e Ha:Hp) (r:aj Fl) (D:e7):Prop:=match r with
 |.ok (.rt (.lst es))=>∀p us H Ha',bf He H0e H Ha'->He p=none->Ha' p=none->H p=some (.lst us)->Reps K Ha' es us->D.rt (.ref p) H
 |.exn x=>∀C ox H Ha',bf He H0e H Ha'->AM K Ha' x C ox->E C ox H
 |_=>False
noncomputable def M6(K:W.Frag) (E:XK) (He H0e:Hp) (g:Ev->aj Fl):TS:=λD σ H=>∃Ha ρ,dH K He H0e Ha σ H ρ/\Kf K E He H0e Ha (g ρ) D
structure Ew (X:Cx) (E:XK) (He H0e:Hp) (st:List Stmt) (g:Ev->aj Fl):Prop where
 o:vm X st (M6 X.K E He H0e g)
section
variable {X:Cx}{E:XK}{He H0e:Hp}{st:Stmt}{rest:List Stmt}{e:Expr}{es:List Expr}{f:Ev->aj D}{fa:Ev->aj (List D)}{s t:Ev->aj Fl}{pos:Pos}
noncomputable def HI(t:Ev->aj Fl) (r:Fl):aj Fl:=match r with
 |.nx ρ=>t ρ
 |_=>.stuck
noncomputable def sP(s t:Ev->aj Fl):Ev->aj Fl:=λρ=>(s ρ).bind (HI t)
theorem tI(h1:DS X E He H0e st s)(h2:Ew X E He H0e rest t):Ew X E He H0e (st::rest) (sP s t):=by
 refine⟨?_⟩;refine fJ (iN h1.o h2.o) λD σ H ⟨Ha,ρ,h,q⟩=>⟨Ha,ρ,h,?_⟩
 unfold sP at q;cases e1:s ρ with
 |stuck|exn x=>rw[e1] at q;exact q
 |ok r =>
  rw[e1] at q;cases r with|nx ρ'=>exact λσ' H' Ha' s' h'=>⟨Ha',ρ',h',q⟩|rt d|bk ρ'|ct ρ'=>exact q.elim
end
noncomputable def Ih(r:Fl):aj D:=match r with
 |.rt (.lst es)=>.ok (.lst es)
 |_=>.stuck
noncomputable def A5(n:Nat) (s:Ev->aj Fl) (ds:List D):aj D:=(s (ds.map Sl.sh++List.replicate (n-ds.length) .no)).bind Ih
noncomputable def Ke(K:W.Frag) (E:XK) (H Ha:Hp) (r:aj D) (Q:VK):Prop:=match r with
 |.ok (.lst es)=>∀p us H' Ha',bf H Ha H' Ha'->H p=none->Ha' p=none->H' p=some (.lst us)->Reps K Ha' es us->Q (.ref p) H'
 |.exn x=>∀C ox H' Ha',bf H Ha H' Ha'->AM K Ha' x C ox->E C ox H'
 |_=>False
noncomputable def JX(K:W.Frag) (n:Nat) (m:List D->aj D):Sp:=λvs H Q E=>vs.length=n/\∃Ha ds,aC Ha H/\Reps K Ha ds vs/\Ke K E H Ha (m ds) Q
theorem yD{P:Program}{w:World}{K:W.Frag}{mg:Str->Option Value}{base:Heap}{x qual:Str}{st:Stmt}{f:Addr}{fd:FuncData}{N ps:List Str}{k:Nat}{s:Ev->aj Fl}(F:Gy K x qual st f fd)(S:gs N ps (defScope st))
  (hbody:∀(cdv:Value) (A:Around) (outer:List PySem.Env) (s0:Shared) (H Ha:Hp) (E:XK),du k (A.deeper (envOfC qual (defScope st) s0.heap.objs.size f cdv)) ->
   Ew (oj CX0 P w K mg base N qual (defScope st) f cdv A outer s0 H E).nox E H Ha (defBody st) s):iz P w K mg base CX0 (k+1) f fd ps (JX K ps.length (A5 N.length s)):=by
 have hpl:ps.length<=N.length:=by have:=congrArg List.length S.pre;rw[List.length_take] at this;omega
 refine F.ok S (λvs H Q E h=>h.1) λcdv A outer s0 H vs Q E hr h=>?_;obtain⟨hn,Ha,ds,hs,hv,q⟩:=h;refine⟨_,(hbody cdv A outer s0 H Ha E hr).o,Ha,ds.map Sl.sh++List.replicate (N.length-ds.length) .no,?_,?_⟩
 .refine⟨bf.refl hs,nD hv,λi d e=>?_,λi j d d' hij e=>?_,?_,OX.none sN o7⟩
  .by_cases hi:i<ds.length
   .rw[List.getElem?_append_left (by simpa using hi),List.getElem?_map] at e
    cases q:ds[i]? with|none|some d'=>rw[q] at e;cases e
   .rw[List.getElem?_append_right (by simpa using hi),List.getElem?_replicate] at e
    split at e<;>cases e
  .by_cases hi:i<ds.length
   .rw[List.getElem?_append_left (by simpa using hi),List.getElem?_map] at e
    cases q:ds[i]? with|none|some d'=>rw[q] at e;cases e
   .rw[List.getElem?_append_right (by simpa using hi),List.getElem?_replicate] at e
    split at e<;>cases e
  .unfold L2.start
   have:=hv.length;simp only[List.length_append,List.length_map,List.length_replicate];omega
 .unfold A5 at q
  cases e1:s (ds.map Sl.sh++List.replicate (N.length-ds.length) .no) with
  |stuck|exn x=>rw[e1] at q;exact q
  |ok r =>
   rw[e1] at q;cases r with
   |rt d =>
    cases d with|lst es=>exact λp us H' Ha' g hp h0 hv' rr=>q p us H' Ha' g hp h0 hv' rr| _=>exact q.elim
   |_=>exact q.elim
section
variable {X:Cx}{E:XK}{He H0e:Hp}{e:Expr}{es:List Expr}{f:Ev->aj D}{fa:Ev->aj (List D)}{pos:Pos}
theorem F6{CX:uh}{k n:Nat}{fn:Addr}{fd:FuncData}{ps:List Str}{m:List D->aj D}{x:Str}{p:Pos}(F:iz X.prog X.w X.K X.mg X.base CX k fn fd ps (JX X.K n m))(hr:du k X.A)(hg:Gl X x)(hm:X.mg x=some (.ref fn))
  (hk:W.keepIn X.K (.ref fn)=true)(hb:j8 X.K fd ps [])(hx:fU CX X E)(ha:DA X E (e::es) fa)(hn:(e::es).length=n:=by rfl)(hl:∀ρ ds,fa ρ=.ok ds->ds.length=(e::es).length)
  (hdb:(x==("__debug__":Str))=false:=by decide)(he:starEach (e::es) X.env=(false,eval e X.env)::starEach es X.env:=by exact bK rfl)(hpl:(backTo pos (starEach es X.env)).any (·.1)=false:=by exact cv rfl) :
  DF X E (.Call (.Name x p) (e::es) [] pos) (au fa m):=by
 refine⟨?_⟩;refine aZ (oB F hr hg hm hk hb .nil hx ha.o hdb he hpl) λσ H Q h=>?_;obtain⟨Ha,ρ,hs,hr,q⟩:=h;refine⟨Ha,ρ,hs,hr,?_⟩;unfold au at q;cases e1:fa ρ with
 |stuck|exn x=>rw[e1] at q;exact q
 |ok ds =>
  rw[e1] at q;intro v H1 H01 g1 r1;refine⟨?_,H01,ds,g1.sub,by simpa using r1,?_⟩
  .have:=r1.length
   have:=hl ρ ds e1;simp only[List.append_nil];omega
  .replace q:match m ds with
    |.ok (.lst ds)=>∀p vs H' Ha',bf H Ha H' Ha'->H p=none->Ha' p=none->H' p=some (.lst vs)->Reps X.K Ha' ds vs->Q (.ref p) H'
    |.ok _=>False
    |.exn x=>∀C ox H' Ha',bf H Ha H' Ha'->AM X.K Ha' x C ox->E C ox H'
    |.stuck=>False:=q
   cases e2:m ds with
   |stuck=>rw[e2] at q;exact q|exn x=>rw[e2] at q;exact λC ox H' Ha' g ex=>q C ox H' Ha' (g1.trans g) ex
   |ok d =>
    rw[e2] at q;cases d with|lst es=>exact λp us H' Ha' g hp h0 hv rr=>q p us H' Ha' (g1.trans g) (g1.s.free hp) h0 hv rr| _=>exact q.elim
end
section
variable {X:Cx}{E:XK}{He H0e:Hp}{e a b:Expr}{es:List Expr}{f g:Ev->aj D}{fa:Ev->aj (List D)}{pos:Pos}
noncomputable def Gb(x y:D):aj D:=match x,y with
 |.int i,.int j=>.ok (.int (if j<i then j else i))
 |_,_=>.stuck
theorem Jg:gR X E (λxs H Q=>∃i j,xs=[.int i,.int j]/\Q (.int (if j<i then j else i)) H) (m2 Gb):=Hf λx y v u H Ha Q hs r r' q=>by
 cases x with
 |int i =>
  cases y with|int j=>exact⟨i,j,by rw[az.mp r,az.mp r'],bq hs q (ri _)⟩| _=>exact q.elim
 |_=>exact q.elim
end
end DL
namespace Cod
open PySem L2 DL Com
theorem Jo{c:Int}:BG (.int c)=.ok (.int (c.natAbs:Int)):=by
 show aj.ok (D.int (if c<0 then -c else c))=_
 congr 2
 split<;>omega
noncomputable def rP:Ev->aj Fl :=
 (aw (bG 2 (au (ai (ae 0) aE) (m1 BG)))
 (aw (bG 3 (ae 1))
 (aw (fI (jy 3) (aa (ae 3) (dC (.int 0)) jE)
 (aw (su 2 3 (ai (ae 3) (ai (aa (ae 2) (ae 3) de) aE)))
 ar))
 (aw (bP (au (ai (aa (ae 0) (ae 2) mC) (ai (aa (ae 1) (ae 2) mC) aE)) e8))
 ar))))
noncomputable def bI:List D->aj D:=cp 4 rP
theorem wt{A B:Sl}:∀(n:Nat) (a b:Int),0<=a->0<=b->b.natAbs<n->b7 (aa (ae 3) (dC (.int 0)) jE) (aw (su 2 3 (ai (ae 3) (ai (aa (ae 2) (ae 3) de) aE))) ar) n [A,B,.sh (.int a),.sh (.int b)]=.ok (.nx [A,B,.sh (.int (Int.gcd a b:Int)),.sh (.int 0)])
 |0,a,b,_,_,h=>absurd h (Nat.not_lt_zero _)
 |n+1,a,b,ha,hb,h=>by
  by_cases h0:b=0
  .subst h0
   have hc:(aa (ae 3) (dC (.int 0)) jE) (fX [A,B,.sh (.int a),.sh (.int 0)])=.ok (.bl false):=by
    cases A<;>cases B<;>rfl
   rw[mM hc];have:((Int.gcd a 0:Nat):Int)=a:=by rw[Int.gcd_zero_right];omega
   rw[this]
  .have hc:(aa (ae 3) (dC (.int 0)) jE) (fX [A,B,.sh (.int a),.sh (.int b)])=.ok (.bl true):=by
    have:(b==0)=false:=beq_eq_false_iff_ne.mpr h0;cases A<;>cases B<;>open_line with[this]
   have f:=eC (a:=a) (b:=b) (by omega);have hb0:(b==0)=false:=beq_eq_false_iff_ne.mpr h0;rw[oY (ρ2:=[A,B,.sh (.int b),.sh (.int (a.fmod b))]) hc ?_,wt n b (a.fmod b) (by omega) f.1 (by omega)]
   .rw[pY]
   .cases A<;>cases B<;>open_line with[hb0]
theorem low_ok{a b:Int}(hb:0<b)(h1:a.natAbs<nY)(h2:b.natAbs<nY):bI [.int a,.int b]=.ok (fr (cQ a b)):=by
 have hg:0<(Int.gcd a b:Int):=jx (by omega);have hgn:(Int.gcd (a.natAbs:Int) b:Int)=(Int.gcd a b:Int):=by
  congr 1
 have hl:=wt (A:=.sh (.int a)) (B:=.sh (.int b)) (b.natAbs+1) (a.natAbs:Int) b (by omega) (by omega) (Nat.lt_succ_self _);rw[hgn] at hl;have hwh:∀(c:Ev->aj D) (s:Ev->aj Fl),fI (jy 3) c s [.sh (.int a),.sh (.int b),.sh (.int (a.natAbs:Int)),.sh (.int b)]=b7 c s (b.natAbs+1) [.sh (.int a),.sh (.int b),.sh (.int (a.natAbs:Int)),.sh (.int b)]:=λ_ _=>rfl;have d1:(Int.gcd a b:Int)∣a:=Int.gcd_dvd_left ..;have d2:(Int.gcd a b:Int)∣b:=Int.gcd_dvd_right ..;have q1:eD a (Int.gcd a b:Int)=true:=kr (by omega) h1;have q2:eD b (Int.gcd a b:Int)=true:=kr (by omega) h2;have e1:a.fdiv (Int.gcd a b:Int)=a / (Int.gcd a b:Int):=eS hg;have e2:b.fdiv (Int.gcd a b:Int)=b / (Int.gcd a b:Int):=eS hg;open_line with[bI,rP,Jo,hwh,hl,nj q1,nj q2,e1,e2]
 rfl
noncomputable def S(cs:List Nat):Str:=⟨cs.toArray⟩
theorem S_inj{a b:List Nat}(h:S a=S b):a=b:=by
 have:=congrArg (λs:Str=>s.cps.toList) h;simpa [S] using this
theorem K9(a:List Nat):(S a).length=a.length:=Je a
structure IsNm (cs:List Nat):Prop where
 l1:1<=cs.length
 l8:cs.length<=8
 ab:∀x∈cs,tm x=true
theorem IsNm.nameB{cs:List Nat}(h:IsNm cs):Com.nameB (S cs)=true:=by
 unfold Com.nameB;rw[K9];simp only[Bool.and_eq_true,decide_eq_true_eq];exact⟨h.l1,h.l8,List.all_eq_true.mpr λx hx=>h.ab x (by simpa [S] using hx)⟩
noncomputable def nmsD(css:List (List Nat)):List D:=css.map λcs=>D.str (S cs)
theorem nodup_le{α:Type}[DecidableEq α]:∀{l m:List α},l.Nodup->(∀x∈l,x∈m)->l.length<=m.length
 |[],_,_,_=>Nat.zero_le _
 |a::l,m,nd,h=>by
  rw[List.nodup_cons] at nd;have ha:=h a List.mem_cons_self;have:=nodup_le (l:=l) (m:=m.erase a) nd.2 λx hx=>by
   have hne:x≠a:=λz=>nd.1 (z▸hx);exact(List.mem_erase_of_ne hne).mpr (h x (List.mem_cons_of_mem _ hx))
  rw[List.length_erase_of_mem ha] at this;have:=List.length_pos_of_mem ha;simp only[List.length_cons];omega
noncomputable def xU(d:D):aj (List D):=match d with
 |.int j=>if -4611686018427387904<=j/\j<4611686018427387904 then .ok (intsFrom 0 j.toNat) else .stuck
 |_=>.stuck
theorem ev_srcR1{f:Ev->aj D}{ρ:Ev}:gb f ρ=(f ρ).bind xU:=aH rfl
theorem srcR1_nat{k:Nat}(h:k<=1000000):xU (.int (k:Int))=.ok (intsFrom 0 k):=by
 unfold xU;dsimp only;rw[if_pos ⟨by omega,by omega⟩,Int.toNat_natCast]
noncomputable def first(es:List Int) (m:Nat):List Nat:=(List.range m).map λj=>97+((es[2+j]?).getD 0).toNat
end Cod
namespace DL
open PySem PySem.Spec PyProof.Rows L2
noncomputable def Nk(x:D):aj D:=match x with
 |.lst ds=>.ok (.lst ds.reverse)
 |_=>.stuck
noncomputable def oi(f:Ev->aj D) (lo hi:Ev->aj (Option Int)):Ev->aj D:=λρ=>(f ρ).bind λx=>(lo ρ).bind λl=>(hi ρ).bind λh=>match x with
 |.lst ds=>.ok (.lst (sE ds l h))
 |_=>.stuck
section
variable {X:Cx}{E:XK}{a:Expr}{f:Ev->aj D}{pos p2:Pos}
theorem xr{lo hi:Option Expr}{fl fh:Ev->aj (Option Int)}(ha:DE X E a f)(hl:DO X E lo fl)(hh:DO X E hi fh):DF X E (.Subscript a (.Slice lo hi none p2) pos) (oi f fl fh):=by
 refine⟨aZ (vM za ha.o hl.o hh.o) λσ H Q ⟨Ha,ρ,hs,hr,q⟩=>⟨Ha,ρ,hs,hr,?_⟩⟩;unfold oi at q;cases e1:f ρ with
 |stuck|exn x=>rw[e1] at q;exact q
 |ok x =>
  rw[e1] at q;intro v H1 H01 g1 r1;refine⟨H01,ρ,g1.sub,hr.mono g1.z,?_⟩;simp only[aj.bind] at q;cases e2:fl ρ with
  |stuck=>rw[e2] at q;exact q|exn x=>rw[e2] at q;exact λC ox H' Ha' g' ex=>q C ox H' Ha' (g1.trans g') ex
  |ok l =>
   rw[e2] at q;intro H2 H02 g2;refine⟨H02,ρ,g2.sub,(hr.mono g1.z).mono g2.z,?_⟩;simp only[aj.bind] at q;cases e3:fh ρ with
   |stuck=>rw[e3] at q;exact q|exn x=>rw[e3] at q;exact λC ox H' Ha' g' ex=>q C ox H' Ha' ((g1.trans g2).trans g') ex
   |ok h =>
    rw[e3] at q;intro H3 H03 g3;simp only[aj.bind] at q;have g:=(g1.trans g2).trans g3;cases x with
    |lst ds =>
     simp only at q;obtain⟨b,vs,rfl,h1,h2⟩:=aG.mp ((r1.mono g2.z).mono g3.z);refine⟨b,vs,rfl,aC.sqL g3.sub h1,λp hp=>?_⟩;have h0:H03 p=none:=g3.sub.free hp;refine q p _ _ H03 (g.trans ⟨λb o q=>by rw[aA (bC q hp)];exact q,aC.refl _,λb o q=>?_,λa h1 h2=>absurd h2 h1⟩) (g.s.free hp) h0 aI (h2.cut l h);rw[aA (by intro z;subst z;rw[h0] at q;cases q)];exact g3.sub _ _ q
    |_=>exact q.elim
end
theorem MS{α:Type}{us:List α}(h:us.length=1):∃a,us=[a]:=List.length_eq_one_iff.mp h
theorem MR{α:Type}{us:List α}(h:us.length=2):∃a b,us=[a,b]:=by
 cases us with|nil=>cases h|cons a us=>obtain⟨b,rfl⟩:=MS (Nat.succ.inj h);exact⟨a,b,rfl⟩
theorem MQ{α:Type}{us:List α}(h:us.length=3):∃a b c,us=[a,b,c]:=by
 cases us with|nil=>cases h|cons a us=>obtain⟨b,c,rfl⟩:=MR (Nat.succ.inj h);exact⟨a,b,c,rfl⟩
theorem Ni{α:Type}{us:List α}(h:us.length=4):∃a b c d,us=[a,b,c,d]:=by
 cases us with|nil=>cases h|cons a us=>obtain⟨b,c,d,rfl⟩:=MQ (Nat.succ.inj h);exact⟨a,b,c,d,rfl⟩
noncomputable def Bx(a:Addr) (H:Hp):Hp:=λb=>if b=a then none else H b
theorem e9{a b:Addr}{H:Hp}(h:b≠a):Bx a H b=H b:=if_neg h
theorem dj{a:Addr}{H:Hp}:Bx a H a=none:=if_pos rfl
structure fV (K:W.Frag) (He H0e Ha:Hp) (σ:L2.St) (H:Hp) (ρ:Ev) (a:Addr) (st:List D) (vs:List V):Prop where
 ha:He a=none
 h0:H0e a=none
 hl:H a=some (.lst vs)
 r:Reps K Ha st vs
 s:dH K (upd He a (.lst vs)) H0e Ha σ H ρ
theorem OX.he{K:W.Frag}{He He' Ha H:Hp}{σ:L2.St}{ρ:Ev}(hn:∀b,He b=Option.none->He' b=Option.none)(h:OX K He Ha σ H ρ):OX K He' Ha σ H ρ:=⟨λi j ds e=>by
 obtain⟨a,p,h1,⟨vs,es,us,r1,r2,r3,r⟩,h2⟩:=h.1 i j ds e;exact⟨a,p,h1,⟨vs,es,us,hn _ r1,r2,hn _ r3,r⟩,h2⟩,h.2⟩
section
variable {K:W.Frag}{He H0e Ha H:Hp}{σ:L2.St}{ρ:Ev}{a:Addr}{st st':List D}{vs us:List V}
theorem fV.n0(h:fV K He H0e Ha σ H ρ a st vs):Ha a=none:=by
 cases q:Ha a with
 |none=>rfl
 |some o =>
  have:=h.s.g.nw a (by rw[q];simp) h.h0;rw[aI] at this;cases this
theorem fV.back(h:fV K He H0e Ha σ H ρ a st vs){σ':L2.St}{H' Ha':Hp}{ρ':Ev}(z:aC Ha Ha')(s':dH K (upd He a (.lst vs)) H0e Ha' σ' H' ρ'):fV K He H0e Ha' σ' H' ρ' a st vs :=
 ⟨h.ha,h.h0,s'.g.s _ _ aI,h.r.mono z,s'⟩
theorem fV.change(h:fV K He H0e Ha σ H ρ a st vs){H' Ha':Hp}(g:bf (Bx a H) Ha H' Ha')(n:Ha' a=none)(hl:H' a=some (.lst us))(r:Reps K Ha' st' us):fV K He H0e Ha' σ H' ρ a st' us:=by
 have hne:∀b,upd He a (.lst us) b=none->b≠a/\He b=none:=λb e=>by
  by_cases c:b=a
  .subst c;rw[aI] at e;cases e
  .rw[aA c] at e;exact⟨c,e⟩
 have hnn:∀b,upd He a (.lst vs) b=none->upd He a (.lst us) b=none:=λb e=>by
  by_cases c:b=a
  .subst c;rw[aI] at e;cases e
  .rw[aA c] at e ⊢;exact e
 have gone:∀b o,b≠a->H b=some o->H' b=some o:=λb o c e=>g.s _ _ (by rw[e9 c];exact e);have n':∀b,Ha b=none->(∃o,H b=some o/\b≠a)->Ha' b=none:=λb e ⟨o,e1,c⟩=>by
  cases q:Ha' b with
  |none=>rfl
  |some u =>
   have:=g.nw b (by rw[q];simp) e;rw[e9 c,e1] at this;cases this
 refine⟨h.ha,h.h0,hl,r,⟨⟨λb o e=>?_,h.s.g.z.trans g.z,g.sub,λb h1 h2=>?_⟩,h.s.rd.mono g.z,λi d e=>?_,h.s.ap,h.s.ln,(h.s.ex.he hnn).upd (λj s e=>.inl ⟨e,rfl⟩) g.z (λb ws hb e=>gone b _ (hne b hb).1 e) λp ws hp q0 hq _=>⟨gone p _ (hne p hp).1 hq,n' p q0 ⟨_,hq,(hne p hp).1⟩⟩⟩⟩
 .by_cases c:b=a
  .subst c;rw[aI] at e;cases e;exact hl
  .rw[aA c] at e
   exact gone b o c (h.s.g.s _ _ (by rw[aA c];exact e))
 .by_cases c:b=a
  .subst c;exact absurd n h1
  .rw[aA c]
   cases q:Ha b with
   |some u =>
    have:=h.s.g.nw b (by rw[q];simp) h2;rw[aA c] at this;exact this
   |none =>
    have:=g.nw b h1 q;rw[e9 c] at this;cases q2:He b with|none=>rfl|some u=>rw[h.s.g.s b u (by rw[aA c];exact q2)] at this;cases this
 .obtain⟨b,k1,k2,k3,k4⟩:=h.s.ow i d e
  cases d with
  |lst ds =>
   obtain⟨ws,k5,k6⟩:=k4;have c:b≠a:=(hne b (hnn b k2)).1;exact⟨b,k1,hnn b k2,n' b k3 ⟨_,k5,c⟩,ws,gone b _ c k5,k6.mono g.z⟩
  |dic ks ds =>
   obtain⟨ws,k5,kl,k6⟩:=k4;have c:b≠a:=(hne b (hnn b k2)).1;exact⟨b,k1,hnn b k2,n' b k3 ⟨_,k5,c⟩,ws,gone b _ c k5,kl,k6.mono g.z⟩
  |_=>exact k4.elim
end
noncomputable def tM(K:W.Frag) (He H0e:Hp) (a:Addr) (f:Ev->List D->aj (D×List D)):TE:=λσ H Q=>∃Ha ρ st vs,fV K He H0e Ha σ H ρ a st vs/\match f ρ st with
 |.ok (d,st')=>∀v H' Ha' us,aC Ha Ha'->fV K He H0e Ha' σ H' ρ a st' us->Rep K Ha' d v->Q v H'
 |.exn _=>False
 |.stuck=>False
noncomputable def MD(K:W.Frag) (He H0e:Hp) (a:Addr) (f:Ev->List D->aj (List D×List D)):TA:=λσ H Q=>∃Ha ρ st vs,fV K He H0e Ha σ H ρ a st vs/\match f ρ st with
 |.ok (ds,st')=>∀xs H' Ha' us,aC Ha Ha'->fV K He H0e Ha' σ H' ρ a st' us->Reps K Ha' ds xs->Q xs H'
 |.exn _=>False
 |.stuck=>False
noncomputable def MC(K:W.Frag) (He H0e:Hp) (a:Addr) (f:Ev->List D->aj (D×List D)):TT:=λσ H Q=>∃Ha ρ st vs,fV K He H0e Ha σ H ρ a st vs/\match f ρ st with
 |.ok (.bl b,st')=>∀H' Ha' us,aC Ha Ha'->fV K He H0e Ha' σ H' ρ a st' us->Q b H'
 |.ok _=>False
 |.exn _=>False
 |.stuck=>False
structure DM (X:Cx) (He H0e:Hp) (a:Addr) (e:Expr) (f:Ev->List D->aj (D×List D)):Prop where
 o:PE X e (tM X.K He H0e a f)
structure Hj (X:Cx) (He H0e:Hp) (a:Addr) (es:List Expr) (f:Ev->List D->aj (List D×List D)):Prop where
 o:PA X es (MD X.K He H0e a f)
structure Ex (X:Cx) (He H0e:Hp) (a:Addr) (e:Expr) (f:Ev->List D->aj (D×List D)):Prop where
 o:PT X e (MC X.K He H0e a f)
noncomputable def mP(f:Ev->aj D):Ev->List D->aj (D×List D):=λρ st=>(f ρ).bind λd=>.ok (d,st)
noncomputable def tw(st:List D) (d:D):aj (D×List D):=if uT d=true then .ok (d,st) else .stuck
noncomputable def iW(s:Option Sl) (a:Addr):Bool:=match s with
 |some (.pt b)=>b==a
 |_=>false
noncomputable def vw(i:Nat) (ρ:Ev) (st:List D):Ev:=(fX ρ).set i (.sh (.lst st))
noncomputable def mV(i:Nat) (a:Addr) (f:Ev->aj D):Ev->List D->aj (D×List D):=λρ st=>if iW ρ[i]? a=true then(f (vw i ρ st)).bind (tw st) else .stuck
section
variable {X:Cx}{E:XK}{He H0e:Hp}{a:Addr}{e b:Expr}{es:List Expr}{pos:Pos}{f:Ev->aj D}{fm gm:Ev->List D->aj (D×List D)}{fa:Ev->List D->aj (List D×List D)}
theorem aL(he:DE X E e f):DM X He H0e a e (mP f):=⟨aZ he.o λσ H Q ⟨Ha,ρ,st,vs,h,q⟩=>⟨Ha,ρ,h.s.g.sub,h.s.rd,by
 unfold mP at q;cases e1:f ρ with
 |stuck=>rw[e1] at q;exact q|exn x=>rw[e1] at q;exact q.elim
 |ok d =>
  rw[e1] at q;exact λv H' Ha' g rp=>q v H' Ha' vs g.z (h.back g.z (h.s.grow g)) rp⟩⟩
theorem fV.view{K:W.Frag}{Ha H:Hp}{σ:L2.St}{ρ:Ev}{i:Nat}{st:List D}{vs:List V}(h:fV K He H0e Ha σ H ρ a st vs)(hp:iW ρ[i]? a=true):aC (upd (frz (upd He a (.lst vs)) Ha H) a (.lst vs)) H/\aC (frz (upd He a (.lst vs)) Ha H) (upd (frz (upd He a (.lst vs)) Ha H) a (.lst vs))/\dX K (upd (frz (upd He a (.lst vs)) Ha H) a (.lst vs)) σ (vw i ρ st):=by
 have hz:frz (upd He a (.lst vs)) Ha H a=none:=by unfold frz;rw[aI];exact h.n0
 have z:aC (frz (upd He a (.lst vs)) Ha H) (upd (frz (upd He a (.lst vs)) Ha H) a (.lst vs)):=λb o e=>by rw[aA (by intro z;subst z;rw[hz] at e;cases e)];exact e
 refine⟨λb o e=>?_,z,λj d e=>?_⟩
 .by_cases c:b=a
  .subst c;rw[aI] at e;cases e;exact h.hl
  .rw[aA c] at e;exact h.s.frz_le _ _ e
 .unfold vw at e
  by_cases c:i=j
  .subst c
   unfold iW at hp;cases q:ρ[i]? with
   |none=>rw[q] at hp;cases hp
   |some s =>
    rw[q] at hp;cases s with
    |pt b =>
     have hb:b=a:=eq_of_beq hp;subst hb;have hil:i<(fX ρ).length:=by unfold fX;rw[List.length_map];exact(List.getElem?_eq_some_iff.mp q).1
     rw[List.getElem?_set_self hil] at e;cases e;exact⟨_,h.s.ex.2 i b q,aG.mpr ⟨b,vs,rfl,eZ.of aI,(h.r.mono h.s.frz_sub).mono z⟩⟩
    |_=>cases hp
  .rw[List.getElem?_set_ne c] at e
   obtain⟨v,h1,h2⟩:=h.s.looks j d e;exact⟨v,h1,h2.mono z⟩
theorem fV.behind{K:W.Frag}{Ha H H' J:Hp}{σ:L2.St}{ρ:Ev}{st:List D}{vs:List V}(h:fV K He H0e Ha σ H ρ a st vs)(g:bf H (upd (frz (upd He a (.lst vs)) Ha H) a (.lst vs)) H' J):aC Ha J/\aC Ha (gP Ha J)/\fV K He H0e (gP Ha J) σ H' ρ a st vs:=by
 have hz:frz (upd He a (.lst vs)) Ha H a=none:=by unfold frz;rw[aI];exact h.n0
 have z0:aC (frz (upd He a (.lst vs)) Ha H) (upd (frz (upd He a (.lst vs)) Ha H) a (.lst vs)):=λb o e=>by rw[aA (by intro z;subst z;rw[hz] at e;cases e)];exact e
 have hJ:aC Ha J:=h.s.frz_sub.trans (z0.trans g.z);have z:aC Ha (gP Ha J):=λb o e=>by unfold gP;rw[e]
 refine⟨hJ,z,h.back z ?_⟩;have ja:J a=some (.lst vs):=g.z _ _ aI;have g':bf H (frz (upd He a (.lst vs)) Ha H) H' (Bx a J):=⟨g.s,λb o e=>by
   have c:b≠a:=by intro c;subst c;rw[hz] at e;cases e
   rw[e9 c];exact g.z _ _ (z0 _ _ e),λb o e=>by
   by_cases c:b=a
   .subst c;rw[dj] at e;cases e
   .rw[e9 c] at e;exact g.sub _ _ e,λb h1 h2=>by
   by_cases c:b=a
   .subst c;exact absurd dj h1
   .rw[e9 c] at h1;exact g.nw b h1 (by rw[aA c];exact h2)⟩
 have hs:=h.s.behind g';have e:gP Ha (Bx a J)=gP Ha J:=by
  funext b;unfold gP
  by_cases c:b=a
  .subst c;rw[h.n0,dj,ja]
  .rw[e9 c]
 rw[e] at hs;exact hs
theorem my{i:Nat}(he:DE X E e f):DM X He H0e a e (mV i a f):=⟨aZ he.o λσ H Q ⟨Ha,ρ,st,vs,h,q⟩=>by
 unfold mV at q
 by_cases hp:iW ρ[i]? a=true
 .rw[if_pos hp] at q
  obtain⟨v1,v2,v3⟩:=h.view hp;refine⟨_,vw i ρ st,v1,v3,?_⟩;cases e1:f (vw i ρ st) with
  |stuck=>rw[e1] at q;exact q|exn x=>rw[e1] at q;exact q.elim
  |ok d =>
   rw[e1] at q;intro v H' J g rp;obtain⟨hJ,z,hm⟩:=h.behind g;replace q:match tw st d with
    |.ok (d,st')=>∀v H' Ha' us,aC Ha Ha'->fV X.K He H0e Ha' σ H' ρ a st' us->Rep X.K Ha' d v->Q v H'
    |.exn _=>False
    |.stuck=>False:=q
   unfold tw at q
   by_cases fl:uT d=true
   .rw[if_pos fl] at q
    exact q v H' (gP Ha J) vs z hm (rp.flat_to (Gn hJ) fl)
   .rw[if_neg fl] at q;exact q.elim
 .rw[if_neg hp] at q;exact q.elim⟩
noncomputable def mB(f g:Ev->List D->aj (D×List D)) (op:D->D->aj D):Ev->List D->aj (D×List D):=λρ st=>(f ρ st).bind λp=>(g ρ p.2).bind λq=>(op p.1 q.1).bind λd=>.ok (d,q.2)
theorem gS{r:R2}{op:D->D->aj D}(ho:rZ X.K E r op)(σ:L2.St)(H:Hp)(Q:VK)(h:tM X.K He H0e a (mB fm gm op) σ H Q):JA r (tM X.K He H0e a fm) (tM X.K He H0e a gm) σ H Q:=by
 obtain⟨Ha,ρ,st,vs,h,q⟩:=h;refine⟨Ha,ρ,st,vs,h,?_⟩;unfold mB at q;cases e1:fm ρ st with
 |stuck|exn x=>rw[e1] at q;exact q
 |ok p =>
  obtain⟨x,s1⟩:=p;rw[e1] at q;intro v H1 H01 us z1 h1 r1;refine⟨H01,ρ,s1,us,h1,?_⟩;simp only[aj.bind] at q;cases e2:gm ρ s1 with
  |stuck|exn x=>rw[e2] at q;exact q
  |ok p2 =>
   obtain⟨y,s2⟩:=p2;rw[e2] at q;intro u H2 H02 us2 z2 h2 r2;refine ho x y v u H2 H02 Q h2.s.g.sub (r1.mono z2) r2 ?_;simp only at q;cases e3:op x y with
   |stuck=>rw[e3] at q;exact q|exn x=>rw[e3] at q;exact q.elim
   |ok d =>
    rw[e3] at q;exact λv' H' Ha' g rp=>q v' H' Ha' us2 ((z1.trans z2).trans g.z) (h2.back g.z (h2.s.grow g)) rp
theorem G8{op:Operator}{r:R2}{o:D->D->aj D}(h:ez X (binaryOp op) r)(ho:rZ X.K E r o){l:Expr}(ha:DM X He H0e a l fm)(hb:DM X He H0e a b gm):DM X He H0e a (.BinOp l op b pos) (mB fm gm o):=⟨aZ (GN h ha.o hb.o) (gS ho)⟩
theorem IV{op:CmpOp}{r:R2}{o:D->D->aj D}(h:ez X (compareOp op) r)(ho:rZ X.K E r o){l:Expr}(ha:DM X He H0e a l fm)(hb:DM X He H0e a b gm)(hm:behindInMarks op b=false):DM X He H0e a (.Compare l [op] [b] pos) (mB fm gm o):=⟨aZ (zq h ha.o hb.o hm) (gS ho)⟩
theorem K3{r:R2}{o:D->D->aj D}(h:Es X r)(ho:rZ X.K E r o){l:Expr}(ha:DM X He H0e a l fm)(hb:DM X He H0e a b gm)(hs:mH b:=by intro _ _;rfl):DM X He H0e a (.Subscript l b pos) (mB fm gm o):=⟨aZ (GO h ha.o hb.o hs) (gS ho)⟩
noncomputable def bU:Ev->List D->aj (List D×List D):=λ_ st=>.ok ([],st)
noncomputable def aQ(f:Ev->List D->aj (D×List D)) (fa:Ev->List D->aj (List D×List D)):Ev->List D->aj (List D×List D):=λρ st=>(f ρ st).bind λp=>(fa ρ p.2).bind λq=>.ok (p.1::q.1,q.2)
theorem ba:Hj X He H0e a [] bU:=⟨oC gY λσ H Q ⟨Ha,ρ,st,vs,h,q⟩=>q [] H Ha vs (aC.refl _) h Reps.nil⟩
theorem aO(ha:DM X He H0e a e fm)(hr:Hj X He H0e a es fa)(hs:starEach (e::es) X.env=(false,eval e X.env)::starEach es X.env:=by exact bK rfl):Hj X He H0e a (e::es) (aQ fm fa):=⟨oC (d5 ha.o hr.o hs) λσ H Q ⟨Ha,ρ,st,vs,h,q⟩=>⟨Ha,ρ,st,vs,h,by
 unfold aQ at q;cases e1:fm ρ st with
 |stuck|exn x=>rw[e1] at q;exact q
 |ok p =>
  obtain⟨x,s1⟩:=p;rw[e1] at q;intro v H1 H01 us z1 h1 r1;refine⟨H01,ρ,s1,us,h1,?_⟩;simp only[aj.bind] at q;cases e2:fa ρ s1 with
  |stuck|exn x=>rw[e2] at q;exact q
  |ok p2 =>
   obtain⟨ys,s2⟩:=p2;rw[e2] at q;exact λxs H2 H02 us2 z2 h2 r2=>q _ H2 H02 us2 (z1.trans z2) h2 (Reps.cons (r1.mono z2) r2)⟩⟩
noncomputable def mA(fa:Ev->List D->aj (List D×List D)) (m:List D->aj D):Ev->List D->aj (D×List D):=λρ st=>(fa ρ st).bind λp=>(m p.1).bind λd=>.ok (d,p.2)
theorem yT{r:List V->Hp->VK->Prop}{m:List D->aj D}(hd:gR X E r m)(σ:L2.St)(H:Hp)(Q:VK)(h:tM X.K He H0e a (mA fa m) σ H Q):MD X.K He H0e a fa σ H λvs H1=>r vs H1 Q:=by
 obtain⟨Ha,ρ,st,vs,h,q⟩:=h;refine⟨Ha,ρ,st,vs,h,?_⟩;unfold mA at q;cases e1:fa ρ st with
 |stuck|exn x=>rw[e1] at q;exact q
 |ok p =>
  obtain⟨ds,s1⟩:=p;rw[e1] at q;intro xs H1 H01 us z1 h1 r1;refine hd ds xs H1 H01 Q h1.s.g.sub r1 ?_;simp only[aj.bind] at q;cases e2:m ds with
  |stuck=>rw[e2] at q;exact q|exn x=>rw[e2] at q;exact q.elim
  |ok d =>
   rw[e2] at q;exact λv' H' Ha' g rp=>q v' H' Ha' us (z1.trans g.z) (h1.back g.z (h1.s.grow g)) rp
end
inductive df where
 |nx (ρ:Ev) (st:List D)|rt (d:D) (st:List D)|bk (ρ:Ev) (st:List D)|ct (ρ:Ev) (st:List D)
structure Ld (K:W.Frag) (He H0e Ha H:Hp) (a:Addr) (st:List D):Prop where
 g:bf He H0e H Ha
 n:Ha a=none
 l:∃us,H a=some (.lst us)/\Reps K Ha st us
noncomputable def dO(K:W.Frag) (He H0e:Hp) (a:Addr) (Ha:Hp) (r:aj df) (D:e7):Prop:=match r with
 |.ok (.nx ρ st)=>∀σ H Ha' vs,aC Ha Ha'->fV K He H0e Ha' σ H ρ a st vs->D.nx σ H
 |.ok (.rt d st)=>∀v H Ha',aC Ha Ha'->Ld K He H0e Ha' H a st->Rep K Ha' d v->D.rt v H
 |.ok (.bk ρ st)=>∀σ H Ha' vs,aC Ha Ha'->fV K He H0e Ha' σ H ρ a st vs->D.bk σ H
 |.ok (.ct ρ st)=>∀σ H Ha' vs,aC Ha Ha'->fV K He H0e Ha' σ H ρ a st vs->D.ct σ H
 |.exn _=>False
 |.stuck=>False
theorem dO.grow{K:W.Frag}{He H0e Ha Hb:Hp}{a:Addr}{r:aj df}{D:e7}(h:dO K He H0e a Ha r D)(s:aC Ha Hb):dO K He H0e a Hb r D:=by
 cases r with
 |ok f =>
  cases f with|nx ρ st=>exact λσ H Ha' vs s'=>h σ H Ha' vs (s.trans s')|rt d st=>exact λv H Ha' s'=>h v H Ha' (s.trans s')|bk ρ st=>exact λσ H Ha' vs s'=>h σ H Ha' vs (s.trans s')|ct ρ st=>exact λσ H Ha' vs s'=>h σ H Ha' vs (s.trans s')
 |exn x=>exact h
 |stuck=>exact h
noncomputable def Ll(K:W.Frag) (He H0e:Hp) (a:Addr) (g:Ev->List D->aj df):TS:=λD σ H=>∃Ha ρ st vs,fV K He H0e Ha σ H ρ a st vs/\dO K He H0e a Ha (g ρ st) D
structure SM (X:Cx) (He H0e:Hp) (a:Addr) (st:Stmt) (g:Ev->List D->aj df):Prop where
 o:PS X st (Ll X.K He H0e a g)
structure Gs (X:Cx) (He H0e:Hp) (a:Addr) (st:List Stmt) (g:Ev->List D->aj df):Prop where
 o:vm X st (Ll X.K He H0e a g)
section
variable {X:Cx}{E:XK}{He H0e:Hp}{a:Addr}{st:Stmt}{rest:List Stmt}{e b:Expr}{es:List Expr}{pos:Pos}{f:Ev->aj D}{fm gm:Ev->List D->aj (D×List D)}{s t:Ev->List D->aj df}
noncomputable def bg:Ev->List D->aj df:=λρ st=>.ok (.nx ρ st)
noncomputable def zE(t:Ev->List D->aj df) (r:df):aj df:=match r with
 |.nx ρ st=>t ρ st
 |r=>.ok r
noncomputable def aW(s t:Ev->List D->aj df):Ev->List D->aj df:=λρ st=>(s ρ st).bind (zE t)
theorem bc:Gs X He H0e a [] bg:=⟨fJ uy λD σ H ⟨Ha,ρ,st,vs,h,q⟩=>q σ H Ha vs (aC.refl _) h⟩
theorem aB(h1:SM X He H0e a st s)(h2:Gs X He H0e a rest t):Gs X He H0e a (st::rest) (aW s t):=by
 refine⟨?_⟩;refine fJ (iN h1.o h2.o) λD σ H ⟨Ha,ρ,st,vs,h,q⟩=>⟨Ha,ρ,st,vs,h,?_⟩
 unfold aW at q;cases e1:s ρ st with
 |stuck|exn x=>rw[e1] at q;exact q
 |ok r =>
  rw[e1] at q;cases r with|nx ρ' st'=>exact λσ' H' Ha' vs' s' h'=>⟨Ha',ρ',st',vs',h',dO.grow (r:=t ρ' st') q s'⟩|rt d st'|bk ρ' st'|ct ρ' st'=>exact q
noncomputable def yt(st:List D) (r:Fl):aj df:=match r with
 |.nx ρ=>.ok (.nx ρ st)
 |.bk ρ=>.ok (.bk ρ st)
 |.ct ρ=>.ok (.ct ρ st)
 |.rt _=>.stuck
noncomputable def cJ(g:Ev->aj Fl):Ev->List D->aj df:=λρ st=>(g ρ).bind (yt st)
theorem cg{g:Ev->aj Fl}(h:∀vs,DS X E (upd He a (.lst vs)) H0e st g):SM X He H0e a st (cJ g):=by
 refine⟨?_⟩;rintro pins sh σ H D I ⟨Ha,ρ,st,vs,hm,q⟩;refine(h vs).o pins sh σ H D I ⟨Ha,ρ,hm.s,?_⟩;unfold cJ at q;cases e1:g ρ with
 |stuck=>rw[e1] at q;exact q|exn x=>rw[e1] at q;exact q.elim
 |ok r =>
  rw[e1] at q;cases r with|nx ρ'=>exact λσ' H' Ha' z h'=>q σ' H' Ha' vs z (hm.back z h')|bk ρ'=>exact λσ' H' Ha' z h'=>q σ' H' Ha' vs z (hm.back z h')|ct ρ'=>exact λσ' H' Ha' z h'=>q σ' H' Ha' vs z (hm.back z h')|rt d=>exact q.elim
noncomputable def Dd(i:Nat) (ρ:Ev) (p:D×List D):aj df:=.ok (.nx (ρ.set i (.sh p.1)) p.2)
noncomputable def dP(i:Nat) (f:Ev->List D->aj (D×List D)):Ev->List D->aj df:=λρ st=>(f ρ st).bind (Dd i ρ)
theorem cE{i:Nat}{x:Str}{pos':Pos}(hN:X.N.Nodup)(hi:X.N[i]?=some x)(hx:BR X.env.scope x)(he:DM X He H0e a e fm)(hs:swapsWith e (some (.Name x pos')) pos.line X.env=pure false:=by rfl)
  (hf:X.fn x=true∨X.env.scope.names.lookup x=some .local := by first|exact .inl rfl|exact .inr rfl|assumption):SM X He H0e a (.Assign [.Name x pos'] e pos) (dP i fm):=by
 refine⟨?_⟩;refine bH (mY hN hi hx he.o hs hf) λD σ H ⟨Ha,ρ,st,vs,h,q⟩=>⟨Ha,ρ,st,vs,h,?_⟩
 unfold dP at q;cases e1:fm ρ st with
 |stuck|exn x=>rw[e1] at q;exact q
 |ok p =>
  obtain⟨d,st'⟩:=p;rw[e1] at q;exact λv H' Ha' us z h' rp=>q _ H' Ha' us z (h'.back (aC.refl _) (h'.s.put rp))
noncomputable def De(p:D×List D):aj df:=.ok (.rt p.1 p.2)
noncomputable def FF(f:Ev->List D->aj (D×List D)):Ev->List D->aj df:=λρ st=>(f ρ st).bind De
theorem fV.out{K:W.Frag}{Ha H:Hp}{σ:L2.St}{ρ:Ev}{st:List D}{vs:List V}(h:fV K He H0e Ha σ H ρ a st vs){J:Hp}(z:aC Ha J)(hs:aC J H)(hw:∀b,J b≠none->Ha b=none->upd He a (.lst vs) b=none)(n:J a=none):Ld K He H0e J H a st :=
 ⟨⟨λb o e=>h.s.g.s _ _ (by rw[aA (by intro c;subst c;rw[h.ha] at e;cases e)];exact e),h.s.g.z.trans z,hs,λb h1 h2=>by
  have key:upd He a (.lst vs) b=none:=by
   cases q:Ha b with|none=>exact hw b h1 q|some o=>exact h.s.g.nw b (by rw[q];simp) h2
  by_cases c:b=a
  .subst c;exact h.ha
  .rw[aA c] at key;exact key⟩,n,vs,h.hl,h.r.mono z⟩
theorem HB(he:DM X He H0e a e fm):SM X He H0e a (.Return (some e) pos) (FF fm):=by
 refine⟨?_⟩;refine bH (uz he.o) λD σ H ⟨Ha,ρ,st,vs,h,q⟩=>⟨Ha,ρ,st,vs,h,?_⟩
 unfold FF at q;cases e1:fm ρ st with
 |stuck|exn x=>rw[e1] at q;exact q
 |ok p =>
  obtain⟨d,st'⟩:=p;rw[e1] at q;exact λv H' Ha' us z h' rp=>q v H' Ha' z (h'.out (aC.refl _) h'.s.g.sub (λb h1 h2=>absurd h2 h1) h'.n0) rp
noncomputable def eB(f:Ev->aj D):Ev->List D->aj df:=λρ st=>(f (fX ρ)).bind λd=>.ok (.rt d st)
theorem dZ(he:DE X E e f):SM X He H0e a (.Return (some e) pos) (eB f):=by
 refine⟨?_⟩;refine bH (uz he.o) λD σ H ⟨Ha,ρ,st,vs,h,q⟩=>⟨frz (upd He a (.lst vs)) Ha H,fX ρ,h.s.frz_le,h.s.looks,?_⟩
 unfold eB at q;cases e1:f (fX ρ) with
 |stuck=>rw[e1] at q;exact q|exn x=>rw[e1] at q;exact q.elim
 |ok d =>
  rw[e1] at q;intro v H' J g rp;have hz:frz (upd He a (.lst vs)) Ha H a=none:=by unfold frz;rw[aI];exact h.n0
  have z:aC Ha J:=h.s.frz_sub.trans g.z;have n:J a=none:=by
   cases qq:J a with|none=>rfl|some o=>have:=g.nw a (by rw[qq];simp) hz;rw[h.hl] at this;cases this
  have hg:=h.s.frz_grow.trans g;refine q v H' J z ⟨⟨λb o e=>hg.s _ _ (by rw[aA (by intro c;subst c;rw[h.ha] at e;cases e)];exact e),hg.z,hg.sub,λb h1 h2=>?_⟩,n,vs,g.s _ _ h.hl,h.r.mono z⟩ rp;have key:=hg.nw b h1 h2
  by_cases c:b=a
  .subst c;exact h.ha
  .rw[aA c] at key;exact key
noncomputable def FG(s t:Ev->List D->aj df) (ρ:Ev) (p:D×List D):aj df:=match p.1 with
 |.bl b=>if b=true then s ρ p.2 else t ρ p.2
 |_=>.stuck
noncomputable def sC(c:Ev->List D->aj (D×List D)) (s t:Ev->List D->aj df):Ev->List D->aj df:=λρ st=>(c ρ st).bind (FG s t ρ)
theorem iL{c:Expr}{sa sb:List Stmt}(hc:Ex X He H0e a c fm)(ha:Gs X He H0e a sa s)(hb:Gs X He H0e a sb t):SM X He H0e a (.If c sa sb pos) (sC fm s t):=by
 refine⟨?_⟩;refine bH (GK hc.o ha.o hb.o) λD σ H ⟨Ha,ρ,st,vs,h,q⟩=>⟨Ha,ρ,st,vs,h,?_⟩
 unfold sC at q;cases e1:fm ρ st with
 |stuck|exn x=>rw[e1] at q;exact q
 |ok p =>
  obtain⟨d,st'⟩:=p;rw[e1] at q;cases d with
  |bl b =>
   intro H' Ha' us z h';replace q:dO X.K He H0e a Ha (if b=true then s ρ st' else t ρ st') D:=q;cases b with|true=>rw[if_pos rfl] at q ⊢;exact⟨Ha',ρ,st',us,h',q.grow z⟩|false=>rw[if_neg Bool.false_ne_true] at q ⊢;exact⟨Ha',ρ,st',us,h',q.grow z⟩
  |_=>exact q.elim
end
section
variable {X:Cx}{E:XK}{He H0e:Hp}{a:Addr}{st:Stmt}{e l b:Expr}{rest es:List Expr}{pos:Pos}{f:Ev->aj D}{fm gm:Ev->List D->aj (D×List D)}{s t:Ev->List D->aj df}
theorem BB(h:PT X e (tB (tM X.K He H0e a fm))):Ex X He H0e a e fm:=by
 refine⟨?_⟩;refine fk h λσ H Q ⟨Ha,ρ,st,vs,h,q⟩=>⟨Ha,ρ,st,vs,h,?_⟩
 cases e1:fm ρ st with
 |stuck|exn x=>rw[e1] at q;exact q
 |ok p =>
  obtain⟨d,st'⟩:=p;rw[e1] at q;intro v H1 H01 us z h1 r1;cases d with|bl b=>rw[aK.mp r1];exact⟨b,rfl,q H1 H01 us z h1⟩| _=>exact q.elim
theorem F2(h:DM X He H0e a e fm)(he:∀whole,isTrue e X.env whole=(do let v ←whole;standAt e.pos;holding [v] (truthy v)):=by intro _;rfl):Ex X He H0e a e fm:=BB (CG h.o he)
theorem mx{op:CmpOp}{r:R2}{o:D->D->aj D}(h:ez X (compareOp op) r)(ho:rZ X.K E r o)(ha:DM X He H0e a l fm)(hb:DM X He H0e a b gm)(hm:behindInMarks op b=false):Ex X He H0e a (.Compare l [op] [b] pos) (mB fm gm o):=by
 refine⟨?_⟩;refine fk (zj h ha.o hb.o hm) λσ H Q h=>?_;have w:tM X.K He H0e a (mB fm gm o) σ H λx H'=>∃k,x=.bl k/\Q k H':=by
  obtain⟨Ha,ρ,st,vs,h,q⟩:=h;refine⟨Ha,ρ,st,vs,h,?_⟩;cases e1:mB fm gm o ρ st with
  |stuck|exn x=>rw[e1] at q;exact q
  |ok p =>
   obtain⟨d,st'⟩:=p;rw[e1] at q;intro v H1 H01 us z h1 r1;cases d with|bl b=>rw[aK.mp r1];exact⟨b,rfl,q H1 H01 us z h1⟩| _=>exact q.elim
 exact gS ho σ H _ w
noncomputable def mT(f:Ev->aj D):Ev->List D->aj (D×List D):=λρ st=>(f (fX ρ)).bind λd=>.ok (d,st)
theorem jb(h:DT X E e f):Ex X He H0e a e (mT f):=⟨fk h.o λσ H Q ⟨Ha,ρ,st,vs,h,q⟩=>⟨frz (upd He a (.lst vs)) Ha H,fX ρ,h.s.frz_le,h.s.looks,by
 unfold mT at q;cases e1:f (fX ρ) with
 |stuck=>rw[e1] at q;exact q|exn x=>rw[e1] at q;exact q.elim
 |ok d =>
  rw[e1] at q;cases d with
  |bl b=>exact λH' J g=>q H' Ha vs (aC.refl _) (h.back (aC.refl _) (h.s.same g.s))
  |_=>exact q.elim⟩⟩
noncomputable def Lo(i:Nat) (a:Addr) (f:Ev->aj D):Ev->List D->aj (D×List D):=λρ st=>if iW ρ[i]? a=true then(f (vw i ρ st)).bind λd=>.ok (d,st) else .stuck
theorem D3{i:Nat}(h:DT X E e f):Ex X He H0e a e (Lo i a f):=⟨fk h.o λσ H Q ⟨Ha,ρ,st,vs,h,q⟩=>by
 unfold Lo at q
 by_cases hp:iW ρ[i]? a=true
 .rw[if_pos hp] at q
  obtain⟨v1,v2,v3⟩:=h.view hp;refine⟨_,vw i ρ st,v1,v3,?_⟩;cases e1:f (vw i ρ st) with
  |stuck=>rw[e1] at q;exact q|exn x=>rw[e1] at q;exact q.elim
  |ok d =>
   rw[e1] at q;cases d with|bl b=>exact λH' J g=>q H' Ha vs (aC.refl _) (h.back (aC.refl _) (h.s.same g.s))| _=>exact q.elim
 .rw[if_neg hp] at q;exact q.elim⟩
structure JI (X:Cx) (He H0e:Hp) (a:Addr) (e:Expr) (f:Ev->List D->aj (D×List D)):Prop where
 o:PW X e (MC X.K He H0e a f)
noncomputable def zF(g:Ev->List D->aj (D×List D)) (ρ:Ev) (p:D×List D):aj (D×List D):=match p.1 with
 |.bl b=>if b=true then g ρ p.2 else .ok (.bl false,p.2)
 |_=>.stuck
noncomputable def Di(f g:Ev->List D->aj (D×List D)):Ev->List D->aj (D×List D):=λρ st=>(f ρ st).bind (zF g ρ)
theorem F0(ha:Ex X He H0e a l fm):JI X He H0e a (.BoolOp .And [l] pos) fm:=⟨zh ha.o⟩
theorem F1(ha:Ex X He H0e a l fm)(hb:JI X He H0e a (.BoolOp .And (b::rest) pos) gm):JI X He H0e a (.BoolOp .And (l::b::rest) pos) (Di fm gm):=by
 refine⟨?_⟩;refine ux (Cz ha.o hb.o) λσ H Q ⟨Ha,ρ,st,vs,h,q⟩=>⟨Ha,ρ,st,vs,h,?_⟩
 unfold Di at q;cases e1:fm ρ st with
 |stuck|exn x=>rw[e1] at q;exact q
 |ok p =>
  obtain⟨d,st'⟩:=p;rw[e1] at q;cases d with
  |bl c =>
   intro H1 H01 us z h1;cases c with
   |true =>
    rw[if_pos rfl];refine⟨H01,ρ,st',us,h1,?_⟩;replace q:match gm ρ st' with
     |.ok (.bl b,st')=>∀H' Ha' us,aC Ha Ha'->fV X.K He H0e Ha' σ H' ρ a st' us->Q b H'
     |.ok _=>False
     |.exn _=>False
     |.stuck=>False:=q
    cases e2:gm ρ st' with
    |stuck|exn x=>rw[e2] at q;exact q
    |ok p2 =>
     obtain⟨d2,s2⟩:=p2;rw[e2] at q;cases d2 with|bl c2=>exact λH2 H02 us2 z2 h2=>q H2 H02 us2 (z.trans z2) h2| _=>exact q.elim
   |false=>rw[if_neg Bool.false_ne_true];exact q H1 H01 us z h1
  |_=>exact q.elim
noncomputable def forM(tg:Ev->D->aj Ev) (body:Ev->List D->aj df):List D->Ev->List D->aj df
 |[],ρ,st=>.ok (.nx ρ st)
 |d::r,ρ,st=>(tg ρ d).bind λρ1=>(body ρ1 st).bind λx=>match x with
  |.nx ρ2 s2=>forM tg body r ρ2 s2
  |.ct ρ2 s2=>forM tg body r ρ2 s2
  |.bk ρ2 s2=>.ok (.nx ρ2 s2)
  |.rt d s=>.ok (.rt d s)
noncomputable def LN(K:W.Frag) (He H0e:Hp) (a:Addr) (tg:Ev->D->aj Ev):TG:=λv σ H Q=>∃Ha ρ st vs d,fV K He H0e Ha σ H ρ a st vs/\Rep K Ha d v/\match tg ρ d with
  |.ok ρ'=>∀σ' H' Ha',aC Ha Ha'->fV K He H0e Ha' σ' H' ρ' a st vs->Q σ' H'
  |_=>False
theorem Kh{tgt:Expr}{tg:Ev->D->aj Ev}(hg:∀vs,DG X E (upd He a (.lst vs)) H0e tgt tg):PG X tgt (LN X.K He H0e a tg):=by
 rintro pins sh σ H v u Q I r ⟨Ha,ρ,st,vs,d,h,rp,q⟩;refine(hg vs).o pins sh σ H v u Q I r ⟨Ha,ρ,d,h.s,rp,?_⟩;cases e1:tg ρ d with
 |stuck|exn x=>rw[e1] at q;exact q
 |ok ρ' =>
  rw[e1] at q;exact λσ' H' Ha' z h'=>q σ' H' Ha' z (h.back z h')
noncomputable def mJ(K:W.Frag) (He H0e:Hp) (a:Addr) (Hb:Hp) (tg:Ev->D->aj Ev) (s:Ev->List D->aj df) (ds:List D) (D':e7) (i:Nat) (σ:L2.St) (H:Hp):Prop :=
 ∃Ha ρ st vs,aC Hb Ha/\fV K He H0e Ha σ H ρ a st vs/\dO K He H0e a Ha (forM tg s (ds.drop i) ρ st) D'
theorem mJ.done{K:W.Frag}{Hb:Hp}{tg:Ev->D->aj Ev}{ds:List D}{D':e7}{σ:L2.St}{H:Hp}(h:mJ K He H0e a Hb tg s ds D' ds.length σ H):D'.nx σ H:=by
 obtain⟨Ha,ρ,st,vs,z,h,q⟩:=h;rw[List.drop_length] at q;unfold forM at q;exact q σ H Ha vs (aC.refl _) h
end
section
variable {X:Cx}{E:XK}{He H0e:Hp}{a:Addr}{st:Stmt}{e l b:Expr}{rest es:List Expr}{pos:Pos}{f:Ev->aj D}{fm gm:Ev->List D->aj (D×List D)}{fa:Ev->List D->aj (List D×List D)}{s t:Ev->List D->aj df}
noncomputable def sU(i:Nat) (ρ:Ev) (ds:List D) (p:D×List D):aj df:=if ds.length<line then .ok (.nx (ρ.set i (.ow (.lst (ds++[p.1])))) p.2) else .stuck
noncomputable def Fu(s:Option Sl) (k:List D->aj df):aj df:=match s with
 |some (.ow (.lst ds))=>k ds
 |_=>.stuck
noncomputable def Dh(i:Nat) (f:Ev->List D->aj (D×List D)):Ev->List D->aj df:=λρ st=>Fu ρ[i]? λds=>(f ρ st).bind (sU i ρ ds)
theorem A0{i:Nat}{x:Str}{p1 p2 p3:Pos}(hN:X.N[i]?=some x)(hv:BO X.env.scope x)(he:DM X He H0e a e fm)
  (hd:(x==("__debug__":Str))=false:=by decide)(hcd:(x==("__classdict__":Str))=false:=by decide)
  (hbase:attributeBase (.Name x p1) "append" X.env (eval (.Name x p1) X.env)=eval (.Name x p1) X.env:=by rfl)
  (hfew:((backTo p3 (starEach [e] X.env)).all (λx=>!x.1)&&(backToKw p3 (keywordEach [] X.env)).all (λx=>x.1.isSome)
  &&decide ([e].length+([]:List Keyword).length+(if([]:List Keyword).isEmpty then 0 else 1)<30))=true:=by exact qc rfl)
  (hline:(p2.endLine==p3.line)=true:=by rfl) (hs:starEach [e] X.env=(false,eval e X.env)::starEach [] X.env:=by exact bK rfl) (hplain:(backTo p3 (starEach [] X.env)).any (·.1)=false:=by exact cv rfl)
  (hw:swapsWith (.Call (.Attribute (.Name x p1) "append" p2) [e] [] p3) none pos.line X.env=pure false:=by rfl) :
  SM X He H0e a (.Expr (.Call (.Attribute (.Name x p1) "append" p2) [e] [] p3) pos) (Dh i fm):=by
 refine⟨?_⟩;refine bH (uB (CW PySem.F.plainAttrs_list PySem.F.slot_list_append PySem.F.type_list_append nc (gX hN hv hd hcd) (d5 he.o gY hs) hbase hfew hline hs hplain) hw) λD σ H ⟨Ha,ρ,st,vs,h,q⟩=>?_;unfold Dh Fu at q;cases e0:ρ[i]? with
 |none=>rw[e0] at q;exact q.elim
 |some sl =>
  rw[e0] at q;cases sl with
  |ow d =>
   cases d with
   |lst ds =>
    obtain⟨p,k1,k2,k3,ws,k4,k5⟩:=h.s.ow i _ e0;refine⟨.ref p,k1,.inl ⟨rfl,ws,eZ.of k4⟩,?_⟩;refine⟨Ha,ρ,st,vs,h,?_⟩;replace q:dO X.K He H0e a Ha ((fm ρ st).bind (sU i ρ ds)) D:=q;cases e1:fm ρ st with
    |stuck|exn x=>rw[e1] at q;exact q
    |ok pr =>
     obtain⟨d,st'⟩:=pr;rw[e1] at q;intro v H' Ha' us z h' rp;obtain⟨p',k1',k2',k3',ws',k4',k5'⟩:=h'.s.ow i _ e0;rw[k1] at k1';cases k1';replace q:dO X.K He H0e a Ha (sU i ρ ds (d,st')) D:=q;unfold sU at q
     by_cases hl:ds.length<line
     .rw[if_pos hl] at q
      refine⟨p,ws',v,rfl,rfl,k4',by rw[←k5'.length];exact Nat.lt_of_lt_of_le hl (by decide),?_⟩;have hpa:p≠a:=by intro c;subst c;rw[aI] at k2';cases k2'
      exact q σ _ Ha' us z ⟨h'.ha,h'.h0,by rw[aA (Ne.symm hpa)];exact h'.hl,h'.r,h'.s.write e0 k1 (k5'.app (Reps.cons rp Reps.nil))⟩
     .rw[if_neg hl] at q;exact q.elim
   |_=>exact q.elim
  |_=>exact q.elim
noncomputable def kR(ρ:Ev) (d:D) (p:D×List D):aj df:=match p.1 with
 |.int j=>match xJ p.2.length j with
  |some n=>.ok (.nx ρ (p.2.set n d))
  |none=>.stuck
 |_=>.stuck
noncomputable def wq(i:Nat) (a:Addr) (f k:Ev->List D->aj (D×List D)):Ev->List D->aj df:=λρ st=>if iW ρ[i]? a=true then(f ρ st).bind λp=>(k ρ p.2).bind (kR ρ p.1) else .stuck
theorem zN{s:Option Sl}{a:Addr}(h:iW s a=true):s=some (.pt a):=by
 unfold iW at h;split at h
 .rw[eq_of_beq h]
 .cases h
theorem xW{i:Nat}{x:Str}{p1 p2:Pos}(hN:X.N[i]?=some x)(hv:BO X.env.scope x)(he:DM X He H0e a e fm)(hk:DM X He H0e a b gm)
  (hd:(x==("__debug__":Str))=false:=by decide)(hcd:(x==("__classdict__":Str))=false:=by decide)
  (ha:∀v,assign (.Subscript (.Name x p1) b p2) X.env v=(do
   let ov ←holding [v] (eval (.Name x p1) X.env)
   let iv ←holding [v,ov] (eval b X.env)
   standAt p2
   holding [v,ov,iv] (setItem ov iv v)
   release [v,ov,iv] []):=by intro _;rfl)
  (hs:swapsWithSole [.Subscript (.Name x p1) b p2] e pos.line X.env=pure false:=by rfl) (hw:swappedStores [.Subscript (.Name x p1) b p2] e X.env=pure none:=by rfl)
  (h1:(assignEach [.Subscript (.Name x p1) b p2] X.env).map (·.2)=[assign (.Subscript (.Name x p1) b p2) X.env]:=by rfl) :
  SM X He H0e a (.Assign [.Subscript (.Name x p1) b p2] e pos) (wq i a fm gm):=by
 refine⟨?_⟩;refine bH (yd he.o (CP (gX hN hv hd hcd) hk.o vC ha) hs hw h1) λD σ H ⟨Ha,ρ,st,vs,h,q⟩=>⟨Ha,ρ,st,vs,h,?_⟩
 unfold wq at q
 by_cases hp:iW ρ[i]? a=true
 .rw[if_pos hp] at q
  have hσ:=h.s.ex.2 i a (zN hp);cases e1:fm ρ st with
  |stuck|exn x=>rw[e1] at q;exact q
  |ok pr =>
   obtain⟨d,s1⟩:=pr;rw[e1] at q;intro v H1 H01 us1 z1 h1' r1;refine⟨.ref a,hσ,H01,ρ,s1,us1,h1',?_⟩;replace q:dO X.K He H0e a Ha ((gm ρ s1).bind (kR ρ d)) D:=q;cases e2:gm ρ s1 with
   |stuck|exn x=>rw[e2] at q;exact q
   |ok pr2 =>
    obtain⟨j,s2⟩:=pr2;rw[e2] at q;intro u H2 H02 us2 z2 h2 r2;replace q:dO X.K He H0e a Ha (kR ρ d (j,s2)) D:=q;unfold kR at q;cases j with
    |int n =>
     cases en:xJ s2.length n with
     |none=>simp only[en] at q;exact q.elim
     |some m =>
      simp only[en] at q;refine⟨a,us2,n,m,rfl,az.mp r2,h2.hl,by rw[←h2.r.length];exact en,?_⟩;refine q σ _ H02 (us2.set m v) (z1.trans z2) (h2.change (H':=upd H2 a (.lst (us2.set m v))) ⟨λb o e=>?_,aC.refl _,λb o e=>?_,λb k1 k2=>absurd k2 k1⟩ h2.n0 aI (h2.r.set (r1.mono z2) m))
      .have c:b≠a:=by intro c;subst c;rw[dj] at e;cases e
       rw[aA c];rw[e9 c] at e;exact e
      .have c:b≠a:=by intro c;subst c;rw[h2.n0] at e;cases e
       rw[aA c];exact h2.s.g.sub _ _ e
    |_=>exact q.elim
 .rw[if_neg hp] at q;exact q.elim
variable {CX:uh}{k n:Nat}{fn:Addr}{fd:FuncData}{ps:List Str}{x:Str}{p:Pos}
theorem F4{m:List D->aj D}(F:iz X.prog X.w X.K X.mg X.base CX k fn fd ps (spD X.K n m))(hr:du k X.A)(hg:Gl X x)(hm:X.mg x=some (.ref fn))
  (hk:W.keepIn X.K (.ref fn)=true)(hb:j8 X.K fd ps [])(hx:fU CX X E)(ha:Hj X He H0e a (e::es) fa)(hn:(e::es).length=n:=by rfl)(hl:∀ρ st ds,fa ρ st=.ok ds->ds.1.length=(e::es).length)
  (hdb:(x==("__debug__":Str))=false:=by decide)(he:starEach (e::es) X.env=(false,eval e X.env)::starEach es X.env:=by exact bK rfl)(hpl:(backTo pos (starEach es X.env)).any (·.1)=false:=by exact cv rfl) :
  DM X He H0e a (.Call (.Name x p) (e::es) [] pos) (mA fa m):=by
 refine⟨?_⟩;refine aZ (oB F hr hg hm hk hb .nil hx ha.o hdb he hpl) λσ H Q ⟨Ha,ρ,st,vs,h,q⟩=>⟨Ha,ρ,st,vs,h,?_⟩
 unfold mA at q;cases e1:fa ρ st with
 |stuck|exn x=>rw[e1] at q;exact q
 |ok pr =>
  obtain⟨ds,s1⟩:=pr;rw[e1] at q;intro xs H1 H01 us z1 h1 r1;refine⟨?_,H01,ds,h1.s.g.sub,by simpa using r1,?_⟩
  .have:=r1.length
   have:=hl ρ st _ e1;simp only[List.append_nil] at *;omega
  .simp only[aj.bind] at q
   cases e2:m ds with
   |stuck=>rw[e2] at q;exact q|exn x=>rw[e2] at q;exact q.elim
   |ok d =>
    rw[e2] at q;exact λv' H' Ha' g rp=>q v' H' Ha' us (z1.trans g.z) (h1.back g.z (h1.s.grow g)) rp
noncomputable def Ci(K:W.Frag) (n:Nat) (m:Addr->List D->List D->aj (D×List D)):Sp:=λvs H Q E=>vs.length=n+1/\∃Ha ds a st us0 vs0,vs=.ref a::vs0/\aC Ha H/\Reps K Ha ds vs0/\Ha a=none/\H a=some (.lst us0)/\Reps K Ha st us0/\match m a st ds with
 |.ok (d,st')=>∀v H' Ha' us,bf (Bx a H) Ha H' Ha'->Ha' a=none->H' a=some (.lst us)->Reps K Ha' st' us->Rep K Ha' d v->Q v H'
 |.exn _=>False
 |.stuck=>False
noncomputable def yP(a:Addr) (m:Addr->List D->List D->aj (D×List D)) (p:List D×List D):aj (D×List D):=m a p.2 p.1
noncomputable def bD(i:Nat) (a:Addr) (fa:Ev->List D->aj (List D×List D)) (m:Addr->List D->List D->aj (D×List D)):Ev->List D->aj (D×List D):=λρ st=>if iW ρ[i]? a=true then(fa ρ st).bind (yP a m) else .stuck
theorem D5{i:Nat}{y:Str}{p1:Pos}{m:Addr->List D->List D->aj (D×List D)}(F:iz X.prog X.w X.K X.mg X.base CX k fn fd ps (Ci X.K n m))(hr:du k X.A)(hg:Gl X x)(hm:X.mg x=some (.ref fn))
  (hk:W.keepIn X.K (.ref fn)=true)(hb:j8 X.K fd ps [])(hx:fU CX X E)(hN:X.N[i]?=some y)(hv:BO X.env.scope y)(ha:Hj X He H0e a es fa)(hl:∀ρ st ds,fa ρ st=.ok ds->ds.1.length=n)
  (hd:(y==("__debug__":Str))=false:=by decide)(hcd:(y==("__classdict__":Str))=false:=by decide)(hdb:(x==("__debug__":Str))=false:=by decide)(he:starEach (.Name y p1::es) X.env=(false,eval (.Name y p1) X.env)::starEach es X.env:=by exact bK rfl)(hpl:(backTo pos (starEach es X.env)).any (·.1)=false:=by exact cv rfl) :
  DM X He H0e a (.Call (.Name x p) (.Name y p1::es) [] pos) (bD i a fa m):=by
 refine⟨?_⟩;refine aZ (oB F hr hg hm hk hb .nil hx (d5 (gX hN hv hd hcd) ha.o he) hdb he hpl) λσ H Q ⟨Ha,ρ,st,vs,h,q⟩=>?_;unfold bD at q
 by_cases hp:iW ρ[i]? a=true
 .rw[if_pos hp] at q
  have hσ:=h.s.ex.2 i a (zN hp);refine⟨.ref a,hσ,Ha,ρ,st,vs,h,?_⟩;cases e1:fa ρ st with
  |stuck|exn x=>rw[e1] at q;exact q
  |ok pr =>
   obtain⟨ds,s1⟩:=pr;rw[e1] at q;intro xs H1 H01 us z1 h1 r1;refine⟨?_,H01,ds,a,s1,us,xs,by simp,h1.s.g.sub,r1,h1.n0,h1.hl,h1.r,?_⟩
   .have:=r1.length
    have:=hl ρ st _ e1;simp only[List.append_nil,List.length_cons] at *;omega
   .replace q:match m a s1 ds with
     |.ok (d,st')=>∀v H' Ha' us,aC Ha Ha'->fV X.K He H0e Ha' σ H' ρ a st' us->Rep X.K Ha' d v->Q v H'
     |.exn _=>False
     |.stuck=>False:=q
    cases e2:m a s1 ds with
    |stuck|exn x=>rw[e2] at q;exact q
    |ok pr2 =>
     obtain⟨d,s2⟩:=pr2;rw[e2] at q;exact λv H' Ha' us' g n' hl' r' rp=>q v H' Ha' us' (z1.trans g.z) (h1.change g n' hl' r') rp
 .rw[if_neg hp] at q;exact q.elim
end
noncomputable def Cr(r:df):aj (D×List D):=match r with
 |.nx _ st=>.ok (.non,st)
 |.rt d st=>.ok (d,st)
 |_=>.stuck
noncomputable def ph(n:Nat) (s:Addr->Ev->List D->aj df) (a:Addr) (st ds:List D):aj (D×List D):=(s a (.pt a::ds.map Sl.sh++List.replicate (n-(ds.length+1)) .no) st).bind Cr
theorem yC{P:Program}{w:World}{K:W.Frag}{mg:Str->Option Value}{base:Heap}{x qual:Str}{st:Stmt}{f:Addr}{fd:FuncData}{N ps:List Str}{k n:Nat}{s:Addr->Ev->List D->aj df}(F:Gy K x qual st f fd)(S:gs N ps (defScope st))(hn:ps.length=n+1)
  (hbody:∀(cdv:Value) (A:Around) (outer:List PySem.Env) (s0:Shared) (H He Ha:Hp) (a:Addr) (E:XK),du k (A.deeper (envOfC qual (defScope st) s0.heap.objs.size f cdv)) ->
   Gs (oj CX0 P w K mg base N qual (defScope st) f cdv A outer s0 H E).nox He Ha a (defBody st) (s a)):iz P w K mg base CX0 (k+1) f fd ps (Ci K n (ph N.length s)):=by
 have hpl:ps.length<=N.length:=by have:=congrArg List.length S.pre;rw[List.length_take] at this;omega
 refine F.ok S (λvs H Q E h=>h.1.trans hn.symm) λcdv A outer s0 H vs Q E hr h=>?_;obtain⟨hlen,Ha,ds,a,sl,us0,vs0,rfl,hs,hv,h0,hl,hst,q⟩:=h;have lv:=hv.length;have hσ:start N (.ref a::vs0)=some (.ref a)::(vs0.map some++List.replicate (N.length-(vs0.length+1)) none):=by
  unfold L2.start;simp
 have hρ0:∀(i:Nat) (z:Sl),(Sl.pt a::ds.map Sl.sh++List.replicate (N.length-(ds.length+1)) Sl.no)[i]?=some z->z=.no∨(i=0/\z=.pt a)∨∃j d,i=j+1/\ds[j]?=some d/\z=.sh d:=λi z e=>by
  cases i with
  |zero=>simp at e;exact .inr (.inl ⟨rfl,e.symm⟩)
  |succ j =>
   rw[List.cons_append,List.getElem?_cons_succ] at e
   by_cases hj:j<ds.length
   .rw[List.getElem?_append_left (by simpa using hj),List.getElem?_map,List.getElem?_eq_getElem hj] at e
    cases e;exact .inr (.inr ⟨j,ds[j],rfl,List.getElem?_eq_getElem hj,rfl⟩)
   .rw[List.getElem?_append_right (by simpa using hj),List.getElem?_replicate] at e
    split at e
    .cases e;exact .inl rfl
    .cases e
 refine⟨_,(hbody cdv A outer s0 H (Bx a H) Ha a E hr).o,Ha,.pt a::ds.map Sl.sh++List.replicate (N.length-(ds.length+1)) .no,sl,us0,⟨dj,h0,hl,hst,?_⟩,?_⟩
 .refine⟨⟨λb o e=>?_,aC.refl _,hs,λb h1 h2=>absurd h2 h1⟩,λi d e=>?_,λi d e=>?_,λi j d d' hij e=>?_,?_,⟨λi j es e=>?_,λi b e=>?_⟩⟩
  .by_cases c:b=a
   .subst c;rw[aI] at e;cases e;exact hl
   .rw[aA c,e9 c] at e;exact e
  .rcases hρ0 i _ e with h|⟨_,h⟩|⟨j,d',rfl,hd,h⟩
   .cases h
   .cases h
   .cases h
    obtain⟨v,h1,h2⟩:=hv.get hd;refine⟨v,?_,h2⟩;rw[hσ,List.getElem?_cons_succ,List.getElem?_append_left (by rw[List.length_map];exact(List.getElem?_eq_some_iff.mp h1).1),List.getElem?_map,h1];rfl
  .rcases hρ0 i _ e with h|⟨_,h⟩|⟨j,d',rfl,hd,h⟩<;>cases h
  .rcases hρ0 i _ e with h|⟨_,h⟩|⟨j,d',rfl,hd,h⟩<;>cases h
  .rw[hσ]
   simp only[List.length_cons,List.length_append,List.length_map,List.length_replicate];omega
  .rcases hρ0 i _ e with h|⟨_,h⟩|⟨j,d',rfl,hd,h⟩<;>cases h
  .rcases hρ0 i _ e with h|⟨rfl,h⟩|⟨j,d',rfl,hd,h⟩
   .cases h
   .cases h;rw[hσ];rfl
   .cases h
 .unfold ph at q
  cases e1:s a (.pt a::ds.map Sl.sh++List.replicate (N.length-(ds.length+1)) .no) sl with
  |stuck|exn x=>rw[e1] at q;exact q
  |ok r =>
   rw[e1] at q;cases r with
   |nx ρ' st'=>exact λσ' H' Ha' us z h'=>q .non H' Ha' us ⟨λb o e=>h'.s.g.s _ _ (by rw[aA (by intro c;subst c;rw[dj] at e;cases e)];exact e),h'.s.g.z,h'.s.g.sub,λb h1 h2=>by
      have:=h'.s.g.nw b h1 h2
      by_cases c:b=a
      .subst c;exact dj
      .rw[aA c] at this;exact this⟩ h'.n0 h'.hl h'.r (aT.mpr rfl)
   |rt d st'=>exact λv H' Ha' z o rp=>let ⟨us,l1,l2⟩:=o.l;q v H' Ha' us o.g o.n l1 l2 rp
   |bk ρ' st'|ct ρ' st'=>exact q.elim
section
variable {K:W.Frag}{He H0e Ha H:Hp}{σ:L2.St}{ρ:Ev}
theorem dH.enter(h:dH K He H0e Ha σ H ρ){i:Nat}{p:Addr}{ds:List D}{vs:List V}(hi:i<ρ.length)(he:He p=none)(h0:Ha p=none)(hl:H p=some (.lst vs))(r:Reps K Ha ds vs)
  (ho:∀(j:Nat) (d:D) (q:Addr),ρ[j]?=some (.ow d)->σ[j]?=some (some (.ref q))->q≠p)(hx:∀(j k:Nat) (es:List D),ρ[j]?≠some (.ox k es)):fV K He H0e Ha (σ.set i (some (.ref p))) H (ρ.set i (.pt p)) p ds vs:=by
 have key:∀(j:Nat) (s:Sl),(ρ.set i (.pt p))[j]?=some s->(j=i/\s=.pt p)∨(j≠i/\ρ[j]?=some s):=λj s e=>by
  by_cases hj:i=j
  .subst hj;rw[List.getElem?_set_self hi] at e;cases e;exact .inl ⟨rfl,rfl⟩
  .rw[List.getElem?_set_ne hj] at e;exact .inr ⟨λz=>hj z.symm,e⟩
 have h0e:H0e p=none:=h.g.z.free h0;refine⟨he,h0e,hl,r,⟨⟨λb o e=>?_,h.g.z,h.g.sub,λb h1 h2=>?_⟩,λj d e=>?_,λj d e=>?_,λj k d d' hn e1 e2=>?_,by simp [h.ln],⟨λj k es e=>?_,λj b e=>?_⟩⟩⟩
 .by_cases c:b=p
  .subst c;rw[aI] at e;cases e;exact hl
  .rw[aA c] at e;exact h.g.s _ _ e
 .have c:b≠p:=by intro c;subst c;exact h1 h0
  rw[aA c];exact h.g.nw b h1 h2
 .rcases key j _ e with⟨_,e'⟩|⟨hj,e'⟩
  .cases e'
  .obtain⟨v,h1,h2⟩:=h.rd j d e'
   exact⟨v,by rw[List.getElem?_set_ne (Ne.symm hj)];exact h1,h2⟩
 .rcases key j _ e with⟨_,e'⟩|⟨hj,e'⟩
  .cases e'
  .obtain⟨q,h1,h2,h3,h4⟩:=h.ow j d e'
   exact⟨q,by rw[List.getElem?_set_ne (Ne.symm hj)];exact h1,by rw[aA (ho j d q e' h1)];exact h2,h3,h4⟩
 .rcases key j _ e1 with⟨_,e'⟩|⟨hj,e1'⟩
  .cases e'
  rcases key k _ e2 with⟨_,e'⟩|⟨hk,e2'⟩
  .cases e'
  rw[List.getElem?_set_ne (Ne.symm hj),List.getElem?_set_ne (Ne.symm hk)];exact h.ap j k d d' hn e1' e2'
 .rcases key j _ e with⟨_,e'⟩|⟨hj,e'⟩
  .cases e'
  .exact absurd e' (hx j k es)
 .rcases key j _ e with⟨rfl,e'⟩|⟨hj,e'⟩
  .cases e'
   rw[List.getElem?_set_self (by rw[←h.ln];exact hi)]
  .rw[List.getElem?_set_ne (Ne.symm hj)];exact h.ex.2 j b e'
noncomputable def vc(i:Nat) (ρ:Ev):Ev:=ρ.take i++List.replicate (ρ.length-i) .no
theorem Ef{i:Nat}{ρ:Ev}:(vc i ρ).length=ρ.length:=by
 unfold vc;rw[List.length_append,List.length_take,List.length_replicate];omega
theorem Gf{i:Nat}{ρ:Ev}{j:Nat}{s:Sl}(e:(vc i ρ)[j]?=some s):s=.no∨ρ[j]?=some s:=by
 unfold vc at e
 by_cases hj:j<(ρ.take i).length
 .rw[List.getElem?_append_left hj] at e
  rw[List.getElem?_take] at e;split at e
  .exact .inr e
  .cases e
 .rw[List.getElem?_append_right (by omega),List.getElem?_replicate] at e
  split at e
  .cases e;exact .inl rfl
  .cases e
theorem fV.leave{a:Addr}{st:List D}{vs:List V}(h:fV K He H0e Ha σ H ρ a st vs)(i:Nat):dH K He H0e Ha σ H (vc i ρ):=by
 have hn:∀b,upd He a (.lst vs) b=none->He b=none:=λb e=>by
  by_cases c:b=a
  .subst c;exact h.ha
  .rw[aA c] at e;exact e
 have key:∀(j:Nat) (s:Sl),(vc i ρ)[j]?=some s->s=.no∨ρ[j]?=some s:=λj s e=>Gf e;refine⟨⟨λb o e=>h.s.g.s _ _ (by rw[aA (by intro c;subst c;rw[h.ha] at e;cases e)];exact e),h.s.g.z,h.s.g.sub,λb h1 h2=>hn b (h.s.g.nw b h1 h2)⟩,λj d e=>?_,λj d e=>?_,λj k d d' hij e1 e2=>?_,by rw[Ef];exact h.s.ln,(h.s.ex.he hn).upd (λj s e=>?_) (aC.refl _) (λ_ _ _ e=>e) λp us _ q0 hq _=>⟨hq,q0⟩⟩
 .rcases key j _ e with h'|h'
  .cases h'
  .exact h.s.rd j d h'
 .rcases key j _ e with h'|h'
  .cases h'
  .obtain⟨q,h1,h2,h3⟩:=h.s.ow j d h'
   exact⟨q,h1,hn q h2,h3⟩
 .rcases key j _ e1 with h'|h'
  .cases h'
  rcases key k _ e2 with h''|h''
  .cases h''
  exact h.s.ap j k d d' hij h' h''
 .rcases key j _ e with h'|h'
  .exact .inr (.inr (.inl h'))
  .exact .inl ⟨h',rfl⟩
end
open Classical in
noncomputable def yu(F:Addr->aj Fl):aj Fl:=if h:∃r,∀a,F a=r then h.choose else .stuck
theorem FI{F:Addr->aj Fl}{r:aj Fl}(h:∀a,F a=r):yu F=r:=by
 have hx:∃r,∀a,F a=r:=⟨r,h⟩
 unfold yu;rw[dif_pos hx];exact(hx.choose_spec 0).symm.trans (h 0)
theorem FH{F:Addr->aj Fl}(h:yu F≠.stuck)(a:Addr):F a=yu F:=by
 unfold yu at h ⊢
 by_cases hx:∃r,∀a,F a=r
 .rw[dif_pos hx];exact hx.choose_spec a
 .rw[dif_neg hx] at h;exact absurd rfl h
noncomputable def zY(i:Nat) (r:aj df):aj Fl:=match r with
 |.ok (.nx ρ _)=>.ok (.nx (vc i ρ))
 |.ok (.rt d _)=>.ok (.rt d)
 |.ok (.bk ρ _)=>.ok (.bk (vc i ρ))
 |.ok (.ct ρ _)=>.ok (.ct (vc i ρ))
 |_=>.stuck
noncomputable def Kr(ρ:Ev):Bool:=ρ.all λs=>match s with
 |.ox _ _=>false
 |_=>true
noncomputable def uV(i:Nat) (s:Addr->Ev->List D->aj df) (ρ:Ev) (d:D):aj Fl:=match d with
 |.lst ds=>if Kr ρ=true/\i<ρ.length then yu λa=>zY i (s a (ρ.set i (.pt a)) ds) else .stuck
 |_=>.stuck
noncomputable def kg(i:Nat) (f:Ev->aj D) (s:Addr->Ev->List D->aj df):Ev->aj Fl:=λρ=>(f ρ).bind (uV i s ρ)
section
variable {X:Cx}{E:XK}{He H0e:Hp}{st:Stmt}{rest:List Stmt}{e:Expr}{es:List Expr}{pos:Pos}{f:Ev->aj D}{s:Addr->Ev->List D->aj df}
theorem By{i:Nat}{x:Str}{pos':Pos}(hN:X.N.Nodup)(hi:X.N[i]?=some x)(hx:BR X.env.scope x)(he:DF X E e f)(hr:∀a,Gs X He H0e a rest (s a))(hs:swapsWith e (some (.Name x pos')) pos.line X.env=pure false:=by rfl)
  (hf:X.fn x=true∨X.env.scope.names.lookup x=some .local := by first|exact .inl rfl|exact .inr rfl|assumption):BU X E He H0e (.Assign [.Name x pos'] e pos::rest) (kg i f s):=by
 refine⟨?_⟩;have h2:vm X rest λG σ H=>∃p,Ll X.K He H0e p (s p) G σ H:=λpins sh σ H G I ⟨p,h⟩=>(hr p).o pins sh σ H G I h;refine fJ (iN (mY hN hi hx he.o hs hf) h2) λG σ H ⟨Ha,ρ,h,q⟩=>⟨Ha,ρ,h.g.sub,h.rd,?_⟩
 unfold kg at q;cases e1:f ρ with
 |stuck=>rw[e1] at q;exact q|exn x=>rw[e1] at q;exact λC ox H' Ha' g ex=>q C ox H' Ha' (h.g.trans g) ex
 |ok d =>
  rw[e1] at q;replace q:bW X.K E He H0e Ha (uV i s ρ d) G:=q;unfold uV at q;cases d with
  |lst ds =>
   simp only at q
   by_cases hc:Kr ρ=true/\i<ρ.length
   .rw[if_pos hc] at q
    intro p vs H' Ha' g hp h0 hv rp;have hg:=h.grow g;have hnx:∀(j k:Nat) (es:List D),ρ[j]?≠some (.ox k es):=λj k es e=>by
     have:=List.all_eq_true.mp hc.1 _ (List.mem_of_getElem? e);cases this
    have hm:=hg.enter (i:=i) (p:=p) (ds:=ds) (vs:=vs) hc.2 (h.g.s.free hp) h0 hv rp (λj d q' ej es'=>by
     obtain⟨q2,k1,_,_,k4⟩:=h.ow j d ej;rw[es'] at k1;cases k1;cases d with
     |lst ds'|dic ks' ds'=>obtain⟨ws,k5,_⟩:=k4;intro c;subst c;rw[hp] at k5;cases k5
     |_=>exact k4.elim) hnx
    have hns:yu (λa=>zY i (s a (ρ.set i (.pt a)) ds))≠.stuck:=λz=>by rw[z] at q;exact q
    have hF:=FH hns p;rw[←hF] at q;refine⟨p,Ha',_,ds,vs,hm,?_⟩;replace q:=bW.grow q g.z;unfold zY at q;cases e2:s p (ρ.set i (.pt p)) ds with
    |stuck=>rw[e2] at q;exact q|exn x=>rw[e2] at q;exact q.elim
    |ok r =>
     rw[e2] at q;cases r with|nx ρ' st'=>exact λσ' H2 H02 us z h'=>q σ' H2 H02 z (h'.leave i)|rt d st'=>exact λv H2 H02 z o rp=>q v H2 H02 o.g rp|bk ρ' st'=>exact λσ' H2 H02 us z h'=>q σ' H2 H02 z (h'.leave i)|ct ρ' st'=>exact λσ' H2 H02 us z h'=>q σ' H2 H02 z (h'.leave i)
   .rw[if_neg hc] at q;exact q.elim
  |_=>exact q.elim
end
noncomputable def M8(K:W.Frag) (He H0e:Hp) (a:Addr) (src:Ev->List D->aj (List D×List D)):TI:=λσ H R=>∃Ha ρ st vs,fV K He H0e Ha σ H ρ a st vs/\match src ρ st with
 |.ok (ds,st')=>∀J H' Ha' us,aC Ha Ha'->fV K He H0e Ha' σ H' ρ a st' us->Jy K ds J Ha'->R J H'
 |.exn _=>False
 |.stuck=>False
structure MI (X:Cx) (He H0e:Hp) (a:Addr) (tg iter:Expr) (src:Ev->List D->aj (List D×List D)):Prop where
 o:PI X tg iter (M8 X.K He H0e a src)
noncomputable def uK(src:Ev->aj (List D)):Ev->List D->aj (List D×List D):=λρ st=>(src ρ).bind λds=>.ok (ds,st)
noncomputable def uJ(p:D×List D):aj (List D×List D):=match p.1 with
 |.int j=>if -4611686018427387904<=j/\j<4611686018427387904 then .ok (intsFrom 0 j.toNat,p.2) else .stuck
 |_=>.stuck
noncomputable def zD(f:Ev->List D->aj (D×List D)):Ev->List D->aj (List D×List D):=λρ st=>(f ρ st).bind uJ
section
variable {X:Cx}{E:XK}{He H0e:Hp}{a:Addr}{st:Stmt}{e l b tgt iter:Expr}{rest es:List Expr}{pos:Pos}{f:Ev->aj D}{fm gm:Ev->List D->aj (D×List D)}{fa:Ev->List D->aj (List D×List D)}{s t:Ev->List D->aj df}
theorem k8{src:Ev->aj (List D)}(h:DI X E tgt iter src):MI X He H0e a tgt iter (uK src):=⟨gW h.o λσ H R ⟨Ha,ρ,st,vs,h,q⟩=>⟨Ha,ρ,h.s.g.sub,h.s.rd,by
 unfold uK at q;cases e1:src ρ with
 |stuck=>rw[e1] at q;exact q|exn x=>rw[e1] at q;exact q.elim
 |ok ds =>
  rw[e1] at q;exact λJ H' Ha' g it=>q J H' Ha' vs g.z (h.back g.z (h.s.grow g)) it⟩⟩
theorem Bj{p pos2:Pos}(hgl:Gl X "range")(hm:X.mg "range"=none)(hi:DM X He H0e a iter fm)(hst:starEach [iter] X.env=[(false,eval iter X.env)]:=by exact fG rfl):MI X He H0e a tgt (.Call (.Name "range" p) [iter] [] pos2) (zD fm):=by
 refine⟨gW (mZ hgl hm (d5 hi.o gY hst) hst) λσ H R ⟨Ha,ρ,st,vs,h,q⟩=>⟨Ha,ρ,st,vs,h,?_⟩⟩;unfold zD at q;cases e1:fm ρ st with
 |stuck|exn x=>rw[e1] at q;exact q
 |ok pr =>
  obtain⟨d,s1⟩:=pr;rw[e1] at q;intro v H1 H01 us z h1 r1;cases d with
  |int j =>
   rw[az.mp r1];replace q:match (if -4611686018427387904<=j/\j<4611686018427387904 then aj.ok (intsFrom 0 j.toNat,s1) else .stuck) with
    |.ok (ds,st')=>∀J H' Ha' us,aC Ha Ha'->fV X.K He H0e Ha' σ H' ρ a st' us->Jy X.K ds J Ha'->R J H'
    |.exn _=>False
    |.stuck=>False:=q
   by_cases hj:-4611686018427387904<=j/\j<4611686018427387904
   .rw[if_pos hj] at q
    exact⟨j,rfl,hj.1,hj.2,q _ H1 H01 us z h1 tf⟩
   .rw[if_neg hj] at q;exact q.elim
  |_=>exact q.elim
theorem mJ.step2{K:W.Frag}{Hb Ha:Hp}{ρ:Ev}{st:List D}{vs:List V}{tg:Ev->D->aj Ev}{ds:List D}{D':e7}{i:Nat}{σ:L2.St}{H:Hp}{d:D}{v:V}(z:aC Hb Ha)(h:fV K He H0e Ha σ H ρ a st vs)(q:dO K He H0e a Ha (forM tg s (ds.drop i) ρ st) D')(hd:ds[i]?=some d)(rv:Rep K Ha d v)
  (he:∀ρ,tg ρ d=.stuck∨∃ρ',tg ρ d=.ok ρ') :
  LN K He H0e a tg v σ H λσ2 H2=>Ll K He H0e a s { D' with nx:=mJ K He H0e a Hb tg s ds D' (i+1),ct:=mJ K He H0e a Hb tg s ds D' (i+1),bk:=D'.nx } σ2 H2:=by
 have hi:i<ds.length:=(List.getElem?_eq_some_iff.mp hd).1;have hdr:ds.drop i=d::ds.drop (i+1):=by
  rw[List.drop_eq_getElem_cons hi];rw[List.getElem?_eq_getElem hi] at hd;cases hd;rfl
 rw[hdr] at q;refine⟨Ha,ρ,st,vs,d,h,rv,?_⟩;unfold forM at q;rcases he ρ with e1|⟨ρ1,e1⟩
 .rw[e1] at q;exact q.elim
 .rw[e1] at q ⊢
  intro σ' H' Ha' z' h';refine⟨Ha',ρ1,st,vs,h',?_⟩;replace q:=dO.grow (r:=(s ρ1 st).bind λx=>match x with
   |.nx ρ2 s2=>forM tg s (ds.drop (i+1)) ρ2 s2
   |.ct ρ2 s2=>forM tg s (ds.drop (i+1)) ρ2 s2
   |.bk ρ2 s2=>.ok (.nx ρ2 s2)
   |.rt d s=>.ok (.rt d s)) q z'
  cases e2:s ρ1 st with
  |stuck|exn x=>rw[e2] at q;exact q
  |ok r =>
   rw[e2] at q;cases r with|nx ρ2 s2=>exact λσ3 H3 H03 vs3 z3 h3=>⟨H03,ρ2,s2,vs3,(z.trans z').trans z3,h3,dO.grow (r:=forM tg s (ds.drop (i+1)) ρ2 s2) q z3⟩|ct ρ2 s2=>exact λσ3 H3 H03 vs3 z3 h3=>⟨H03,ρ2,s2,vs3,(z.trans z').trans z3,h3,dO.grow (r:=forM tg s (ds.drop (i+1)) ρ2 s2) q z3⟩|bk ρ2 s2|rt d s2=>exact q
noncomputable def k9(src:Ev->List D->aj (List D×List D)) (tg:Ev->D->aj Ev) (s:Ev->List D->aj df):Ev->List D->aj df:=λρ st=>(src ρ st).bind λp=>forM tg s p.1 ρ p.2
theorem kO{body:List Stmt}{tg:Ev->D->aj Ev}{src:Ev->List D->aj (List D×List D)}(hp:PassesOwn (model X.prog X.w) X.A X.env X.xe)(hc:X.calm=true)(hi:MI X He H0e a tgt iter src)(hg:∀vs,DG X E (upd He a (.lst vs)) H0e tgt tg)(ht:uc tg)(hb:Gs X He H0e a body s)
  (hs:∀x,foldedSetIterable iter X.env x=pure x:=by intro _;rfl):SM X He H0e a (.For tgt iter body [] pos) (k9 src tg s):=by
 refine⟨bH (uA hp hc hi.o (Kh hg) hb.o hs) λD' σ H ⟨Ha,ρ,st,vs,h,q⟩=>⟨Ha,ρ,st,vs,h,?_⟩⟩;unfold k9 at q;cases e1:src ρ st with
 |stuck|exn x=>rw[e1] at q;exact q
 |ok pr =>
  obtain⟨ds,s1⟩:=pr;rw[e1] at q;intro J H1 H01 us z h1 it;have q1:dO X.K He H0e a H01 (forM tg s ds ρ s1) D':=dO.grow (r:=forM tg s ds ρ s1) q z;refine⟨λi m σ' H'=>m+i=ds.length/\mJ X.K He H0e a H01 tg s ds D' i σ' H',⟨ds.length,rfl,H01,ρ,s1,us,aC.refl _,h1,q1⟩,?_⟩;rintro i m σ' H' ⟨hm,Ha',ρ',st',vs',z',h',hq⟩
  by_cases hlt:i<ds.length
  .refine .inr ⟨it.go i H' Ha' z' h'.s.g.sub hlt,λσ2 H2=>mJ X.K He H0e a H01 tg s ds D' (i+1) σ2 H2,λσ2 H2 hl=>⟨m-1,by omega,by omega,hl⟩,λx H2 hy=>?_⟩
   obtain⟨H₀2,g2,rp⟩:=it.yld i H' Ha' x H2 ds[i] z' h'.s.g.sub (List.getElem?_eq_getElem hlt) hy;exact mJ.step2 (z'.trans g2.z) (h'.back g2.z (h'.s.grow g2)) (dO.grow (r:=forM tg s (ds.drop i) ρ' st') hq g2.z) (List.getElem?_eq_getElem hlt) rp λρ=>ht ρ _
  .have e:i=ds.length:=by omega
   refine .inl ⟨it.stop i H' Ha' z' h'.s.g.sub (by omega),?_⟩;subst e;exact mJ.done ⟨Ha',ρ',st',vs',z',h',hq⟩
theorem Ji:gR X E (λxs H1 Q=>xs.length<=sizeLine/\∀p,H1 p=none->Q (.ref p) (upd H1 p (.lst xs))) cu:=λds vs H Ha Q hs hr q=>by
 unfold cu at q
 by_cases hl:ds.length<=line
 .rw[if_pos hl] at q
  refine⟨by rw[←hr.length];exact cO hl,λp hp=>q _ _ _ (bu hs hp) (aG.mpr ⟨p,vs,rfl,eZ.of aI,hr.mono (bu hs hp).z⟩)⟩
 .rw[if_neg hl] at q;exact q.elim
theorem IU(h:Hj X He H0e a es fa):DM X He H0e a (.List es pos) (mA fa cu):=⟨aZ (yh h.o) (yT (E:=λ_ _ _=>True) Ji)⟩
end
noncomputable def HG(s:Option Sl):Sl:=match s with
 |some (.sh d)=>.sh d
 |some (.pt b)=>.pt b
 |_=>.no
noncomputable def eE(n:Nat) (fr:List Nat) (ρ:Ev):Ev:=List.replicate n .no++fr.map λ(i:Nat)=>HG ρ[i]?
noncomputable def gJ(b:Ev) (tg:Ev->D->aj Ev) (fm:Ev->List D->aj (D×List D)):List D->List D->aj (List D×List D)
 |[],st=>.ok ([],st)
 |d::r,st=>(tg b d).bind λρ1=>(fm ρ1 st).bind λp=>(gJ b tg fm r p.2).bind λq=>.ok (p.1::q.1,q.2)
noncomputable def rg(b:Ev) (tg:Ev->D->aj Ev) (fm:Ev->List D->aj (D×List D)) (p:List D×List D):aj (D×List D):=if p.1.length<=line then(gJ b tg fm p.1 p.2).bind λq=>.ok (.lst q.1,q.2) else .stuck
noncomputable def nL(n:Nat) (fr:List Nat) (src:Ev->List D->aj (List D×List D)) (tg:Ev->D->aj Ev) (fm:Ev->List D->aj (D×List D)):Ev->List D->aj (D×List D):=λρ st=>(src ρ st).bind (rg (eE n fr ρ) tg fm)
theorem BN{n:Nat}{fr:List Nat}{ρ:Ev}:(eE n fr ρ).length=n+fr.length:=by unfold eE;simp
theorem rJ{n:Nat}{fr:List Nat}{ρ:Ev}{k:Nat}(h:k<n):(eE n fr ρ)[k]?=some .no:=by
 unfold eE;rw[List.getElem?_append_left (by simpa using h),List.getElem?_replicate,if_pos h]
theorem rK{n:Nat}{fr:List Nat}{ρ:Ev}{k:Nat}{s:Sl}(h:¬k<n)(e:(eE n fr ρ)[k]?=some s):∃j,fr[k-n]?=some j/\s=HG ρ[j]?:=by
 unfold eE at e;rw[List.getElem?_append_right (by simpa using h),List.length_replicate,List.getElem?_map] at e;cases hf:fr[k-n]? with|none=>rw[hf] at e;cases e|some j=>rw[hf] at e;cases e;exact⟨j,rfl,rfl⟩
theorem HE{s:Option Sl}{d:D}(h:Sl.sh d=HG s):s=some (.sh d):=by
 unfold HG at h;split at h<;>cases h
 rfl
theorem HF{s:Option Sl}{b:Addr}(h:Sl.pt b=HG s):s=some (.pt b):=by
 unfold HG at h;split at h<;>cases h
 rfl
theorem Ej{n:Nat}{fr:List Nat}{σ:L2.St}{k j:Nat}{v:V}(h:¬k<n)(hf:fr[k-n]?=some j)(hs:σ[j]?=some (some v)):(iE n fr σ)[k]?=some (some v):=by
 unfold iE;rw[List.getElem?_append_right (by simpa using h),List.length_replicate,List.getElem?_map,hf];simp [hs]
theorem uf{K:W.Frag}{He H0e Ha H:Hp}{σ:L2.St}{ρ:Ev}{a:Addr}{st:List D}{vs:List V}(ha:He a=none)(h0:H0e a=none)(hl:H a=some (.lst vs))(r:Reps K Ha st vs)(g:bf (upd He a (.lst vs)) H0e H Ha)(rd:dX K Ha σ ρ)
  (no:∀(j:Nat) (s:Sl),ρ[j]?=some s->s=.no∨(∃d,s=.sh d)∨∃b,s=.pt b/\σ[j]?=some (some (.ref b)))(ln:ρ.length=σ.length):fV K He H0e Ha σ H ρ a st vs:=by
 refine⟨ha,h0,hl,r,⟨g,rd,λi d e=>?_,λi j d d' _ e=>?_,ln,OX.none (λi j ds e=>?_) λi b e=>?_⟩⟩
 .rcases no i _ e with h|⟨_,h⟩|⟨_,h,_⟩<;>cases h
 .rcases no i _ e with h|⟨_,h⟩|⟨_,h,_⟩<;>cases h
 .rcases no i _ e with h|⟨_,h⟩|⟨_,h,_⟩<;>cases h
 .rcases no i _ e with h|⟨_,h⟩|⟨_,h,h'⟩
  .cases h
  .cases h
  .cases h;exact h'
noncomputable def Dw(K:W.Frag) (a:Addr) (tg:Ev->D->aj Ev):TG:=λv σ H Q=>∃He H0e,LN K He H0e a tg v σ H Q
noncomputable def Cf(K:W.Frag) (a:Addr) (fm:Ev->List D->aj (D×List D)):TE:=λσ H Q=>∃He H0e,tM K He H0e a fm σ H Q
theorem yN{b:Ev}{tg:Ev->D->aj Ev}{fm:Ev->List D->aj (D×List D)}{d:D}{r st es stF:List D}(h:gJ b tg fm (d::r) st=.ok (es,stF)):∃ρ1 y s1 rest,tg b d=.ok ρ1/\fm ρ1 st=.ok (y,s1)/\gJ b tg fm r s1=.ok (rest,stF)/\es=y::rest:=by
 unfold gJ at h;cases e1:tg b d with
 |stuck|exn x=>rw[e1] at h;cases h
 |ok ρ1 =>
  rw[e1] at h;simp only[aj.bind] at h;cases e2:fm ρ1 st with
  |stuck|exn x=>rw[e2] at h;cases h
  |ok p =>
   obtain⟨y,s1⟩:=p;rw[e2] at h;simp only at h;cases e3:gJ b tg fm r s1 with
   |stuck|exn x=>rw[e3] at h;cases h
   |ok q =>
    obtain⟨rest,sF⟩:=q;rw[e3] at h;cases h;exact⟨ρ1,y,s1,rest,rfl,e2,e3,rfl⟩
theorem xx{K:W.Frag}{n:Nat}{fr:List Nat}{tg:Ev->D->aj Ev}{fm:Ev->List D->aj (D×List D)}{a:Addr}{σ:L2.St}{ρ:Ev}{He H0e H1 H01:Hp}{st0 ds es stF:List D}{us0:List V}{J:It}{Q:VK}(h1:fV K He H0e H01 σ H1 ρ a st0 us0)(it:Jy K ds J H01)(hl:ds.length<=line)
  (e2:gJ (eE n fr ρ) tg fm ds st0=.ok (es,stF))(hok:yW n tg)
  (q:∀p xs H' Ha' us',bf (Bx a H1) H01 H' Ha'->Ha' a=none->H' a=some (.lst us')->Reps K Ha' stF us'->H1 p=none->Ha' p=none->H' p=some (.lst xs)->Reps K Ha' es xs->Q (.ref p) H') :
  o5 n fr (Dw K a tg) Ce (Cf K a fm) J σ H1 Q:=by
 intro Da hDa;have h0D:H01 Da=none:=h1.s.g.sub.free hDa;have aD:a≠Da:=λz=>by have:=h1.hl;rw[z,hDa] at this;cases this
 have nob:∀{σ':L2.St}(_:∀(k:Nat),¬k<n->∀b,(eE n fr ρ)[k]?=some (.pt b)->σ'[k]?=some (some (.ref b))) (j:Nat) (s:Sl),(eE n fr ρ)[j]?=some s->s=.no∨(∃d,s=.sh d)∨∃b,s=.pt b/\σ'[j]?=some (some (.ref b)):=λ{σ'} hp j s e=>by
  by_cases hj:j<n
  .rw[rJ hj] at e;cases e;exact .inl rfl
  .obtain⟨i,_,hs⟩:=rK hj e
   cases s with
   |no=>exact .inl rfl|sh d=>exact .inr (.inl ⟨d,rfl⟩)|pt b=>exact .inr (.inr ⟨b,rfl,hp j hj b e⟩)
   |_=>unfold HG at hs;split at hs<;>cases hs
 refine⟨λi m ys σ' H'=>m=ds.length-i/\i<=ds.length/\∃Ha' st' us' es1 rest,fV K (upd (Bx a H1) Da (.lst ys)) H01 Ha' σ' H' (eE n fr ρ) a st' us'/\Reps K Ha' es1 ys/\es1.length=i/\gJ (eE n fr ρ) tg fm (ds.drop i) st'=.ok (rest,stF)/\es=es1++rest,
  ⟨ds.length,by simp,Nat.zero_le _,H01,st0,us0,[],es,?_,Reps.nil,rfl,by rw[List.drop_zero];exact e2,rfl⟩,?_⟩
 .refine uf (by rw[aA aD];exact dj) h1.n0 (by rw[aA aD];exact h1.hl) h1.r ⟨λb o e=>?_,aC.refl _,λb o e=>?_,λb k1 k2=>absurd k2 k1⟩ (λk d e=>?_) (nob λk hk b e=>?_) (by unfold iE;rw[BN];simp)
  .by_cases c:b=a
   .subst c;rw[aI] at e;cases e;rw[aA aD];exact h1.hl
   .rw[aA c] at e
    by_cases c2:b=Da
    .subst c2;rw[aI] at e ⊢;exact e
    .rw[aA c2] at e ⊢;rw[e9 c] at e;exact e
  .rw[aA (by intro z;subst z;rw[h0D] at e;cases e)];exact h1.s.g.sub _ _ e
  .by_cases hk:k<n
   .rw[rJ hk] at e;cases e
   .obtain⟨j,hf,hs⟩:=rK hk e
    obtain⟨v,k1,k2⟩:=h1.s.rd j d (HE hs);exact⟨v,Ej hk hf k1,k2⟩
  .obtain⟨j,hf,hs⟩:=rK hk e
   exact Ej hk hf (h1.s.ex.2 j b (HF hs))
 .rintro i m ys σ' H' ⟨rfl,hile,Ha',st',us',es1,rest,h',hys,hle,hco,hes⟩
  have hDl:H' Da=some (.lst ys):=h'.s.g.s _ _ (by rw[aA (Ne.symm aD),aI]);refine⟨hDl,?_⟩
  by_cases hlt:i<ds.length
  .refine .inr ⟨it.go i H' Ha' h'.s.g.z h'.s.g.sub hlt,?_,?_⟩
   .rw[←hys.length,hle]
    have h2:line<sizeLine:=by decide
    omega
   .intro x H2 hy
    obtain⟨H₀2,g2,rp⟩:=it.yld i H' Ha' x H2 ds[i] h'.s.g.z h'.s.g.sub (List.getElem?_eq_getElem hlt) hy;have hm2:=h'.back g2.z (h'.s.grow g2);rw[List.drop_eq_getElem_cons hlt] at hco;obtain⟨ρ1,y,s1,rest',t1,t2,t3,t4⟩:=yN hco;refine⟨_,_,H₀2,eE n fr ρ,st',us',ds[i],hm2,rp,?_⟩;rw[t1];intro σ3 H3 H03 z3 h3;unfold Ce;dsimp only;rw[if_pos rfl];refine⟨_,_,H03,ρ1,st',us',h3,?_⟩;rw[t2];intro yv H5 H05 us5 z5 h5 ry;have hD5:H5 Da=some (.lst ys):=h5.s.g.s _ _ (by rw[aA (Ne.symm aD),aI]);have n5:H05 Da=none:=by
     cases qq:H05 Da with|none=>rfl|some o=>have:=h5.s.g.nw Da (by rw[qq];simp) h0D;rw[aA (Ne.symm aD),aI] at this;cases this
    have hrl:=hok _ _ _ t1;refine⟨hD5,ds.length-(i+1),by omega,rfl,hlt,H05,s1,us5,es1++[y],rest',?_,(hys.mono ((g2.z.trans z3).trans z5)).app (Reps.cons ry Reps.nil),by simp [hle],t3,by rw[hes,t4];simp⟩;refine uf (by rw[aA aD];exact dj) h1.n0 (by rw[aA aD];exact h5.hl) h5.r ⟨λb o e=>?_,h5.s.g.z,λb o e=>?_,λb k1 k2=>?_⟩ (λk d e=>?_) (nob λk hk b e=>?_) (by rw[←h5.s.ln,hrl.1])
    .by_cases c:b=a
     .subst c;rw[aI] at e;cases e;rw[aA aD];exact h5.hl
     .rw[aA c] at e
      by_cases c2:b=Da
      .subst c2;rw[aI] at e ⊢;exact e
      .rw[aA c2] at e ⊢
       exact h5.s.g.s _ _ (by rw[aA c,aA c2];exact e)
    .rw[aA (by intro z;subst z;rw[n5] at e;cases e)];exact h5.s.g.sub _ _ e
    .have:=h5.s.g.nw b k1 k2
     by_cases c:b=a
     .subst c;rw[aI] at this;cases this
     .rw[aA c] at this ⊢
      by_cases c2:b=Da
      .subst c2;rw[aI] at this;cases this
      .rw[aA c2] at this ⊢;exact this
    .by_cases hk:k<n
     .rw[rJ hk] at e;cases e
     .rw[←hrl.2 k (by omega)] at e
      exact h5.s.rd k d e
    .rw[←hrl.2 k (by omega)] at e
     exact h5.s.ex.2 k b e
  .have hi2:i=ds.length:=by omega
   refine .inl ⟨it.stop i H' Ha' h'.s.g.z h'.s.g.sub (by omega),?_⟩;rw[hi2,List.drop_length] at hco;cases hco;rw[List.append_nil] at hes;subst hes;refine q Da ys H' Ha' us' ⟨λb o e=>?_,h'.s.g.z,h'.s.g.sub,λb k1 k2=>?_⟩ h'.n0 h'.hl h'.r hDa ?_ hDl hys
   .have c:b≠a:=by intro c;subst c;rw[dj] at e;cases e
    have c2:b≠Da:=by intro c2;subst c2;rw[e9 c,hDa] at e;cases e
    exact h'.s.g.s _ _ (by rw[aA c,aA c2];exact e)
   .have:=h'.s.g.nw b k1 k2
    by_cases c:b=a
    .subst c;exact dj
    .rw[aA c] at this
     by_cases c2:b=Da
     .subst c2;rw[aI] at this;cases this
     .rw[aA c2] at this;exact this
   .cases qq:Ha' Da with
    |none=>rfl
    |some o=>have:=h'.s.g.nw Da (by rw[qq];simp) h0D;rw[aA (Ne.symm aD),aI] at this;cases this
noncomputable def LK(K:W.Frag) (He H0e:Hp) (a:Addr) (f:Ev->List D->aj (D×List D)):TE:=λσ H Q=>∃Ha ρ st vs,fV K He H0e Ha σ H ρ a st vs/\match f ρ st with
 |.ok (.lst ds,st')=>∀p xs H1 H01 st1 us1 H' Ha' us,aC Ha H01->fV K He H0e H01 σ H1 ρ a st1 us1->bf (Bx a H1) H01 H' Ha'->Ha' a=none->H' a=some (.lst us)->Reps K Ha' st' us->H1 p=none->Ha' p=none->H' p=some (.lst xs)->Reps K Ha' ds xs->Q (.ref p) H'
 |.ok _=>False
 |.exn _=>False
 |.stuck=>False
structure Mv (X:Cx) (He H0e:Hp) (a:Addr) (e:Expr) (f:Ev->List D->aj (D×List D)):Prop where
 ev:PE X e (LK X.K He H0e a f)
 st:∀{i:Nat}{x:Str}{pos' spos:Pos},X.N.Nodup->X.N[i]?=some x->X.env.scope.names.lookup x=some .local -> swapsWith e (some (.Name x pos')) spos.line X.env=pure true->PS X (.Assign [.Name x pos'] e spos) (E2 (LK X.K He H0e a f) (zV i))
theorem Ng{X:Cx}{E:XK}{He H0e:Hp}{a:Addr}{tgt iter elt:Expr}{scope:Scope}{pos:Pos}(N:List Str)(n:Nat)(fr:List Nat){src:Ev->List D->aj (List D×List D)}{tg:Ev->D->aj Ev}{fm:Ev->List D->aj (D×List D)}(hc:X.calm=true)(hi:MI X He H0e a tgt iter src)(hok:yW n tg)
  (blk:∀s H C fp pn,(∀He H0e,DG (cK X N scope s H C fp pn) E He H0e tgt tg)/\∀He H0e,DM (cK X N scope s H C fp pn) He H0e a elt fm)
  (hfr:yX X N n fr scope)(hcell:∀x∈scope.names,x.2≠.cell)(hfree:∀x∈scope.names,x.2=.free->X.env.scope.names.lookup x.1=some .cell)(hkind:scope.kind=.function)(hnames:∀x∈scope.names,x.2=.local -> scope.names.lookup x.1=some .local)
  (hs:∀x,foldedSetIterable iter X.env x=pure x:=by intro _;rfl):Mv X He H0e a (.ListComp elt [⟨tgt,iter,[],0⟩] scope pos) (nL n fr src tg fm):=by
 have blk':∀s H C fp pn,PG (cK X N scope s H C fp pn) tgt (Dw X.K a tg)/\JH (cK X N scope s H C fp pn) [] Ce/\PE (cK X N scope s H C fp pn) elt (Cf X.K a fm):=λs H C fp pn =>
  ⟨λpins s' σ' H' v u Q' I r ⟨He,H0e,q'⟩=>(Kh (X:=cK X N scope s H C fp pn) λvs=>(blk s H C fp pn).1 _ _) pins s' σ' H' v u Q' I r q',zm,λpins s' σ' H' Q' I ⟨He,H0e,q'⟩=>((blk s H C fp pn).2 He H0e).o pins s' σ' H' Q' I q'⟩
 have first:∀{pins:List (Addr×Obj)}{s:Shared}{σ:L2.St}{H:Hp}{Q:VK}{RR:Value->Addr->Result->Shared->Prop},L2.Inv X pins σ H s->LK X.K He H0e a (nL n fr src tg fm) σ H Q ->
   (∀(Da C:Addr) (s6:Shared) (H5:Hp) (m:Str->Option Value),L2.Inv X pins σ H5 s6->s6.heap.Ns C m->mL X pins H5 C->Q (.ref Da) H5->RR (.ref Da) C (.ok .next) s6) ->
   wpAny (model X.prog X.w) X.A (eval iter X.env) (λx sg=>wpAny (model X.prog X.w) X.A (pyIter x) (λit si=>wpAny (model X.prog X.w) X.A (newList []) (λacc sj =>
    wpAny (model X.prog X.w) X.A (newFunctionEnv scope X.env.globals (fR X.env.cells scope.names []) [] X.env.qual none .none (some X.env)) (λcenv sk =>
     codeAny (model X.prog X.w) X.A (.compStart (.ListComp elt [⟨tgt,iter,[],0⟩] scope pos) 0 it acc { cenv with scope:=relabel scope X.env }) (RR acc cenv.locals) sk) X.xe sj) X.xe si) X.xe sg) X.xe s:=by
  intro pins s σ H Q RR I ⟨Ha,ρ,st,vs,h,q⟩ fin;refine cy (hi.o pins s σ H (λJ H1=>o5 n fr (Dw X.K a tg) Ce (Cf X.K a fm) J σ H1 Q) I ⟨Ha,ρ,st,vs,h,?_⟩) λv s1 h1=>cy h1 λitv s2 h2=>tR (N:=N) hc hfr hcell hfree hkind blk' h2 fin;unfold nL at q;cases e1:src ρ st with
  |stuck|exn x=>rw[e1] at q;exact q
  |ok pr =>
   obtain⟨ds,st1⟩:=pr;rw[e1] at q;intro J H1 H01 us z h1 it;replace q:match (if ds.length<=line then(gJ (eE n fr ρ) tg fm ds st1).bind λq=>aj.ok (D.lst q.1,q.2) else .stuck) with
    |.ok (.lst ds,st')=>∀p xs H1 H01 st1 us1 H' Ha' us,aC Ha H01->fV X.K He H0e H01 σ H1 ρ a st1 us1->bf (Bx a H1) H01 H' Ha'->Ha' a=none->H' a=some (.lst us)->Reps X.K Ha' st' us->H1 p=none->Ha' p=none->H' p=some (.lst xs)->Reps X.K Ha' ds xs->Q (.ref p) H'
    |.ok _=>False
    |.exn _=>False
    |.stuck=>False:=q
   by_cases hl:ds.length<=line
   .rw[if_pos hl] at q
    cases e2:gJ (eE n fr ρ) tg fm ds st1 with
    |stuck|exn x=>rw[e2] at q;exact q.elim
    |ok pr2 =>
     obtain⟨es,stF⟩:=pr2;rw[e2] at q;exact xx h1 it hl e2 hok λp xs H' Ha' us' g n' hl' r' hp h0 hv rp=>q p xs H1 H01 st1 us H' Ha' us' z h1 g n' hl' r' hp h0 hv rp
   .rw[if_neg hl] at q;exact q.elim
 have hcl:∀{pins:List (Addr×Obj)}{s:Shared}{σ:L2.St}{H:Hp},L2.Inv X pins σ H s->closureFor scope X.env=pure (fR X.env.cells scope.names []):=λ{pins s σ H} I=>jX λy hy hf=>I.ok.has y.1 (.inl (hfree y hy hf));refine⟨λpins s σ H Q I h=>?_,λ{i x pos' spos} hN hi' hx hsw pins s σ H D' I h=>?_⟩
 .rw[eval_ListComp]
  refine wpAny_comprehension_free (use:=none) rfl hs (hcl I) hkind hnames (first (RR:=λacc C=>compPost (model X.prog X.w) X.A X.xe none (EP X pins σ Q) acc C) I h λDa C s6 H5 m I6 ns fC q=>?_);refine⟨m,ns,λh' sb=>⟨.ref Da,H5,?_,rfl,q⟩⟩;exact I6.turned (t':=s6.toks) (it:=C) (λb o hb e=>(sb.2 b hb).trans e) fC.1 fC.2.1 fC.2.2.2.1 fC.2.2.2.2.1 fC.2.2.2.2.2
 .rw[exec_Assign_Name_used _ _ _ _ hsw]
  refine wpAny_bind (wpAny_standAt (wpAny_bind ?_));show wpAny _ X.A (do let _ ←comprehension (.ListComp elt [⟨tgt,iter,[],0⟩] scope pos) scope X.env _ (newList []) false (eval iter X.env) (some (assign (.Name x pos') X.env))) _ _ s;refine wpAny_bind (wpAny_mono (wpAny_comprehension_free (use:=some (assign (.Name x pos') X.env)) (Q:=λ_ s'=>SP X pins D' .next s') rfl hs (hcl I) hkind hnames
   (first (RR:=λacc C=>compPost (model X.prog X.w) X.A X.xe (some (assign (.Name x pos') X.env)) (λ_ s'=>SP X pins D' .next s') acc C) I h λDa C s6 H5 m I6 ns fC q=>?_)) (λ_ s' hq=>wpAny_pure (wpAny_pure hq)) λ_ _ e=>e)
  show wpAny _ X.A (assign (.Name x pos') X.env (.ref Da)) _ _ _;refine wpAny_assign_Name (mU (v:=.ref Da) I6 hN hi' (.inl hx) rfl (λs' I' ⟨a,sb,ha⟩=>?_) (.inr hx));have hCa:C≠a:=by
   rcases ha with rfl|ha
   .exact fC.2.1
   .exact λz=>fC.2.2.2.2.1 x a ha z.symm
  refine⟨m,ns.sameBut sb hCa,λh' sb'=>⟨_,H5,?_,q⟩⟩;exact I'.turned (t':=s'.toks) (it:=C) (λb o hb e=>(sb'.2 b hb).trans e) fC.1 fC.2.1 fC.2.2.2.1 fC.2.2.2.2.1 fC.2.2.2.2.2
theorem yM{n:Nat}{fr:List Nat}{src:Ev->List D->aj (List D×List D)}{tg:Ev->D->aj Ev}{fm:Ev->List D->aj (D×List D)}:∀ρ st d s',nL n fr src tg fm ρ st=.ok (d,s')->∃ds,d=.lst ds:=λρ st d s' h=>by
 unfold nL at h;cases e1:src ρ st with
 |stuck|exn x=>rw[e1] at h;cases h
 |ok pr =>
  rw[e1] at h;simp only[aj.bind,rg] at h
  by_cases hl:pr.1.length<=line
  .rw[if_pos hl] at h
   cases e2:gJ (eE n fr ρ) tg fm pr.1 pr.2 with|stuck|exn x=>rw[e2] at h;cases h|ok q=>rw[e2] at h;cases h;exact⟨_,rfl⟩
  .rw[if_neg hl] at h;cases h
theorem fV.addL{K:W.Frag}{He H0e H1 H01 H' Ha':Hp}{σ:L2.St}{ρ:Ev}{a p:Addr}{st1 st' ds:List D}{us1 us xs:List V}(h1:fV K He H0e H01 σ H1 ρ a st1 us1)(g:bf (Bx a H1) H01 H' Ha')(n:Ha' a=none)(hl:H' a=some (.lst us))(r:Reps K Ha' st' us)(hp:H1 p=none)(h0:Ha' p=none)(hv:H' p=some (.lst xs))(rp:Reps K Ha' ds xs) :
  aC H01 (upd Ha' p (.lst xs))/\fV K He H0e (upd Ha' p (.lst xs)) σ H' ρ a st' us/\Rep K (upd Ha' p (.lst xs)) (.lst ds) (.ref p):=by
 have pa:a≠p:=λz=>by have:=h1.hl;rw[z,hp] at this;cases this
 have z:aC Ha' (upd Ha' p (.lst xs)):=λb o e=>by rw[aA (by intro z;subst z;rw[h0] at e;cases e)];exact e
 have g':bf (Bx a H1) H01 H' (upd Ha' p (.lst xs)):=⟨g.s,g.z.trans z,λb o e=>by
  by_cases c:b=p
  .subst c;rw[aI] at e;cases e;exact hv
  .rw[aA c] at e;exact g.sub _ _ e,λb k1 k2=>by
  by_cases c:b=p
  .subst c;rw[e9 (Ne.symm pa)];exact hp
  .rw[aA c] at k1;exact g.nw b k1 k2⟩
 exact⟨g'.z,h1.change g' (by rw[aA pa];exact n) hl (r.mono z),aG.mpr ⟨p,xs,rfl,eZ.of aI,rp.mono z⟩⟩
section
variable {X:Cx}{E:XK}{He H0e:Hp}{a:Addr}{e:Expr}{pos:Pos}{fm:Ev->List D->aj (D×List D)}
theorem E8{i:Nat}{x:Str}{pos':Pos}(hN:X.N.Nodup)(hi:X.N[i]?=some x)(hx:X.env.scope.names.lookup x=some .local)(h:Mv X He H0e a e fm)(ho:∀ρ st d s',fm ρ st=.ok (d,s')->∃ds,d=.lst ds)(hs:swapsWith e (some (.Name x pos')) pos.line X.env=pure true:=by rfl):SM X He H0e a (.Assign [.Name x pos'] e pos) (dP i fm):=by
 refine⟨bH (h.st hN hi hx hs) λD' σ H ⟨Ha,ρ,st,vs,h,q⟩=>⟨Ha,ρ,st,vs,h,?_⟩⟩;unfold dP at q;cases e1:fm ρ st with
 |stuck|exn x=>rw[e1] at q;exact q
 |ok pr =>
  obtain⟨d,s1⟩:=pr;obtain⟨ds,rfl⟩:=ho _ _ _ _ e1;rw[e1] at q;intro p xs H1 H01 st1 us1 H' Ha' us z h1 g n hl r hp h0 hv rp;obtain⟨k1,k2,k3⟩:=h1.addL g n hl r hp h0 hv rp;exact q _ H' _ us (z.trans k1) (k2.back (aC.refl _) (k2.s.put k3))
end
structure FT (K:W.Frag) (mg:Str->Option Value) (x:Str) (st:Stmt) (ps:List Str) (a:Addr) (d:FuncData):Prop where
 F:Gy K x x st a d
 b:j8 K d ps []
 g:mg x=some (.ref a)
noncomputable def QA(K:W.Frag) (x:Str) (st:Stmt) (a:Addr):Prop:=W.nsIn K mainGlobals x=some (some (.ref a))/\W.keepIn K (.ref a)=true/\∃oc kV dc pm cd ct od an sl,K.lookup a=some ⟨oc,od,.func (W.fnOf x x (defArgs st) (defBody st) (defScope st) .none kV dc pm an cd ct),sl⟩/\W.codeIn K cd x=true
theorem KO{K:W.Frag}{h:Heap}{mg:Str->Option Value}{x:Str}{st:Stmt}{ps:List Str}{a:Addr}(X:K.In h)(G:h.Ns mainGlobals mg)(q:QA K x st a)
  (hb:∀(kV doc pm:Value) (an:Option Addr) (cdv ct:Value) (us:List Value),us.length=ps.length->bindArgs (W.fnOf x x (defArgs st) (defBody st) (defScope st) .none kV doc pm an cdv ct) ⟨us,[]⟩=pure (ps.zip us)) :
  ∃d,FT K mg x st ps a d/\∃kV doc pm an cdv ct,d=W.fnOf x x (defArgs st) (defBody st) (defScope st) .none kV doc pm an cdv ct:=by
 obtain⟨e1,e4,oc,kV,dc,pm,cd,ct,od,an,sl,e2,e3⟩:=q;exact⟨_,⟨Dx e2 e3 e4,(Dx (st:=st) e2 e3 e4).binds hb,W.mg_of X G e1⟩,_,_,_,_,_,_,rfl⟩
section
variable {X:Cx}{E:XK}{e:Expr}{es:List Expr}{fa:Ev->aj (List D)}{f g h i j:Ev->aj D}{pos:Pos}{CX:uh}{k n:Nat}{fn:Addr}{fd:FuncData}{ps:List Str}{m:List D->aj D}{x:Str}{p:Pos}{st:Stmt}
theorem Mn(ρ:Ev)(ds:List D)(h:ai f aE ρ=.ok ds):ds.length=1:=jI (λ_ h=>Eo h) h
theorem Mm(ρ:Ev)(ds:List D)(q:ai f (ai g aE) ρ=.ok ds):ds.length=2:=jI (Mn ρ) q
theorem Ml(ρ:Ev)(ds:List D)(q:ai f (ai g (ai h aE)) ρ=.ok ds):ds.length=3:=jI (Mm ρ) q
theorem MX(ρ:Ev)(ds:List D)(q:ai f (ai g (ai h (ai i aE))) ρ=.ok ds):ds.length=4:=jI (Ml ρ) q
end
section
variable {X:Cx}{E:XK}{He H0e:Hp}{a:Addr}{e:Expr}{es:List Expr}{pos:Pos}{f g:Ev->aj D}{fm gm hm im jm:Ev->List D->aj (D×List D)}{fa:Ev->List D->aj (List D×List D)}{s:Ev->List D->aj df}{st:Stmt}
noncomputable def vE(f:Ev->aj D):Ev->aj Fl:=λρ=>(f ρ).bind λd=>.ok (.rt d)
theorem Bz(h:DF X E e f):Ew X E He H0e [.Return (some e) pos] (vE f):=by
 refine⟨fJ (iN (uz h.o) uy) λD' σ H ⟨Ha,ρ,h,q⟩=>⟨Ha,ρ,h.g.sub,h.rd,?_⟩⟩;unfold vE at q;cases e1:f ρ with
 |stuck=>rw[e1] at q;exact q|exn x=>rw[e1] at q;exact λC ox H' Ha' g r=>q C ox H' Ha' (h.g.trans g) r
 |ok d =>
  rw[e1] at q;cases d with|lst ds=>exact λp vs H' Ha' g hp h0 hv rp=>q p vs H' Ha' (h.g.trans g) (h.g.s.free hp) h0 hv rp| _=>exact q.elim
theorem JI.dt(h:JI X He H0e a e fm):Ex X He H0e a e fm:=⟨PW.pt h.o⟩
theorem ju{n:Nat}(hr:∀ρ st ds,fa ρ st=.ok ds->ds.1.length=n)(ρ:Ev)(st:List D)(ds:List D×List D)(h:aQ fm fa ρ st=.ok ds):ds.1.length=n+1:=by
 unfold aQ at h;cases e1:fm ρ st with
 |stuck|exn x=>rw[e1] at h;cases h
 |ok p =>
  rw[e1] at h;simp only[aj.bind] at h;cases e2:fa ρ p.2 with|stuck|exn x=>rw[e2] at h;cases h|ok q=>rw[e2] at h;cases h;simp [hr _ _ _ e2]
theorem MW(ρ:Ev)(st:List D)(ds:List D×List D)(h:bU ρ st=.ok ds):ds.1.length=0:=by cases h;rfl
theorem Mk(ρ:Ev)(st:List D)(ds:List D×List D)(h:aQ fm bU ρ st=.ok ds):ds.1.length=1:=ju MW ρ st ds h
theorem Mj(ρ:Ev)(st:List D)(ds:List D×List D)(h:aQ fm (aQ gm bU) ρ st=.ok ds):ds.1.length=2:=ju Mk ρ st ds h
theorem Mi(ρ:Ev)(st:List D)(ds:List D×List D)(h:aQ fm (aQ gm (aQ hm bU)) ρ st=.ok ds):ds.1.length=3:=ju Mj ρ st ds h
theorem MV(ρ:Ev)(st:List D)(ds:List D×List D)(h:aQ fm (aQ gm (aQ hm (aQ im bU))) ρ st=.ok ds):ds.1.length=4:=ju Mi ρ st ds h
variable {CX:uh}{k n:Nat}{fn:Addr}{fd:FuncData}{ps:List Str}{x:Str}{p:Pos}{ft:Stmt}
theorem nt{l b:Expr}(ha:DM X He H0e a l fm)(hb:DM X He H0e a b gm):DM X He H0e a (.BinOp l .Add b pos) (mB fm gm cb):=G8 (E:=E0) (ez.or C2 (ez.or pE (ez.or zy zx))) (by
 intro x y v u H Ha Q hs r1 r2 q;unfold cb at q;cases x with
 |int i =>
  cases y with|int j=>exact .inl ⟨i,j,az.mp r1,az.mp r2,bq hs q (ri _)⟩| _=>exact q.elim
 |str i =>
  cases y with
  |str j =>
   by_cases h:i.length+j.length<=line
   .simp only[if_pos h] at q
    exact .inr (.inl ⟨i,j,Rep.str_iff.mp r1,Rep.str_iff.mp r2,cO h,bq hs q (Rep.str_iff.mpr rfl)⟩)
   .simp only[if_neg h] at q;exact q.elim
  |_=>exact q.elim
 |lst ds =>
  cases y with
  |lst es =>
   by_cases h:ds.length+es.length<=line
   .simp only[if_pos h] at q
    obtain⟨l,vs,rfl,h1,h2⟩:=aG.mp r1;obtain⟨m,us,rfl,k1,k2⟩:=aG.mp r2;refine .inr (.inr (.inl ⟨l,m,vs,us,rfl,rfl,aC.sqL hs h1,aC.sqL hs k1,by rw[←h2.length,←k2.length];exact cO h,λp hp=>?_⟩));exact q _ _ _ (bu hs hp) (aG.mpr ⟨p,_,rfl,eZ.of aI,(h2.app k2).mono (bu hs hp).z⟩)
   .simp only[if_neg h] at q;exact q.elim
  |_=>exact q.elim
 |tup ds =>
  cases y with
  |tup es =>
   by_cases h:ds.isEmpty=false/\ds.length+es.length<=line
   .simp only[if_pos h] at q
    obtain⟨l,vs,rfl,h1,h2⟩:=aP.mp r1;obtain⟨m,us,rfl,k1,k2⟩:=aP.mp r2;refine .inr (.inr (.inr ⟨l,m,vs,us,rfl,rfl,aC.sqT hs h1,aC.sqT hs k1,λz=>?_,by rw[←h2.length,←k2.length];exact cO h.2,λz=>?_,λz p hp=>?_⟩))
    .have:=h2.length
     rw[z] at this;have e:ds=[]:=List.length_eq_zero_iff.mp this;rw[e] at h;exact absurd h.1 (by decide)
    .have:=k2.length
     rw[z] at this;have e:es=[]:=List.length_eq_zero_iff.mp this;rw[e,List.append_nil] at q;exact bq hs q r1
    .exact q _ _ _ (bu hs hp) (aP.mpr ⟨p,_,rfl,jO.of aI,(h2.app k2).mono (bu hs hp).z⟩)
   .simp only[if_neg h] at q;exact q.elim
  |_=>exact q.elim
 |_=>exact q.elim) ha hb
theorem D4{l b:Expr}(ha:DM X He H0e a l fm)(hb:DM X He H0e a b gm):DM X He H0e a (.BinOp l .Mod b pos) (mB fm gm de):=G8 (E:=E0) zv (uI (λ_ _ h=>of_decide_eq_true h) λ_ _ _ _=>ri _) ha hb
theorem jB{l b:Expr}(ha:DM X He H0e a l fm)(hb:DM X He H0e a b gm)(hs:mH b:=by intro _ _;rfl):DM X He H0e a (.Subscript l b pos) (mB fm gm aN):=K3 (E:=E0) Dr GP ha hb hs
theorem L5{tgt iter elt:Expr}{scope:Scope}(N:List Str)(n:Nat)(fr:List Nat){src:Ev->List D->aj (List D×List D)}{tg:Ev->D->aj Ev}(hc:X.calm=true)(hi:MI X He H0e a tgt iter src)(hok:yW n tg)
  (blk:∀s H C fp pn,(∀He H0e,DG (cK X N scope s H C fp pn) E He H0e tgt tg)/\∀He H0e,DM (cK X N scope s H C fp pn) He H0e a elt fm)
  (hfr:yX X N n fr scope)(hcell:(scope.names.all λx=>!(x.2==.cell))=true)(hfree:(scope.names.all λx=>!(x.2==.free)||(X.env.scope.names.lookup x.1==some .cell))=true)(hkind:scope.kind=.function)
  (hnames:(scope.names.all λx=>!(x.2==.local)||(scope.names.lookup x.1==some .local))=true)
  (hs:∀x,foldedSetIterable iter X.env x=pure x:=by intro _;rfl):Mv X He H0e a (.ListComp elt [⟨tgt,iter,[],0⟩] scope pos) (nL n fr src tg fm):=by
 refine Ng (E:=E) N n fr hc hi hok blk hfr (λx hx z=>?_) (λx hx z=>?_) hkind (λx hx z=>?_) hs
 .have:=List.all_eq_true.mp hcell x hx
  rw[z] at this;simp at this
 .have:=List.all_eq_true.mp hfree x hx
  rw[z] at this;simpa using this
 .have:=List.all_eq_true.mp hnames x hx
  rw[z] at this;simpa using this
end
section
variable {X:Cx}{E:XK}{He H0e:Hp}{a:Addr}{st:Stmt}{e l b:Expr}{rest es:List Expr}{pos:Pos}{f:Ev->aj D}{fm gm:Ev->List D->aj (D×List D)}
noncomputable def Nh(g:Ev->List D->aj (D×List D)) (ρ:Ev) (p:D×List D):aj (D×List D):=match p.1 with
 |.bl b=>if b=true then .ok (.bl true,p.2) else g ρ p.2
 |_=>.stuck
noncomputable def Df(p:D×List D):aj (D×List D):=match p.1 with
 |.bl b=>.ok (.bl (!b),p.2)
 |_=>.stuck
noncomputable def Dg(f:Ev->List D->aj (D×List D)):Ev->List D->aj (D×List D):=λρ st=>(f ρ st).bind Df
theorem F3(ha:Ex X He H0e a l fm):Ex X He H0e a (.UnaryOp .Not l pos) (Dg fm):=by
 refine⟨?_⟩;refine fk (CH ha.o) λσ H Q ⟨Ha,ρ,st,vs,h,q⟩=>⟨Ha,ρ,st,vs,h,?_⟩
 unfold Dg at q;cases e1:fm ρ st with
 |stuck|exn x=>rw[e1] at q;exact q
 |ok p =>
  obtain⟨d,st'⟩:=p;rw[e1] at q;cases d with|bl c=>exact λH1 H01 us z h1=>q H1 H01 us z h1| _=>exact q.elim
end
noncomputable def AB(x:D):aj D:=match x with
 |.dic ks _=>.ok (.int ks.length)
 |x=>dE x
section
variable {X:Cx}{E:XK}
noncomputable abbrev GI(K:W.Frag):List V->Hp->VK->Prop:=λxs H Q=>(∃x n,xs=[x]/\Jw K x H n/\Q (.int n) H)∨∃a kvs,xs=[V.ref a]/\Rd H a (.dK kvs)/\Q (.int kvs.length) H
theorem BJ:jo X (.builtin "len") (GI X.K):=by
 intro pins s σ H xs us Q I r h;rcases h with h|⟨a,kvs,rfl,hd,q⟩
 .exact cc pins s σ H xs us Q I r h
 .obtain⟨u,rfl,rx⟩:=sJ r
  cases rx;exact K7 I hd λt s' I'=>⟨.int kvs.length,H,I',⟨t,rfl⟩,q⟩
theorem Gh:gR X E (GI X.K) (m1 AB):=xD λx v H Ha Q hs r q=>by
 cases x with
 |dic ks ds =>
  rw[Rep] at r;obtain⟨a,kvs,vs,rfl,h1,rfl,h3,h4⟩:=r;refine .inr ⟨a,(ks.map Sum.inr).zip vs,rfl,aC.rd hs h1,?_⟩;rw[List.length_zip,List.length_map,←h3,Nat.min_self];exact bq hs q (ri _)
 |lst ds =>
  obtain⟨p,vs,rfl,h1,h2⟩:=aG.mp r;refine .inl ⟨_,vs.length,rfl,.inl ⟨vs,aC.sqL hs h1,rfl⟩,?_⟩;rw[←h2.length];exact bq hs q (ri _)
 |tup ds =>
  obtain⟨p,vs,rfl,h1,h2⟩:=aP.mp r;refine .inl ⟨_,vs.length,rfl,.inr ⟨vs,aC.sqT hs h1,rfl⟩,?_⟩;rw[←h2.length];exact bq hs q (ri _)
 |str z =>
  unfold AB dE at q
  by_cases hz:z.length<=line
  .simp only[if_pos hz] at q
   rw[Rep.str_iff.mp r];exact .inl ⟨_,z.length,rfl,⟨cO hz,rfl⟩,bq hs q (ri _)⟩
  .simp only[if_neg hz] at q;exact q.elim
 |_=>exact q.elim
end
noncomputable def kJ:List Str->List D->Str->Option D
 |k::ks,d::ds,x=>if k=x then some d else kJ ks ds x
 |_,_,_=>none
noncomputable def bV(x y:D):aj D:=match x,y with
 |.dic ks ds,.str k=>match kJ ks ds k with
  |some d=>.ok d
  |none=>.stuck
 |_,_=>.stuck
noncomputable def jN(x y:D):aj D:=match x,y with
 |.str k,.dic ks ds=>.ok (.bl (kJ ks ds k).isSome)
 |_,_=>.stuck
noncomputable def eG(x y:D):aj D:=match x,y with
 |.str k,.dic ks ds=>.ok (.bl (!(kJ ks ds k).isSome))
 |_,_=>.stuck
theorem ve{K:W.Frag}{H:Hp}{k:Str}:∀{ks:List Str}{ds:List D}{vs:List V},ks.length=vs.length->Reps K H ds vs ->
  (∀d,kJ ks ds k=some d->∃v,n6 ((ks.map Sum.inr).zip vs) (Sum.inr k:dM)=some v/\Rep K H d v)/\(kJ ks ds k=none->n6 ((ks.map Sum.inr).zip vs) (Sum.inr k:dM)=none)
 |[],ds,vs,hl,r=>by
  exact⟨λd e=>(nomatch e),λ_=>rfl⟩
 |x::ks,ds,vs,hl,r=>by
  cases vs with
  |nil=>cases hl
  |cons v vs =>
   cases ds with
   |nil=>have:=Reps.nil_iff.mp r;cases this
   |cons d ds =>
    obtain⟨v',vr,e0,h1,h2⟩:=aJ.mp r;cases e0;obtain⟨i1,i2⟩:=ve (k:=k) (ks:=ks) (ds:=ds) (vs:=vs) (by simpa using hl) h2;rw[List.map_cons,List.zip_cons_cons]
    by_cases hx:x=k
    .subst hx
     refine⟨λd' e=>?_,λe=>?_⟩
     .rw[kJ,if_pos rfl] at e;cases e
      exact⟨v,kL rfl,h1⟩
     .rw[kJ,if_pos rfl] at e;cases e
    .have hne:¬(Sum.inr x:dM)=Sum.inr k:=λz=>hx (Sum.inr.inj z)
     refine⟨λd' e=>?_,λe=>?_⟩
     .rw[kJ,if_neg hx] at e
      rw[iK hne];exact i1 d' e
     .rw[kJ,if_neg hx] at e
      rw[iK hne];exact i2 e
section
variable {X:Cx}{E:XK}{a b:Expr}{f g:Ev->aj D}{pos:Pos}
noncomputable abbrev J9:R2:=λx y H Q=>∃p v,x=.ref p/\vj H p y (some v)/\Q v H
noncomputable abbrev J8:R2:=λy x H Q=>∃p o,x=.ref p/\vj H p y o/\Q (.bl o.isSome) H
noncomputable abbrev zf:R2:=λy x H Q=>∃p o,x=.ref p/\vj H p y o/\Q (.bl (!o.isSome)) H
theorem FA:rZ X.K E J9 bV:=by
 intro x y v u H Ha Q hs r1 r2 q;unfold bV at q;cases x with
 |dic ks ds =>
  cases y with
  |str k =>
   rw[Rep] at r1;obtain⟨p,kvs,vs,rfl,h1,rfl,hl,h4⟩:=r1;rw[Rep.str_iff.mp r2];cases e:kJ ks ds k with
   |none=>simp only[e] at q;exact q.elim
   |some d =>
    simp only[e] at q;obtain⟨v,hv,rv⟩:=(ve hl h4).1 d e;exact⟨p,v,rfl,.inl ⟨_,.inr k,aC.rd hs h1,rfl,hv.symm⟩,bq hs q rv⟩
  |_=>exact q.elim
 |_=>exact q.elim
theorem zS{k:Str}{ks:List Str}{ds:List D}{v u:V}{H Ha:Hp}{K:W.Frag}(hs:aC Ha H)(r1:Rep K Ha (.str k) v)(r2:Rep K Ha (.dic ks ds) u):∃p o,u=.ref p/\vj H p v o/\o.isSome=(kJ ks ds k).isSome:=by
 rw[Rep] at r2;obtain⟨p,kvs,vs,rfl,h1,rfl,hl,h4⟩:=r2;rw[Rep.str_iff.mp r1];refine⟨p,_,rfl,.inl ⟨_,.inr k,aC.rd hs h1,rfl,rfl⟩,?_⟩;cases e:kJ ks ds k with|none=>rw[(ve hl h4).2 e];rfl|some d=>obtain⟨v,hv,_⟩:=(ve hl h4).1 d e;rw[hv];rfl
theorem pL:rZ X.K E J8 jN:=by
 intro x y v u H Ha Q hs r1 r2 q;unfold jN at q;cases x with
 |str k =>
  cases y with
  |dic ks ds =>
   obtain⟨p,o,e1,e2,e3⟩:=zS hs r1 r2;exact⟨p,o,e1,e2,by rw[e3];exact bq hs q (rb _)⟩
  |_=>exact q.elim
 |_=>exact q.elim
theorem m8:rZ X.K E zf eG:=by
 intro x y v u H Ha Q hs r1 r2 q;unfold eG at q;cases x with
 |str k =>
  cases y with
  |dic ks ds =>
   obtain⟨p,o,e1,e2,e3⟩:=zS hs r1 r2;exact⟨p,o,e1,e2,by rw[e3];exact bq hs q (rb _)⟩
  |_=>exact q.elim
 |_=>exact q.elim
theorem pD(hu:X.A.units+1<cLine):ez X (compareOp .In) J8:=by
 intro pins s σ H x y v u Q I rx ry h;obtain⟨p,o,rfl,g,q⟩:=h;cases ry;exact Mg hu I g rx λs' I'=>⟨.bl o.isSome,H,I',rfl,q⟩
theorem m4(hu:X.A.units+1<cLine):ez X (compareOp .NotIn) zf:=by
 intro pins s σ H x y v u Q I rx ry h;obtain⟨p,o,rfl,g,q⟩:=h;cases ry;exact Ga hu I g rx λs' I'=>⟨.bl (!o.isSome),H,I',rfl,q⟩
theorem c4(hu:X.A.units+1<cLine)(ha:DE X E a f)(hb:DE X E b g)(hs:Jt b:=by intro _ _;rfl):DE X E (.Subscript a b pos) (aa f g bV) :=
 ⟨aZ (Fs hu ha.o hb.o hs) (gF FA)⟩
end
section
variable {K:W.Frag}{E:XK}{He H0e Ha H H1:Hp}{σ:L2.St}{ρ:Ev}
theorem dH.putOwnG(h:dH K He H0e Ha σ H ρ){i:Nat}{dn:D}{p:Addr}(hp:∀(j:Nat) (a:Addr),σ[j]?=some (some (V.ref a))->a=p->∀d:D,ρ[j]?≠some (Sl.ow d))(he:He p=none)(h0:Ha p=none)(ho:Gu K Ha H p dn)(hx:∀(i j:Nat) (ds:List D) (a q:Addr),ρ[i]?=some (.ox j ds)->σ[i]?=some (some (.ref a))->Lb K He Ha H a j ds q->p≠q) :
  dH K He H0e Ha (σ.set i (some (.ref p))) H (ρ.set i (.ow dn)):=by
 have key:∀(j:Nat) (s:Sl),(ρ.set i (.ow dn))[j]?=some s->(j=i/\s=.ow dn/\i<σ.length)∨(j≠i/\ρ[j]?=some s):=λj s e=>by
  by_cases hj:i=j
  .subst hj
   rw[List.getElem?_set_self'] at e;cases q:ρ[i]? with
   |none=>rw[q] at e;cases e
   |some s' =>
    rw[q] at e;cases e;refine .inl ⟨rfl,rfl,?_⟩;rw[←h.ln];exact(List.getElem?_eq_some_iff.mp q).1
  .rw[List.getElem?_set_ne hj] at e
   exact .inr ⟨λz=>hj z.symm,e⟩
 have other:∀(k:Nat) (d2:D),k≠i->ρ[k]?=some (.ow d2)->some (some (V.ref p))≠σ[k]?:=λk d2 hk e2 z=>by
  obtain⟨a,h1,_⟩:=h.ow k d2 e2;rw[h1] at z;cases z;exact hp k p h1 rfl d2 e2
 refine⟨h.g,λj d' e=>?_,λj d' e=>?_,λj k d1 d2 hn e1 e2=>?_,by simp [h.ln],h.ex.upd (λj s e=>?_) (aC.refl _) (λa vs _ e=>e) λp us _ h0 hp _=>⟨hp,h0⟩⟩
 rotate_left 3
 .rcases key j _ e with⟨rfl,e',hl⟩|⟨hj,e'⟩
  .exact .inr (.inr (.inr ⟨dn,p,e',by rw[List.getElem?_set_self hl],hx⟩))
  .exact .inl ⟨e',by rw[List.getElem?_set_ne (Ne.symm hj)]⟩
 .rcases key j _ e with⟨rfl,e',hl⟩|⟨hj,e'⟩
  .cases e'
  .obtain⟨v',h1,h2⟩:=h.rd j d' e'
   exact⟨v',by rw[List.getElem?_set_ne (Ne.symm hj)];exact h1,h2⟩
 .rcases key j _ e with⟨rfl,e',hl⟩|⟨hj,e'⟩
  .cases e'
   exact⟨p,by rw[List.getElem?_set_self hl],he,h0,ho⟩
  .obtain⟨a,h1,h2⟩:=h.ow j d' e'
   exact⟨a,by rw[List.getElem?_set_ne (Ne.symm hj)];exact h1,h2⟩
 .rcases key j _ e1 with⟨rfl,_,hl⟩|⟨hj,e1'⟩
  .rcases key k _ e2 with⟨rfl,_,_⟩|⟨hk,e2'⟩
   .exact absurd rfl hn
   .rw[List.getElem?_set_self hl,List.getElem?_set_ne (Ne.symm hk)]
    exact other k d2 hk e2'
  .rcases key k _ e2 with⟨rfl,_,hl⟩|⟨hk,e2'⟩
   .rw[List.getElem?_set_self hl,List.getElem?_set_ne (Ne.symm hj)]
    exact λz=>other j d1 hj e1' z.symm
   .rw[List.getElem?_set_ne (Ne.symm hj),List.getElem?_set_ne (Ne.symm hk)]
    exact h.ap j k d1 d2 hn e1' e2'
theorem dH.writeG(h:dH K He H0e Ha σ H ρ){i:Nat}{d:D}{p:Addr}{dn:D}{o:HO}(e:ρ[i]?=some (.ow d))(es:σ[i]?=some (some (.ref p)))(ho:Gu K Ha (upd H p o) p dn) :
  dH K He H0e Ha σ (upd H p o) (ρ.set i (.ow dn)):=by
 obtain⟨a,h1,h2,h3,h4⟩:=h.ow i d e;rw[h1] at es;cases es;have hil:i<ρ.length:=(List.getElem?_eq_some_iff.mp e).1;have key:∀(j:Nat) (s:Sl),(ρ.set i (.ow dn))[j]?=some s->(j=i/\s=.ow dn)∨(j≠i/\ρ[j]?=some s):=λj s e=>by
  by_cases hj:i=j
  .subst hj
   rw[List.getElem?_set_self hil] at e;cases e;exact .inl ⟨rfl,rfl⟩
  .rw[List.getElem?_set_ne hj] at e
   exact .inr ⟨λz=>hj z.symm,e⟩
 refine⟨⟨λb o' eb=>?_,h.g.z,λb o' eb=>?_,h.g.nw⟩,λj d' e'=>?_,λj d' e'=>?_,λj k d1 d2 hn e1 e2=>?_,by simp [h.ln],h.ex.upd (λj s e'=>?_) (aC.refl _) (λb us _ eb=>?_) λq us _ q0 hq hd=>?_⟩
 rotate_left 5
 .rcases key j _ e' with⟨rfl,e''⟩|⟨hj,e''⟩
  .exact .inr (.inr (.inr ⟨dn,p,e'',h1,λi' j' ds' a' p' x1 x2 x3=>by
    obtain⟨a2,p2,y1,y2,y3,_⟩:=h.ex.1 i' j' ds' x1;rw[x2] at y1;cases y1;have:p2=p':=by
     obtain⟨vs1,_,_,_,z1,_,_,_,z2,_⟩:=x3;obtain⟨vs2,_,_,_,z3,_,_,_,z4,_⟩:=y2;rw[z1] at z3;cases z3;rw[z2] at z4;cases z4;rfl
    subst this;intro zz;subst zz;exact y3 j d e h1⟩))
  .exact .inl ⟨e'',rfl⟩
 .rw[aA (by
   intro z;subst z;cases d with
   |lst ds'|dic ks ds'=>obtain⟨vs',h5,_⟩:=h4;rw[h5] at eb;cases eb
   |_=>exact h4)];exact eb
 .have hq':q≠p:=by
   intro z;subst z;exact hd i d e h1
  exact⟨by rw[aA hq'];exact hq,q0⟩
 .rw[aA (by intro z;subst z;rw[h2] at eb;cases eb)];exact h.g.s _ _ eb
 .rw[aA (by intro z;subst z;rw[h3] at eb;cases eb)];exact h.g.sub _ _ eb
 .rcases key j _ e' with⟨rfl,e''⟩|⟨hj,e''⟩
  .cases e''
  .exact h.rd j d' e''
 .rcases key j _ e' with⟨rfl,e''⟩|⟨hj,e''⟩
  .cases e''
   exact⟨p,h1,h2,h3,ho⟩
  .obtain⟨b,k1,k2,k3,k4⟩:=h.ow j d' e''
   refine⟨b,k1,k2,k3,?_⟩;have hb:b≠p:=by
    intro z;subst z;exact h.ap j i d' d hj e'' e (by rw[k1,h1])
   cases d' with
   |lst ds' =>
    obtain⟨vs',h5,h6⟩:=k4;exact⟨vs',by rw[aA hb];exact h5,h6⟩
   |dic ks ds' =>
    obtain⟨vs',h5,hl,h6⟩:=k4;exact⟨vs',by rw[aA hb];exact h5,hl,h6⟩
   |_=>exact k4.elim
 .rcases key j _ e1 with⟨rfl,e1'⟩|⟨hj,e1'⟩
  .rcases key k _ e2 with⟨rfl,_⟩|⟨hk,e2'⟩
   .exact absurd rfl hn
   .exact h.ap j k d d2 hn e e2'
  .rcases key k _ e2 with⟨rfl,_⟩|⟨hk,e2'⟩
   .exact h.ap j k d1 d hn e1' e
   .exact h.ap j k d1 d2 hn e1' e2'
end
noncomputable def pq:List Str->List D->Str->D->List D
 |k::ks,e::ds,x,d=>(if k=x then d else e)::pq ks ds x d
 |_,ds,_,_=>ds
noncomputable def jK(ks:List Str) (ds:List D) (k:Str) (d:D):D:=if k∈ks then .dic ks (pq ks ds k d) else .dic (ks++[k]) (ds++[d])
theorem AF{k:Str}:∀{ks:List Str}{vs:List V},ks.length=vs.length->(((ks.map Sum.inr).zip vs).any λkv=>decide (kv.1=(Sum.inr k:dM)))=decide (k∈ks)
 |[],_,_=>rfl
 |x::ks,[],h=>nomatch h
 |x::ks,v::vs,h=>by
  rw[List.map_cons,List.zip_cons_cons,List.any_cons,AF (by simpa using h)]
  by_cases hx:x=k
  .subst hx;simp
  .have:¬k=x:=λz=>hx z.symm
   simp [hx,this]
theorem zd{K:W.Frag}{H:Hp}{k:Str}{d:D}{v:V}(r:Rep K H d v):∀{ks:List Str}{ds:List D}{vs:List V},ks.length=vs.length->Reps K H ds vs ->
  ∃vs',(((ks.map Sum.inr).zip vs).map λkv=>if kv.1=(Sum.inr k:dM) then(kv.1,v) else kv)=(ks.map Sum.inr).zip vs'/\ks.length=vs'.length/\Reps K H (pq ks ds k d) vs'
 |[],ds,vs,hl,h=>⟨vs,rfl,hl,by cases ds<;>exact h⟩
 |x::ks,ds,[],hl,h=>nomatch hl
 |x::ks,[],v'::vs,hl,h=>by have:=Reps.nil_iff.mp h;cases this
 |x::ks,e::ds,v'::vs,hl,h=>by
  obtain⟨v2,vr,e0,h1,h2⟩:=aJ.mp h;cases e0;obtain⟨vs',i1,i2,i3⟩:=zd r (ks:=ks) (ds:=ds) (vs:=vs) (by simpa using hl) h2;rw[List.map_cons,List.zip_cons_cons,List.map_cons,i1]
  by_cases hx:x=k
  .subst hx
   refine⟨v::vs',by rw[if_pos rfl];rfl,by simp [i2],?_⟩;rw[pq,if_pos rfl];exact Reps.cons r i3
  .have hne:¬(Sum.inr x:dM)=Sum.inr k:=λz=>hx (Sum.inr.inj z)
   refine⟨v'::vs',by rw[if_neg hne];rfl,by simp [i2],?_⟩;rw[pq,if_neg hx];exact Reps.cons h1 i3
theorem Reps.snoc{K:W.Frag}{H:Hp}{d:D}{v:V}(r:Rep K H d v):∀{ds:List D}{vs:List V},Reps K H ds vs->Reps K H (ds++[d]) (vs++[v])
 |[],vs,h=>by rw[Reps.nil_iff.mp h];exact Reps.cons r Reps.nil
 |e::ds,vs,h=>by
  obtain⟨v2,vr,rfl,h1,h2⟩:=aJ.mp h;exact Reps.cons h1 (Reps.snoc r h2)
theorem zi{K:W.Frag}{Ha H:Hp}{k:Str}{d:D}{v:V}{ks:List Str}{ds:List D}{vs:List V}{p:Addr}(hl:ks.length=vs.length)(h:Reps K Ha ds vs)(r:Rep K Ha d v):Gu K Ha (upd H p (.dK (gG ((ks.map Sum.inr).zip vs) (Sum.inr k) v))) p (jK ks ds k d):=by
 unfold jK;rw[show ∀(kvs:List (dM×V)) (u:V),gG kvs (Sum.inr k:dM) u=if(kvs.any λkv=>decide (kv.1=(Sum.inr k:dM)))=true then kvs.map (λkv=>if kv.1=(Sum.inr k:dM) then(kv.1,u) else kv) else kvs++[((Sum.inr k:dM),u)] from λ_ _=>rfl];rw[AF hl]
 by_cases hk:k∈ks
 .rw[if_pos hk,if_pos (decide_eq_true hk)]
  obtain⟨vs',i1,i2,i3⟩:=zd (k:=k) r hl h;exact⟨vs',by rw[aI,i1],i2,i3⟩
 .rw[if_neg hk,if_neg (by rw[decide_eq_false hk];decide)]
  refine⟨vs++[v],by rw[aI,List.map_append,List.zip_append (by rw[List.length_map];exact hl)];rfl,by simp [hl],Reps.snoc r h⟩
noncomputable def Na(K:W.Frag) (E:XK) (f:Ev->aj D):TE:=λσ H Q=>∃Ha ρ,aC Ha H/\dX K Ha σ ρ/\match f ρ with
 |.ok (.dic ks ds)=>∀p vs H' Ha',bf H Ha H' Ha'->H p=none->Ha' p=none->H' p=some (.dK ((ks.map Sum.inr).zip vs))->ks.length=vs.length->Reps K Ha' ds vs->Q (.ref p) H'
 |.ok _=>False
 |.exn x=>∀C ox H' Ha',bf H Ha H' Ha'->AM K Ha' x C ox->E C ox H'
 |.stuck=>False
structure My (X:Cx) (E:XK) (e:Expr) (f:Ev->aj D):Prop where
 o:PE X e (Na X.K E f)
noncomputable def zt(i:Nat) (ρ:Ev) (d:D):aj Fl:=match d with
 |.dic ks ds=>.ok (.nx (ρ.set i (.ow (.dic ks ds))))
 |_=>.stuck
noncomputable def pd(i:Nat) (f:Ev->aj D):Ev->aj Fl:=λρ=>(f ρ).bind (zt i ρ)
section
variable {X:Cx}{E:XK}{He H0e:Hp}{e b:Expr}{pos:Pos}{f k:Ev->aj D}
theorem oO{i:Nat}{x:Str}{pos':Pos}(hN:X.N.Nodup)(hi:X.N[i]?=some x)(hx:BR X.env.scope x)(he:My X E e f)(hs:swapsWith e (some (.Name x pos')) pos.line X.env=pure false:=by rfl)
  (hf:X.fn x=true∨X.env.scope.names.lookup x=some .local := by first|exact .inl rfl|exact .inr rfl|assumption):DS X E He H0e (.Assign [.Name x pos'] e pos) (pd i f):=by
 refine⟨?_⟩;refine bH (mY hN hi hx he.o hs hf) λD σ H ⟨Ha,ρ,h,q⟩=>⟨Ha,ρ,h.g.sub,h.rd,?_⟩
 unfold pd at q;cases e1:f ρ with
 |stuck=>rw[e1] at q;exact q|exn x=>rw[e1] at q;exact λC ox H' Ha' g ex=>q C ox H' Ha' (h.g.trans g) ex
 |ok d =>
  rw[e1] at q;cases d with
  |dic ks ds =>
   intro p vs H' Ha' g hp h0 hv hl rp;refine q _ H' Ha' g.z ((h.grow g).putOwnG (dn:=.dic ks ds) (λj a ej ea d ed=>?_) (h.g.s.free hp) h0 ⟨vs,hv,hl,rp⟩ (h.fresh_x g.s hp));subst ea;obtain⟨a',k1,_,_,k4⟩:=h.ow j d ed;rw[ej] at k1;cases k1;cases d with|lst ds'|dic ks ds'=>obtain⟨vs',h5,_⟩:=k4;rw[hp] at h5;cases h5| _=>exact k4.elim
  |_=>exact q.elim
theorem AA:My X E (.Dict [] [] pos) (dC (.dic [] [])):=by
 refine⟨aZ CU λσ H Q ⟨Ha,ρ,hs,hr,q⟩=>λp hp=>?_⟩;have q:∀p vs H' Ha',bf H Ha H' Ha'->H p=none->Ha' p=none->H' p=some (.dK ((([]:List Str).map Sum.inr).zip vs))->([]:List Str).length=vs.length->Reps X.K Ha' [] vs->Q (.ref p) H':=q;have h0:Ha p=none:=hs.free hp;refine q p [] _ Ha ⟨λb o q=>by rw[aA (bC q hp)];exact q,aC.refl _,λb o q=>?_,λa h1 h2=>absurd h2 h1⟩ hp h0 aI rfl Reps.nil;rw[aA (by intro z;subst z;rw[h0] at q;cases q)];exact hs _ _ q
end
noncomputable def D8(k d:D):aj D:=match k with
 |.str x=>.ok (.dic [x] [d])
 |_=>.stuck
noncomputable def xv(kf vf:Ev->aj D):Ev->aj D:=aa kf vf D8
noncomputable def yi(ρ:Ev) (i:Nat) (k:List Str->List D->aj Fl):aj Fl:=match ρ[i]? with
 |some (.ow (.dic ks ds))=>k ks ds
 |_=>.stuck
noncomputable def kS(i:Nat) (ρ:Ev) (ks:List Str) (ds:List D) (d j:D):aj Fl:=match j with
 |.str x=>if ks.length<line then .ok (.nx (ρ.set i (.ow (jK ks ds x d)))) else .stuck
 |_=>.stuck
noncomputable def iA(i:Nat) (f k:Ev->aj D):Ev->aj Fl:=λρ=>yi ρ i λks ds=>(f ρ).bind λd=>(k ρ).bind (kS i ρ ks ds d)
section
variable {X:Cx}{E:XK}{He H0e:Hp}{e b:Expr}{pos:Pos}{f k:Ev->aj D}
theorem tL(hk:DE X E b k)(hv:DE X E e f):My X E (.Dict [some b] [e] pos) (xv k f):=by
 refine⟨?_⟩;refine aZ (Fq (CM hk.o hv.o Fg) rfl rfl (by simp) (by simp)) λσ H Q ⟨Ha,ρ,hs,hr,q⟩ p hpn=>?_;have h0:Ha p=none:=hs.free hpn;have hs2:aC Ha (upd H p (.dK [])):=λb o e=>by rw[aA (by intro z;subst z;rw[h0] at e;cases e)];exact hs _ _ e
 have back:∀{H' Ha':Hp},bf (upd H p (.dK [])) Ha H' Ha'->bf H Ha H' Ha':=λg=>⟨λb o e=>g.s _ _ (by rw[aA (bC e hpn)];exact e),g.z,g.sub,λa k1 k2=>by
   have:=g.nw a k1 k2
   by_cases ha:a=p
   .subst ha;exact hpn
   .rw[aA ha] at this;exact this⟩
 refine⟨Ha,ρ,hs2,hr,?_⟩;unfold xv aa at q;cases e1:k ρ with
 |stuck=>rw[e1] at q;exact q|exn z=>rw[e1] at q;exact λC ox H' Ha' g ex=>q C ox H' Ha' (back g) ex
 |ok kd =>
  rw[e1] at q;intro xk H1 H01 g1 r1;refine⟨H01,ρ,g1.sub,hr.mono g1.z,?_⟩;cases e2:f ρ with
  |stuck=>rw[e2] at q;exact q|exn z=>rw[e2] at q;exact λC ox H' Ha' g ex=>q C ox H' Ha' (back (g1.trans g)) ex
  |ok d =>
   rw[e2] at q;intro v H2 H02 g2 r2;cases kd with
   |str x =>
    have G:=g1.trans g2;have hp2:H2 p=some (.dK []):=G.s _ _ aI;have n02:H02 p=none:=by
     cases qq:H02 p with|none=>rfl|some o=>have:=G.nw p (by rw[qq];simp) h0;rw[aI] at this;cases this
    rw[Rep.str_iff.mp r1];refine⟨hp2,[(Sum.inr x,v)],rfl,by simp,?_⟩;have q:∀p vs H' Ha',bf H Ha H' Ha'->H p=none->Ha' p=none->H' p=some (.dK (([x].map Sum.inr).zip vs))->[x].length=vs.length->Reps X.K Ha' [d] vs->Q (.ref p) H':=q;refine q p [v] _ H02 ⟨λb o e=>?_,G.z,λb o e=>?_,(back G).nw⟩ hpn n02 aI rfl (Reps.cons r2 Reps.nil)
    .rw[aA (bC e hpn)];exact(back G).s _ _ e
    .rw[aA (by intro z;subst z;rw[n02] at e;cases e)];exact G.sub _ _ e
   |_=>exact q.elim
theorem A9{K:W.Frag}{Ha H:Hp}{σ:L2.St}{ρ:Ev}{i:Nat}{k:List Str->List D->aj Fl}{D':e7}(h:dH K He H0e Ha σ H ρ)(q:bW K E He H0e Ha (yi ρ i k) D') :
  ∃ks ds p vs,ρ[i]?=some (.ow (.dic ks ds))/\σ[i]?=some (some (.ref p))/\H p=some (.dK ((ks.map Sum.inr).zip vs))/\ks.length=vs.length/\Reps K Ha ds vs/\bW K E He H0e Ha (k ks ds) D':=by
 unfold yi at q;cases e:ρ[i]? with
 |none=>rw[e] at q;exact q.elim
 |some s =>
  rw[e] at q;cases s with
  |no|sh d|ox j ds|pt a=>exact q.elim
  |ow d =>
   cases d with
   |dic ks ds =>
    obtain⟨p,h1,h2,h3,vs,h4,h5,h6⟩:=h.ow i _ e;exact⟨ks,ds,p,vs,rfl,h1,h4,h5,h6,q⟩
   |_=>exact q.elim
theorem CD{K:W.Frag}{Ha H:Hp}{σ:L2.St}{ρ:Ev}{i:Nat}{D':e7}{ks:List Str}{ds:List D}{d j:D}{p:Addr}{vs:List V}{v u:V}(h:dH K He H0e Ha σ H ρ)(e1:ρ[i]?=some (.ow (.dic ks ds)))(e2:σ[i]?=some (some (.ref p)))(e5:H p=some (.dK ((ks.map Sum.inr).zip vs)))(el:ks.length=vs.length)(e6:Reps K Ha ds vs)
  (rp:Rep K Ha d v)(rj:Rep K Ha j u)(q:bW K E He H0e Ha (kS i ρ ks ds d j) D'):∃a H4,V.ref p=.ref a/\yY H a u v H4/\D'.nx σ H4:=by
 unfold kS at q;cases j with
 |str x =>
  by_cases hl:ks.length<line
  .simp only[if_pos hl] at q
   rw[Rep.str_iff.mp rj];refine⟨p,_,rfl,yY.k (k:=.inr x) e5 ?_,?_⟩
   .rw[List.length_zip,List.length_map,←el,Nat.min_self]
    have:line<=sizeLine:=cO (Nat.le_refl _);omega
   .exact q σ _ Ha (aC.refl _) (h.writeG e1 e2 (zi el e6 rp))
  .simp only[if_neg hl] at q;exact q.elim
 |_=>exact q.elim
theorem mr{i:Nat}{x:Str}{p1 p2:Pos}(hu:X.A.units+1<cLine)(hN:X.N[i]?=some x)(hv:BO X.env.scope x)(he:DE X E e f)(hk:DE X E b k)
  (hd:(x==("__debug__":Str))=false:=by decide)(hcd:(x==("__classdict__":Str))=false:=by decide)
  (hs:swapsWith e (some (.Subscript (.Name x p1) b p2)) pos.line X.env=pure false:=by rfl):DS X E He H0e (.Assign [.Subscript (.Name x p1) b p2] e pos) (iA i f k):=by
 refine⟨?_⟩;refine bH (zk hu (gX hN hv hd hcd) hk.o he.o hs) λD σ H ⟨Ha,ρ,h,q⟩=>⟨Ha,ρ,h.g.sub,h.rd,?_⟩
 obtain⟨ks,ds,p,vs,e1,e2,e5,el,e6,q⟩:=A9 h q;refine plain (k:=λd=>(k ρ).bind (kS i ρ ks ds d)) h q λd v H1 H01 _ g1 r1 q1=>⟨.ref p,e2,?_⟩
 have h1':=h.grow g1;refine⟨H01,ρ,h1'.g.sub,h1'.rd,plain (k:=kS i ρ ks ds d) h1' q1 λj u H2 H02 _ g2 r2 q2=>?_⟩;exact CD (h1'.grow g2) e1 e2 (g2.s _ _ (g1.s _ _ e5)) el ((e6.mono g1.z).mono g2.z) (r1.mono g2.z) r2 q2
end
mutual
def nd:D->Bool
 |.lst ds=>nds ds
 |.tup ds=>nds ds
 |.dic _ _=>false
 |.exc _=>false
 |.ob _ _=>false
 |_=>true
def nds:List D->Bool
 |[]=>true
 |d::ds=>nd d&&nds ds
end
mutual
theorem Rep.nd_to{K:W.Frag}{H H':Hp}(et:∀a vs,Rd H a (.tup vs)->Rd H' a (.tup vs))(el:∀a vs,Rd H a (.lst vs)->Rd H' a (.lst vs)):∀{d:D}{v:V},nd d=true->Rep K H d v->Rep K H' d v
 |.non,_,_,h=>by unfold Rep at h ⊢;exact h
 |.bl _,_,_,h=>by unfold Rep at h ⊢;exact h
 |.int _,_,_,h=>by unfold Rep at h ⊢;exact h
 |.str _,_,_,h=>by unfold Rep at h ⊢;exact h
 |.tup ds,_,f,h=>by
  unfold nd at f;obtain⟨a,vs,e1,e2,e3⟩:=aP.mp h;refine aP.mpr ⟨a,vs,e1,?_,Reps.nd_to et el f e3⟩;rcases e2 with e2|e2
  .exact .inl (et _ _ e2)
  .exact .inr e2
 |.lst ds,_,f,h=>by
  unfold nd at f;obtain⟨a,vs,e1,e2,e3⟩:=aG.mp h;refine aG.mpr ⟨a,vs,e1,?_,Reps.nd_to et el f e3⟩;rcases e2 with e2|e2
  .exact .inl (el _ _ e2)
  .exact .inr e2
 |.dic ks ds,_,f,h=>by unfold nd at f;cases f
 |.exc x,_,f,h=>by unfold nd at f;cases f
 |.ob k ds,_,f,h=>by unfold nd at f;cases f
theorem Reps.nd_to{K:W.Frag}{H H':Hp}(et:∀a vs,Rd H a (.tup vs)->Rd H' a (.tup vs))(el:∀a vs,Rd H a (.lst vs)->Rd H' a (.lst vs)):∀{ds:List D}{vs:List V},nds ds=true->Reps K H ds vs->Reps K H' ds vs
 |[],_,_,h=>by unfold Reps at h ⊢;exact h
 |d::ds,_,f,h=>by
  unfold nds at f;rw[Bool.and_eq_true] at f;obtain⟨v,r,e1,e2,e3⟩:=aJ.mp h;exact aJ.mpr ⟨v,r,e1,Rep.nd_to et el f.1 e2,Reps.nd_to et el f.2 e3⟩
end
noncomputable def oq(Ha J:Hp):Hp:=λa=>match Ha a with
 |some o=>some o
 |none=>match J a with
  |some (.dK _)=>none
  |o=>o
noncomputable def pF(ρ:Ev):Bool:=ρ.all λs=>match s with
 |.ow (.lst _)=>false
 |.ox _ _=>false
 |.pt _=>false
 |_=>true
section
variable {K:W.Frag}{E:XK}{He H0e Ha H H1 J:Hp}{σ:L2.St}{ρ:Ev}
theorem Gq(h:aC Ha J):∀a o,oq Ha J a=some o->J a=some o:=λa o e=>by
 unfold oq at e;cases q:Ha a with
 |some u=>rw[q] at e;cases e;exact h _ _ q
 |none =>
  rw[q] at e;cases q2:J a with
  |none=>rw[q2] at e;cases e
  |some u=>rw[q2] at e;cases u<;>first|(cases e;rfl)|cases e
theorem AK(h:aC Ha J){a:Addr}{o:HO}(e:J a=some o)(hn:∀kvs,o≠.dK kvs):oq Ha J a=some o:=by
 unfold oq;cases q:Ha a with
 |some u=>have:=h _ _ q;rw[e] at this;cases this;rfl
 |none=>rw[e];cases o<;>first|rfl|exact absurd rfl (hn _)
theorem AJ(h:aC Ha J){u:HO}(hu:∀kvs,u≠.dK kvs)(a:Addr)(e:Rd J a u):Rd (oq Ha J) a u:=by
 rcases e with e|⟨o,e⟩
 .exact .inl (AK h e hu)
 .exact .inr ⟨o,AK h e λ_ z=>nomatch z⟩
theorem dH.behindS(h:dH K He H0e Ha σ H ρ)(ho:pF ρ=true)(g:bf H (frz He Ha H) H1 J):dH K He H0e (oq Ha J) σ H1 ρ:=by
 have hJ:aC Ha J:=h.frz_sub.trans g.z;have le:=Gq (Ha:=Ha) (J:=J) hJ;have z:aC Ha (oq Ha J):=λb o e=>by unfold oq;rw[e]
 have ok:∀(i:Nat) (s:Sl),ρ[i]?=some s->(match s with|.ow (.lst _)=>false|.ox _ _|.pt _=>false|_=>true)=true:=λi s e=>List.all_eq_true.mp ho s (List.mem_of_getElem? e);refine⟨⟨h.g.s.trans g.s,h.g.z.trans z,λb o e=>g.sub _ _ (le b o e),λa h1 h2=>?_⟩,h.rd.mono z,λi d e=>?_,h.ap,h.ln,OX.none (λi j ds e=>by have:=ok i _ e;cases this) (λi a e=>by have:=ok i _ e;cases this)⟩
 .cases q:oq Ha J a with
  |none=>exact absurd q h1
  |some o =>
   have hj:=le a o q;exact(h.frz_grow.trans g).nw a (by rw[hj];simp) h2
 .obtain⟨a,k1,k2,k3,k4⟩:=h.ow i d e
  cases d with
  |lst ds=>have:=ok i _ e;cases this
  |dic ks ds =>
   obtain⟨vs,h5,hl,h6⟩:=k4;refine⟨a,k1,k2,?_,vs,g.s _ _ h5,hl,h6.mono z⟩;have:frz He Ha H a=some (.dK ((ks.map Sum.inr).zip vs)):=by unfold frz;rw[k2];exact h5
   have:=g.z _ _ this;unfold oq;rw[k3,this]
  |_=>exact k4.elim
end
noncomputable def zb(i:Nat) (ρ:Ev) (d:D):aj Fl:=if nd d=true/\pF ρ=true then .ok (.nx (ρ.set i (.sh d))) else .stuck
noncomputable def pb(i:Nat) (f:Ev->aj D):Ev->aj Fl:=λρ=>(f (fX ρ)).bind (zb i ρ)
section
variable {X:Cx}{E:XK}{He H0e:Hp}{e b o:Expr}{pos apos cpos:Pos}{f k g:Ev->aj D}
theorem uY{i:Nat}{x:Str}{pos':Pos}(hN:X.N.Nodup)(hi:X.N[i]?=some x)(hx:BR X.env.scope x)(he:DE X E e f)(hs:swapsWith e (some (.Name x pos')) pos.line X.env=pure false:=by rfl)
  (hf:X.fn x=true∨X.env.scope.names.lookup x=some .local := by first|exact .inl rfl|exact .inr rfl|assumption):DS X E He H0e (.Assign [.Name x pos'] e pos) (pb i f):=by
 refine⟨?_⟩;refine bH (mY hN hi hx he.o hs hf) λD σ H ⟨Ha,ρ,h,q⟩=>⟨frz He Ha H,fX ρ,h.frz_le,h.looks,?_⟩
 refine look h q λd v H' J _ g rp q'=>?_;unfold zb at q'
 by_cases fl:nd d=true/\pF ρ=true
 .rw[if_pos fl] at q'
  have hJ:aC Ha J:=h.frz_sub.trans g.z;refine q' _ H' (oq Ha J) (λb o e=>by unfold oq;rw[e]) ((h.behindS fl.2 g).put (rp.nd_to (λa vs e=>AJ hJ (λ_ z=>by cases z) a e) (λa vs e=>AJ hJ (λ_ z=>by cases z) a e) fl.1))
 .rw[if_neg fl] at q';exact q'.elim
theorem kM{n:Nat}(h:n+64<cLine):n+1<cLine:=Nat.lt_of_le_of_lt (by omega) h
end
structure Rw where
 x:Str
 st:Stmt
 N:List Str
 n:Nat
noncomputable abbrev Rw.ps(r:Rw):List Str:=r.N.take r.n
instance {N P:List Str}{sc:Scope}:Decidable (gs N P sc) :=
 decidable_of_iff (sc.kind=.function/\sc.isCoroutine=false/\sc.isGenerator=false/\N.Nodup/\N.take P.length=P/\(∀x∈P,sc.names.lookup x=some .local ∨ sc.names.lookup x=some .cell)/\∀y∈sc.names,y.2≠.free)
  ⟨λ⟨a,b,c,d,e,f,g⟩=>⟨a,b,c,d,e,f,g⟩,λ⟨a,b,c,d,e,f,g⟩=>⟨a,b,c,d,e,f,g⟩⟩
noncomputable def Mr(rows:List Rw):Prop:=∀r∈rows,gs r.N r.ps (defScope r.st)
instance {rows:List Rw}:Decidable (Mr rows):=inferInstanceAs (Decidable (∀r∈rows,_))
noncomputable def TG(rows:List Rw) (K:W.Frag) (mg:Str->Option Value) (A:Nat->Addr) (Q:Nat->FuncData):Prop:=∀i r,rows[i]?=some r->FT K mg r.x r.st r.ps (A i) (Q i)
noncomputable def JJ(r:Rw):Prop:=∀(kV doc pm:Value) (an:Option Addr) (cdv ct:Value) (us:List Value),us.length=r.ps.length->bindArgs (W.fnOf r.x r.x (defArgs r.st) (defBody r.st) (defScope r.st) .none kV doc pm an cdv ct) ⟨us,[]⟩=pure (r.ps.zip us)
noncomputable def QAs(K:W.Frag):List Rw->List Addr->Prop
 |[],_=>True
 |r::rs,a::as=>QA K r.x r.st a/\QAs K rs as
 |_::_,[]=>False
theorem QAs.cons{K:W.Frag}{x:Str}{st:Stmt}{N:List Str}{n:Nat}{rs:List Rw}{a:Addr}{as:List Addr}(q:QA K x st a)(t:QAs K rs as):QAs K (⟨x,st,N,n⟩::rs) (a::as):=⟨q,t⟩
theorem GA{K:W.Frag}{h:Heap}{mg:Str->Option Value}(X:K.In h)(G:h.Ns mainGlobals mg):∀{rows:List Rw}{as:List Addr},(∀r∈rows,JJ r)->QAs K rows as ->
  ∃Q:Nat->FuncData,∀i r,rows[i]?=some r->FT K mg r.x r.st r.ps (as.getD i 0) (Q i)/\∃kV doc pm an cdv ct,Q i=W.fnOf r.x r.x (defArgs r.st) (defBody r.st) (defScope r.st) .none kV doc pm an cdv ct
 |[],as,_,_=>⟨λ_=>default,λi r e=>by simp at e⟩
 |r::rs,[],_,q=>q.elim
 |r::rs,a::as,hb,q=>by
  obtain⟨Q,h⟩:=GA X G (λr hr=>hb r (List.mem_cons_of_mem _ hr)) q.2;obtain⟨d,h1,h2⟩:=KO X G q.1 (hb r List.mem_cons_self);refine⟨λi=>match i with|0=>d|i+1=>Q i,λi r' e=>?_⟩;cases i with|zero=>rw[List.getElem?_cons_zero] at e;cases e;exact⟨h1,h2⟩|succ i=>rw[List.getElem?_cons_succ] at e;exact h i r' e
structure eK (P:Program) (w:World) (K:W.Frag) (mg:Str->Option Value) (base:Heap) (CX:uh) (k:Nat) (fn:Addr) (fd:FuncData) (ps:List Str) (sp:Sp) (x:Str) (st:Stmt):Prop where
 F:iz P w K mg base CX k fn fd ps sp
 t:FT K mg x st ps fn fd
section
variable {P:Program}{w:World}{K:W.Frag}{mg:Str->Option Value}{base:Heap}{rows:List Rw}{A:Nat->Addr}{Q:Nat->FuncData}{i k n:Nat}{r:Rw}{s:Ev->aj Fl}{sM:Addr->Ev->List D->aj df}
variable (T:TG rows K mg A Q) (S:Mr rows) (h:rows[i]?=some r)
include T S h
theorem oD(b:∀(cdv:Value) (A':Around) (outer:List PySem.Env) (s0:Shared) (H Ha:Hp) (E:XK),du k (A'.deeper (envOfC r.x (defScope r.st) s0.heap.objs.size (A i) cdv)) ->
   BU (oj CX0 P w K mg base r.N r.x (defScope r.st) (A i) cdv A' outer s0 H E).nox E H Ha (defBody r.st) s):eK P w K mg base CX0 (k+1) (A i) (Q i) r.ps (spD K r.ps.length (cp r.N.length s)) r.x r.st :=
 ⟨Bv (T i r h).F (S r (List.mem_of_getElem? h)) b,T i r h⟩
theorem oF(b:∀(cdv:Value) (A':Around) (outer:List PySem.Env) (s0:Shared) (H Ha:Hp) (E:XK),du k (A'.deeper (envOfC r.x (defScope r.st) s0.heap.objs.size (A i) cdv)) ->
   Ew (oj CX0 P w K mg base r.N r.x (defScope r.st) (A i) cdv A' outer s0 H E).nox E H Ha (defBody r.st) s):eK P w K mg base CX0 (k+1) (A i) (Q i) r.ps (JX K r.ps.length (A5 r.N.length s)) r.x r.st :=
 ⟨yD (T i r h).F (S r (List.mem_of_getElem? h)) b,T i r h⟩
theorem oM(hn:r.ps.length=n+1)(b:∀(cdv:Value) (A':Around) (outer:List PySem.Env) (s0:Shared) (H He Ha:Hp) (a:Addr) (E:XK),du k (A'.deeper (envOfC r.x (defScope r.st) s0.heap.objs.size (A i) cdv)) ->
   Gs (oj CX0 P w K mg base r.N r.x (defScope r.st) (A i) cdv A' outer s0 H E).nox He Ha a (defBody r.st) (sM a)):eK P w K mg base CX0 (k+1) (A i) (Q i) r.ps (Ci K n (ph r.N.length sM)) r.x r.st :=
 ⟨yC (T i r h).F (S r (List.mem_of_getElem? h)) hn b,T i r h⟩
end
section
variable {X:Cx}{E:XK}{e:Expr}{es:List Expr}{fa:Ev->aj (List D)}{pos:Pos}{CX:uh}{k k0 n:Nat}{fn:Addr}{fd:FuncData}{ps:List Str}{m:List D->aj D}{x:Str}{p:Pos}{st:Stmt}
theorem rC(B:eK X.prog X.w X.K X.mg X.base CX k0 fn fd ps (spD X.K n m) x st)(hr:du k X.A)(ha:DA X E (e::es) fa)(hle:k0<=k:=by decide)(hx:fU CX X E:=by first|exact zr|exact pass0E|exact passesE)(hl:∀ρ ds,fa ρ=.ok ds->ds.length=(e::es).length:=by first|exact Mn|exact Mm|exact Ml|exact MX|exact al5)(hn:(e::es).length=n:=by rfl)
  (hg:Gl X x:=by exact rfl)(hdb:(x==("__debug__":Str))=false:=by decide)(he:starEach (e::es) X.env=(false,eval e X.env)::starEach es X.env:=by exact bK rfl)(hpl:(backTo pos (starEach es X.env)).any (·.1)=false:=by exact cv rfl) :
  DE X E (.Call (.Name x p) (e::es) [] pos) (au fa m):=F9 (B.F.mono hle) hr hg B.t.g B.t.F.kp B.t.b hx ha hn hl hdb he hpl
theorem rF(B:eK X.prog X.w X.K X.mg X.base CX k0 fn fd ps (JX X.K n m) x st)(hr:du k X.A)(ha:DA X E (e::es) fa)(hle:k0<=k:=by decide)(hx:fU CX X E:=by first|exact zr|exact pass0E|exact passesE)(hl:∀ρ ds,fa ρ=.ok ds->ds.length=(e::es).length:=by first|exact Mn|exact Mm|exact Ml|exact MX|exact al5)(hn:(e::es).length=n:=by rfl)
  (hg:Gl X x:=by exact rfl)(hdb:(x==("__debug__":Str))=false:=by decide)(he:starEach (e::es) X.env=(false,eval e X.env)::starEach es X.env:=by exact bK rfl)(hpl:(backTo pos (starEach es X.env)).any (·.1)=false:=by exact cv rfl) :
  DF X E (.Call (.Name x p) (e::es) [] pos) (au fa m):=F6 (B.F.mono hle) hr hg B.t.g B.t.F.kp B.t.b hx ha hn hl hdb he hpl
end
section
variable {X:Cx}{He H0e:Hp}{a:Addr}{E:XK}{e:Expr}{es:List Expr}{fa:Ev->List D->aj (List D×List D)}{pos:Pos}{CX:uh}{k k0 n:Nat}{fn:Addr}{fd:FuncData}{ps:List Str}{x:Str}{p:Pos}{ft:Stmt}
theorem LZ{m:List D->aj D}(B:eK X.prog X.w X.K X.mg X.base CX k0 fn fd ps (spD X.K n m) x ft)(hr:du k X.A)(ha:Hj X He H0e a (e::es) fa)(hle:k0<=k:=by decide)(hx:fU CX X E0:=by exact zr)(hl:∀ρ st ds,fa ρ st=.ok ds->ds.1.length=(e::es).length:=by first|exact Mk|exact Mj|exact Mi|exact MV|exact am5)(hn:(e::es).length=n:=by rfl)
  (hg:Gl X x:=by exact rfl)(hdb:(x==("__debug__":Str))=false:=by decide)(he:starEach (e::es) X.env=(false,eval e X.env)::starEach es X.env:=by exact bK rfl)(hpl:(backTo pos (starEach es X.env)).any (·.1)=false:=by exact cv rfl) :
  DM X He H0e a (.Call (.Name x p) (e::es) [] pos) (mA fa m):=F4 (E:=E0) (B.F.mono hle) hr hg B.t.g B.t.F.kp B.t.b hx ha hn hl hdb he hpl
theorem rM(i:Nat){y:Str}{p1:Pos}{m:Addr->List D->List D->aj (D×List D)}(B:eK X.prog X.w X.K X.mg X.base CX k0 fn fd ps (Ci X.K n m) x ft)(hr:du k X.A)(ha:Hj X He H0e a es fa)(hle:k0<=k:=by decide)(hx:fU CX X E0:=by exact zr)(hl:∀ρ st ds,fa ρ st=.ok ds->ds.1.length=n:=by first|exact MW|exact Mk|exact Mj|exact Mi|exact MV|exact am5)
  (hN:X.N[i]?=some y:=by rfl)(hv:BO X.env.scope y:=by first|exact Or.inl rfl|exact Or.inr (Or.inl rfl)|exact Or.inr (Or.inr rfl))(hg:Gl X x:=by exact rfl)
  (hd:(y==("__debug__":Str))=false:=by decide)(hcd:(y==("__classdict__":Str))=false:=by decide)(hdb:(x==("__debug__":Str))=false:=by decide)(he:starEach (.Name y p1::es) X.env=(false,eval (.Name y p1) X.env)::starEach es X.env:=by exact bK rfl)(hpl:(backTo pos (starEach es X.env)).any (·.1)=false:=by exact cv rfl) :
  DM X He H0e a (.Call (.Name x p) (.Name y p1::es) [] pos) (bD i a fa m):=D5 (E:=E0) (B.F.mono hle) hr hg B.t.g B.t.F.kp B.t.b hx hN hv ha hl hd hcd hdb he hpl
end
theorem Np{r:Rw}(hn:r.ps.length=1:=by rfl)(hb:∀(kV doc pm:Value) (an:Option Addr) (cdv ct b:Value),bindArgs (W.fnOf r.x r.x (defArgs r.st) (defBody r.st) (defScope r.st) .none kV doc pm an cdv ct) ⟨[b],[]⟩=pure (r.ps.zip [b]):=by intros;rfl):JJ r:=λ_ _ _ _ _ _ us hl=>by
 obtain⟨b,rfl⟩:=MS (hl.trans hn);exact hb ..
theorem Nn{r:Rw}(hn:r.ps.length=2:=by rfl)(hb:∀(kV doc pm:Value) (an:Option Addr) (cdv ct b c:Value),bindArgs (W.fnOf r.x r.x (defArgs r.st) (defBody r.st) (defScope r.st) .none kV doc pm an cdv ct) ⟨[b,c],[]⟩=pure (r.ps.zip [b,c]):=by intros;rfl):JJ r:=λ_ _ _ _ _ _ us hl=>by
 obtain⟨b,c,rfl⟩:=MR (hl.trans hn);exact hb ..
theorem Nm{r:Rw}(hn:r.ps.length=3:=by rfl)(hb:∀(kV doc pm:Value) (an:Option Addr) (cdv ct b c d:Value),bindArgs (W.fnOf r.x r.x (defArgs r.st) (defBody r.st) (defScope r.st) .none kV doc pm an cdv ct) ⟨[b,c,d],[]⟩=pure (r.ps.zip [b,c,d]):=by intros;rfl):JJ r:=λ_ _ _ _ _ _ us hl=>by
 obtain⟨b,c,d,rfl⟩:=MQ (hl.trans hn);exact hb ..
theorem Nl{r:Rw}(hn:r.ps.length=4:=by rfl)(hb:∀(kV doc pm:Value) (an:Option Addr) (cdv ct b c d e:Value),bindArgs (W.fnOf r.x r.x (defArgs r.st) (defBody r.st) (defScope r.st) .none kV doc pm an cdv ct) ⟨[b,c,d,e],[]⟩=pure (r.ps.zip [b,c,d,e]):=by intros;rfl):JJ r:=λ_ _ _ _ _ _ us hl=>by
 obtain⟨b,c,d,e,rfl⟩:=Ni (hl.trans hn);exact hb ..
end DL
namespace Com
open PySem L2 DL
noncomputable def Iq(st:List D) (d:D):aj (D×List D):=.ok (d,st)
noncomputable def ML(st:List D) (d:D):aj df:=.ok (.rt d st)
noncomputable def vR{α:Type}(b:Bool) (x:aj α):aj α:=if b=true then x else .stuck
noncomputable def MO(g:Ev->List D->aj (D×List D)) (op:D->D->aj D) (ρ:Ev) (p:D×List D):aj (D×List D):=(g ρ p.2).bind λq=>(op p.1 q.1).bind λd=>.ok (d,q.2)
noncomputable def KA(op:D->D->aj D) (x:D) (q:D×List D):aj (D×List D):=(op x q.1).bind (Iq q.2)
noncomputable def MN(fa:Ev->List D->aj (List D×List D)) (ρ:Ev) (p:D×List D):aj (List D×List D):=(fa ρ p.2).bind λq=>.ok (p.1::q.1,q.2)
noncomputable def Kz(x:D) (q:List D×List D):aj (List D×List D):=.ok (x::q.1,q.2)
noncomputable def MP(m:List D->aj D) (p:List D×List D):aj (D×List D):=(m p.1).bind λd=>.ok (d,p.2)
noncomputable def MK(st ds:List D):aj (List D×List D):=.ok (ds,st)
noncomputable def MM(tg:Ev->D->aj Ev) (s:Ev->List D->aj df) (ρ:Ev) (p:List D×List D):aj df:=forM tg s p.1 ρ p.2
noncomputable def IH(tg:Ev->D->aj Ev) (s:Ev->List D->aj df) (r:List D) (x:df):aj df:=match x with
 |.nx ρ2 s2=>DL.forM tg s r ρ2 s2
 |.ct ρ2 s2=>DL.forM tg s r ρ2 s2
 |.bk ρ2 s2=>.ok (.nx ρ2 s2)
 |.rt d s=>.ok (.rt d s)
noncomputable def Lp(tg:Ev->D->aj Ev) (s:Ev->List D->aj df) (r st:List D) (ρ:Ev):aj df:=(s ρ st).bind (IH tg s r)
noncomputable def MJ(k:Ev->List D->aj (D×List D)) (ρ:Ev) (p:D×List D):aj df:=(k ρ p.2).bind (kR ρ p.1)
section
variable {s t:Ev->List D->aj df}{S:Ev->aj Fl}{f g h:Ev->List D->aj (D×List D)}{F:Ev->aj D}{fa:Ev->List D->aj (List D×List D)}{src:Ev->aj (List D)}{srm:Ev->List D->aj (List D×List D)}{tg:Ev->D->aj Ev}{ρ r:Ev}{i j n:Nat}{d x y:D}{st ds xs:List D}{op:D->D->aj D}{a:Addr}
theorem DJ:aW s t ρ st=(s ρ st).bind (zE t):=aH rfl
theorem Aj:zE t (.nx ρ st)=t ρ st:=aH rfl
theorem Ai:zE t (.rt d st)=.ok (.rt d st):=aH rfl
theorem As:bg ρ st=.ok (.nx ρ st):=aH rfl
theorem Ap:cJ S ρ st=(S ρ).bind (yt st):=aH rfl
theorem xi:yt st (.nx ρ)=.ok (.nx ρ st):=aH rfl
theorem DH:dP i f ρ st=(f ρ st).bind (Dd i ρ):=aH rfl
theorem Ah:Dd i ρ (d,st)=.ok (.nx (ρ.set i (.sh d)) st):=aH rfl
theorem DN:FF f ρ st=(f ρ st).bind De:=aH rfl
theorem Am:De (d,st)=.ok (.rt d st):=aH rfl
theorem Al:eB F ρ st=(F (fX ρ)).bind (ML st):=aH rfl
theorem xc:ML st d=.ok (.rt d st):=aH rfl
theorem GZ:sC f s t ρ st=(f ρ st).bind (FG s t ρ):=aH rfl
theorem DU:FG s t ρ (.bl true,st)=s ρ st:=aH rfl
theorem DR:FG s t ρ (.bl false,st)=t ρ st:=aH rfl
theorem KW:mP F ρ st=(F ρ).bind (Iq st):=aH rfl
theorem G3:Iq st d=.ok (d,st):=aH rfl
theorem G0{k:Int}:tw st (.int k)=.ok (.int k,st):=aH rfl
theorem G1{b:Bool}:tw st (.bl b)=.ok (.bl b,st):=aH rfl
theorem KS:mV i a F ρ st=vR (iW ρ[i]? a) ((F (vw i ρ st)).bind (tw st)):=aH rfl
theorem KU:mT F ρ st=(F (fX ρ)).bind (Iq st):=aH rfl
theorem G2:Lo i a F ρ st=vR (iW ρ[i]? a) ((F (vw i ρ st)).bind (Iq st)):=aH rfl
theorem GY:iW (some (.pt a)) a=true:=beq_self_eq_true a
theorem Ar{α:Type}{z:aj α}:vR true z=z:=if_pos rfl
theorem GX:vw i ρ st=(fX ρ).set i (.sh (.lst st)):=aH rfl
theorem DD:A1 (.pt a)=.pt a:=aH rfl
theorem KY:mB f g op ρ st=(f ρ st).bind (MO g op ρ):=aH rfl
theorem G5:MO g op ρ (x,st)=(g ρ st).bind (KA op x):=aH rfl
theorem G4:KA op x (y,st)=(op x y).bind (Iq st):=aH rfl
theorem DQ:bU ρ st=.ok ([],st):=aH rfl
theorem Av:aQ f fa ρ st=(f ρ st).bind (MN fa ρ):=aH rfl
theorem xl:MN fa ρ (x,st)=(fa ρ st).bind (Kz x):=aH rfl
theorem xj:Kz x (xs,st)=.ok (x::xs,st):=aH rfl
theorem KZ{m:List D->aj D}:mA fa m ρ st=(fa ρ st).bind (MP m):=aH rfl
theorem G6{m:List D->aj D}:MP m (ds,st)=(m ds).bind (Iq st):=aH rfl
theorem Ax{m:Addr->List D->List D->aj (D×List D)}:bD i a fa m ρ st=vR (iW ρ[i]? a) ((fa ρ st).bind (yP a m)):=aH rfl
theorem xm{m:Addr->List D->List D->aj (D×List D)}:yP a m (ds,st)=m a st ds:=aH rfl
theorem DP:wq i a f h ρ st=vR (iW ρ[i]? a) ((f ρ st).bind (MJ h ρ)):=aH rfl
theorem Ao:MJ h ρ (d,st)=(h ρ st).bind (kR ρ d):=aH rfl
theorem D0:Dh i f ρ st=Fu ρ[i]? λds=>(f ρ st).bind (sU i ρ ds):=aH rfl
theorem Aq{k:List D->aj df}:Fu (some (.ow (.lst ds))) k=k ds:=aH rfl
theorem uW(e:decide (ds.length<=999)=true):sU i ρ ds (d,st)=.ok (.nx (ρ.set i (.ow (.lst (ds++[d])))) st):=if_pos (Nat.lt_of_le_of_lt (of_decide_eq_true e) (by decide))
theorem D1:Di f g ρ st=(f ρ st).bind (zF g ρ):=aH rfl
theorem Az:zF g ρ (.bl true,st)=g ρ st:=aH rfl
theorem Ay:zF g ρ (.bl false,st)=.ok (.bl false,st):=aH rfl
theorem DC:uK src ρ st=(src ρ).bind (MK st):=aH rfl
theorem Ag:MK st ds=.ok (ds,st):=aH rfl
theorem Af:zD f ρ st=(f ρ st).bind uJ:=aH rfl
theorem qX{k:Int}(e:-4611686018427387904<=k/\k<4611686018427387904):uJ (.int k,st)=.ok (intsFrom 0 k.toNat,st):=if_pos e
theorem DV:k9 srm tg s ρ st=(srm ρ st).bind (MM tg s ρ):=aH rfl
theorem Au:MM tg s ρ (ds,st)=forM tg s ds ρ st:=aH rfl
theorem Aw{fr:List Nat}:nL n fr srm tg f ρ st=(srm ρ st).bind (rg (eE n fr ρ) tg f):=aH rfl
theorem DZ:DL.forM tg s (d::ds) ρ st=(tg ρ d).bind (Lp tg s ds st):=aH rfl
theorem DY:Lp tg s ds st ρ=(s ρ st).bind (IH tg s ds):=aH rfl
theorem DX:IH tg s ds (.nx ρ st)=DL.forM tg s ds ρ st:=aH rfl
theorem DK{b:Addr->Ev->List D->aj df}:ph n b a st ds=(b a (.pt a::ds.map Sl.sh++List.replicate (n-(ds.length+1)) .no) st).bind Cr:=aH rfl
theorem Ak:Cr (.rt d st)=.ok (d,st):=aH rfl
end
theorem p7{tg:Ev->D->aj Ev}{body:Ev->List D->aj df}(I:Nat->Ev->List D->Prop)(ds:List D)(step:∀(j:Nat) (d:D) (ρ:Ev) (st:List D),ds[j]?=some d->I j ρ st->∃ρ1 ρ2 st2,tg ρ d=.ok ρ1/\(body ρ1 st=.ok (.nx ρ2 st2)∨body ρ1 st=.ok (.ct ρ2 st2))/\I (j+1) ρ2 st2) :
  ∀(j:Nat) (ρ:Ev) (st:List D),j<=ds.length->I j ρ st->∃ρ2 st2,forM tg body (ds.drop j) ρ st=.ok (.nx ρ2 st2)/\I ds.length ρ2 st2:=by
 intro j ρ st hj h;generalize hk:ds.length-j=k
 induction k generalizing j ρ st with
 |zero =>
  have:j=ds.length:=by omega
  subst this;exact⟨ρ,st,by rw[List.drop_length];rfl,h⟩
 |succ k ih =>
  have hlt:j<ds.length:=by omega
  obtain⟨ρ1,ρ2,st2,h1,h2,h3⟩:=step j ds[j] ρ st (List.getElem?_eq_getElem hlt) h;obtain⟨ρ3,st3,h4,h5⟩:=ih (j+1) ρ2 st2 (by omega) h3 (by omega);refine⟨ρ3,st3,?_,h5⟩;rw[List.drop_eq_getElem_cons hlt];unfold DL.forM;rw[h1];rcases h2 with h2|h2
  .simp only[aj.bind,h2];exact h4
  .simp only[aj.bind,h2];exact h4
theorem tU{b:Ev}{tg:Ev->D->aj Ev}{fm:Ev->List D->aj (D×List D)}(I:List D->Prop)(P:D->Prop):∀(ds st:List D),I st->(∀d st,d∈ds->I st->∃ρ1 y st2,tg b d=.ok ρ1/\fm ρ1 st=.ok (y,st2)/\P y/\I st2)->∃es st2,gJ b tg fm ds st=.ok (es,st2)/\es.length=ds.length/\(∀e∈es,P e)/\I st2
 |[],st,h,_=>⟨[],st,rfl,rfl,λe he=>by simp at he,h⟩
 |d::ds,st,h,step=>by
  obtain⟨ρ1,y,st1,h1,h2,h3,h4⟩:=step d st (by simp) h;obtain⟨es,st2,k1,k2,k3,k4⟩:=tU I P ds st1 h4 λd' st' hd=>step d' st' (List.mem_cons_of_mem _ hd);refine⟨y::es,st2,?_,by simp [k2],λe he=>?_,k4⟩
  .unfold gJ
   rw[h1];simp only[aj.bind,h2,k1]
  .rcases List.mem_cons.mp he with rfl|he
   .exact h3
   .exact k3 e he
end Com
namespace Bor
open PySem L2 DL
noncomputable abbrev bI:List D->aj D:=Cod.bI
noncomputable def iy:Ev->aj Fl :=
 (sP (bG 2 (dC (.int 0)))
 (sP (dW (aa (ae 1) (au (ai (ae 0) aE) (m1 dE)) Ja)
 (aw (bG 2 (aa (ae 0) (ae 1) aN))
 ar)
 ar)
 (vE (au (ai (ae 2) (ai (aa (aa (aa (aa (ae 2) (dC (.int 2147483587)) de) (aa (aa (dC (.int 104729)) (ae 1) b3) (ae 1) b3) cb) (dC (.int 7)) cb) (dC (.int 2147483587)) de) (ai (aa (ae 2) (aa (dC (.int 10)) (dC (.int 18)) sD) Mh) aE))) cu))))
noncomputable def b5:List D->aj D:=A5 3 iy
noncomputable def jk:Addr->Ev->List D->aj df:=λa =>
 (aW (sC (Lo 0 a (aa (ae 0) (dC (.int 2)) aN))
 (aW (dP 2 (mV 0 a (aa (aa (ae 0) (dC (.int 0)) aN) (ae 1) de)))
 (aW (wq 0 a (mV 0 a (aa (aa (ae 0) (dC (.int 0)) aN) (ae 1) mC)) (mP (dC (.int 0))))
 (aW (wq 0 a (mV 0 a (aa (aa (ae 0) (dC (.int 0)) aN) (dC (.int 0)) Jd)) (mP (dC (.int 2))))
 (aW (eB (ae 2))
 bg))))
 bg)
 (aW (cJ (bG 3 (dC (.int 0))))
 (aW (k9 (uK (gb (aa (dC (.int 1)) (aa (dC (.int 2)) (au (ai (aa (ae 1) (aa (dC (.int 10)) (dC (.int 6)) sD) Jd) aE) (m1 kz)) b3) cb))) (bw 4)
 (aW (wq 0 a (mV 0 a (aa (aa (aa (aa (ae 0) (dC (.int 1)) aN) (dC (.int 39373)) b3) (dC (.int 17)) cb) (dC (.int 2147483647)) de)) (mP (dC (.int 1))))
 (aW (dP 3 (mV 0 a (aa (aa (ae 3) (dC (.int 2147483587)) b3) (aa (aa (aa (ae 0) (dC (.int 1)) aN) (aa (ae 0) (dC (.int 1)) aN) b3) (dC (.int 2147483587)) de) cb)))
 bg)))
 (aW (eB (aa (aa (ae 3) (dC (.int 64)) mC) (ae 1) de))
 bg))))
noncomputable def aF:Addr->List D->List D->aj (D×List D):=ph 5 jk
noncomputable def mE:Addr->Ev->List D->aj df:=λa =>
 (aW (dP 2 (nL 1 [0] (uK (gb (dC (.int 8)))) (bw 0) (bD 1 a (aQ (mP (dC (.int 26))) bU) aF)))
 (aW (dP 3 (mB (mP (dC (.int 1))) (bD 0 a (aQ (mP (dC (.int 8))) bU) aF) cb))
 (aW (dP 4 (bD 0 a (aQ (mP (ae 3)) bU) aF))
 (aW (dP 5 (bD 0 a (aQ (mP (dC (.int 26))) bU) aF))
 (aW (dP 6 (mB (mP (au (ai (dC (.int 1)) (ai (dC (.int 3)) (ai (dC (.int 5)) (ai (dC (.int 7)) (ai (dC (.int 9)) (ai (dC (.int 11)) aE)))))) cu)) (bD 0 a (aQ (mP (dC (.int 6))) bU) aF) aN))
 (aW (dP 7 (mB (bD 0 a (aQ (mP (dC (.int 3))) bU) aF) (mP (dC (.int 0))) iD))
 (aW (cJ (ke 8 (au aE cu)))
 (aW (cJ (kP (ae 1) (bw 9)
 (aw (ke 10 (oi (ae 2) fg (eP (ae 3))))
 (aw (Cp 10 (aa (aa (ae 5) (aa (ae 6) (ae 9) b3) cb) (dC (.int 26)) de) (ae 4))
 (aw (dW (ae 7)
 (aw (ke 10 (oi (ae 2) fg (eP (aa (dC (.int 1)) (aa (aa (ae 5) (ae 9) cb) (dC (.int 8)) de) cb))))
 ar)
 ar)
 (aw (Cq 10 (dw 8 (tP (dC (.str "")) (ai (dh 1 [] (jJ (ae 10)) (bw 0) mYes (aa (dC (.str "abcdefghijklmnopqrstuvwxyz")) (ae 0) aN)) aE))))
 ar))))))
 (aW (eB (ae 8))
 bg)))))))))
noncomputable def dy:Addr->List D->List D->aj (D×List D):=ph 11 mE
noncomputable def j7:Addr->Ev->List D->aj df:=λa =>
 (aW (dP 2 (bD 0 a (aQ (mP (dC (.int 6))) bU) aF))
 (aW (dP 3 (mB (mP (ae 1)) (bD 0 a (aQ (mP (aa (au (ai (dC (.int 3)) (ai (dC (.int 6)) (ai (dC (.int 20)) (ai (dC (.int 12)) (ai (dC (.int 90)) (ai (aa (dC (.int 10)) (dC (.int 12)) sD) aE)))))) cu) (ae 2) aN)) bU) aF) cb))
 (aW (cJ (bG 4 (aa (au (ai (dC (.int 1)) (ai (dC (.int 1)) (ai (dC (.int 1)) (ai (dC (.int 4)) (ai (dC (.int 12)) (ai (dC (.int 12)) aE)))))) cu) (ae 2) aN)))
 (aW (cJ (bG 5 (au (ai (dC (.int 1)) (ai (dC (.int 2)) (ai (dC (.int 3)) (ai (dC (.int 4)) (ai (dC (.int 5)) (ai (dC (.int 6)) (ai (dC (.int 10)) (ai (dC (.int 12)) (ai (dC (.int 15)) (ai (dC (.int 20)) (ai (dC (.int 30)) (ai (dC (.int 60)) aE)))))))))))) cu)))
 (aW (FF (mA (aQ (mP (ae 3)) (aQ (mB (mP (ae 5)) (bD 0 a (aQ (mP (ae 4)) bU) aF) aN) bU)) bI))
 bg)))))
noncomputable def b6:Addr->List D->List D->aj (D×List D):=ph 6 j7
noncomputable def fT:Addr->Ev->List D->aj df:=λa =>
 (aW (cJ (bG 3 (au (ai (ae 1) aE) (m1 dE))))
 (aW (dP 4 (bD 0 a (aQ (mP (ae 3)) bU) aF))
 (aW (dP 5 (mB (mB (mP (aa (ae 4) (dC (.int 1)) cb)) (bD 0 a (aQ (mP (aa (ae 3) (dC (.int 1)) ra)) bU) aF) cb) (mP (ae 3)) de))
 (aW (sC (mB (bD 0 a (aQ (mP (dC (.int 2))) bU) aF) (mP (dC (.int 0))) iD)
 (aW (cJ (bG 4 (aa (ae 2) (ae 3) de)))
 (aW (cJ (bG 5 (aa (aa (ae 2) (dC (.int 1)) cb) (ae 3) de)))
 bg))
 bg)
 (aW (dP 6 (mB (mP (au (ai (dC (.str "one")) (ai (dC (.str "both")) aE)) cu)) (bD 0 a (aQ (mP (dC (.int 2))) bU) aF) aN))
 (aW (dP 7 (bD 0 a (aQ (mP (dC (.int 0))) bU) b6))
 (aW (dP 8 (bD 0 a (aQ (mP (dC (.int 1))) bU) b6))
 (aW (sC (mB (bD 0 a (aQ (mP (dC (.int 4))) bU) aF) (mP (dC (.int 0))) iD)
 (aW (cJ (bG 8 (dC (.non))))
 bg)
 bg)
 (aW (eB (au (ai (aa (ae 1) (ae 4) aN) (ai (aa (ae 1) (ae 5) aN) (ai (ae 6) (ai (ae 7) (ai (ae 8) aE))))) e8))
 bg)))))))))
noncomputable def cF:Addr->List D->List D->aj (D×List D):=ph 9 fT
noncomputable def kD:Addr->Ev->List D->aj df:=λa =>
 (aW (dP 3 (bD 0 a (aQ (mB (mP (dC (.int 2))) (bD 0 a (aQ (mP (aa (ae 1) (dC (.int 1)) ra)) bU) aF) cb) bU) dy))
 (aW (cJ (bG 4 (au (ai (ae 3) aE) (m1 dE))))
 (aW (cJ (ke 5 (au aE cu)))
 (aW (k9 (zD (bD 0 a (aQ (mP (aa (ae 2) (dC (.int 1)) cb)) bU) aF)) (bw 6)
 (aW (Dh 5 (bD 0 a (aQ (mP (ae 3)) (aQ (mP (ae 6)) bU)) cF))
 bg))
 (aW (cJ (bG 7 (dC (.int 0))))
 (aW (cJ (bG 8 (aa (ae 4) (dC (.int 1)) ra)))
 (aW (sC (mB (bD 0 a (aQ (mP (dC (.int 2))) bU) aF) (mP (dC (.int 0))) iD)
 (aW (dP 7 (bD 0 a (aQ (mP (ae 4)) bU) aF))
 (aW (dP 8 (mB (mB (mP (aa (ae 7) (dC (.int 1)) cb)) (bD 0 a (aQ (mP (aa (ae 4) (dC (.int 1)) ra)) bU) aF) cb) (mP (ae 4)) de))
 bg))
 bg)
 (aW (eB (au (ai (ae 3) (ai (ae 5) (ai (aa (ae 3) (ae 7) aN) (ai (aa (ae 3) (ae 8) aN) aE)))) e8))
 bg))))))))
noncomputable def cY:Addr->List D->List D->aj (D×List D):=ph 9 kD
noncomputable def j6:Addr->Ev->List D->aj df:=λa =>
 (aW (cJ (ke 3 (au aE cu)))
 (aW (k9 (uK (gb (au (ai (aa (ae 1) (dC (.int 1)) aN) aE) (m1 dE)))) (bw 4)
 (aW (sC (Di (mB (bD 0 a (aQ (mP (ae 2)) bU) aF) (mP (dC (.int 0))) iD) (mT (aa (aa (aa (aa (ae 1) (dC (.int 1)) aN) (ae 4) aN) (dC (.int 4)) aN) (dC (.non)) cU)))
 (aW (cJ (dw 3 (ae 4)))
 bg)
 bg)
 bg))
 (aW (eB (ae 3))
 bg)))
noncomputable def cG:Addr->List D->List D->aj (D×List D):=ph 5 j6
end Bor
namespace DL
open PySem PySem.Spec PyProof.Rows L2
theorem Reps.dropLast{K:W.Frag}{H:Hp}{ds:List D}{vs:List V}(h:Reps K H ds vs):Reps K H ds.dropLast vs.dropLast:=by
 rw[List.dropLast_eq_take,List.dropLast_eq_take,h.length];exact h.take _
noncomputable def oy(is:List Nat) (i:Nat) (ρ:Ev) (ds:List D):aj Fl:=match ds.getLast? with
 |some d=>match fq is.length d with
  |some es=>.ok (.nx (d4 (ρ.set i (.ow (.lst ds.dropLast))) is es))
  |none=>.stuck
 |none=>.stuck
noncomputable def gU(is:List Nat) (i:Nat):Ev->aj Fl:=λρ=>match ρ[i]? with
 |some (.ow (.lst ds))=>oy is i ρ ds
 |_=>.stuck
section
variable {X:Cx}{E:XK}{He H0e:Hp}{es:List Expr}{is:List Nat}{pos:Pos}
theorem BA{i:Nat}{x:Str}{p1 p2 p3:Pos}{k:Nat}{tp:Pos}(hc:X.calm=true)(hN:X.N[i]?=some x)(hv:BO X.env.scope x)(h:BP X es (Jz is))
  (hd:(x==("__debug__":Str))=false:=by decide)(hcd:(x==("__classdict__":Str))=false:=by decide)
  (hbase:attributeBase (.Name x p1) "pop" X.env (eval (.Name x p1) X.env)=eval (.Name x p1) X.env:=by rfl)(hline:(p2.endLine==p3.line)=true:=by rfl)
  (hs:swapsWithSole [.Tuple es k tp] (.Call (.Attribute (.Name x p1) "pop" p2) [] [] p3) pos.line X.env=pure false:=by rfl)(hw:swappedStores [.Tuple es k tp] (.Call (.Attribute (.Name x p1) "pop" p2) [] [] p3) X.env=pure none:=by rfl)
  (h1:(assignEach [.Tuple es k tp] X.env).map (·.2)=[assign (.Tuple es k tp) X.env]:=by rfl)(hn:(assignEach es X.env).length=is.length:=by rfl)(hst:(assignEach es X.env).findIdx? (·.1)=none:=by rfl) :
  DS X E He H0e (.Assign [.Tuple es k tp] (.Call (.Attribute (.Name x p1) "pop" p2) [] [] p3) pos) (gU is i):=by
 refine⟨?_⟩;refine bH (yd (Ic PySem.F.plainAttrs_list PySem.F.slot_list_pop PySem.F.type_list_pop Ip (gX hN hv hd hcd) hbase hline) (CQ hc h hn hst) hs hw h1) λD σ H ⟨Ha,ρ,h,q⟩=>?_;unfold gU at q;cases e0:ρ[i]? with
 |none=>rw[e0] at q;exact q.elim
 |some sl =>
  rw[e0] at q;cases sl with
  |ow d =>
   cases d with
   |lst ds =>
    simp only at q;unfold oy at q;obtain⟨p,k1,k2,k3,ws,k4,k5⟩:=h.ow i _ e0;have hlen:=k5.length;refine⟨.ref p,k1,.inl ⟨rfl,ws,eZ.of k4⟩,?_⟩;cases e1:ds.getLast? with
    |none=>rw[e1] at q;exact q.elim
    |some d =>
     rw[e1] at q;simp only at q;rw[List.getLast?_eq_getElem?] at e1;obtain⟨y,y1,y2⟩:=k5.get e1;rw[hlen] at y1;cases e2:fq is.length d with
     |none=>rw[e2] at q;exact q.elim
     |some es =>
      rw[e2] at q;obtain⟨a,vs,rfl,z1,z2,z3⟩:=nE e2 y2;refine⟨p,ws,.ref a,rfl,rfl,k4,y1,?_⟩;have h':=h.write e0 k1 k5.dropLast;exact⟨a,vs,rfl,vD h'.g.sub z1,z2,q _ _ Ha (aC.refl _) (h'.putAll z3)⟩
   |_=>exact q.elim
  |_=>exact q.elim
end
noncomputable def gV(i:Nat) (ρ:Ev) (ks:List Str) (ds:List D) (d:D) (p:D×List D):aj df:=match p.1 with
 |.str x=>if ks.length<line then .ok (.nx (ρ.set i (.ow (jK ks ds x d))) p.2) else .stuck
 |_=>.stuck
noncomputable def CZ(s:Option Sl) (k:List Str->List D->aj df):aj df:=match s with
 |some (.ow (.dic ks ds))=>k ks ds
 |_=>.stuck
noncomputable def sT(i:Nat) (f k:Ev->List D->aj (D×List D)):Ev->List D->aj df:=λρ st=>CZ ρ[i]? λks ds=>(f ρ st).bind λp=>(k ρ p.2).bind (gV i ρ ks ds p.1)
section
variable {X:Cx}{He H0e:Hp}{a:Addr}{e b:Expr}{fm gm:Ev->List D->aj (D×List D)}{pos:Pos}
theorem E9{i:Nat}{x:Str}{p1 p2:Pos}(hu:X.A.units+1<cLine)(hN:X.N[i]?=some x)(hv:BO X.env.scope x)(he:DM X He H0e a e fm)(hk:DM X He H0e a b gm)
  (hd:(x==("__debug__":Str))=false:=by decide)(hcd:(x==("__classdict__":Str))=false:=by decide)
  (hs:swapsWith e (some (.Subscript (.Name x p1) b p2)) pos.line X.env=pure false:=by rfl):SM X He H0e a (.Assign [.Subscript (.Name x p1) b p2] e pos) (sT i fm gm):=by
 refine⟨?_⟩;refine bH (zk hu (gX hN hv hd hcd) hk.o he.o hs) λD σ H ⟨Ha,ρ,st,vs,h,q⟩=>⟨Ha,ρ,st,vs,h,?_⟩
 unfold sT CZ at q;cases e0:ρ[i]? with
 |none=>rw[e0] at q;exact q.elim
 |some sl =>
  rw[e0] at q;cases sl with
  |ow d =>
   cases d with
   |dic ks ds =>
    replace q:dO X.K He H0e a Ha ((fm ρ st).bind λp=>(gm ρ p.2).bind (gV i ρ ks ds p.1)) D:=q;cases e1:fm ρ st with
    |stuck|exn z=>rw[e1] at q;exact q
    |ok pr =>
     obtain⟨d,st1⟩:=pr;rw[e1] at q;intro v H1 H01 us z1 h1 r1;obtain⟨p,k1,k2,k3,k⟩:=h1.s.ow i _ e0;refine⟨.ref p,k1,H01,ρ,st1,us,h1,?_⟩;replace q:dO X.K He H0e a Ha ((gm ρ st1).bind (gV i ρ ks ds d)) D:=q;cases e2:gm ρ st1 with
     |stuck|exn z=>rw[e2] at q;exact q
     |ok pr =>
      obtain⟨j,st2⟩:=pr;rw[e2] at q;intro u H2 H02 us2 z2 h2 r2;obtain⟨p',l1,l2,l3,vs2,l4,l5,l6⟩:=h2.s.ow i _ e0;rw[k1] at l1;cases l1;replace q:dO X.K He H0e a Ha (gV i ρ ks ds d (j,st2)) D:=q;unfold gV at q;cases j with
      |str x =>
       by_cases hl:ks.length<line
       .simp only[if_pos hl] at q
        rw[Rep.str_iff.mp r2];have hpa:p≠a:=by intro c;subst c;rw[h2.hl] at l4;cases l4
        refine⟨p,_,rfl,yY.k (k:=.inr x) l4 ?_,?_⟩
        .rw[List.length_zip,List.length_map,←l5,Nat.min_self]
         have:line<=sizeLine:=cO (Nat.le_refl _);omega
        .exact q σ _ H02 us2 (z1.trans z2) ⟨h2.ha,h2.h0,by rw[aA (Ne.symm hpa)];exact h2.hl,h2.r,h2.s.writeG e0 k1 (zi l5 l6 (r1.mono z2))⟩
       .simp only[if_neg hl] at q;exact q.elim
      |_=>exact q.elim
   |_=>exact q.elim
  |_=>exact q.elim
end
end DL
namespace K11
open PySem L2 DL
noncomputable def eh:Ev->aj Fl :=
 (aw (dW (aa (aa (ae 0) (dC (.int 0)) aN) (ae 1) iD)
 (aw (bP (aa (ae 0) (dC (.int 1)) aN))
 ar)
 ar)
 (aw (dW (eW (aa (aa (ae 0) (dC (.int 1)) aN) (ae 1) iD) (aa (aa (ae 0) (dC (.int 2)) aN) (dC (.str "both")) iD))
 (aw (bP (aa (ae 0) (dC (.int 0)) aN))
 ar)
 ar)
 (aw (bP (dC (.non)))
 ar)))
noncomputable def bp:List D->aj D:=cp 2 eh
noncomputable def gC:Ev->aj Fl :=
 (aw (bG 1 (au (ai (aa (ae 0) (dC (.int 0)) aN) (ai (aa (ae 0) (dC (.int 1)) aN) aE)) e8))
 (aw (dW (aa (aa (ae 0) (dC (.int 2)) aN) (dC (.str "one")) iD)
 (aw (bP (au (ai (ae 1) aE) cu))
 ar)
 ar)
 (aw (bP (au (ai (ae 1) (ai (au (ai (aa (ae 0) (dC (.int 1)) aN) (ai (aa (ae 0) (dC (.int 0)) aN) aE)) e8) aE)) cu))
 ar)))
noncomputable def m_steps_along:List D->aj D:=cp 2 gC
end K11
namespace K12
open PySem L2 DL
noncomputable abbrev bI:List D->aj D:=Cod.bI
noncomputable def nT:Ev->aj Fl :=
 (aw (bP (au (ai (aa (aa (aa (ae 0) (dC (.int 0)) aN) (aa (ae 1) (dC (.int 1)) aN) b3) (aa (aa (ae 1) (dC (.int 0)) aN) (aa (ae 0) (dC (.int 1)) aN) b3) cb) (ai (aa (aa (ae 0) (dC (.int 1)) aN) (aa (ae 1) (dC (.int 1)) aN) b3) aE)) bI))
 ar)
noncomputable def bB:List D->aj D:=cp 2 nT
end K12
namespace K51
open PySem L2 DL
noncomputable abbrev bI:List D->aj D:=Cod.bI
noncomputable abbrev bB:List D->aj D:=K12.bB
noncomputable def nV:Ev->aj Fl :=
 (aw (bP (aa (aa (aa (ae 0) (dC (.int 0)) aN) (aa (ae 1) (dC (.int 1)) aN) b3) (aa (aa (ae 1) (dC (.int 0)) aN) (aa (ae 0) (dC (.int 1)) aN) b3) Ja))
 ar)
noncomputable def bh:List D->aj D:=cp 2 nV
noncomputable abbrev m_is_length:List D->aj D:=Com.m_is_length
noncomputable abbrev m_is_less:List D->aj D:=Com.m_is_less
noncomputable abbrev m_ratio:List D->aj D:=Com.m_ratio
noncomputable abbrev m_plus:List D->aj D:=Com.m_plus
noncomputable def b_is_price:Ev->aj Fl :=
 (aw (bP (iq (aa (ae 0) (dC (.non)) gz) (au (ai (ae 0) aE) m_is_length)))
 ar)
noncomputable def m_is_price:List D->aj D:=cp 1 b_is_price
noncomputable def b_is_let:Ev->aj Fl :=
 (aw (dW (aa (ae 0) (dC (.non)) gz)
 (aw (bP (dC (.bl true)))
 ar)
 ar)
 (aw (bP (eW (aa (ae 2) (dC (.non)) cU) (cI (au (ai (au (ai (ae 0) (ai (ae 1) aE)) m_plus) (ai (ae 2) aE)) m_is_less))))
 ar))
noncomputable def m_is_let:List D->aj D:=cp 3 b_is_let
noncomputable abbrev m_steps_along:List D->aj D:=K11.m_steps_along
noncomputable def b_steps_left:Ev->aj Fl :=
 (aw (ke 2 (au aE cu))
 (aw (jQ (AY (aa (ae 0) (dC (.int 1)) aN)) (fM [3,4])
 (aw (dW (aa (ae 3) (ae 1) cj)
 (aw (n9 (au (ai (ae 4) aE) m_steps_along) (fM [5,6])
 (aw (dw 2 (au (ai (ae 3) (ai (ae 5) (ai (ae 6) aE))) e8))
 ar))
 ar)
 ar)
 ar))
 (aw (bP (ae 2))
 ar)))
noncomputable def m_steps_left:List D->aj D:=cp 7 b_steps_left
end K51
namespace K17
open PySem L2 DL
noncomputable abbrev m_look_at_taking:List D->aj D:=Com.m_look_at_taking
noncomputable abbrev m_on_one_scale:List D->aj D:=Com.m_on_one_scale
noncomputable def gL:Ev->aj Fl :=
 (aw (bP (au (ai (dh 1 [] (jJ (aa (ae 0) (dC (.int 1)) aN)) (bw 0) mYes (aa (ae 0) (dC (.int 3)) aN)) aE) m_on_one_scale))
 ar)
noncomputable def m_scaled_lengths:List D->aj D:=cp 1 gL
noncomputable abbrev m_steps_along:List D->aj D:=K11.m_steps_along
noncomputable abbrev m_steps_left:List D->aj D:=K51.m_steps_left
noncomputable def ji:Ev->aj Fl :=
 (aw (bG 3 (dC (.non)))
 (aw (n9 (ae 0) (fM [4,5,6])
 (aw (dW (eW (aa (ae 5) (ae 2) jN) (aa (ae 6) (ae 2) eG))
 (aw (bG 7 (aa (aa (aa (ae 2) (ae 5) bV) (dC (.int 0)) aN) (aa (ae 1) (ae 4) aN) cb))
 (aw (dW (iq (aa (ae 3) (dC (.non)) gz) (aa (ae 7) (aa (ae 3) (dC (.int 1)) aN) Ja))
 (aw (bG 3 (au (ai (ae 6) (ai (ae 7) (ai (aa (aa (aa (ae 2) (ae 5) bV) (dC (.int 1)) aN) (au (ai (ae 4) aE) cu) cb) aE))) e8))
 ar)
 ar)
 ar))
 ar)
 ar))
 (aw (bP (ae 3))
 ar)))
noncomputable def m_nearest_step:List D->aj D:=cp 8 ji
noncomputable def jZ:Ev->aj Fl :=
 (aw (bG 3 (au (ai (ae 0) (ai (ae 1) aE)) m_steps_left))
 (aw (pd 4 (xv (aa (ae 0) (dC (.int 2)) aN) (au (ai (dC (.int 0)) (ai (au aE cu) aE)) e8)))
 (aw (pb 5 (au (ai (ae 3) (ai (ae 2) (ai (ae 4) aE))) m_nearest_step))
 (aw (fI (λ_=>8) (aa (ae 5) (dC (.non)) cU)
 (aw (iA 4 (au (ai (aa (ae 5) (dC (.int 1)) aN) (ai (aa (ae 5) (dC (.int 2)) aN) aE)) e8) (aa (ae 5) (dC (.int 0)) aN))
 (aw (pb 5 (au (ai (ae 3) (ai (ae 2) (ai (ae 4) aE))) m_nearest_step))
 ar)))
 (aw (bP (ae 4))
 ar)))))
noncomputable def m_all_reached:List D->aj D:=cp 6 jZ
noncomputable abbrev m_ratio:List D->aj D:=Com.m_ratio
noncomputable def kC:Ev->aj Fl :=
 (aw (bG 2 (au (ai (ae 0) aE) m_scaled_lengths))
 (aw (bG 3 (au (ai (ae 0) (ai (ae 1) (ai (aa (ae 2) (dC (.int 0)) aN) aE))) m_all_reached))
 (aw (pd 4 (dC (.dic [] [])))
 (aw (n9 (aa (ae 0) (dC (.int 0)) aN) (bw 5)
 (aw (iA 4 (Jc (aa (ae 5) (ae 3) jN) (au (ai (aa (aa (ae 3) (ae 5) bV) (dC (.int 0)) aN) (ai (aa (ae 2) (dC (.int 1)) aN) aE)) m_ratio) (dC (.non))) (ae 5))
 ar))
 (aw (dW (aa (aa (ae 0) (dC (.int 3)) aN) (ae 3) eG)
 (aw (bP (au (ai (dC (.non)) (ai (dC (.non)) (ai (ae 4) aE))) e8))
 ar)
 ar)
 (aw (bP (au (ai (aa (aa (ae 3) (aa (ae 0) (dC (.int 3)) aN) bV) (dC (.int 1)) aN) (ai (aa (ae 4) (aa (ae 0) (dC (.int 3)) aN) bV) (ai (ae 4) aE))) e8))
 ar))))))
noncomputable def m_shortest:List D->aj D:=cp 6 kC
noncomputable def nQ:Ev->aj Fl :=
 (aw (kQ (au (ai (ae 0) (ai (ae 1) aE)) m_look_at_taking))
 (aw (bP (au (ai (ae 0) (ai (ae 1) aE)) m_shortest))
 ar))
noncomputable def m_least_way:List D->aj D:=cp 2 nQ
noncomputable abbrev m_is_price:List D->aj D:=K51.m_is_price
noncomputable def dS:Ev->aj Fl :=
 (aw (dW (iq (cI (cL (ae 1) (jM "dict"))) (aa (au (ai (ae 1) aE) (m1 AB)) (au (ai (ae 0) aE) (m1 dE)) jE))
 (aw (bP (dC (.bl false)))
 ar)
 ar)
 (aw (bP (au (ai (dh 1 [1] (jJ (ae 0)) (bw 0) mYes (eW (aa (ae 0) (ae 1) jN) (au (ai (aa (ae 1) (ae 0) bV) aE) m_is_price))) aE) (m1 yJ)))
 ar))
noncomputable def m_prices_just_the_places:List D->aj D:=cp 2 dS
noncomputable abbrev m_is_let:List D->aj D:=K51.m_is_let
noncomputable def b_lets_prices:Ev->aj Fl :=
 (aw (kQ (au (ai (ae 0) (ai (ae 1) aE)) m_look_at_taking))
 (aw (dW (iq (cI (au (ai (aa (ae 0) (dC (.int 0)) aN) (ai (ae 2) aE)) m_prices_just_the_places)) (aa (aa (ae 2) (aa (ae 0) (dC (.int 2)) aN) bV) (dC (.tup [(.int 0),(.int 1)])) jE))
 (aw (bP (dC (.bl false)))
 ar)
 ar)
 (aw (n9 (au (ai (ae 0) (ai (ae 1) aE)) m_steps_left) (fM [3,4,5])
 (aw (dW (cI (au (ai (aa (ae 2) (ae 4) bV) (ai (aa (aa (aa (ae 0) (dC (.int 1)) aN) (ae 3) aN) (dC (.int 3)) aN) (ai (aa (ae 2) (ae 5) bV) aE))) m_is_let))
 (aw (bP (dC (.bl false)))
 ar)
 ar)
 ar))
 (aw (bP (dC (.bl true)))
 ar))))
noncomputable def m_lets_prices:List D->aj D:=cp 6 b_lets_prices
end K17
local macro_rules|`(tactic|open_line with[$xs,*])=>`(tactic|simp only[iC,kn,lH,lG,lQ,ql,lF,qp,lK,me,iZ,wV,qL,qK,qu,lO,qT,lN,qr,lL,qM,qt,lM,w8,w6,qS,w4,qE,mf,i7,i6,qU,mi,mh,wO,qB,qA,qC,lP,qJ,l7,lZ,qd,ll,Dz,lE,qk,lD,lC,lA,oJ,qo,lJ,lI,wN,qv,wQ,wK,qj,qi,qh,qO,md,i8,wW,qR,qQ,qP,qI,qV,qF,wU,wR,dB,lR,nk,kj,List.map_cons,List.map_nil,List.length_cons,List.length_nil,List.replicate_succ,List.replicate_zero,List.nil_append,List.cons_append,List.getElem?_cons_zero,List.getElem?_cons_succ,List.set_cons_zero,List.set_cons_succ,Nat.sub_zero,Nat.reduceSub,Nat.reduceAdd,Nat.add_zero,Nat.zero_add,Bool.not_true,Bool.not_false,qf,qH,gq,fu,qG,wL,qm,wJ,qe,jA,jz,lY,lX,lW,lV,lU,lT,decide_true,decide_false,Nat.reduceLeDiff,Nat.reduceBEq,Int.reduceBEq,beq_self_eq_true,DL.dOne,DL.mYes,dR,c5,di,fO,eV,eU,fN,eT,wZ,wY,wX,Int.reduceLT,Int.reduceLE,Int.reduceSub,Int.reduceAdd,Int.reduceMul,Int.reduceNeg,lS,iY,Int.reduceToNat,Bool.and_self,oK,ma,oI,lu,oH,lr,oG,lp,ie,tE,l9,qg,zZ,Aa,uU,ni,DJ,Aj,Ai,As,Ap,xi,DH,Ah,DN,Am,Al,xc,GZ,DU,DR,KW,G3,G0,G1,KS,KU,G2,GY,Ar,GX,DD,KY,G5,G4,DQ,Av,xl,xj,KZ,G6,Ax,xm,DP,Ao,D0,Aq,uW,D1,Az,Ay,DC,Ag,Af,qX,DV,Au,Aw,DK,Ak,$[$xs:term],*])
local macro_rules|`(tactic|open_line with[$xs,*] seeing $h)=>`(tactic|simp only[iC,kn,lH,lG,lQ,ql,lF,qp,lK,me,iZ,wV,qL,qK,qu,lO,qT,lN,qr,lL,qM,qt,lM,w8,w6,qS,w4,qE,mf,i7,i6,qU,mi,mh,wO,qB,qA,qC,lP,qJ,l7,lZ,qd,ll,Dz,lE,qk,lD,lC,lA,oJ,qo,lJ,lI,wN,qv,wQ,wK,qj,qi,qh,qO,md,i8,wW,qR,qQ,qP,qI,qV,qF,wU,wR,dB,lR,nk,kj,List.map_cons,List.map_nil,List.length_cons,List.length_nil,List.replicate_succ,List.replicate_zero,List.nil_append,List.cons_append,List.getElem?_cons_zero,List.getElem?_cons_succ,List.set_cons_zero,List.set_cons_succ,Nat.sub_zero,Nat.reduceSub,Nat.reduceAdd,Nat.add_zero,Nat.zero_add,Bool.not_true,Bool.not_false,qf,qH,gq,fu,qG,wL,qm,wJ,qe,jA,jz,lY,lX,lW,lV,lU,lT,decide_true,decide_false,Nat.reduceLeDiff,Nat.reduceBEq,Int.reduceBEq,beq_self_eq_true,DL.dOne,DL.mYes,dR,c5,di,fO,eV,eU,fN,eT,wZ,wY,wX,Int.reduceLT,Int.reduceLE,Int.reduceSub,Int.reduceAdd,Int.reduceMul,Int.reduceNeg,lS,iY,Int.reduceToNat,Bool.and_self,oK,ma,oI,lu,oH,lr,oG,lp,ie,tE,l9,qg,zZ,Aa,uU,ni,DJ,Aj,Ai,As,Ap,xi,DH,Ah,DN,Am,Al,xc,GZ,DU,DR,KW,G3,G0,G1,KS,KU,G2,GY,Ar,GX,DD,KY,G5,G4,DQ,Av,xl,xj,KZ,G6,Ax,xm,DP,Ao,D0,Aq,uW,D1,Az,Ay,DC,Ag,Af,qX,DV,Au,Aw,DK,Ak,$[$xs:term],*] at $(⟨h⟩):ident)
namespace Bor
open PySem L2 DL Com
noncomputable def St(st:List D):Prop:=∃(c s:Int) (b:Bool),st=[.int c,.int s,.bl b]/\0<=s/\s<2147483647
theorem p6:sD (.int 10) (.int 6)=.ok (.int 1000000):=aH rfl
noncomputable def next(s:Int):Int:=(s*39373+17).fmod 2147483647
theorem zB(s:Int):0<=next s/\next s<2147483647:=eC (by decide)
noncomputable def Ky(m s:Int):Int:=m*2147483587+(s*s).fmod 2147483587
theorem EU{a:Addr}{n c s m:Int}{b:Bool}{k:Int}(h0:0<=s)(h1:s<2147483647)(hm:0<=m/\m<1000000000000000000000000000) :
  (aW (wq 0 a (mV 0 a (aa (aa (aa (aa (ae 0) (dC (.int 1)) aN) (dC (.int 39373)) b3) (dC (.int 17)) cb) (dC (.int 2147483647)) de)) (mP (dC (.int 1))))
 (aW (dP 3 (mV 0 a (aa (aa (ae 3) (dC (.int 2147483587)) b3) (aa (aa (aa (ae 0) (dC (.int 1)) aN) (aa (ae 0) (dC (.int 1)) aN) b3) (dC (.int 2147483587)) de) cb)))
 bg)) [.pt a,.sh (.int n),.no,.sh (.int m),.sh (.int k)] [.int c,.int s,.bl b]=.ok (.nx [.pt a,.sh (.int n),.no,.sh (.int (Ky m (next s))),.sh (.int k)] [.int c,.int (next s),.bl b]):=by
 have o1:dG s 39373=true:=fL (by omega) (by decide);have g:=zB s;have o2:dG (next s) (next s)=true:=fL (by omega) (by omega);have o3:dG m 2147483587=true:=d9 (Nat.lt_trans (show m.natAbs<1000000000000000000000000000 by omega) (by rw[nA];decide +kernel)) (Nat.lt_trans (show(2147483587:Int).natAbs<2147483588 by decide) (by rw[nA];decide +kernel));have e:(s*39373+17).fmod 2147483647=next s:=rfl;have hp:∀(ρ:Ev) (d:D),kR ρ d (.int 1,[.int c,.int s,.bl b])=.ok (.nx ρ [.int c,d,.bl b]):=λ_ _=>rfl;open_line with[cm o1,e,cm o2,cm o3,hp,Ky]
theorem bN(a:Addr){n:Int}(n0:0<n)(n1:n<=1000000000000000000){st:List D}(h:St st):∃(d:Int) (st':List D),aF a st [.int n]=.ok (.int d,st')/\0<=d/\d<n/\St st':=by
 obtain⟨c,s,b,rfl,s0,s1⟩:=h;have hn0:(n==0)=false:=beq_eq_false_iff_ne.mpr (by omega);have hd:eD c n=true:=D7 (by omega) (Nat.lt_of_le_of_lt (show n.natAbs<=1000000000000000000 by omega) (by rw[AN];decide +kernel));cases b with
 |true =>
  have f:=eC (a:=c) (b:=n) n0;have p0:∀(ρ:Ev) (d:D),kR ρ d (.int 0,[.int c,.int s,.bl true])=.ok (.nx ρ [d,.int s,.bl true]):=λ_ _=>rfl;have p2:∀(ρ:Ev) (d:D),kR ρ d (.int 2,[.int (c.fdiv n),.int s,.bl true])=.ok (.nx ρ [.int (c.fdiv n),.int s,d]):=λ_ _=>rfl;refine⟨c.fmod n,[.int (c.fdiv n),.int s,.bl (decide (c.fdiv n > 0))],?_,f.1,f.2,_,_,_,rfl,s0,s1⟩;open_line with[aF,jk,hn0,nj hd,p0,p2]
 |false =>
  have key:∃t:Nat,t<=3/\∀x2 x3 x4:Sl,(gb (aa (dC (.int 1)) (aa (dC (.int 2)) (au (ai (aa (ae 1) (aa (dC (.int 10)) (dC (.int 6)) sD) Jd) aE) (m1 kz)) b3) cb)) [.pt a,.sh (.int n),x2,x3,x4]=.ok (intsFrom 0 t):=by
   by_cases hb:n > 1000000
   .refine⟨3,by decide,λx2 x3 x4=>?_⟩
    have o:dG 2 1=true:=fL (by decide) (by decide);have:(aa (dC (.int 1)) (aa (dC (.int 2)) (au (ai (aa (ae 1) (aa (dC (.int 10)) (dC (.int 6)) sD) Jd) aE) (m1 kz)) b3) cb) [.pt a,.sh (.int n),x2,x3,x4]=.ok (.int 3):=by
     open_line with[p6,decide_eq_true hb,cm o]
    unfold gb;rw[this];rfl
   .refine⟨1,by decide,λx2 x3 x4=>?_⟩
    have o:dG 2 0=true:=fL (by decide) (by decide);have:(aa (dC (.int 1)) (aa (dC (.int 2)) (au (ai (aa (ae 1) (aa (dC (.int 10)) (dC (.int 6)) sD) Jd) aE) (m1 kz)) b3) cb) [.pt a,.sh (.int n),x2,x3,x4]=.ok (.int 1):=by
     open_line with[p6,decide_eq_false hb,cm o]
    unfold gb;rw[this];rfl
  obtain⟨t,ht,hsrc⟩:=key;have hlen:(intsFrom 0 t).length=t:=by unfold DL.intsFrom;simp
  obtain⟨ρ2,st2,hl,m,s',x4,rfl,rfl,k0,k1,m0,_⟩:=p7 (tg:=bw 4) (body:=(aW (wq 0 a (mV 0 a (aa (aa (aa (aa (ae 0) (dC (.int 1)) aN) (dC (.int 39373)) b3) (dC (.int 17)) cb) (dC (.int 2147483647)) de)) (mP (dC (.int 1))))
 (aW (dP 3 (mV 0 a (aa (aa (ae 3) (dC (.int 2147483587)) b3) (aa (aa (aa (ae 0) (dC (.int 1)) aN) (aa (ae 0) (dC (.int 1)) aN) b3) (dC (.int 2147483587)) de) cb)))
 bg)))
   (λj ρ st=>∃(m s:Int) (x4:Sl),ρ=[.pt a,.sh (.int n),.no,.sh (.int m),x4]/\st=[.int c,.int s,.bl false]/\0<=s/\s<2147483647/\0<=m/\m<(2147483587:Int) ^ j)
   (intsFrom 0 t) (by
    rintro j d ρ st hj ⟨m,s,x4,rfl,rfl,s0,s1,m0,m1⟩;have hjt:j<t:=by have:=(List.getElem?_eq_some_iff.mp hj).1;omega
    have hd:d=.int (j:Int):=by
     unfold DL.intsFrom at hj;rw[List.getElem?_map,List.getElem?_range hjt] at hj;simp at hj;exact hj.symm
    subst hd;have hm:m<1000000000000000000000000000:=by
     have hj3:j=0∨j=1∨j=2:=by omega
     rcases hj3 with rfl|rfl|rfl<;>omega
    have g:=zB s;have r:=eC (a:=next s*next s) (b:=2147483587) (by decide);refine⟨_,_,_,rfl,.inl (EU (k:=(j:Int)) s0 s1 ⟨m0,hm⟩),Ky m (next s),next s,_,rfl,rfl,g.1,g.2,?_,?_⟩
    .unfold Ky
     have:0<=m*2147483587:=Int.mul_nonneg m0 (by decide);omega
    .unfold Ky
     rw[Int.pow_succ];omega) 0 [.pt a,.sh (.int n),.no,.sh (.int 0),.no] [.int c,.int s,.bl false] (Nat.zero_le _) ⟨0,s,_,rfl,rfl,s0,s1,by decide,by decide⟩
  rw[List.drop_zero] at hl;have f:=eC (a:=m.fdiv 64) (b:=n) n0;have hd64:eD m 64=true:=D7 (by decide) (by rw[AN];decide +kernel);refine⟨(m.fdiv 64).fmod n,[.int c,.int s',.bl false],?_,f.1,f.2,c,s',false,rfl,k0,k1⟩;open_line with[aF,jk,hsrc,hl,nj hd64,hn0]
theorem Ek(ns:List Int)(k:Nat)(hk:k<=1000)(hl:ns.length<=63):∃st,b5 [.lst (ns.map D.int),.int k]=.ok (.lst st)/\St st:=by
 have hlen:dE (.lst (ns.map D.int))=.ok (.int ns.length):=by
  rw[dB,List.length_map]
 have o1:dG 104729 (k:Int)=true:=fL (by decide) (by omega);have o2:dG (104729*(k:Int)) (k:Int)=true:=fL (by omega) (by omega)
 by_cases h:k<ns.length
 .have hix:aN (.lst (ns.map D.int)) (.int (k:Int))=.ok (.int ns[k]):=pV (by rw[List.getElem?_map,List.getElem?_eq_getElem h];rfl)
  have f:=eC (a:=(ns[k].fmod 2147483587+104729*(k:Int)*(k:Int)+7)) (b:=2147483587) (by decide);refine⟨[.int ns[k],.int ((ns[k].fmod 2147483587+104729*(k:Int)*(k:Int)+7).fmod 2147483587),.bl (decide (ns[k]≥1000000000000000000))],?_,_,_,_,rfl,f.1,by omega⟩;unfold b5 A5 iy;open_line with[hlen,hix,ni,cm o1,cm o2,decide_eq_true (show(k:Int)<(ns.length:Int) by omega),sP,HI,vE,Ih]
 .have f:=eC (a:=((0:Int).fmod 2147483587+104729*(k:Int)*(k:Int)+7)) (b:=2147483587) (by decide)
  refine⟨[.int 0,.int (((0:Int).fmod 2147483587+104729*(k:Int)*(k:Int)+7).fmod 2147483587),.bl false],?_,_,_,_,rfl,f.1,by omega⟩;unfold b5 A5 iy;open_line with[hlen,ni,cm o1,cm o2,decide_eq_false (show ¬(k:Int)<(ns.length:Int) by omega),sP,HI,vE,Ih]
theorem Nf:sD (.int 10) (.int 12)=.ok (.int 1000000000000):=aH rfl
structure Lj (x:cw):Prop where
 lo:Low x
 p0:0<=x.1
 p1:x.1<=1000000000000
 q1:x.2<=60
theorem Gm{c q:Int}(h0:0<=c)(h1:c<=1000000000000)(hq:0<q)(hq2:q<=60):Lj (cQ c q):=by
 have a1:=uM (a:=c) (b:=q);have a2:=uL (a:=c) (b:=q);have hl:=dz (a:=c) hq;have:=hl.q1;exact⟨hl,km h0 hq,by omega,by omega⟩
theorem kG(a:Addr){l:Int}(hl:l=0∨l=1){st:List D}(h:St st):∃(x:cw) (st':List D),b6 a st [.int l]=.ok (fr x,st')/\fW x/\0<=x.1/\(l=1->0<x.1)/\Lj x/\St st':=by
 have hN:(1000000000000000000000:Int)<(xH:Int):=by decide
 obtain⟨w,st1,t1,w0,w1,S1⟩:=bN a (n:=6) (by decide) (by decide) h;obtain⟨t,m,ht,hm,i1,i2⟩:∃t m:Int,(0<t/\t<=1000000000000)/\(0<m/\m<=12)/\aN (.lst [.int 3,.int 6,.int 20,.int 12,.int 90,.int 1000000000000]) (.int w)=.ok (.int t)/\aN (.lst [.int 1,.int 1,.int 1,.int 4,.int 12,.int 12]) (.int w)=.ok (.int m):=by
  have:w=0∨w=1∨w=2∨w=3∨w=4∨w=5:=by omega
  rcases this with rfl|rfl|rfl|rfl|rfl|rfl
  .exact⟨3,1,by decide,by decide,rfl,rfl⟩
  .exact⟨6,1,by decide,by decide,rfl,rfl⟩
  .exact⟨20,1,by decide,by decide,rfl,rfl⟩
  .exact⟨12,4,by decide,by decide,rfl,rfl⟩
  .exact⟨90,12,by decide,by decide,rfl,rfl⟩
  .exact⟨1000000000000,12,by decide,by decide,rfl,rfl⟩
 obtain⟨u,st2,t2,u0,u1,S2⟩:=bN a (n:=t) ht.1 (by omega) S1;obtain⟨v,st3,t3,v0,v1,S3⟩:=bN a (n:=m) hm.1 (by omega) S2;obtain⟨q,hq,i3⟩:∃q:Int,(0<q/\q<=60)/\aN (.lst [.int 1,.int 2,.int 3,.int 4,.int 5,.int 6,.int 10,.int 12,.int 15,.int 20,.int 30,.int 60]) (.int v)=.ok (.int q):=by
  have:v=0∨v=1∨v=2∨v=3∨v=4∨v=5∨v=6∨v=7∨v=8∨v=9∨v=10∨v=11:=by omega
  rcases this with rfl|rfl|rfl|rfl|rfl|rfl|rfl|rfl|rfl|rfl|rfl|rfl
  .exact⟨1,by decide,rfl⟩
  .exact⟨2,by decide,rfl⟩
  .exact⟨3,by decide,rfl⟩
  .exact⟨4,by decide,rfl⟩
  .exact⟨5,by decide,rfl⟩
  .exact⟨6,by decide,rfl⟩
  .exact⟨10,by decide,rfl⟩
  .exact⟨12,by decide,rfl⟩
  .exact⟨15,by decide,rfl⟩
  .exact⟨20,by decide,rfl⟩
  .exact⟨30,by decide,rfl⟩
  .exact⟨60,by decide,rfl⟩
 have hlo:=Cod.low_ok (a:=l+u) (b:=q) (by omega) (KG (by omega) (by omega)) (KG (by omega) (by omega));refine⟨cQ (l+u) q,st3,?_,KH (by omega) (by omega) (by omega),km (by omega) (by omega),λe=>FK (by omega) (by omega),Gm (by omega) (by omega) (by omega) (by omega),S3⟩;open_line with[b6,j7,t1,t2,t3,i1,i2,i3,Nf,hlo]
theorem yl{k n:Int}(hn:2<=n):k.fmod n≠(k+1).fmod n:=by
 rw[Int.fmod_eq_emod_of_nonneg _ (by omega),Int.fmod_eq_emod_of_nonneg _ (by omega)];intro e;have:=Int.emod_eq_emod_iff_emod_sub_eq_zero.mp e.symm;rw[show k+1-k=1 by omega,Int.emod_eq_of_lt (by decide) (by omega)] at this;cases this
noncomputable def gD(t:kH):Prop:=Lj t.l/\∀x,t.o=some x->Lj x
theorem EW(a:Addr){zs:List Str}{k:Nat}(h2:2<=zs.length)(h8:zs.length<=8)(nd:zs.Nodup){st:List D}(h:St st):∃(t:kH) (st':List D),cF a st [.lst (zs.map D.str),.int k]=.ok (bL t,st')/\rR zs t/\gD t/\St st':=by
 have hlen:dE (.lst (zs.map D.str))=.ok (.int zs.length):=by rw[dB,List.length_map]
 have hn0:((zs.length:Int)==0)=false:=beq_eq_false_iff_ne.mpr (by omega);obtain⟨d,st1,t1,d0,d1,S1⟩:=bN a (n:=(zs.length:Int)) (by omega) (by omega) h;obtain⟨e,st2,t2,e0,e1,S2⟩:=bN a (n:=(zs.length:Int)-1) (by omega) (by omega) S1;obtain⟨f,st3,t3,f0,f1,S3⟩:=bN a (n:=2) (by decide) (by decide) S2;obtain⟨g,st4,t4,g0,g1,S4⟩:=bN a (n:=2) (by decide) (by decide) S3;obtain⟨x,st5,t5,fx,lx,_,ax,S5⟩:=kG a (l:=0) (.inl rfl) S4;obtain⟨y,st6,t6,fy,_,ly,ay,S6⟩:=kG a (l:=1) (.inr rfl) S5;obtain⟨v,st7,t7,v0,v1,S7⟩:=bN a (n:=4) (by decide) (by decide) S6;obtain⟨wd,hw,jw⟩:=EL g0 g1;obtain⟨p,q,hp,hq,hpq,hplace⟩:∃p q:Int,(0<=p/\p<(zs.length:Int))/\(0<=q/\q<(zs.length:Int))/\p≠q/\(((f==0)=true/\p=(k:Int).fmod (zs.length:Int)/\q=((k:Int)+1).fmod (zs.length:Int))∨((f==0)=false/\p=d/\q=(d+1+e).fmod (zs.length:Int))):=by
  cases h10:(f==0) with
  |true=>exact⟨_,_,eC (by omega),eC (by omega),yl (by omega),.inl ⟨rfl,rfl,rfl⟩⟩
  |false =>
   obtain⟨hr,hne⟩:=ua (n:=(zs.length:Int)) (d:=d) (e:=e) (by omega) d0 d1 e0 e1;exact⟨_,_,⟨d0,d1⟩,hr,Ne.symm hne,.inr ⟨rfl,rfl,rfl⟩⟩
 obtain⟨z1,k1,j1⟩:=mS (zs:=zs) hp.1 hp.2;obtain⟨z2,k2,j2⟩:=mS (zs:=zs) hq.1 hq.2;have hz12:z1≠z2:=k7 nd k1 k2 (by omega);cases h4:(v==0) with
 |true =>
  refine⟨⟨z1,z2,wd,x,none⟩,st7,?_,⟨List.mem_of_getElem? k1,List.mem_of_getElem? k2,hz12,hw,fx,lx,λ_ hv=>nomatch hv⟩,⟨ax,λ_ hv=>nomatch hv⟩,S7⟩;rw[show bL ⟨z1,z2,wd,x,none⟩=.tup [.str z1,.str z2,.str wd,fr x,.non] from rfl];rcases hplace with⟨h10,e1,e2⟩|⟨h10,e1,e2⟩
  .rw[e2] at j2;rw[e1] at j1
   open_line with[cF,fT,hlen,t1,t2,t3,t4,t5,t6,t7,ra,hn0,h10,h4,jw,j1,j2]
  .rw[e2] at j2;rw[e1] at j1
   open_line with[cF,fT,hlen,t1,t2,t3,t4,t5,t6,t7,ra,hn0,h10,h4,jw,j1,j2]
 |false =>
  refine⟨⟨z1,z2,wd,x,some y⟩,st7,?_,⟨List.mem_of_getElem? k1,List.mem_of_getElem? k2,hz12,hw,fx,lx,λ_ hv=>by cases hv;exact⟨fy,ly rfl⟩⟩,⟨ax,λ_ hv=>by cases hv;exact ay⟩,S7⟩;rw[show bL ⟨z1,z2,wd,x,some y⟩=.tup [.str z1,.str z2,.str wd,fr x,fr y] from rfl];rcases hplace with⟨h10,e1,e2⟩|⟨h10,e1,e2⟩
  .rw[e2] at j2;rw[e1] at j1
   open_line with[cF,fT,hlen,t1,t2,t3,t4,t5,t6,t7,ra,hn0,h10,h4,jw,j1,j2]
  .rw[e2] at j2;rw[e1] at j1
   open_line with[cF,fT,hlen,t1,t2,t3,t4,t5,t6,t7,ra,hn0,h10,h4,jw,j1,j2]
theorem zO:∀{es:List D}{P:Int->Prop},(∀e∈es,∃l,e=D.int l/\P l)->∃ls:List Int,es=ls.map D.int/\∀l∈ls,P l
 |[],P,_=>⟨[],rfl,λl h=>by simp at h⟩
 |e::es,P,h=>by
  obtain⟨l,rfl,hl⟩:=h e (by simp);obtain⟨ls,rfl,hs⟩:=zO (es:=es) (P:=P) λe he=>h e (List.mem_cons_of_mem _ he);exact⟨l::ls,rfl,λx hx=>by
   rcases List.mem_cons.mp hx with rfl|hx
   .exact hl
   .exact hs x hx⟩
theorem yw(a:Addr){st:List D}(h:St st):∃(ls:List Int) (st':List D),rg [.no,.pt a] (bw 0) (bD 1 a (aQ (mP (dC (.int 26))) bU) aF) (DL.intsFrom 0 8,st)=.ok (.lst (ls.map D.int),st')/\ls.length=8/\(∀l∈ls,0<=l/\l<26)/\St st':=by
 obtain⟨es,st',h1,h2,h3,h4⟩:=tU (b:=[.no,.pt a]) (tg:=bw 0) (fm:=bD 1 a (aQ (mP (dC (.int 26))) bU) aF) St (λe=>∃l,e=D.int l/\0<=l/\l<26) (DL.intsFrom 0 8) st h (by
  intro d st _ h;obtain⟨x,st',t1,x0,x1,S1⟩:=bN a (n:=26) (by decide) (by decide) h;refine⟨_,.int x,st',rfl,?_,⟨x,rfl,x0,x1⟩,S1⟩;open_line with[t1])
 obtain⟨ls,rfl,hls⟩:=zO h3;refine⟨ls,st',?_,by simpa [DL.intsFrom] using h2,hls,h4⟩;unfold rg;rw[if_pos (show(DL.intsFrom 0 8).length<=line by decide),h1];rfl
noncomputable def xA(l:Int):Nat:=97+l.toNat
theorem Cj{f g:Ev->aj D}{ρ:Ev}{ls:List Int}{m:Nat}(hf:f ρ=.ok (.lst (ls.map D.int)))(hg:g ρ=.ok (.int (m:Int)))(hm:m<=ls.length)(hl:ls.length<=1000):oi f fg (eP g) ρ=.ok (.lst ((ls.take m).map D.int)):=by
 unfold oi;rw[hf];simp only[aj.bind,fg,eP,hg];exact congrArg (λz=>aj.ok (D.lst z)) (Ee hm)
theorem E6{ρ:Ev}{ls:List Int}(hl:ls.length<=100)(hb:∀l∈ls,0<=l/\l<26):fQ 1 [] (bw 0) mYes (aa (dC (.str "abcdefghijklmnopqrstuvwxyz")) (ae 0) aN) ρ (ls.map D.int)=.ok (.lst ((ls.map xA).map λc=>D.str ⟨#[c]⟩)):=by
 rw[rf (F:=λd=>match d with|.int l=>.str ⟨#[xA l]⟩|d=>d) (by rw[List.length_map];omega)]
 .congr 2
  rw[List.map_map,List.map_map];rfl
 .intro d hd
  obtain⟨l,hl',rfl⟩:=List.mem_map.mp hd;obtain⟨b0,b1⟩:=hb l hl';refine⟨[.sh (.int l)],rfl,rfl,?_⟩;open_line with[Jp b0 b1]
  rfl
theorem E5{ls:List Int}(hl:ls.length<=100):lj "" [.lst ((ls.map xA).map λc=>D.str ⟨#[c]⟩)]=.ok (.str (Cod.S (ls.map xA))):=yz (cs:=ls.map xA) (by rw[List.length_map];omega)
noncomputable def og(ls:List Int) (lg at_:Nat) (tu sp:Int) (ne:Bool) (k:Nat):List Int:=if ne=true then ls.take (1+((tu+(k:Int)).fmod 8).toNat) else(ls.take lg).set at_ ((tu+sp*(k:Int)).fmod 26)
noncomputable def nm(ls:List Int) (lg at_:Nat) (tu sp:Int) (ne:Bool) (k:Nat):List Nat:=(og ls lg at_ tu sp ne k).map xA
section
variable {ls:List Int}{lg at_:Nat}{tu sp:Int}{ne:Bool}(h8:ls.length=8) (hb:∀l∈ls,0<=l/\l<26) (g1:1<=lg) (g8:lg<=8) (ha:at_<lg)
include hb in
theorem zG{k:Nat}:∀l∈og ls lg at_ tu sp ne k,0<=l/\l<26:=by
 intro l hl;unfold og at hl;cases ne with
 |true=>rw[if_pos rfl] at hl;exact hb l (List.mem_of_mem_take hl)
 |false =>
  rw[if_neg (by decide)] at hl;rcases List.mem_or_eq_of_mem_set hl with hl|rfl
  .exact hb l (List.mem_of_mem_take hl)
  .exact eC (by decide)
include h8 g8 in
theorem lh{k:Nat}:(og ls lg at_ tu sp ne k).length=if ne=true then 1+((tu+(k:Int)).fmod 8).toNat else lg:=by
 unfold og;have:=eC (a:=tu+(k:Int)) (b:=8) (by decide);cases ne with|true=>rw[if_pos rfl,if_pos rfl,List.length_take,h8];omega|false=>rw[if_neg (by decide),if_neg (by decide),List.length_set,List.length_take,h8];omega
include h8 hb g1 g8 in
theorem Kt{k:Nat}:Cod.IsNm (nm ls lg at_ tu sp ne k):=by
 have hl:=lh (tu:=tu) (sp:=sp) (ne:=ne) (at_:=at_) h8 g8 (k:=k);have:=eC (a:=tu+(k:Int)) (b:=8) (by decide);refine⟨?_,?_,λx hx=>?_⟩
 .unfold nm;rw[List.length_map,hl];split<;>omega
 .unfold nm;rw[List.length_map,hl];split<;>omega
 .unfold nm at hx
  obtain⟨l,hl,rfl⟩:=List.mem_map.mp hx;have:=zG hb l hl;exact Jq _ (by omega)
include h8 g8 ha in
theorem C7{i j:Nat}(hij:i<j)(hj:j<7)(hs:sp=1∨sp=3∨sp=5∨sp=7∨sp=9∨sp=11):nm ls lg at_ tu sp ne i≠nm ls lg at_ tu sp ne j:=by
 intro e;cases ne with
 |true =>
  have hl:=congrArg List.length e;unfold nm at hl;rw[List.length_map,List.length_map,lh h8 g8,lh h8 g8,if_pos rfl,if_pos rfl] at hl;have f1:=eC (a:=tu+(i:Int)) (b:=8) (by decide);have f2:=eC (a:=tu+(j:Int)) (b:=8) (by decide);have he:(tu+(i:Int)).fmod 8=(tu+(j:Int)).fmod 8:=by omega
  rw[Int.fmod_eq_emod_of_nonneg _ (by decide),Int.fmod_eq_emod_of_nonneg _ (by decide)] at he;omega
 |false =>
  have h1:(nm ls lg at_ tu sp false i)[at_]?=(nm ls lg at_ tu sp false j)[at_]?:=by rw[e]
  unfold nm og at h1;rw[if_neg (by decide),if_neg (by decide),List.getElem?_map,List.getElem?_map,List.getElem?_set_self (by rw[List.length_take,h8];omega),List.getElem?_set_self (by rw[List.length_take,h8];omega)] at h1;simp only[Option.map_some,Option.some.injEq,xA] at h1;have f1:=eC (a:=tu+sp*(i:Int)) (b:=26) (by decide);have f2:=eC (a:=tu+sp*(j:Int)) (b:=26) (by decide);have he:(tu+sp*(i:Int)).fmod 26=(tu+sp*(j:Int)).fmod 26:=by omega
  rw[Int.fmod_eq_emod_of_nonneg _ (by decide),Int.fmod_eq_emod_of_nonneg _ (by decide)] at he;rcases hs with rfl|rfl|rfl|rfl|rfl|rfl<;>omega
include h8 g8 ha in
theorem Bh(hs:sp=1∨sp=3∨sp=5∨sp=7∨sp=9∨sp=11):∀n:Nat,n<=7->((List.range n).map (nm ls lg at_ tu sp ne)).Nodup:=by
 intro n hn;rw[List.nodup_iff_pairwise_ne,List.pairwise_map];have:(List.range n).Pairwise (· < ·):=List.pairwise_lt_range;refine List.Pairwise.imp_of_mem (λ{i j} hi hj hij=>?_) this;rw[List.mem_range] at hj;exact C7 h8 g8 ha hij (by omega) hs
end
noncomputable def iR(ls:List Int) (lg at_:Nat) (tu sp:Int) (ne:Bool) (k:Nat):List (List Nat):=(List.range k).map (nm ls lg at_ tu sp ne)
theorem yk{ls:List Int}{lg at_:Nat}{tu sp:Int}{ne:Bool}{k:Nat}:Cod.nmsD (iR ls lg at_ tu sp ne (k+1))=Cod.nmsD (iR ls lg at_ tu sp ne k)++[.str (Cod.S (nm ls lg at_ tu sp ne k))]:=by
 unfold iR Cod.nmsD;rw[List.range_succ,List.map_append,List.map_append];rfl
theorem C6{a:Addr}{ls:List Int}{lg at_ n:Nat}{tu sp:Int}{ne:Bool}(h8:ls.length=8)(hb:∀l∈ls,0<=l/\l<26)(g1:1<=lg)(g8:lg<=8)(ha:at_<lg)(t0:0<=tu/\tu<26)(s0:0<=sp/\sp<=11)(hn:n<=7) :
  ∃x9 x10,bM (bw 9) (aw (ke 10 (oi (ae 2) fg (eP (ae 3))))
 (aw (Cp 10 (aa (aa (ae 5) (aa (ae 6) (ae 9) b3) cb) (dC (.int 26)) de) (ae 4))
 (aw (dW (ae 7)
 (aw (ke 10 (oi (ae 2) fg (eP (aa (dC (.int 1)) (aa (aa (ae 5) (ae 9) cb) (dC (.int 8)) de) cb))))
 ar)
 ar)
 (aw (Cq 10 (dw 8 (tP (dC (.str "")) (ai (dh 1 [] (jJ (ae 10)) (bw 0) mYes (aa (dC (.str "abcdefghijklmnopqrstuvwxyz")) (ae 0) aN)) aE))))
 ar)))) (DL.intsFrom 0 n) [.pt a,.sh (.int (n:Int)),.sh (.lst (ls.map D.int)),.sh (.int (lg:Int)),.sh (.int (at_:Int)),.sh (.int tu),.sh (.int sp),.sh (.bl ne),.ow (.lst []),.no,.no] =
   .ok (.nx [.pt a,.sh (.int (n:Int)),.sh (.lst (ls.map D.int)),.sh (.int (lg:Int)),.sh (.int (at_:Int)),.sh (.int tu),.sh (.int sp),.sh (.bl ne),.ow (.lst (Cod.nmsD (iR ls lg at_ tu sp ne n))),x9,x10]):=by
 obtain⟨ρ',hl,x9,x10,rfl⟩:=uR (i:=9) (n:=n)
  (ρ:=[.pt a,.sh (.int (n:Int)),.sh (.lst (ls.map D.int)),.sh (.int (lg:Int)),.sh (.int (at_:Int)),.sh (.int tu),.sh (.int sp),.sh (.bl ne),.ow (.lst []),.no,.no])
  (body:=(aw (ke 10 (oi (ae 2) fg (eP (ae 3))))
 (aw (Cp 10 (aa (aa (ae 5) (aa (ae 6) (ae 9) b3) cb) (dC (.int 26)) de) (ae 4))
 (aw (dW (ae 7)
 (aw (ke 10 (oi (ae 2) fg (eP (aa (dC (.int 1)) (aa (aa (ae 5) (ae 9) cb) (dC (.int 8)) de) cb))))
 ar)
 ar)
 (aw (Cq 10 (dw 8 (tP (dC (.str "")) (ai (dh 1 [] (jJ (ae 10)) (bw 0) mYes (aa (dC (.str "abcdefghijklmnopqrstuvwxyz")) (ae 0) aN)) aE))))
 ar)))))
  (λk ρ=>∃x9 x10,ρ=[.pt a,.sh (.int (n:Int)),.sh (.lst (ls.map D.int)),.sh (.int (lg:Int)),.sh (.int (at_:Int)),.sh (.int tu),.sh (.int sp),.sh (.bl ne),.ow (.lst (Cod.nmsD (iR ls lg at_ tu sp ne k))),x9,x10]) (by
   rintro k hk ρ ⟨x9,x10,rfl⟩;have hlen:=lh (tu:=tu) (sp:=sp) (ne:=ne) (at_:=at_) h8 g8 (k:=k);have f8:=eC (a:=tu+(k:Int)) (b:=8) (by decide);have om:dG sp (k:Int)=true:=fL (by omega) (by omega);have hap:decide ((Cod.nmsD (iR ls lg at_ tu sp ne k)).length<=999)=true:=decide_eq_true (by unfold Cod.nmsD iR;simp;omega);have hs1:∀x8 x10,oi (ae 2) fg (eP (ae 3)) [.pt a,.sh (.int (n:Int)),.sh (.lst (ls.map D.int)),.sh (.int (lg:Int)),.sh (.int (at_:Int)),.sh (.int tu),.sh (.int sp),.sh (.bl ne),x8,.sh (.int (k:Int)),x10]=.ok (.lst ((ls.take lg).map D.int)):=λ_ _=>Cj rfl rfl (by omega) (by omega);have hix:xJ ((ls.take lg).map D.int).length (at_:Int)=some at_:=by
    rw[List.length_map,List.length_take,h8];unfold xJ;rw[if_pos (by omega),if_pos (by omega)];simp
   have hset:((ls.take lg).map D.int).set at_ (.int ((tu+sp*(k:Int)).fmod 26))=((ls.take lg).set at_ ((tu+sp*(k:Int)).fmod 26)).map D.int:=(List.map_set ..).symm;have hll:(og ls lg at_ tu sp ne k).length<=100:=by rw[hlen];split<;>omega
   have hc:=λρ=>E6 (ρ:=ρ) hll (zG hb);have hj:lj "" [.lst (((og ls lg at_ tu sp ne k).map xA).map λc=>D.str ⟨#[c]⟩)]=.ok (.str (Cod.S (nm ls lg at_ tu sp ne k))):=E5 hll;refine⟨[.pt a,.sh (.int (n:Int)),.sh (.lst (ls.map D.int)),.sh (.int (lg:Int)),.sh (.int (at_:Int)),.sh (.int tu),.sh (.int sp),.sh (.bl ne),.ow (.lst (Cod.nmsD (iR ls lg at_ tu sp ne (k+1)))),.sh (.int (k:Int)),.sh (.lst ((og ls lg at_ tu sp ne k).map D.int))],?_,_,_,rfl⟩;rw[yk];cases ne with
   |true =>
    have e1:og ls lg at_ tu sp true k=ls.take (1+((tu+(k:Int)).fmod 8).toNat):=if_pos rfl;have hs2:∀x8 x10,oi (ae 2) fg (eP (aa (dC (.int 1)) (aa (aa (ae 5) (ae 9) cb) (dC (.int 8)) de) cb)) [.pt a,.sh (.int (n:Int)),.sh (.lst (ls.map D.int)),.sh (.int (lg:Int)),.sh (.int (at_:Int)),.sh (.int tu),.sh (.int sp),.sh (.bl true),x8,.sh (.int (k:Int)),x10]=.ok (.lst ((og ls lg at_ tu sp true k).map D.int)):=λx8 x10=>by
     rw[e1];refine Cj rfl ?_ (by omega) (by omega);open_line with[]
     congr 2
     omega
    open_line with[hs1,cm om,wM hix,hset,hs2,hc,hj,fu hap]
   |false =>
    have e1:(ls.take lg).set at_ ((tu+sp*(k:Int)).fmod 26)=og ls lg at_ tu sp false k:=(if_neg (by decide)).symm;rw[e1] at hset;open_line with[hs1,cm om,wM hix,hset,hc,hj,fu hap]) ⟨_,_,rfl⟩
 exact⟨x9,x10,hl⟩
theorem C8(a:Addr){n:Nat}(hn:n<=7){st:List D}(h:St st):∃(css:List (List Nat)) (st':List D),dy a st [.int (n:Int)]=.ok (.lst (Cod.nmsD css),st')/\css.length=n/\css.Nodup/\(∀cs∈css,Cod.IsNm cs)/\St st':=by
 obtain⟨ls,st1,t1,h8,hb,S1⟩:=yw a h;obtain⟨d,st2,t2,d0,d1,S2⟩:=bN a (n:=8) (by decide) (by decide) S1;obtain⟨at_,st3,t3,a0,a1,S3⟩:=bN a (n:=1+d) (by omega) (by omega) S2;obtain⟨tu,st4,t4,u0,u1,S4⟩:=bN a (n:=26) (by decide) (by decide) S3;obtain⟨e,st5,t5,e0,e1,S5⟩:=bN a (n:=6) (by decide) (by decide) S4;obtain⟨f,st6,t6,f0,f1,S6⟩:=bN a (n:=3) (by decide) (by decide) S5;obtain⟨sp,hs,i1⟩:∃sp:Int,(sp=1∨sp=3∨sp=5∨sp=7∨sp=9∨sp=11)/\aN (.lst [.int 1,.int 3,.int 5,.int 7,.int 9,.int 11]) (.int e)=.ok (.int sp):=by
  have:e=0∨e=1∨e=2∨e=3∨e=4∨e=5:=by omega
  rcases this with rfl|rfl|rfl|rfl|rfl|rfl
  .exact⟨1,by decide,rfl⟩
  .exact⟨3,by decide,rfl⟩
  .exact⟨5,by decide,rfl⟩
  .exact⟨7,by decide,rfl⟩
  .exact⟨9,by decide,rfl⟩
  .exact⟨11,by decide,rfl⟩
 obtain⟨lg,hlg⟩:=Int.eq_ofNat_of_zero_le (show 0<=1+d by omega);obtain⟨at',rfl⟩:=Int.eq_ofNat_of_zero_le a0;rw[hlg] at t3;obtain⟨x9,x10,hl⟩:=C6 (a:=a) (ls:=ls) (lg:=lg) (at_:=at') (n:=n) (tu:=tu) (sp:=sp) (ne:=(f==0)) h8 hb (by omega) (by omega) (by omega) ⟨u0,u1⟩ (by omega) hn;refine⟨iR ls lg at' tu sp (f==0) n,st6,?_,by unfold iR;simp,Bh h8 (by omega) (by omega) hs n hn,λcs hc=>?_,S6⟩
 .have hsrc:∀ρ,gb (dC (.int 8)) ρ=.ok (DL.intsFrom 0 8):=λ_=>rfl
  have hbm:∀x1 x2 x3 x4 x5 x6 x7 x8 x9 x10,eE 1 [0] [.pt a,x1,x2,x3,x4,x5,x6,x7,x8,x9,x10]=[.no,.pt a]:=λ_ _ _ _ _ _ _ _ _ _=>rfl;open_line with[dy,mE,hsrc,hbm,t1,t2,hlg,t3,t4,t5,i1,t6,l9,iX (show n<=1000000 by omega),hl]
 .unfold iR at hc
  obtain⟨k,_,rfl⟩:=List.mem_map.mp hc;exact Kt h8 hb (by omega) (by omega)
theorem taking_ok(a:Addr){w:cq}(W:bT w){r:Int}(hr:0<r/\r<=1000){st:List D}(h:St st):∃(ks:List Nat) (st':List D),cG a st [aS w,.int r]=.ok (aU ks,st')/\mF w ks/\St st':=by
 obtain⟨ps,ts,fi,la⟩:=w;have t14:ts.length<=14:=W.t14;have i1:aN (aS ⟨ps,ts,fi,la⟩) (.int 1)=.ok (.lst (ts.map bL)):=rfl;have hlen:dE (.lst (ts.map bL))=.ok (.int ts.length):=by rw[dB,List.length_map]
 have hlenI:(DL.intsFrom 0 ts.length).length=ts.length:=by unfold DL.intsFrom;simp
 have hsrc:∀x3 x4,gb (au (ai (aa (ae 1) (dC (.int 1)) aN) aE) (m1 dE)) [.pt a,.sh (aS ⟨ps,ts,fi,la⟩),.sh (.int r),x3,x4]=.ok (DL.intsFrom 0 ts.length):=λx3 x4=>by
  rw[Cod.ev_srcR1];open_line with[i1,hlen]
  exact Cod.srcR1_nat (by omega)
 obtain⟨ρ2,st4,hl,ks,x4,rfl,hlt,hup,hwo,S4⟩:=p7 (tg:=bw 4) (body:=(aW (sC (Di (mB (bD 0 a (aQ (mP (ae 2)) bU) aF) (mP (dC (.int 0))) iD) (mT (aa (aa (aa (aa (ae 1) (dC (.int 1)) aN) (ae 4) aN) (dC (.int 4)) aN) (dC (.non)) cU)))
 (aW (cJ (dw 3 (ae 4)))
 bg)
 bg)
 bg))
  (λj ρ st=>∃(ks:List Nat) (x4:Sl),ρ=[.pt a,.sh (aS ⟨ps,ts,fi,la⟩),.sh (.int r),.ow (.lst (ks.map λ(k:Nat)=>D.int (k:Int))),x4]/\(∀k∈ks,k<j)/\ks.Pairwise (· < ·)/\(∀k∈ks,∃t x,ts[k]?=some t/\t.o=some x)/\ks.length<=j/\St st) (DL.intsFrom 0 ts.length) (by
   rintro j d ρ st hj ⟨ks,x4,rfl,hlt,hup,hwo,hkl,S⟩;have hjt:j<ts.length:=by have:=(List.getElem?_eq_some_iff.mp hj).1;omega
   have hd:d=.int (j:Int):=by
    unfold DL.intsFrom at hj;rw[List.getElem?_map,List.getElem?_range hjt] at hj;simp at hj;exact hj.symm
   subst hd;obtain⟨v,st',t1,v0,v1,S'⟩:=bN a (n:=r) hr.1 (by omega) S;have hix:aN (.lst (ts.map bL)) (.int (j:Int))=.ok (bL ts[j]):=pV (by rw[List.getElem?_map,List.getElem?_eq_getElem hjt];rfl);have i4:aN (bL ts[j]) (.int 4)=.ok (aM ts[j].o):=rfl;have hap:decide ((ks.map λ(k:Nat)=>D.int (k:Int)).length<=999)=true:=decide_eq_true (by rw[List.length_map];omega);cases hv:(v==0) with
   |false =>
    refine⟨_,[.pt a,.sh (aS ⟨ps,ts,fi,la⟩),.sh (.int r),.ow (.lst (ks.map λ(k:Nat)=>D.int (k:Int))),.sh (.int (j:Int))],st',rfl,.inl ?_,ks,_,rfl,λk hk=>by have:=hlt k hk;omega,hup,hwo,by omega,S'⟩;open_line with[t1,hv]
   |true =>
    cases ho:ts[j].o with
    |none =>
     rw[ho] at i4;have i5:cU (aM none) .non=.ok (.bl false):=rfl;refine⟨_,[.pt a,.sh (aS ⟨ps,ts,fi,la⟩),.sh (.int r),.ow (.lst (ks.map λ(k:Nat)=>D.int (k:Int))),.sh (.int (j:Int))],st',rfl,.inl ?_,ks,_,rfl,λk hk=>by have:=hlt k hk;omega,hup,hwo,by omega,S'⟩;open_line with[t1,hv,i1,hix,i4,i5]
    |some x =>
     rw[ho] at i4;have i5:cU (aM (some x)) .non=.ok (.bl true):=rfl;refine⟨_,[.pt a,.sh (aS ⟨ps,ts,fi,la⟩),.sh (.int r),.ow (.lst ((ks++[j]).map λ(k:Nat)=>D.int (k:Int))),.sh (.int (j:Int))],st',rfl,.inl ?_,ks++[j],_,rfl,λk hk=>?_,?_,λk hk=>?_,by simp;omega,S'⟩
     .open_line with[t1,hv,i1,hix,i4,i5,fu hap,List.map_append]
     .rw[List.mem_append] at hk
      rcases hk with hk|hk
      .have:=hlt k hk;omega
      .have:k=j:=by simpa using hk
       omega
     .rw[List.pairwise_append]
      refine⟨hup,by simp,λx hx y hy=>?_⟩;have:y=j:=by simpa using hy
      have:=hlt x hx;omega
     .rw[List.mem_append] at hk
      rcases hk with hk|hk
      .exact hwo k hk
      .have:k=j:=by simpa using hk
       subst this;exact⟨ts[k],x,List.getElem?_eq_getElem hjt,ho⟩) 0 [.pt a,.sh (aS ⟨ps,ts,fi,la⟩),.sh (.int r),.ow (.lst []),.no] st (Nat.zero_le _) ⟨[],_,rfl,λk hk=>by simp at hk,by simp,λk hk=>by simp at hk,by simp,h⟩
 rw[List.drop_zero] at hl;refine⟨ks,st4,?_,⟨hup,hwo⟩,S4.2⟩;open_line with[cG,j6,hsrc,hl]
 rfl
end Bor
namespace DL
open PySem L2
section
variable {α β:Type}
noncomputable def Rf(a b:aj α):Prop:=a=.stuck∨a=b
theorem cX{a b:aj α}{f g:α->aj β}(h:Rf a b)(k:∀x,Rf (f x) (g x)):Rf (a.bind f) (b.bind g):=by
 rcases h with rfl|rfl
 .exact .inl rfl
 .cases a with
  |ok x=>exact k x
  |exn x=>exact .inr rfl
  |stuck=>exact .inl rfl
structure jP (f g:Ev->aj α):Prop where
 o:∀ρ,Rf (f ρ) (g ρ)
end
structure Ls (f g:List D->aj D):Prop where
 o:∀ds,Rf (f ds) (g ds)
theorem Ls.ok{f g:List D->aj D}(h:Ls f g){ds:List D}{d:D}(e:f ds=.ok d):g ds=.ok d:=by
 rcases h.o ds with q|q
 .rw[q] at e;cases e
 .rw[←q];exact e
theorem rfm_refl{f:List D->aj D}:Ls f f:=⟨λ_=>.inr rfl⟩
theorem rf_refl{α:Type}{f:Ev->aj α}:jP f f:=⟨λ_=>.inr rfl⟩
section
variable {s s' t t':Ev->aj Fl}{c c' f f':Ev->aj D}{fa fa':Ev->aj (List D)}{m m':List D->aj D}
theorem rf_stuck:jP c7 s:=⟨λ_=>.inl rfl⟩
theorem rf_seq(h1:jP s s')(h2:jP t t'):jP (aw s t) (aw s' t'):=⟨λρ=>cX (h1.o ρ) λr=>by
 cases r with
 |nx ρ'=>exact h2.o ρ'
 |_=>exact .inr rfl⟩
theorem rf_if(hc:jP c c')(h1:jP s s')(h2:jP t t'):jP (dW c s t) (dW c' s' t'):=⟨λρ=>cX (hc.o _) λr=>by
 cases r with
 |bl b=>cases b with
  |true=>exact h1.o ρ
  |false=>exact h2.o ρ
 |_=>exact .inr rfl⟩
theorem oA{tg:Ev->D->aj Ev}(h:jP s s'):∀(ds:List D) (ρ:Ev),Rf (bM tg s ds ρ) (bM tg s' ds ρ)
 |[],ρ=>.inr rfl
 |d::r,ρ=>by
  unfold bM;refine cX (.inr rfl) λρ1=>cX (h.o ρ1) λx=>?_;cases x with|nx ρ2|ct ρ2=>exact oA h r ρ2|bk ρ2|rt d=>exact .inr rfl
theorem rf_for{tg:Ev->D->aj Ev}(hf:jP f f')(h:jP s s'):jP (n9 f tg s) (n9 f' tg s'):=⟨λρ=>cX (hf.o ρ) λd=>by
 cases d with
 |lst ds=>exact oA h ds ρ
 |_=>exact .inr rfl⟩
theorem rf_forI{tg:Ev->D->aj Ev}{src:Ev->aj (List D)}(h:jP s s'):jP (jQ src tg s) (jQ src tg s'):=⟨λρ=>cX (.inr rfl) λds=>oA h ds ρ⟩
theorem rf_drop(h:jP f f'):jP (kQ f) (kQ f'):=⟨λρ=>cX (h.o _) λ_=>.inr rfl⟩
theorem rf_ret(h:jP f f'):jP (bP f) (bP f'):=⟨λρ=>cX (h.o _) λ_=>.inr rfl⟩
theorem rf_set{i:Nat}(h:jP f f'):jP (bG i f) (bG i f'):=⟨λρ=>cX (h.o _) λ_=>.inr rfl⟩
theorem rf_b1{op:D->aj D}(h:jP f f'):jP (cL f op) (cL f' op):=⟨λρ=>cX (h.o _) λ_=>.inr rfl⟩
theorem rf_not(h:jP f f'):jP (cI f) (cI f'):=rf_b1 h
theorem rf_b2{op:D->D->aj D}(h:jP f f')(h2:jP c c'):jP (aa f c op) (aa f' c' op):=⟨λρ=>cX (h.o _) λ_=>cX (h2.o _) λ_=>.inr rfl⟩
theorem rf_bA(h:jP fa fa')(hm:Ls m m'):jP (au fa m) (au fa' m'):=⟨λρ=>cX (h.o _) λds=>hm.o ds⟩
theorem rf_cons(h:jP f f')(h2:jP fa fa'):jP (ai f fa) (ai f' fa'):=⟨λρ=>cX (h.o _) λ_=>cX (h2.o _) λ_=>.inr rfl⟩
end
end DL
local macro_rules|`(tactic|open_line with[rf_go])=>`(tactic|repeat (first|with_reducible exact DL.rf_refl|with_reducible exact DL.rf_stuck|with_reducible assumption|with_reducible exact DL.rfm_refl|with_reducible refine DL.rf_seq ?_ ?_|with_reducible refine DL.rf_if ?_ ?_ ?_|with_reducible refine DL.rf_for ?_ ?_|with_reducible refine DL.rf_forI ?_|with_reducible refine DL.rf_drop ?_|with_reducible refine DL.rf_ret ?_|with_reducible refine DL.rf_set ?_|with_reducible refine DL.rf_not ?_|with_reducible refine DL.rf_bA ?_ ?_|with_reducible refine DL.rf_cons ?_ ?_|with_reducible refine DL.rf_b1 ?_|with_reducible refine DL.rf_b2 ?_ ?_))
namespace K11
open PySem L2 DL Com
noncomputable def there(t:kH) (z:Str):Option Str:=if t.a=z then some t.b else if t.b=z/\t.w="both" then some t.a else none
noncomputable def oS:Option Str->D
 |some z=>.str z
 |none=>.non
theorem c9{x y:Str}:iD (.str x) (.str y)=.ok (.bl (decide (x=y))):=by
 have h:iD (.str x) (.str y)=.ok (.bl (x==y)):=rfl;rw[h]
 by_cases e:x=y
 .rw[decide_eq_true e,e,beq_self_eq_true]
 .rw[decide_eq_false e,beq_eq_false_iff_ne.mpr e]
theorem there_ok{t:kH}{z:Str}:bp [bL t,.str z]=.ok (oS (there t z)):=by
 obtain⟨a,b,w,l,o⟩:=t;rw[show bL ⟨a,b,w,l,o⟩=.tup [.str a,.str b,.str w,fr l,aM o] from rfl];unfold there
 by_cases h1:a=z
 .rw[if_pos h1]
  open_line with[bp,eh,c9,decide_eq_true h1,oS]
 .rw[if_neg h1]
  by_cases h2:b=z
  .by_cases h3:w="both"
   .rw[if_pos ⟨h2,h3⟩]
    open_line with[bp,eh,c9,decide_eq_false h1,decide_eq_true h2,decide_eq_true h3,oS]
   .rw[if_neg (λh=>h3 h.2)]
    open_line with[bp,eh,c9,decide_eq_false h1,decide_eq_true h2,decide_eq_false h3,oS]
  .rw[if_neg (λh=>h2 h.1)]
   open_line with[bp,eh,c9,decide_eq_false h1,decide_eq_false h2,oS]
noncomputable def ways(t:kH):List (Str×Str):=if t.w="one" then[(t.a,t.b)] else[(t.a,t.b),(t.b,t.a)]
noncomputable def pr(p:Str×Str):D:=.tup [.str p.1,.str p.2]
theorem steps_ok{t:kH}:m_steps_along [bL t]=.ok (.lst ((ways t).map pr)):=by
 obtain⟨a,b,w,l,o⟩:=t;rw[show bL ⟨a,b,w,l,o⟩=.tup [.str a,.str b,.str w,fr l,aM o] from rfl];unfold ways
 by_cases h:w="one"
 .rw[if_pos h]
  open_line with[m_steps_along,gC,c9,decide_eq_true h,pr]
 .rw[if_neg h]
  open_line with[m_steps_along,gC,c9,decide_eq_false h,pr]
theorem shal_nums{m:Nat}{ks:List Nat}:(ks.map λ(k:Nat)=>D.int (k:Int)).all (bo m)=true:=List.all_eq_true.mpr λd hd=>by
 obtain⟨z,_,rfl⟩:=List.mem_map.mp hd;cases m<;>rfl
theorem AH{n:Nat}:∀{ks:List Nat},((ks.map λ(k:Nat)=>D.int (k:Int)).any λd=>cC d (.int (n:Int)))=decide (n∈ks)
 |[]=>rfl
 |k::ks=>by
  rw[List.map_cons,List.any_cons,AH];have e:cC (.int (k:Int)) (.int (n:Int))=((k:Int)==(n:Int)):=by rw[cC]
  rw[e]
  by_cases h:n=k
  .subst h;simp
  .have h1:((k:Int)==(n:Int))=false:=beq_eq_false_iff_ne.mpr (by omega)
   rw[h1,Bool.false_or];have:n∈k::ks↔n∈ks:=by simp [h]
   exact decide_eq_decide.mpr this.symm
theorem notIn_nums{ks:List Nat}{n:Nat}:cj (.int (n:Int)) (.lst (ks.map λ(k:Nat)=>D.int (k:Int)))=.ok (.bl (!(decide (n∈ks)))):=by
 have e:Du (.int (n:Int)) (.lst (ks.map λ(k:Nat)=>D.int (k:Int)))=some (decide (n∈ks)):=(if_pos ⟨rfl,shal_nums⟩).trans (congrArg some AH);unfold cj;rw[e]
theorem oE{pre:List Str}{here:Str}:aN (.lst ((pre++[here]).map D.str)) (.int (-1))=.ok (.str here):=by
 rw[List.map_append];exact FQ
end K11
namespace K11
open PySem L2 DL Com Bor
noncomputable abbrev bJ(ks:List Nat):List D:=ks.map λ(k:Nat)=>D.int (k:Int)
end K11
namespace K12
open PySem L2 DL Com Bor K11
noncomputable def lenAt(w:cq) (k:Nat):cw:=((w.ts[k]?).map kH.l).getD (0,1)
theorem lenAt_of{w:cq}{k:Nat}{t:kH}(h:w.ts[k]?=some t):lenAt w k=t.l:=by unfold lenAt;rw[h];rfl
end K12
namespace K51
open PySem L2 DL Com Bor
theorem p2_lt{a:Int}{m n:Nat}(h:a.natAbs<2 ^ m)(hm:m<=n):a.natAbs<2 ^ n:=Nat.lt_of_lt_of_le h (Nat.pow_le_pow_right (by decide) hm)
theorem yn{a b:Int}{m n:Nat}(h:a.natAbs<2 ^ m)(h':b.natAbs<2 ^ n):(a*b).natAbs<2 ^ (m+n):=by
 rw[Int.natAbs_mul,Nat.pow_add];exact Nat.mul_lt_mul'' h h'
theorem Jn{a b:Int}{m:Nat}(h:a.natAbs<2 ^ m)(h':b.natAbs<2 ^ m):(a+b).natAbs<2 ^ (m+1):=by
 have:=Int.natAbs_add_le a b;rw[Nat.pow_succ];omega
noncomputable def pl(x y:cw):cw:=cQ (un x y).1 (un x y).2
theorem i0(u:cw):aN (fr u) (.int 0)=.ok (.int u.1):=rfl
theorem i1(u:cw):aN (fr u) (.int 1)=.ok (.int u.2):=rfl
structure Bd (x:cw) (n:Nat):Prop where
 q0:0<x.2
 a:x.1.natAbs<2 ^ n
 b:x.2.natAbs<2 ^ n
theorem Bd.c13{x:cw}{n:Nat}(h:Bd x n)(hn:n<=6000):x.1.natAbs<nY/\x.2.natAbs<nY:=by
 have:2 ^ n<=nY:=by rw[nC];exact Nat.pow_le_pow_right (by decide) (Nat.le_trans hn (by decide))
 exact⟨Nat.lt_of_lt_of_le h.a this,Nat.lt_of_lt_of_le h.b this⟩
theorem Bd.c60{x:cw}{n:Nat}(h:Bd x n)(hn:n<=6000):x.1.natAbs<xM/\x.2.natAbs<xM:=⟨Nat.lt_of_lt_of_le (h.c13 hn).1 oV,Nat.lt_of_lt_of_le (h.c13 hn).2 oV⟩
theorem low_bd{a b:Int}{n:Nat}(hb:0<b)(h1:a.natAbs<2 ^ n)(h2:b.natAbs<2 ^ n):Bd (cQ a b) n:=⟨by have:=(dz (a:=a) hb).q1;omega,Nat.lt_of_le_of_lt uM h1,Nat.lt_of_le_of_lt uL h2⟩
theorem un_bd{x y:cw}{m n:Nat}(hx:Bd x m)(hy:Bd y n):Bd (un x y) (m+n+1):=by
 refine⟨Int.mul_pos hx.q0 hy.q0,?_,p2_lt (yn hx.b hy.b) (by omega)⟩;have h1:=yn hx.a hy.b;have h2:=yn hy.a hx.b;rw[Nat.add_comm n m] at h2;exact Jn h1 h2
theorem pl_bd{x y:cw}{m n:Nat}(hx:Bd x m)(hy:Bd y n):Bd (pl x y) (m+n+1):=low_bd (un_bd hx hy).q0 (un_bd hx hy).a (un_bd hx hy).b
theorem lplus_bd{x y:cw}{m n:Nat}(hx:Bd x m)(hy:Bd y n)(h:m+n<=5900):bB [fr x,fr y]=.ok (fr (pl x y)):=by
 have b1:=hx.c60 (by omega);have b2:=hy.c60 (by omega);have hp:=un_bd hx hy;have hc:=hp.c13 (by omega);have m1:=cm (d9 b1.1 b2.2);have m2:=cm (d9 b2.1 b1.2);have m3:=cm (d9 b1.2 b2.2);have hlo:bI [.int (x.1*y.2+y.1*x.2),.int (x.2*y.2)]=.ok (fr (pl x y)):=Cod.low_ok hp.q0 hc.1 hc.2;open_line with[K12.bB,K12.nT,i0,i1,m1,m2,m3,hlo]
theorem plus_bd{x y:cw}{m n:Nat}(hx:Bd x m)(hy:Bd y n)(h:m+n<=5900):m_plus [fr x,fr y]=.ok (fr (pl x y)):=by
 have b1:=hx.c60 (by omega);have b2:=hy.c60 (by omega);have hp:=un_bd hx hy;have hc:=hp.c13 (by omega);have m1:=cm (d9 b1.1 b2.2);have m2:=cm (d9 b2.1 b1.2);have m3:=cm (d9 b1.2 b2.2);have hlo:m_ratio [.int (x.1*y.2+y.1*x.2),.int (x.2*y.2)]=.ok (fr (pl x y)):=vI hp.q0 hc.1 hc.2;open_line with[Com.m_plus,Em,i0,i1,m1,m2,m3,hlo]
theorem lless_bd{x y:cw}{m n:Nat}(hx:Bd x m)(hy:Bd y n)(hm:m<=6000)(hn:n<=6000):bh [fr x,fr y]=.ok (.bl (flt x y)):=by
 have b1:=hx.c60 hm;have b2:=hy.c60 hn;have m1:=cm (d9 b1.1 b2.2);have m2:=cm (d9 b2.1 b1.2);open_line with[bh,nV,i0,i1,m1,m2]
 rfl
theorem less_bd{x y:cw}{m n:Nat}(hx:Bd x m)(hy:Bd y n)(hm:m<=6000)(hn:n<=6000):m_is_less [fr x,fr y]=.ok (.bl (flt x y)) :=
 wD (hx.c60 hm).1 (hx.c60 hm).2 (hy.c60 hn).1 (hy.c60 hn).2
theorem tT{α:Type}{B:Ev}{tg:Ev->D->aj Ev}{tt fe:Ev->aj D}(g:α->D)(pk:α->Option D):∀(L:List α),(∀a∈L,∃ρ1,tg B (g a)=.ok ρ1/\((pk a=none/\tt ρ1=.ok (.bl false))∨(∃d,pk a=some d/\tt ρ1=.ok (.bl true)/\fe ρ1=.ok d)))->bS B tg tt fe (L.map g)=.ok (L.filterMap pk)
 |[],_=>rfl
 |a::L,h=>by
  obtain⟨ρ1,h1,h2⟩:=h a List.mem_cons_self;have ih:=tT g pk L λd hd=>h d (List.mem_cons_of_mem _ hd);rw[List.map_cons];unfold bS;rw[h1,yQ];rcases h2 with⟨e,h2⟩|⟨d,e,h2,h3⟩
  .rw[h2,yQ]
   show bS B tg tt fe (L.map g)=_;rw[ih,List.filterMap_cons_none e]
  .rw[h2,yQ]
   show(fe ρ1).bind _=_;rw[h3,yQ,ih,yQ,List.filterMap_cons_some e]
theorem comp_pick{α:Type}{n:Nat}{fr':List Nat}{ρ:Ev}{tg:Ev->D->aj Ev}{tt fe:Ev->aj D}(g:α->D)(pk:α->Option D){L:List α}(hl:L.length<=1000000)(h:∀a∈L,∃ρ1,tg (cV n fr' ρ) (g a)=.ok ρ1/\((pk a=none/\tt ρ1=.ok (.bl false))∨(∃d,pk a=some d/\tt ρ1=.ok (.bl true)/\fe ρ1=.ok d))):fQ n fr' tg tt fe ρ (L.map g)=.ok (.lst (L.filterMap pk)):=by
 unfold fQ;rw[if_pos (show(L.map g).length<=line from by rw[List.length_map];exact hl),tT g pk L h]
theorem AI{α:Type}{g:α->Bool}:∀{l:List α},eg (l.map λx=>D.bl (g x))=some (l.map g)
 |[]=>rfl
 |a::l=>by rw[List.map_cons,eg,AI];rfl
theorem all_ok{ds:List D}{g:D->Bool}:yJ (.lst (ds.map λd=>.bl (g d)))=.ok (.bl (ds.all g)):=by
 show(match eg (ds.map λd=>D.bl (g d)) with|some bs=>aj.ok (D.bl (bs.all id))|none=>.stuck)=_;rw[AI];simp only[List.all_map];rfl
end K51
namespace Pth
open PySem L2 DL Com Bor K17
open K11 (bJ ways pr c9)
structure kK where
 n:Nat
 a:Str
 b:Str
noncomputable def fF(s:kK):D:=.tup [.int (s.n:Int),.str s.a,.str s.b]
noncomputable def cf(ks:List Nat) (n:Nat) (t:kH):List kK:=if n∈ks then[] else(ways t).map λp=>⟨n,p.1,p.2⟩
noncomputable def bY(ks:List Nat):Nat->List kH->List kK
 |_,[]=>[]
 |n,t::ts=>cf ks n t++bY ks (n+1) ts
noncomputable def aX(w:cq) (ks:List Nat):List kK:=bY ks 0 w.ts
theorem yZ(t:kH):(ways t).length<=2:=by unfold ways;split<;>simp
theorem o6{ks:List Nat}{n:Nat}{t:kH}:(cf ks n t).length<=2:=by
 unfold cf;split
 .simp
 .rw[List.length_map];exact yZ t
theorem ur{ks:List Nat}:∀(n:Nat) (ts:List kH),(bY ks n ts).length<=2*ts.length
 |_,[]=>by simp [bY]
 |n,t::ts=>by
  have:=ur (ks:=ks) (n+1) ts;have:=o6 (ks:=ks) (n:=n) (t:=t);rw[bY,List.length_append,List.length_cons];omega
theorem jV{ks:List Nat}{s:kK}:∀(n:Nat) (ts:List kH),s∈bY ks n ts↔∃t,n<=s.n/\ts[s.n-n]?=some t/\s.n∉ks/\(s.a,s.b)∈ways t
 |n,[]=>by simp [bY]
 |n,t::ts=>by
  rw[bY,List.mem_append,jV (n+1) ts];constructor
  .rintro(h|⟨u,h1,h2,h3,h4⟩)
   .unfold cf at h
    by_cases hk:n∈ks
    .rw[if_pos hk] at h;cases h
    .rw[if_neg hk] at h
     obtain⟨p,hp,rfl⟩:=List.mem_map.mp h;exact⟨t,Nat.le_refl _,by simp,hk,hp⟩
   .refine⟨u,by omega,?_,h3,h4⟩
    rw[show s.n-n=(s.n-(n+1))+1 by omega,List.getElem?_cons_succ];exact h2
  .rintro⟨u,h1,h2,h3,h4⟩
   by_cases hn:s.n=n
   .left
    rw[hn,Nat.sub_self,List.getElem?_cons_zero] at h2;cases h2;unfold cf;rw[if_neg (by rw[←hn];exact h3)];exact List.mem_map.mpr ⟨(s.a,s.b),h4,by rw[←hn]⟩
   .right
    refine⟨u,by omega,?_,h3,h4⟩;rw[show s.n-n=(s.n-(n+1))+1 by omega,List.getElem?_cons_succ] at h2;exact h2
theorem cP{w:cq}{ks:List Nat}{s:kK}:s∈aX w ks↔∃t,w.ts[s.n]?=some t/\s.n∉ks/\(s.a,s.b)∈ways t:=by
 unfold aX;rw[jV];simp
noncomputable abbrev MT:Ev->aj Fl:=(aw (dw 2 (au (ai (ae 3) (ai (ae 5) (ai (ae 6) aE))) e8))
 ar)
noncomputable abbrev Ko:Ev->aj Fl:=(aw (dW (aa (ae 3) (ae 1) cj)
 (aw (n9 (au (ai (ae 4) aE) m_steps_along) (fM [5,6])
 MT)
 ar)
 ar)
 ar)
noncomputable def A4(w:cq) (ks:List Nat) (ss:List kK) (x3 x4 x5 x6:Sl):Ev:=[.sh (aS w),.sh (aU ks),.ow (.lst (ss.map fF)),x3,x4,x5,x6]
theorem zR{w:cq}{ks:List Nat}{n:Nat}{x4:D}:∀(ps:List (Str×Str)) (ss:List kK) (x5 x6:Sl),ss.length+ps.length<=900->∃y5 y6,bM (fM [5,6]) MT (ps.map pr) (A4 w ks ss (.sh (.int (n:Int))) (.sh x4) x5 x6)=.ok (.nx (A4 w ks (ss++ps.map λp=>⟨n,p.1,p.2⟩) (.sh (.int (n:Int))) (.sh x4) y5 y6))
 |[],ss,x5,x6,_=>⟨x5,x6,by simp only[List.map_nil,List.append_nil];rfl⟩
 |p::ps,ss,x5,x6,h=>by
  rw[List.length_cons] at h;obtain⟨y5,y6,e⟩:=zR (w:=w) (ks:=ks) (n:=n) (x4:=x4) ps (ss++[⟨n,p.1,p.2⟩]) (.sh (.str p.1)) (.sh (.str p.2)) (by rw[List.length_append,List.length_singleton];omega);refine⟨y5,y6,?_⟩;have hap:decide ((ss.map fF).length<=999)=true:=decide_eq_true (by rw[List.length_map];omega);rw[List.map_cons,c3 (ρ1:=A4 w ks ss (.sh (.int (n:Int))) (.sh x4) (.sh (.str p.1)) (.sh (.str p.2))) (ρ2:=A4 w ks (ss++[⟨n,p.1,p.2⟩]) (.sh (.int (n:Int))) (.sh x4) (.sh (.str p.1)) (.sh (.str p.2))) rfl]
  .rw[e,List.map_cons,List.append_assoc];rfl
  .unfold A4
   have:(ss++[(⟨n,p.1,p.2⟩:kK)]).map fF=ss.map fF++[.tup [.int (n:Int),.str p.1,.str p.2]]:=by rw[List.map_append];rfl
   simp only[this];open_line with[fu hap]
theorem vQ{w:cq}{ks:List Nat}(t14:w.ts.length<=14):∀(ts:List kH) (n:Nat) (ss:List kK) (x3 x4 x5 x6:Sl),ss.length+2*ts.length<=100->∃y3 y4 y5 y6,bM (fM [3,4]) Ko (numbered n (ts.map bL)) (A4 w ks ss x3 x4 x5 x6)=.ok (.nx (A4 w ks (ss++bY ks n ts) y3 y4 y5 y6))
 |[],n,ss,x3,x4,x5,x6,_=>⟨x3,x4,x5,x6,by rw[bY,List.append_nil];rfl⟩
 |t::ts,n,ss,x3,x4,x5,x6,h=>by
  rw[List.length_cons] at h;have hni:=K11.notIn_nums (ks:=ks) (n:=n);have h2:=yZ t;have key:∃y5 y6,Ko (A4 w ks ss (.sh (.int (n:Int))) (.sh (bL t)) x5 x6)=.ok (.nx (A4 w ks (ss++cf ks n t) (.sh (.int (n:Int))) (.sh (bL t)) y5 y6)):=by
   unfold cf
   by_cases hk:n∈ks
   .rw[if_pos hk,List.append_nil]
    rw[decide_eq_true hk] at hni;refine⟨x5,x6,?_⟩;unfold A4 aU;open_line with[hni]
   .rw[if_neg hk]
    rw[decide_eq_false hk] at hni;obtain⟨y5,y6,e⟩:=zR (w:=w) (ks:=ks) (n:=n) (x4:=bL t) (ways t) ss x5 x6 (by omega);refine⟨y5,y6,?_⟩;unfold A4 aU at e ⊢;open_line with[hni,K11.steps_ok,e]
  obtain⟨y5,y6,e1⟩:=key;have hle:=o6 (ks:=ks) (n:=n) (t:=t);obtain⟨z3,z4,z5,z6,e2⟩:=vQ (ks:=ks) t14 ts (n+1) (ss++cf ks n t) (.sh (.int (n:Int))) (.sh (bL t)) y5 y6 (by rw[List.length_append];omega);refine⟨z3,z4,z5,z6,?_⟩;rw[List.map_cons,DL.numbered,c3 (ρ1:=A4 w ks ss (.sh (.int (n:Int))) (.sh (bL t)) x5 x6) rfl e1,e2,bY,List.append_assoc]
theorem steps_ok{w:cq}(W:bT w){ks:List Nat}:m_steps_left [aS w,aU ks]=.ok (.lst ((aX w ks).map fF)):=by
 have t14:=W.t14;obtain⟨y3,y4,y5,y6,e⟩:=vQ (w:=w) (ks:=ks) t14 w.ts 0 [] .no .no .no .no (by simp;omega);rw[List.nil_append] at e;have hi:aN (aS w) (.int 1)=.ok (.lst (w.ts.map bL)):=rfl;unfold A4 at e;simp only[List.map_nil] at e;open_line with[K51.m_steps_left,K51.b_steps_left,hi,e]
 rfl
open K11 (bJ ways pr c9)
structure dY where
 p:Str
 z:Int
 y:List Nat
noncomputable def ig(e:dY):D:=.tup [.int e.z,.lst (bJ e.y)]
noncomputable def fD(F:List dY):D:=.dic (F.map (·.p)) (F.map ig)
noncomputable def get(F:List dY) (k:Str):Option dY:=F.find? λe=>decide (e.p=k)
theorem kF{k:Str}:∀{F:List dY},kJ (F.map (·.p)) (F.map ig) k=(get F k).map ig
 |[]=>rfl
 |e::F=>by
  rw[List.map_cons,List.map_cons,kJ];unfold get
  by_cases h:e.p=k
  .rw[if_pos h,List.find?_cons_of_pos (by exact decide_eq_true h)];rfl
  .rw[if_neg h,List.find?_cons_of_neg (by simpa using h),kF];rfl
theorem dQ{F:List dY}{k:Str}{e:dY}(h:get F k=some e):e∈F/\e.p=k:=⟨List.mem_of_find?_eq_some h,by simpa using List.find?_some h⟩
theorem pX{F:List dY}{k:Str}:get F k=none↔∀e∈F,e.p≠k:=by
 unfold get;rw[List.find?_eq_none];simp
theorem uQ{F:List dY}(nd:(F.map (·.p)).Nodup){e:dY}(he:e∈F):get F e.p=some e:=by
 induction F with
 |nil=>cases he
 |cons d F ih =>
  rw[List.map_cons,List.nodup_cons] at nd;unfold get;rcases List.mem_cons.mp he with rfl|he
  .rw[List.find?_cons_of_pos (by simp)]
  .have:d.p≠e.p:=λz=>nd.1 (z▸List.mem_map.mpr ⟨e,he,rfl⟩)
   rw[List.find?_cons_of_neg (by simpa using this)];exact ih nd.2 he
noncomputable def cT(zs:List Int) (n:Nat):Int:=(zs[n]?).getD 0
noncomputable def iQ(zs:List Int) (F:List dY) (c:Option dY) (s:kK):Option dY:=match get F s.a,get F s.b with
 |some e,none=>match c with
  |none=>some ⟨s.b,e.z+cT zs s.n,e.y++[s.n]⟩
  |some d=>if e.z+cT zs s.n<d.z then some ⟨s.b,e.z+cT zs s.n,e.y++[s.n]⟩ else c
 |_,_=>c
noncomputable def cD:Option dY->D
 |none=>.non
 |some e=>.tup [.str e.p,.int e.z,.lst (bJ e.y)]
noncomputable abbrev nB:Ev->aj Fl :=
 (aw (dW (eW (aa (ae 5) (ae 2) jN) (aa (ae 6) (ae 2) eG))
 (aw (bG 7 (aa (aa (aa (ae 2) (ae 5) bV) (dC (.int 0)) aN) (aa (ae 1) (ae 4) aN) cb))
 (aw (dW (iq (aa (ae 3) (dC (.non)) gz) (aa (ae 7) (aa (ae 3) (dC (.int 1)) aN) Ja))
 (aw (bG 3 (au (ai (ae 6) (ai (ae 7) (ai (aa (aa (aa (ae 2) (ae 5) bV) (dC (.int 1)) aN) (au (ai (ae 4) aE) cu) cb) aE))) e8))
 ar)
 ar)
 ar))
 ar)
 ar)
section
variable {S:D}{zs:List Int}{F:List dY}
theorem Io(hF:∀e∈F,e.y.length<=900){s:kK}(hs:s.n<zs.length){c:Option dY}{x7:Sl} :
  ∃y7,nB [.sh S,.sh (.lst (zs.map D.int)),.sh (fD F),.sh (cD c),.sh (.int (s.n:Int)),.sh (.str s.a),.sh (.str s.b),x7]=.ok (.nx [.sh S,.sh (.lst (zs.map D.int)),.sh (fD F),.sh (cD (iQ zs F c s)),.sh (.int (s.n:Int)),.sh (.str s.a),.sh (.str s.b),y7]):=by
 have g1:∀k,jN (.str k) (fD F)=.ok (.bl (get F k).isSome):=λk=>by
  show aj.ok (D.bl (kJ (F.map (·.p)) (F.map ig) k).isSome)=_;rw[kF,Option.isSome_map]
 have g2:∀k,eG (.str k) (fD F)=.ok (.bl (!(get F k).isSome)):=λk=>by
  show aj.ok (D.bl (!(kJ (F.map (·.p)) (F.map ig) k).isSome))=_;rw[kF,Option.isSome_map]
 have h1:=g1 s.a;have h2:=g2 s.b;unfold iQ;cases ea:get F s.a with
 |none =>
  rw[ea] at h1;simp only[Option.isSome_none] at h1;refine⟨x7,?_⟩;open_line with[h1]
 |some e =>
  rw[ea] at h1;simp only[Option.isSome_some] at h1;cases eb:get F s.b with
  |some e' =>
   rw[eb] at h2;simp only[Option.isSome_some,Bool.not_true] at h2;refine⟨x7,?_⟩;open_line with[h1,h2]
  |none =>
   rw[eb] at h2;simp only[Option.isSome_none,Bool.not_false] at h2;have h3:bV (fD F) (.str s.a)=.ok (ig e):=by
    show(match kJ (F.map (·.p)) (F.map ig) s.a with|some d=>aj.ok d|none=>.stuck)=_;rw[kF,ea];rfl
   have h4:aN (ig e) (.int 0)=.ok (.int e.z):=rfl;have h5:aN (ig e) (.int 1)=.ok (.lst (bJ e.y)):=rfl;have h6:aN (.lst (zs.map D.int)) (.int (s.n:Int))=.ok (.int (cT zs s.n)):=pV (by
    unfold cT;rw[List.getElem?_map,List.getElem?_eq_getElem hs];rfl)
   have h7:cb (.lst (bJ e.y)) (.lst [.int (s.n:Int)])=.ok (.lst (bJ (e.y++[s.n]))):=by
    rw[gq (decide_eq_true (by
     have:=hF e (dQ ea).1;unfold bJ;simp;omega))]
    unfold bJ;rw[List.map_append];rfl
   cases c with
   |none =>
    refine⟨.sh (.int (e.z+cT zs s.n)),?_⟩;simp only[cD];open_line with[h1,h2,h3,h4,h5,h6,h7]
   |some d =>
    refine⟨.sh (.int (e.z+cT zs s.n)),?_⟩;simp only
    by_cases hlt:e.z+cT zs s.n<d.z
    .rw[if_pos hlt]
     simp only[cD];open_line with[h1,h2,h3,h4,h5,h6,h7,decide_eq_true hlt]
    .rw[if_neg hlt]
     simp only[cD];open_line with[h1,h2,h3,h4,h5,h6,h7,decide_eq_false hlt]
theorem C9(hF:∀e∈F,e.y.length<=900):∀(ss:List kK) (c:Option dY) (x4 x5 x6 x7:Sl),(∀s∈ss,s.n<zs.length)->∃y4 y5 y6 y7,bM (fM [4,5,6]) nB (ss.map fF) [.sh S,.sh (.lst (zs.map D.int)),.sh (fD F),.sh (cD c),x4,x5,x6,x7]=.ok (.nx [.sh S,.sh (.lst (zs.map D.int)),.sh (fD F),.sh (cD (ss.foldl (iQ zs F) c)),y4,y5,y6,y7])
 |[],c,x4,x5,x6,x7,_=>⟨x4,x5,x6,x7,rfl⟩
 |s::ss,c,x4,x5,x6,x7,h=>by
  obtain⟨y7,e1⟩:=Io (S:=S) hF (h s List.mem_cons_self) (c:=c) (x7:=x7);obtain⟨z4,z5,z6,z7,e2⟩:=C9 hF ss (iQ zs F c s) (.sh (.int (s.n:Int))) (.sh (.str s.a)) (.sh (.str s.b)) y7 λu hu=>h u (List.mem_cons_of_mem _ hu);exact⟨z4,z5,z6,z7,by rw[List.map_cons,c3 (ρ1:=[.sh S,.sh (.lst (zs.map D.int)),.sh (fD F),.sh (cD c),.sh (.int (s.n:Int)),.sh (.str s.a),.sh (.str s.b),x7]) rfl e1,e2,List.foldl_cons]⟩
end
noncomputable def Bi(ss:List kK) (zs:List Int) (F:List dY):Option dY:=ss.foldl (iQ zs F) none
theorem FC{ss:List kK}{zs:List Int}{F:List dY}(hF:∀e∈F,e.y.length<=900)(hs:∀s∈ss,s.n<zs.length):m_nearest_step [.lst (ss.map fF),.lst (zs.map D.int),fD F]=.ok (cD (Bi ss zs F)):=by
 obtain⟨y4,y5,y6,y7,e⟩:=C9 (S:=.lst (ss.map fF)) hF ss none .no .no .no .no hs;have e:bM (fM [4,5,6]) nB (ss.map fF) [.sh (.lst (ss.map fF)),.sh (.lst (zs.map D.int)),.sh (fD F),.sh .non,.no,.no,.no,.no]=_:=e;open_line with[m_nearest_step,ji,e]
 rfl
noncomputable def rX(F:List dY) (s:kK) (e:dY):Prop:=e∈F/\e.p=s.a/\∀d∈F,d.p≠s.b
theorem m9{zs:List Int}{F:List dY}(nd:(F.map (·.p)).Nodup):∀(ss:List kK) (c:Option dY),
  (∀d,ss.foldl (iQ zs F) c=some d->(c=some d∨∃s∈ss,∃e,rX F s e/\d=⟨s.b,e.z+cT zs s.n,e.y++[s.n]⟩)/\(∀d',c=some d'->d.z<=d'.z)/\∀s∈ss,∀e,rX F s e->d.z<=e.z+cT zs s.n) /\
  (ss.foldl (iQ zs F) c=none->c=none/\∀s∈ss,∀e,¬rX F s e)
 |[],c=>⟨λd h=>⟨.inl h,λd' h'=>by rw[List.foldl_nil] at h;rw[h] at h';cases h';exact Int.le_refl _,λs hs=>(nomatch hs)⟩,λh=>⟨h,λs hs=>(nomatch hs)⟩⟩
 |s::ss,c=>by
  obtain⟨i1,i2⟩:=m9 (zs:=zs) nd ss (iQ zs F c s);rw[List.foldl_cons];have hc:∀e,rX F s e->get F s.a=some e/\get F s.b=none:=λe ⟨h1,h2,h3⟩=>⟨by rw[←h2];exact uQ nd h1,pX.mpr h3⟩
  have hst:(iQ zs F c s=c/\((∀e,¬rX F s e)∨∃e d,rX F s e/\c=some d/\d.z<=e.z+cT zs s.n))∨∃e,rX F s e/\iQ zs F c s=some ⟨s.b,e.z+cT zs s.n,e.y++[s.n]⟩/\∀d,c=some d->e.z+cT zs s.n<=d.z:=by
   unfold iQ;cases ea:get F s.a with
   |none=>exact .inl ⟨rfl,.inl λe h=>by rw[(hc e h).1] at ea;cases ea⟩
   |some e =>
    cases eb:get F s.b with
    |some e'=>exact .inl ⟨rfl,.inl λe h=>by rw[(hc e h).2] at eb;cases eb⟩
    |none =>
     have hC:rX F s e:=⟨(dQ ea).1,(dQ ea).2,pX.mp eb⟩
     cases c with
     |none=>exact .inr ⟨e,hC,rfl,λd h=>by cases h⟩
     |some d =>
      simp only
      by_cases hlt:e.z+cT zs s.n<d.z
      .rw[if_pos hlt]
       exact .inr ⟨e,hC,rfl,λd' h=>by cases h;omega⟩
      .rw[if_neg hlt]
       exact .inl ⟨rfl,.inr ⟨e,d,hC,rfl,by omega⟩⟩
  have one:∀e e',rX F s e->rX F s e'->e=e':=λe e' h h'=>by
   have h1:=(hc e h).1;rw[(hc e' h').1] at h1;cases h1;rfl
  refine⟨λd h=>?_,λh=>?_⟩
  .obtain⟨j1,j2,j3⟩:=i1 d h
   rcases hst with⟨e1,e2⟩|⟨e,hC,e1,e2⟩
   .rw[e1] at j1 j2
    refine⟨?_,j2,λs' hs' e' hC'=>?_⟩
    .rcases j1 with j1|⟨s',hs',j1⟩
     .exact .inl j1
     .exact .inr ⟨s',List.mem_cons_of_mem _ hs',j1⟩
    .rcases List.mem_cons.mp hs' with rfl|hs'
     .rcases e2 with e2|⟨e,d0,hC,h1,h2⟩
      .exact absurd hC' (e2 e')
      .rw[one e' e hC' hC]
       have:=j2 d0 h1;omega
     .exact j3 s' hs' e' hC'
   .rw[e1] at j1 j2
    have k:=j2 _ rfl;refine⟨?_,λd' h'=>Int.le_trans k (e2 d' h'),λs' hs' e' hC'=>?_⟩
    .rcases j1 with j1|⟨s',hs',j1⟩
     .cases j1
      exact .inr ⟨s,List.mem_cons_self,e,hC,rfl⟩
     .exact .inr ⟨s',List.mem_cons_of_mem _ hs',j1⟩
    .rcases List.mem_cons.mp hs' with rfl|hs'
     .rw[one e' e hC' hC];exact k
     .exact j3 s' hs' e' hC'
  .obtain⟨j1,j2⟩:=i2 h
   rcases hst with⟨e1,e2⟩|⟨e,hC,e1,e2⟩
   .rw[e1] at j1
    refine⟨j1,λs' hs' e' hC'=>?_⟩;rcases List.mem_cons.mp hs' with rfl|hs'
    .rcases e2 with e2|⟨e,d0,hC,h1,h2⟩
     .exact e2 e' hC'
     .rw[j1] at h1;cases h1
    .exact j2 s' hs' e' hC'
   .rw[e1] at j1;cases j1
open K11 (bJ ways pr c9)
noncomputable def Et(w:cq) (ks:List Nat) (n:Nat) (a b:Str):Prop:=∃t,w.ts[n]?=some t/\n∉ks/\(a,b)∈ways t
inductive eu (w:cq) (ks:List Nat) (a:Str):List Nat->Str->Prop where
 |nil:eu w ks a [] a
 |snoc {p:List Nat}{b c:Str}{n:Nat}:eu w ks a p b->Et w ks n b c->eu w ks a (p++[n]) c
noncomputable def eL(zs:List Int) (p:List Nat):Int:=(p.map (cT zs)).sum
theorem gE{zs:List Int}{p:List Nat}{n:Nat}:eL zs (p++[n])=eL zs p+cT zs n:=by
 unfold eL;rw[List.map_append,List.sum_append];simp
theorem ou{zs:List Str}{t:kH}(T:rR zs t){a b:Str}(h:(a,b)∈ways t):a∈zs/\b∈zs/\(a=t.a∨a=t.b)/\(b=t.a∨b=t.b):=by
 have ta:=T.a;have tb:=T.b;unfold ways at h;split at h
 .have:(a,b)=(t.a,t.b):=by simpa using h
  cases this;exact⟨ta,tb,.inl rfl,.inr rfl⟩
 .rcases List.mem_cons.mp h with e|h
  .cases e;exact⟨ta,tb,.inl rfl,.inr rfl⟩
  .have:(a,b)=(t.b,t.a):=by simpa using h
   cases this;exact⟨tb,ta,.inr rfl,.inl rfl⟩
structure sG (w:cq) (ks:List Nat) (zs:List Int) (F:List dY) (m:Int):Prop where
 nd:(F.map (·.p)).Nodup
 pl:∀e∈F,e.p∈w.ps
 fi:∃e∈F,e.p=w.fi/\e.z=0/\e.y=[]
 wy:∀e∈F,eu w ks w.fi e.y e.p/\e.z=eL zs e.y/\e.y.Nodup/\e.y.length<F.length
 en:∀e∈F,∀n∈e.y,∀t,w.ts[n]?=some t->(∃d∈F,d.p=t.a)/\∃d∈F,d.p=t.b
 mo:∀e∈F,0<=e.z/\e.z<=m
 cl:∀s∈aX w ks,∀e∈F,e.p=s.a->∀d∈F,d.p=s.b->d.z<=e.z+cT zs s.n
 op:∀s∈aX w ks,∀e,rX F s e->m<=e.z+cT zs s.n
theorem uo{zs:List Int}(h:∀z∈zs,0<=z)(n:Nat):0<=cT zs n:=by
 unfold cT;cases e:zs[n]? with|none=>exact Int.le_refl _|some z=>exact h z (List.mem_of_getElem? e)
theorem sG.start{w:cq}(W:bT w){ks:List Nat}{zs:List Int}(hz:∀z∈zs,0<=z):sG w ks zs [⟨w.fi,0,[]⟩] 0:=by
 have one:∀{e:dY},e∈[(⟨w.fi,0,[]⟩:dY)]->e=⟨w.fi,0,[]⟩:=λh=>by simpa using h
 refine⟨by simp,λe he=>?_,⟨_,List.mem_singleton.mpr rfl,rfl,rfl,rfl⟩,λe he=>?_,λe he n hn=>?_,λe he=>?_,λs hs e he ea d hd eb=>?_,λs hs e ⟨he,_⟩=>?_⟩
 .rw[one he];exact W.fi
 .rw[one he];exact⟨.nil,rfl,List.nodup_nil,by simp⟩
 .rw[one he] at hn;cases hn
 .rw[one he];exact⟨Int.le_refl _,Int.le_refl _⟩
 .rw[one he,one hd]
  have:=uo hz s.n;simp;exact this
 .rw[one he]
  have:=uo hz s.n;simp;exact this
theorem sG.step{w:cq}(W:bT w){ks:List Nat}{zs:List Int}(hz:∀z∈zs,0<=z){F:List dY}{m:Int}(R:sG w ks zs F m){d:dY}(h:Bi (aX w ks) zs F=some d):sG w ks zs (F++[d]) d.z/\∀e∈F,e.p≠d.p:=by
 obtain⟨j1,_,j3⟩:=(m9 (zs:=zs) R.nd (aX w ks) none).1 d h;rcases j1 with j1|⟨s,hs,e,hC,rfl⟩
 .cases j1
 obtain⟨hcm,hca,hcb⟩:=hC;obtain⟨t,ht1,ht2,ht3⟩:=cP.mp hs;have T:=W.ts t (List.mem_of_getElem? ht1);obtain⟨wa,wb,wc,wd⟩:=ou T ht3;have hm:m<=e.z+cT zs s.n:=R.op s hs e ⟨hcm,hca,hcb⟩;have hnn:=uo hz;have mem:∀{x:dY},x∈F++[(⟨s.b,e.z+cT zs s.n,e.y++[s.n]⟩:dY)]->x∈F∨x=⟨s.b,e.z+cT zs s.n,e.y++[s.n]⟩:=λhx=>by
  rcases List.mem_append.mp hx with hx|hx
  .exact .inl hx
  .exact .inr (by simpa using hx)
 have old:∀{x:dY},x∈F->x∈F++[(⟨s.b,e.z+cT zs s.n,e.y++[s.n]⟩:dY)]:=λhx=>List.mem_append_left _ hx;have new:(⟨s.b,e.z+cT zs s.n,e.y++[s.n]⟩:dY)∈F++[(⟨s.b,e.z+cT zs s.n,e.y++[s.n]⟩:dY)]:=List.mem_append_right _ (List.mem_singleton.mpr rfl);obtain⟨k1,k2,k3,k4⟩:=R.wy e hcm;refine⟨⟨?_,λx hx=>?_,?_,λx hx=>?_,λx hx n hn u hu=>?_,λx hx=>?_,λs' hs' x hx xa y hy yb=>?_,λs' hs' x ⟨hx,xa,xb⟩=>?_⟩,hcb⟩
 .rw[List.map_append]
  refine List.nodup_append.mpr ⟨R.nd,by simp,λa ha b hb=>?_⟩;obtain⟨x,hx,rfl⟩:=List.mem_map.mp ha;have:b=s.b:=by simpa using hb
  rw[this];exact hcb x hx
 .rcases mem hx with hx|rfl
  .exact R.pl x hx
  .exact wb
 .obtain⟨x,hx,h1⟩:=R.fi
  exact⟨x,old hx,h1⟩
 .rcases mem hx with hx|rfl
  .obtain⟨h1,h2,h3,h4⟩:=R.wy x hx
   exact⟨h1,h2,h3,by rw[List.length_append];omega⟩
  .refine⟨.snoc k1 ⟨t,ht1,ht2,by rw[hca];exact ht3⟩,by rw[gE,k2],?_,by simp;omega⟩
   refine List.nodup_append.mpr ⟨k3,by simp,λa ha b hb=>?_⟩;have hbn:b=s.n:=by simpa using hb
   subst hbn;intro z;subst z;obtain⟨⟨d1,hd1,e1⟩,d2,hd2,e2⟩:=R.en e hcm _ ha t ht1;rcases wd with z|z
   .exact hcb d1 hd1 (by rw[e1,z])
   .exact hcb d2 hd2 (by rw[e2,z])
 .rcases mem hx with hx|rfl
  .obtain⟨⟨d1,hd1,e1⟩,d2,hd2,e2⟩:=R.en x hx n hn u hu
   exact⟨⟨d1,old hd1,e1⟩,d2,old hd2,e2⟩
  .rcases List.mem_append.mp hn with hn|hn
   .obtain⟨⟨d1,hd1,e1⟩,d2,hd2,e2⟩:=R.en e hcm n hn u hu
    exact⟨⟨d1,old hd1,e1⟩,d2,old hd2,e2⟩
   .have:n=s.n:=by simpa using hn
    subst this;rw[ht1] at hu;cases hu;have ne:=T.ne;unfold ways at ht3;have hab:(s.a=t.a/\s.b=t.b)∨(s.a=t.b/\s.b=t.a):=by
     split at ht3
     .have:(s.a,s.b)=(t.a,t.b):=by simpa using ht3
      injection this with z1 z2;exact .inl ⟨z1,z2⟩
     .rcases List.mem_cons.mp ht3 with z|z
      .injection z with z1 z2;exact .inl ⟨z1,z2⟩
      .have:(s.a,s.b)=(t.b,t.a):=by simpa using z
       injection this with z1 z2;exact .inr ⟨z1,z2⟩
    rcases hab with⟨z1,z2⟩|⟨z1,z2⟩
    .exact⟨⟨e,old hcm,by rw[hca,z1]⟩,_,new,z2⟩
    .exact⟨⟨_,new,z2⟩,e,old hcm,by rw[hca,z1]⟩
 .have he:=R.mo e hcm
  have:=hnn s.n;rcases mem hx with hx|rfl
  .have:=R.mo x hx
   exact⟨this.1,by show x.z<=e.z+cT zs s.n;omega⟩
  .exact⟨by show 0<=e.z+cT zs s.n;omega,Int.le_refl _⟩
 .have n':=hnn s'.n
  rcases mem hx with hx|rfl
  .rcases mem hy with hy|rfl
   .exact R.cl s' hs' x hx xa y hy yb
   .exact j3 s' hs' x ⟨hx,xa,λd hd=>by rw[←yb];exact hcb d hd⟩
  .rcases mem hy with hy|rfl
   .have:=(R.mo y hy).2
    show y.z<=e.z+cT zs s.n+cT zs s'.n;omega
   .show e.z+cT zs s.n<=e.z+cT zs s.n+cT zs s'.n
    omega
 .have n':=hnn s'.n
  rcases mem hx with hx|rfl
  .exact j3 s' hs' x ⟨hx,xa,λd hd=>xb d (old hd)⟩
  .show e.z+cT zs s.n<=e.z+cT zs s.n+cT zs s'.n
   omega
noncomputable def vh(w:cq) (ks:List Nat) (F:List dY):Prop:=∀s∈aX w ks,∀e∈F,e.p=s.a->∃d∈F,d.p=s.b
theorem sG.len{w:cq}(W:bT w){ks:List Nat}{zs:List Int}{F:List dY}{m:Int}(R:sG w ks zs F m):F.length<=7:=by
 have:=Cod.nodup_le R.nd (λz hz=>by
  obtain⟨e,he,rfl⟩:=List.mem_map.mp hz;exact R.pl e he)
 rw[List.length_map] at this;have:=W.n7;omega
theorem sG.shut{w:cq}{ks:List Nat}{zs:List Int}{F:List dY}{m:Int}(R:sG w ks zs F m)(h:Bi (aX w ks) zs F=none):vh w ks F:=λs hs e he ea=>by
 have hn:=((m9 (zs:=zs) R.nd (aX w ks) none).2 h).2 s hs e;cases hg:get F s.b with|none=>exact absurd ⟨he,ea,pX.mp hg⟩ hn|some d=>exact⟨d,(dQ hg).1,(dQ hg).2⟩
noncomputable abbrev rT:Ev->aj D:=aa (ae 5) (dC (.non)) cU
noncomputable abbrev rB:Ev->aj Fl :=
 (aw (iA 4 (au (ai (aa (ae 5) (dC (.int 1)) aN) (ai (aa (ae 5) (dC (.int 2)) aN) aE)) e8) (aa (ae 5) (dC (.int 0)) aN))
 (aw (pb 5 (au (ai (ae 3) (ai (ae 2) (ai (ae 4) aE))) m_nearest_step))
 ar))
section
variable {ρ:Ev}{i:Nat}{f k:Ev->aj D}{ks:List Str}{ds:List D}{d:D}
theorem nq:pd i f ρ=(f ρ).bind (zt i ρ):=aH rfl
theorem mn:zt i ρ (.dic ks ds)=.ok (.nx (ρ.set i (.ow (.dic ks ds)))):=aH rfl
noncomputable def CC(i:Nat) (f k:Ev->aj D) (ρ:Ev) (s:Option Sl):aj Fl:=match s with
 |some (.ow (.dic ks ds))=>(f ρ).bind λd=>(k ρ).bind (kS i ρ ks ds d)
 |_=>.stuck
theorem ij:iA i f k ρ=CC i f k ρ ρ[i]?:=aH rfl
noncomputable def CA(i:Nat) (k:Ev->aj D) (ρ:Ev) (ks:List Str) (ds:List D) (d:D):aj Fl:=(k ρ).bind (kS i ρ ks ds d)
theorem gr:CC i f k ρ (some (.ow (.dic ks ds)))=(f ρ).bind (CA i k ρ ks ds):=aH rfl
theorem fv:CA i k ρ ks ds d=(k ρ).bind (kS i ρ ks ds d):=aH rfl
theorem ee{x:Str}(h:decide (ks.length<=900)=true):kS i ρ ks ds d (.str x)=.ok (.nx (ρ.set i (.ow (jK ks ds x d)))):=if_pos (Nat.lt_of_le_of_lt (of_decide_eq_true h) (by decide))
theorem qY:pb i f ρ=(f (fX ρ)).bind (zb i ρ):=aH rfl
theorem ml(h1:nd d=true)(h2:pF ρ=true):zb i ρ d=.ok (.nx (ρ.set i (.sh d))):=if_pos ⟨h1,h2⟩
theorem uX{a b:Ev->aj D}:xv a b ρ=aa a b D8 ρ:=aH rfl
theorem qZ{x:Str}:D8 (.str x) d=.ok (.dic [x] [d]):=aH rfl
end
theorem wg:∀(p:List Nat),nds (bJ p)=true
 |[]=>rfl
 |n::p=>by
  show(nd (.int (n:Int))&&nds (bJ p))=true;rw[wg p];rfl
theorem Kw(c:Option dY):nd (cD c)=true:=by
 cases c with
 |none=>rfl
 |some e =>
  show(nd (.str e.p)&&(nd (.int e.z)&&(nd (.lst (bJ e.y))&&true)))=true;have:nd (.lst (bJ e.y))=true:=by rw[nd];exact wg e.y
  rw[this];rfl
theorem Ff{F:List dY}{d:dY}(h:∀e∈F,e.p≠d.p):jK (F.map (·.p)) (F.map ig) d.p (ig d)=fD (F++[d]):=by
 unfold jK fD;rw[if_neg (λz=>by
  obtain⟨e,he,e1⟩:=List.mem_map.mp z;exact h e he e1),List.map_append,List.map_append]
 rfl
section
variable {w:cq}(W:bT w) {ks:List Nat}{zs:List Int}(hl:zs.length=w.ts.length) (hz:∀z∈zs,0<=z)
include W hl hz
theorem Cw{F:List dY}{m:Int}(R:sG w ks zs F m):m_nearest_step [.lst ((aX w ks).map fF),.lst (zs.map D.int),fD F]=.ok (cD (Bi (aX w ks) zs F)) :=
 FC (λe he=>by have:=(R.wy e he).2.2.2;have:=R.len W;omega) λs hs=>by
  obtain⟨t,ht,_⟩:=cP.mp hs;rw[hl];exact(List.getElem?_eq_some_iff.mp ht).1
theorem HN:∀(f:Nat) (F:List dY) (m:Int),sG w ks zs F m->8<=F.length+f ->
  ∃G m',sG w ks zs G m'/\vh w ks G/\b7 rT rB f [.sh (aS w),.sh (aU ks),.sh (.lst (zs.map D.int)),.sh (.lst ((aX w ks).map fF)),.ow (fD F),.sh (cD (Bi (aX w ks) zs F))]=.ok (.nx [.sh (aS w),.sh (aU ks),.sh (.lst (zs.map D.int)),.sh (.lst ((aX w ks).map fF)),.ow (fD G),.sh .non]):=by
 intro f
 induction f with
 |zero=>intro F m R h;have:=R.len W;omega
 |succ f ih =>
  intro F m R h;cases hn:Bi (aX w ks) zs F with
  |none =>
   refine⟨F,m,R,R.shut hn,?_⟩;exact mM (by unfold fD;open_line with[cD])
  |some d =>
   obtain⟨R',hne⟩:=R.step W hz hn;obtain⟨G,m',h1,h2,h3⟩:=ih (F++[d]) d.z R' (by rw[List.length_append,List.length_singleton];omega);refine⟨G,m',h1,h2,?_⟩;rw[←h3];refine oY (by unfold fD;open_line with[cD]) ?_;have hr:=Cw W hl hz R';have hp:=Ff hne;have h9:decide ((F.map (·.p)).length<=900)=true:=decide_eq_true (by rw[List.length_map];have:=R.len W;omega);have q1:aN (cD (some d)) (.int 1)=.ok (.int d.z):=rfl;have q2:aN (cD (some d)) (.int 2)=.ok (.lst (bJ d.y)):=rfl;have q0:aN (cD (some d)) (.int 0)=.ok (.str d.p):=rfl;have he:D.tup [.int d.z,.lst (bJ d.y)]=ig d:=rfl;have hoD:∀c,pF [.sh (aS w),.sh (aU ks),.sh (.lst (zs.map D.int)),.sh (.lst ((aX w ks).map fF)),.ow (fD (F++[d])),.sh c]=true:=λ_=>rfl;show rB [.sh (aS w),.sh (aU ks),.sh (.lst (zs.map D.int)),.sh (.lst ((aX w ks).map fF)),.ow (.dic (F.map (·.p)) (F.map ig)),.sh (cD (some d))]=_;open_line with[ij,gr,fv,ee h9,q0,q1,q2,he,hp,qY,hr,ml (Kw _) (hoD _)]
theorem xZ:∃F m,sG w ks zs F m/\vh w ks F/\m_all_reached [aS w,aU ks,.lst (zs.map D.int)]=.ok (fD F):=by
 have R0:=sG.start W (ks:=ks) hz;obtain⟨G,m',h1,h2,h3⟩:=HN W hl hz (ks:=ks) 8 [⟨w.fi,0,[]⟩] 0 R0 (by simp);refine⟨G,m',h1,h2,?_⟩;have hs:=steps_ok W (ks:=ks);have hn:=Cw W hl hz R0;have i2:aN (aS w) (.int 2)=.ok (.str w.fi):=rfl;have hf:fD [⟨w.fi,0,[]⟩]=.dic [w.fi] [.tup [.int 0,.lst []]]:=rfl;rw[hf] at hn h3;have hoD:pF [.sh (aS w),.sh (aU ks),.sh (.lst (zs.map D.int)),.sh (.lst ((aX w ks).map fF)),.ow (.dic [w.fi] [.tup [.int 0,.lst []]]),.no]=true:=rfl;have hw:∀(c:Ev->aj D) (s:Ev->aj Fl) (ρ:Ev),fI (λ_=>8) c s ρ=b7 c s 8 ρ:=λ_ _ _=>rfl;unfold fD at h3 ⊢;open_line with[m_all_reached,jZ,hs,i2,nq,uX,qZ,mn,qY,hn,ml (Kw _) hoD,hw,h3]
end
open K11 (bJ ways pr c9)
theorem EO{w:cq}{ks:List Nat}{zs:List Int}{F:List dY}{m:Int}(R:sG w ks zs F m)(S:vh w ks F){p:List Nat}{b:Str}(h:eu w ks w.fi p b):∃e∈F,e.p=b/\e.z<=eL zs p:=by
 induction h with
 |nil =>
  obtain⟨e,he,h1,h2,_⟩:=R.fi;exact⟨e,he,h1,by rw[h2];exact Int.le_refl _⟩
 |@snoc p b c n _ g ih =>
  obtain⟨e,he,h1,h2⟩:=ih;obtain⟨t,t1,t2,t3⟩:=g;have hs:(⟨n,b,c⟩:kK)∈aX w ks:=cP.mpr ⟨t,t1,t2,t3⟩;obtain⟨d,hd,hb⟩:=S _ hs e he h1;have:=R.cl _ hs e he h1 d hd hb;refine⟨d,hd,hb,?_⟩;rw[gE];have this:d.z<=e.z+cT zs n:=this;omega
noncomputable def lB(w:cq):Int:=Gi (w.ts.map (·.l))
noncomputable def lz(w:cq):List Int:=w.ts.map λt=>t.l.1*(lB w / t.l.2)
theorem xV(xs:List cw):fH (xs.map some)=xs:=by
 unfold fH;rw[List.filterMap_map];simp
section
variable {w:cq}(W:bT w)
include W
theorem gk:0<lB w/\(lB w).natAbs<=2 ^ 2800/\∀t∈w.ts,t.l.2∣lB w:=by
 have h:=Eh (xs:=w.ts.map (·.l)) (λx hx=>by
  obtain⟨t,ht,rfl⟩:=List.mem_map.mp hx;exact(W.ts t ht).l) 1 0 ⟨by decide,by decide⟩
 obtain⟨⟨h1,h2⟩,_,h3⟩:=h;refine⟨h1,?_,λt ht=>h3 _ (List.mem_map.mpr ⟨t,ht,rfl⟩)⟩;refine Nat.le_trans h2 (Nat.pow_le_pow_right (by decide) ?_);rw[List.length_map];have:=W.t14;omega
theorem Ir:(lz w).length=w.ts.length:=by unfold lz;rw[List.length_map]
theorem GR:∀z∈lz w,0<=z:=λz hz=>by
 obtain⟨t,ht,rfl⟩:=List.mem_map.mp hz;have T:=W.ts t ht;have:=T.l.q1;exact Int.mul_nonneg T.l0 (Int.ediv_nonneg (by have:=(gk W).1;omega) (by omega))
theorem KC(n:Nat):(cT (lz w) n).natAbs<2 ^ 3000:=by
 unfold cT lz;rw[List.getElem?_map];cases e:w.ts[n]? with
 |none=>show(0:Int).natAbs<_;exact Nat.pow_pos (by decide)
 |some t =>
  have T:=W.ts t (List.mem_of_getElem? e);show(t.l.1*(lB w / t.l.2)).natAbs<_;rw[Int.natAbs_mul,show(3000:Nat)=200+2800 from rfl,Nat.pow_add];have h1:t.l.1.natAbs<2 ^ 200:=Nat.lt_of_lt_of_le T.l.pN (by decide);have h2:(lB w / t.l.2).natAbs<=2 ^ 2800:=Nat.le_trans (Int.natAbs_ediv_le_natAbs _ _) (gk W).2.1;exact Nat.lt_of_lt_of_le (Nat.mul_lt_mul_of_lt_of_le h1 h2 (Nat.pow_pos (by decide))) (Nat.le_refl _)
theorem A3:m_scaled_lengths [aS w]=.ok (.tup [.lst ((lz w).map D.int),.int (lB w)]):=by
 have t14:=W.t14;have hi:aN (aS w) (.int 1)=.ok (.lst (w.ts.map bL)):=rfl;have hc:∀A,fQ 1 [] (bw 0) mYes (aa (ae 0) (dC (.int 3)) aN) A (w.ts.map bL)=.ok (.lst (((w.ts.map (·.l)).map some).map aM)):=λA=>by
  rw[K51.comp_pick bL (λt=>some (aM (some t.l))) (by omega)]
  .rw[List.map_map,List.map_map,←List.filterMap_eq_map];rfl
  .intro t ht
   have:aN (bL t) (.int 3)=.ok (aM (some t.l)):=rfl;refine⟨[.sh (bL t)],rfl,.inr ⟨_,rfl,rfl,?_⟩⟩;open_line with[this]
 have hs:=Co (os:=(w.ts.map (·.l)).map some) (by rw[List.length_map,List.length_map];omega) (λx hx=>by
  obtain⟨y,hy,e⟩:=List.mem_map.mp hx;cases e;obtain⟨t,ht,rfl⟩:=List.mem_map.mp hy;exact(W.ts t ht).l)
 rw[xV] at hs;open_line with[m_scaled_lengths,gL,hi,hc,hs]
 show aj.ok (D.tup [.lst _,.int (lB w)])=_;unfold lz;rw[List.map_map,List.map_map,List.map_map];rfl
theorem ED{p:List Nat}(hp:p.length<=7):(eL (lz w) p).natAbs<2 ^ 3003:=by
 have key:∀(p:List Nat),(eL (lz w) p).natAbs<=p.length*2 ^ 3000:=by
  intro p
  induction p with
  |nil=>show(0:Int).natAbs<=_;simp
  |cons n p ih =>
   have:eL (lz w) (n::p)=cT (lz w) n+eL (lz w) p:=by unfold eL;rw[List.map_cons,List.sum_cons]
   rw[this,List.length_cons,Nat.add_mul,Nat.one_mul];have h1:=Int.natAbs_add_le (cT (lz w) n) (eL (lz w) p);have h2:=KC W n;omega
 have h:=key p;have h8:p.length*2 ^ 3000<=7*2 ^ 3000:=Nat.mul_le_mul_right _ hp;have h9:7*2 ^ 3000<2 ^ 3003:=by
  rw[show(3003:Nat)=3+3000 from rfl,Nat.pow_add];exact Nat.mul_lt_mul_of_pos_right (by decide) (Nat.pow_pos (by decide))
 omega
end
open K11 (bJ ways pr c9)
noncomputable def pf(w:cq) (F:List dY) (p:Str):Option cw:=(get F p).map λe=>cQ e.z (lB w)
noncomputable def GL(w:cq) (F:List dY):D:=.dic w.ps (w.ps.map λp=>aM (pf w F p))
noncomputable def iI(w:cq) (F:List dY):D:=match get F w.la with
 |none=>.tup [.non,.non,GL w F]
 |some e=>.tup [.lst (bJ e.y),fr (cQ e.z (lB w)),GL w F]
theorem rQ{g:Str->D}{k:Str}:∀{ps:List Str},kJ ps (ps.map g) k=if k∈ps then some (g k) else none
 |[]=>rfl
 |p::ps=>by
  rw[List.map_cons,kJ]
  by_cases h:p=k
  .subst h;simp
  .rw[if_neg h,rQ]
   have:k≠p:=λz=>h z.symm;simp [this]
theorem HR{w:cq}{F:List dY}{p:Str}(h:p∈w.ps):bV (GL w F) (.str p)=.ok (aM (pf w F p)):=by
 show(match kJ w.ps (w.ps.map λp=>aM (pf w F p)) p with|some d=>aj.ok d|none=>.stuck)=_;rw[rQ,if_pos h]
theorem Mf{F:List dY}(k:Str):jN (.str k) (fD F)=.ok (.bl (get F k).isSome):=by
 show aj.ok (D.bl (kJ (F.map (·.p)) (F.map ig) k).isSome)=_;rw[kF,Option.isSome_map]
theorem FV{F:List dY}(k:Str):eG (.str k) (fD F)=.ok (.bl (!(get F k).isSome)):=by
 show aj.ok (D.bl (!(kJ (F.map (·.p)) (F.map ig) k).isSome))=_;rw[kF,Option.isSome_map]
theorem GW{F:List dY}{k:Str}{e:dY}(h:get F k=some e):bV (fD F) (.str k)=.ok (ig e):=by
 show(match kJ (F.map (·.p)) (F.map ig) k with|some d=>aj.ok d|none=>.stuck)=_;rw[kF,h];rfl
noncomputable abbrev pB:Ev->aj Fl :=
 (aw (iA 4 (Jc (aa (ae 5) (ae 3) jN) (au (ai (aa (aa (ae 3) (ae 5) bV) (dC (.int 0)) aN) (ai (aa (ae 2) (dC (.int 1)) aN) aE)) K17.m_ratio) (dC (.non))) (ae 5))
 ar)
section
variable {w:cq}(W:bT w) {ks:List Nat}{F:List dY}{m:Int}(R:sG w ks (lz w) F m)
include W R
theorem DB{e:dY}(he:e∈F):e.z.natAbs<2 ^ 3003:=by
 obtain⟨_,h2,_,h4⟩:=R.wy e he;have:=R.len W;rw[h2];exact ED W (by omega)
theorem CL{p:Str}{e:dY}(h:get F p=some e):K17.m_ratio [.int e.z,.int (lB w)]=.ok (fr (cQ e.z (lB w))):=by
 have b13:∀n,n<=6000->2 ^ n<=nY:=λn hn=>by rw[nC];exact Nat.pow_le_pow_right (by decide) (Nat.le_trans hn (by decide))
 obtain⟨h1,h2,_⟩:=gk W;refine vI h1 (Nat.lt_of_lt_of_le (DB W R (dQ h).1) (b13 3003 (by decide))) (Nat.lt_of_le_of_lt h2 (Nat.lt_of_lt_of_le (Nat.pow_lt_pow_right (by decide) (show 2800<2801 by decide)) (b13 2801 (by decide))))
theorem CY{A:D}:∀(rest done:List Str) (x5:Sl),(done++rest).Nodup->(done++rest).length<=7->∃y5,bM (bw 5) pB (rest.map D.str) [.sh (aS w),.sh A,.sh (.tup [.lst ((lz w).map D.int),.int (lB w)]),.sh (fD F),.ow (.dic done (done.map λp=>aM (pf w F p))),x5] =
  .ok (.nx [.sh (aS w),.sh A,.sh (.tup [.lst ((lz w).map D.int),.int (lB w)]),.sh (fD F),.ow (.dic (done++rest) ((done++rest).map λp=>aM (pf w F p))),y5])
 |[],done,x5,_,_=>⟨x5,by rw[List.append_nil];rfl⟩
 |p::rest,done,x5,nd,hl=>by
  have e0:done++p::rest=(done++[p])++rest:=by rw[List.append_assoc];rfl
  rw[e0] at nd hl ⊢;obtain⟨y5,e⟩:=CY (A:=A) rest (done++[p]) (.sh (.str p)) nd hl;refine⟨y5,?_⟩;have hp:p∉done:=λz=>by
   have:=(List.nodup_append.mp nd).1;have:=(List.nodup_append.mp this).2.2 p z p (List.mem_singleton.mpr rfl);exact this rfl
  rw[List.map_cons,c3 (ρ1:=[.sh (aS w),.sh A,.sh (.tup [.lst ((lz w).map D.int),.int (lB w)]),.sh (fD F),.ow (.dic done (done.map λp=>aM (pf w F p))),.sh (.str p)]) (ρ2:=[.sh (aS w),.sh A,.sh (.tup [.lst ((lz w).map D.int),.int (lB w)]),.sh (fD F),.ow (.dic (done++[p]) ((done++[p]).map λp=>aM (pf w F p))),.sh (.str p)]) rfl,e];have h9:decide (done.length<=900)=true:=decide_eq_true (by rw[List.length_append,List.length_append] at hl;omega);have hput:∀d,jK done (done.map λp=>aM (pf w F p)) p d=.dic (done++[p]) ((done.map λp=>aM (pf w F p))++[d]):=λd=>by unfold jK;rw[if_neg hp]
  have hin:=Mf (F:=F) p;have hw0:aM none=.non:=rfl;have hw1:∀x,aM (some x)=fr x:=λ_=>rfl;have hv:(done++[p]).map (λp=>aM (pf w F p))=(done.map λp=>aM (pf w F p))++[aM (pf w F p)]:=by rw[List.map_append];rfl
  rw[hv];cases hg:get F p with
  |none =>
   rw[hg] at hin;simp only[Option.isSome_none] at hin;have hpf:pf w F p=none:=by unfold pf;rw[hg];rfl
   rw[hpf];open_line with[ij,gr,fv,ee h9,hin,hput,hw0]
  |some e' =>
   rw[hg] at hin;simp only[Option.isSome_some] at hin;have hpf:pf w F p=some (cQ e'.z (lB w)):=by unfold pf;rw[hg];rfl
   rw[hpf];have h4:aN (ig e') (.int 0)=.ok (.int e'.z):=rfl;open_line with[ij,gr,fv,ee h9,hin,hput,GW hg,h4,CL W R hg,hw1]
end
theorem vz{w:cq}(W:bT w){ks:List Nat}:∃F m,sG w ks (lz w) F m/\vh w ks F/\m_shortest [aS w,aU ks]=.ok (iI w F):=by
 obtain⟨F,m,R,S,hr⟩:=xZ W (ks:=ks) (Ir W) (GR W);refine⟨F,m,R,S,?_⟩;have hs:=A3 W;obtain⟨y5,hl⟩:=CY W R (A:=aU ks) w.ps [] .no (by rw[List.nil_append];exact W.nm.nd) (by rw[List.nil_append];exact W.n7);rw[List.nil_append,List.map_nil] at hl;have i0:aN (aS w) (.int 0)=.ok (.lst (w.ps.map D.str)):=rfl;have i3:aN (aS w) (.int 3)=.ok (.str w.la):=rfl;have hni:=FV (F:=F) w.la;have hpr:=HR (w:=w) (F:=F) W.la;unfold iI;cases hg:get F w.la with
 |none =>
  rw[hg] at hni;simp only[Option.isSome_none,Bool.not_false] at hni;open_line with[m_shortest,kC,hs,hr,nq,mn,i0,hl,i3,hni]
  rfl
 |some e =>
  rw[hg] at hni;simp only[Option.isSome_some,Bool.not_true] at hni;have h5:aN (ig e) (.int 1)=.ok (.lst (bJ e.y)):=rfl;have hpf:pf w F w.la=some (cQ e.z (lB w)):=by unfold pf;rw[hg];rfl
  rw[hpf] at hpr;unfold GL at hpr ⊢;open_line with[m_shortest,kC,hs,hr,nq,mn,i0,hl,i3,hni,GW hg,h5,hpr]
  rfl
theorem Dm{w:cq}(W:bT w){ks:List Nat}(T:mF w ks):∃F m,sG w ks (lz w) F m/\vh w ks F/\m_least_way [aS w,aU ks]=.ok (iI w F):=by
 obtain⟨F,m,R,S,h⟩:=vz W (ks:=ks);have ht:K17.m_look_at_taking [aS w,aU ks]=.ok .non:=Com.taking_ok W T;exact⟨F,m,R,S,by open_line with[m_least_way,nQ,ht,h]⟩
open K11 (bJ ways pr c9)
open K51 (Bd pl)
noncomputable def val(x:cw):Rat:=(x.1:Rat) / (x.2:Rat)
theorem cz{a:Int}(h:0<a):(0:Rat)<(a:Rat):=by
 have:=Rat.intCast_lt_intCast.mpr h;simpa using this
theorem u3{a b c d:Rat}(hb:0<b)(hd:0<d):a / b<c / d↔a*d<c*b:=by
 have h1:a / b<c / d↔(a / b)*(b*d)<(c / d)*(b*d):=(Rat.mul_lt_mul_right (Rat.mul_pos hb hd)).symm;rw[h1];have e1:a / b*(b*d)=a*d:=by grind
 have e2:c / d*(b*d)=c*b:=by grind
 rw[e1,e2]
theorem eF{x y:cw}(hx:0<x.2)(hy:0<y.2):flt x y=decide (val x<val y):=by
 unfold flt val
 congr 1
 rw[u3 (cz hx) (cz hy),←Rat.intCast_mul,←Rat.intCast_mul,Rat.intCast_lt_intCast]
theorem jq{a b:Int}(hb:0<b):val (cQ a b)=(a:Rat) / (b:Rat):=by
 have h:=FJ (a:=a) (b:=b);have hq:0<(cQ a b).2:=by have:=(dz (a:=a) hb).q1;omega
 unfold val;have p1:=cz hq;have p2:=cz hb;have e:((cQ a b).1:Rat)*(b:Rat)=(a:Rat)*((cQ a b).2:Rat):=by rw[←Rat.intCast_mul,←Rat.intCast_mul,h]
 grind
theorem uq{x y:cw}(hx:0<x.2)(hy:0<y.2):val (pl x y)=val x+val y:=by
 have:pl x y=cQ (x.1*y.2+y.1*x.2) (x.2*y.2):=rfl;rw[this,jq (Int.mul_pos hx hy)];unfold val;have p1:=cz hx;have p2:=cz hy;rw[Rat.intCast_add,Rat.intCast_mul,Rat.intCast_mul,Rat.intCast_mul]
 grind
structure ue (x:cw):Prop where
 lo:Low x
 p0:0<=x.1
 b:Bd x 3010
theorem ue.q{x:cw}(h:ue x):0<x.2:=h.b.q0
theorem p8{x:cw}(h:fW x):Bd x 200:=⟨by have:=h.q1;omega,Nat.lt_of_lt_of_le h.pN (by decide),Nat.lt_of_lt_of_le h.qN (by decide)⟩
noncomputable def qD(w:cq) (q:Str->Option cw):D:=.dic w.ps (w.ps.map λp=>aM (q p))
theorem jR{w:cq}{q:Str->Option cw}{p:Str}(h:p∈w.ps):bV (qD w q) (.str p)=.ok (aM (q p)):=by
 show(match kJ w.ps (w.ps.map λp=>aM (q p)) p with|some d=>aj.ok d|none=>.stuck)=_;rw[rQ,if_pos h]
theorem wC{o:Option cw}(h:∀x,o=some x->ue x):K17.m_is_price [aM o]=.ok (.bl true):=by
 cases o with
 |none=>rfl
 |some x =>
  have hl:=nI (h x rfl).lo (h x rfl).p0;have hn:gz (fr x) .non=.ok (.bl false):=rfl;show K51.m_is_price [fr x]=_;open_line with[K51.m_is_price,K51.b_is_price,hn,hl]
theorem zK{w:cq}(W:bT w){q:Str->Option cw}(h:∀p∈w.ps,∀x,q p=some x->ue x):m_prices_just_the_places [.lst (w.ps.map D.str),qD w q]=.ok (.bl true):=by
 have n7:=W.n7;have hlP:dE (.lst (w.ps.map D.str))=.ok (.int w.ps.length):=by rw[dB,List.length_map]
 have hlQ:AB (qD w q)=.ok (.int w.ps.length):=rfl;have hb:((w.ps.length:Int)==(w.ps.length:Int))=true:=by simp
 have hd:jM "dict" (qD w q)=.ok (.bl true):=rfl;have hc:∀A,fQ 1 [1] (bw 0) mYes (eW (aa (ae 0) (ae 1) jN) (au (ai (aa (ae 1) (ae 0) bV) aE) K17.m_is_price)) [A,.sh (qD w q)] (w.ps.map D.str)=.ok (.lst ((w.ps.map D.str).map λ_=>.bl true)):=λA=>rf (by rw[List.length_map];omega) λd hd=>by
  obtain⟨p,hp,rfl⟩:=List.mem_map.mp hd;refine⟨[.sh (.str p),.sh (qD w q)],rfl,rfl,?_⟩;have hin:jN (.str p) (qD w q)=.ok (.bl true):=by
   show aj.ok (D.bl (kJ w.ps (w.ps.map λp=>aM (q p)) p).isSome)=_;rw[rQ,if_pos hp];rfl
  open_line with[hin,jR hp,wC (h p hp)]
 have hall:yJ (.lst ((w.ps.map D.str).map λ_=>.bl true))=.ok (.bl true):=by
  have:=K51.all_ok (ds:=w.ps.map D.str) (g:=λ_=>true);rw[show((w.ps.map D.str).all λ_=>true)=true from List.all_eq_true.mpr λ_ _=>rfl] at this;exact this
 open_line with[m_prices_just_the_places,dS,hd,hlP,hlQ,hb,hc,hall]
noncomputable def Lf(w:cq) (q:Str->Option cw) (s:kK):Prop:=∀x,q s.a=some x->∀t,w.ts[s.n]?=some t->∃y,q s.b=some y/\val y<=val x+val t.l
theorem Dl{o o':Option cw}{l:cw}(hl:fW l)(ho:∀x,o=some x->ue x)(ho':∀x,o'=some x->ue x)(h:∀x,o=some x->∃y,o'=some y/\val y<=val x+val l):K17.m_is_let [aM o,fr l,aM o']=.ok (.bl true):=by
 show K51.m_is_let [aM o,fr l,aM o']=_;cases o with
 |none =>
  have hn:gz (aM none) .non=.ok (.bl true):=rfl;open_line with[K51.m_is_let,K51.b_is_let,hn]
 |some x =>
  obtain⟨y,rfl,hv⟩:=h x rfl;have px:=ho x rfl;have py:=ho' y rfl;have bl:=p8 hl;have hp:=K51.plus_bd px.b bl (by decide);have hle:=K51.less_bd (K51.pl_bd px.b bl) py.b (by decide) (by decide);have hf:flt (pl x l) y=false:=by
   rw[eF (K51.pl_bd px.b bl).q0 py.q,uq px.q bl.q0];refine decide_eq_false λz=>?_;exact absurd z (Rat.not_lt.mpr hv)
  rw[hf] at hle;have hn:gz (aM (some x)) .non=.ok (.bl false):=rfl;have hn':cU (aM (some y)) .non=.ok (.bl true):=rfl;have e1:aM (some x)=fr x:=rfl;have e2:aM (some y)=fr y:=rfl;rw[e1] at hn;rw[e2] at hn';rw[e1,e2];have hp:K51.m_plus [fr x,fr l]=.ok (fr (pl x l)):=hp;have hle:K51.m_is_less [fr (pl x l),fr y]=.ok (.bl false):=hle;open_line with[K51.m_is_let,K51.b_is_let,hn,hn',hp,hle]
theorem Bm{w:cq}(W:bT w){ks:List Nat}(T:mF w ks){q:Str->Option cw}(h:∀p∈w.ps,∀x,q p=some x->ue x)(h0:q w.fi=some (0,1))(hl:∀s∈aX w ks,Lf w q s):m_lets_prices [aS w,aU ks,qD w q]=.ok (.bl true):=by
 have ht:K17.m_look_at_taking [aS w,aU ks]=.ok .non:=Com.taking_ok W T;have hj:=zK W h;have hs:K17.m_steps_left [aS w,aU ks]=.ok (.lst ((aX w ks).map fF)):=steps_ok W;have i0:aN (aS w) (.int 0)=.ok (.lst (w.ps.map D.str)):=rfl;have i1:aN (aS w) (.int 1)=.ok (.lst (w.ts.map bL)):=rfl;have i2:aN (aS w) (.int 2)=.ok (.str w.fi):=rfl;have hg:=jR (q:=q) W.fi;rw[h0] at hg;have hg:bV (qD w q) (.str w.fi)=.ok (.tup [.int 0,.int 1]):=hg;have hne:jE (.tup [.int 0,.int 1]) (.tup [.int 0,.int 1])=.ok (.bl false):=rfl;have loop:∀(ss:List kK),(∀s∈ss,s∈aX w ks)->∀x3 x4 x5:Sl,∃y3 y4 y5,bM (fM [3,4,5]) (aw (dW (cI (au (ai (aa (ae 2) (ae 4) bV) (ai (aa (aa (aa (ae 0) (dC (.int 1)) aN) (ae 3) aN) (dC (.int 3)) aN) (ai (aa (ae 2) (ae 5) bV) aE))) K17.m_is_let))
 (aw (bP (dC (.bl false)))
 ar)
 ar)
 ar) (ss.map fF) [.sh (aS w),.sh (aU ks),.sh (qD w q),x3,x4,x5]=.ok (.nx [.sh (aS w),.sh (aU ks),.sh (qD w q),y3,y4,y5]):=by
  intro ss
  induction ss with
  |nil=>intro _ x3 x4 x5;exact⟨x3,x4,x5,rfl⟩
  |cons s ss ih =>
   intro hm x3 x4 x5;obtain⟨y3,y4,y5,e⟩:=ih (λu hu=>hm u (List.mem_cons_of_mem _ hu)) (.sh (.int (s.n:Int))) (.sh (.str s.a)) (.sh (.str s.b));refine⟨y3,y4,y5,?_⟩;have hs:=hm s List.mem_cons_self;obtain⟨t,t1,t2,t3⟩:=cP.mp hs;have TT:=W.ts t (List.mem_of_getElem? t1);obtain⟨wa,wb,_⟩:=ou TT t3;have h1:=mR t1;have h3:aN (bL t) (.int 3)=.ok (fr t.l):=rfl;have hlet:=Dl TT.l (h s.a wa) (h s.b wb) (λx hx=>hl s hs x hx t t1);rw[List.map_cons,c3 (ρ1:=[.sh (aS w),.sh (aU ks),.sh (qD w q),.sh (.int (s.n:Int)),.sh (.str s.a),.sh (.str s.b)]) (ρ2:=[.sh (aS w),.sh (aU ks),.sh (qD w q),.sh (.int (s.n:Int)),.sh (.str s.a),.sh (.str s.b)]) rfl,e];open_line with[i1,h1,h3,jR wa,jR wb,hlet]
 obtain⟨y3,y4,y5,e⟩:=loop (aX w ks) (λ_ h=>h) .no .no .no;open_line with[m_lets_prices,b_lets_prices,ht,i0,hj,i2,hg,hne,hs,e]
open K11 (bJ ways pr c9)
open K51 (Bd pl)
noncomputable def cM(w:cq) (p:List Nat):Rat:=(p.map λn=>val (K12.lenAt w n)).sum
theorem sW{w:cq}{p:List Nat}{n:Nat}:cM w (p++[n])=cM w p+val (K12.lenAt w n):=by
 unfold cM;rw[List.map_append,List.sum_append];simp [Rat.add_zero]
theorem oZ{w:cq}{ks:List Nat}{a b:Str}{p:List Nat}(g:eu w ks a p b):∀n∈p,n<w.ts.length/\n∉ks:=by
 induction g with
 |nil=>intro n hn;cases hn
 |@snoc p b c n _ g ih =>
  intro m hm;rcases List.mem_append.mp hm with hm|hm
  .exact ih m hm
  .have:m=n:=by simpa using hm
   subst this;obtain⟨t,h1,h2,_⟩:=g;exact⟨(List.getElem?_eq_some_iff.mp h1).1,h2⟩
section
variable {w:cq}(W:bT w)
include W
theorem vn{n:Nat}(hn:n<w.ts.length):val (K12.lenAt w n)=(cT (lz w) n:Rat) / (lB w:Rat):=by
 have ht:=List.getElem?_eq_getElem hn;have T:=W.ts w.ts[n] (List.getElem_mem hn);rw[K12.lenAt_of ht];have hz:cT (lz w) n=w.ts[n].l.1*(lB w / w.ts[n].l.2):=by
  unfold cT lz;rw[List.getElem?_map,ht];rfl
 obtain⟨h1,_,h3⟩:=gk W;have hq:=T.l.q1;have hd:=Int.ediv_mul_cancel (h3 _ (List.getElem_mem hn));have e:cT (lz w) n*w.ts[n].l.2=w.ts[n].l.1*lB w:=by rw[hz,Int.mul_assoc,hd]
 have p1:=cz h1;have p2:=cz (show 0<w.ts[n].l.2 by omega);have e':(cT (lz w) n:Rat)*(w.ts[n].l.2:Rat)=(w.ts[n].l.1:Rat)*(lB w:Rat):=by rw[←Rat.intCast_mul,←Rat.intCast_mul,e]
 unfold val
 grind
theorem oW:∀{p:List Nat},(∀n∈p,n<w.ts.length)->(eL (lz w) p:Rat) / (lB w:Rat)=cM w p
 |[],_=>by
  show((0:Int):Rat) / _=0;have p1:=cz (gk W).1;rw[show((0:Int):Rat)=0 from rfl]
  grind
 |n::p,h=>by
  have ih:=oW (p:=p) λm hm=>h m (List.mem_cons_of_mem _ hm);have h1:=vn W (h n List.mem_cons_self);have e1:eL (lz w) (n::p)=cT (lz w) n+eL (lz w) p:=by unfold eL;rw[List.map_cons,List.sum_cons]
  have e2:cM w (n::p)=val (K12.lenAt w n)+cM w p:=by unfold cM;rw[List.map_cons,List.sum_cons]
  have p1:=cz (gk W).1;rw[e1,e2,h1,←ih,Rat.intCast_add]
  grind
variable {ks:List Nat}{F:List dY}{m:Int}(R:sG w ks (lz w) F m)
include R
theorem Ae{e:dY}(he:e∈F):ue (cQ e.z (lB w)):=by
 obtain⟨h1,h2,_⟩:=gk W;refine⟨dz h1,km (R.mo e he).1 h1,K51.low_bd h1 (K51.p2_lt (DB W R he) (by decide)) (K51.p2_lt (n:=3010) (m:=2801) ?_ (by decide))⟩;exact Nat.lt_of_le_of_lt h2 (Nat.pow_lt_pow_right (by decide) (by decide))
theorem oN{e:dY}(he:e∈F):val (cQ e.z (lB w))=(e.z:Rat) / (lB w:Rat)/\val (cQ e.z (lB w))=cM w e.y:=by
 have h:=jq (a:=e.z) (gk W).1;obtain⟨h1,h2,_⟩:=R.wy e he;refine⟨h,?_⟩;rw[h,h2];exact oW W λn hn=>(oZ h1 n hn).1
theorem CS:∀p∈w.ps,∀x,pf w F p=some x->ue x:=λp _ x h=>by
 unfold pf at h;cases e:get F p with|none=>rw[e] at h;cases h|some d=>rw[e] at h;cases h;exact Ae W R (dQ e).1
theorem Ki:pf w F w.fi=some (0,1):=by
 obtain⟨e,he,h1,h2,_⟩:=R.fi;have:=uQ R.nd he;rw[h1] at this;unfold pf;rw[this];show some (cQ e.z (lB w))=_;rw[h2];have hB:=(gk W).1;unfold cQ;rw[show Int.gcd 0 (lB w)=(lB w).natAbs from Int.gcd_zero_left _];have:((lB w).natAbs:Int)=lB w:=by omega
 rw[this,Int.ediv_self (by omega)];simp
theorem HW(S:vh w ks F){s:kK}(hs:s∈aX w ks):Lf w (pf w F) s:=λx hx t ht=>by
 unfold pf at hx;cases ea:get F s.a with
 |none=>rw[ea] at hx;cases hx
 |some e =>
  rw[ea] at hx;cases hx;obtain⟨he,hea⟩:=dQ ea;obtain⟨d,hd,hdb⟩:=S s hs e he hea;have hg:=uQ R.nd hd;rw[hdb] at hg;refine⟨cQ d.z (lB w),by unfold pf;rw[hg];rfl,?_⟩;have hcl:=R.cl s hs e he hea d hd hdb;have hn:=(List.getElem?_eq_some_iff.mp ht).1;have hl:=vn W hn;rw[K12.lenAt_of ht] at hl;have p1:=cz (gk W).1;show val (cQ d.z (lB w))<=val (cQ e.z (lB w))+val t.l;rw[(oN W R hd).1,(oN W R he).1,hl];have hc:(d.z:Rat)<=(e.z:Rat)+(cT (lz w) s.n:Rat):=by
   rw[←Rat.intCast_add];exact Rat.intCast_le_intCast.mpr hcl
  refine Rat.not_lt.mp λz=>?_;have z':((e.z:Rat)+(cT (lz w) s.n:Rat)) / (lB w:Rat)<(d.z:Rat) / (lB w:Rat):=by
   have:((e.z:Rat)+(cT (lz w) s.n:Rat)) / (lB w:Rat)=(e.z:Rat) / (lB w:Rat)+(cT (lz w) s.n:Rat) / (lB w:Rat):=by grind
   rw[this];exact z
  rw[u3 p1 p1] at z';have:=(Rat.mul_lt_mul_right p1).mp z';exact absurd this (Rat.not_lt.mpr hc)
theorem K8(S:vh w ks F){p:List Nat}{b:Str}(h:eu w ks w.fi p b):∃e∈F,get F b=some e/\val (cQ e.z (lB w))<=cM w p:=by
 obtain⟨e,he,h1,h2⟩:=EO R S h;have hg:=uQ R.nd he;rw[h1] at hg;refine⟨e,he,hg,?_⟩;rw[(oN W R he).1,←oW W λn hn=>(oZ h n hn).1];have p1:=cz (gk W).1;refine Rat.not_lt.mp λz=>?_;rw[u3 p1 p1] at z;have:=(Rat.mul_lt_mul_right p1).mp z;have:=Rat.intCast_lt_intCast.mp this;omega
end
end Pth
namespace Vlu
open PySem L2 DL Com Bor Pth
open K11 (bJ ways pr c9)
open K51 (Bd pl)
theorem Hg:∀{xs:List cw},(∀x∈xs,1<=x.2/\x.2<=60)->∀b:Int,0<b->0<xs.foldl eY b/\xs.foldl eY b<=b*60 ^ xs.length
 |[],_,b,hb=>⟨hb,by simp⟩
 |x::xs,hx,b,hb=>by
  obtain⟨q1,q2⟩:=hx x List.mem_cons_self;have hg:0<(Int.gcd b x.2:Int):=pZ (by omega);have hd:(Int.gcd b x.2:Int)∣b:=Int.gcd_dvd_left ..;have hq:0<b / (Int.gcd b x.2:Int):=Int.ediv_pos_of_pos_of_dvd hb (by omega) hd;have hle:b / (Int.gcd b x.2:Int)<=b:=Int.ediv_le_self _ (by omega);have h1:0<eY b x:=Int.mul_pos hq (by omega);have h2:eY b x<=b*60:=Int.mul_le_mul hle q2 (by omega) (by omega);obtain⟨k1,k2⟩:=Hg (λy hy=>hx y (List.mem_cons_of_mem _ hy)) (eY b x) h1;refine⟨k1,Int.le_trans k2 ?_⟩;rw[List.length_cons,Int.pow_succ,Int.mul_comm ((60:Int) ^ xs.length) 60,←Int.mul_assoc];exact Int.mul_le_mul_of_nonneg_right h2 (Int.le_of_lt (Int.pow_pos (by decide)))
section
variable {w:cq}(W:bT w) (hw:∀t∈w.ts,gD t)
include W hw
theorem lB60:0<lB w/\lB w<=60 ^ 14:=by
 obtain⟨h1,h2⟩:=Hg (xs:=w.ts.map (·.l)) (λx hx=>by
  obtain⟨t,ht,rfl⟩:=List.mem_map.mp hx;exact⟨(W.ts t ht).l.q1,(hw t ht).1.q1⟩) 1 (by decide)
 refine⟨h1,Int.le_trans h2 ?_⟩;rw[List.length_map,Int.one_mul];have:=W.t14
 exact_mod_cast Nat.pow_le_pow_right (n:=60) (by decide) this
theorem Iu(n:Nat):0<=cT (lz w) n/\cT (lz w) n<=1000000000000*60 ^ 14:=by
 refine⟨uo (GR W) n,?_⟩;unfold cT lz;rw[List.getElem?_map];cases e:w.ts[n]? with
 |none=>show(0:Int)<=_;decide
 |some t =>
  have T:=W.ts t (List.mem_of_getElem? e);have A:=(hw t (List.mem_of_getElem? e)).1;have hB:=lB60 W hw;show t.l.1*(lB w / t.l.2)<=_;have h2:lB w / t.l.2<=60 ^ 14:=Int.le_trans (Int.ediv_le_self _ (by omega)) hB.2;exact Int.mul_le_mul A.p1 h2 (Int.ediv_nonneg (by omega) (by have:=T.l.q1;omega)) (by decide)
theorem xN:∀(p:List Nat),0<=eL (lz w) p/\eL (lz w) p<=p.length*(1000000000000*60 ^ 14)
 |[]=>⟨Int.le_refl _,by show(0:Int)<=_;simp⟩
 |n::p=>by
  have e:eL (lz w) (n::p)=cT (lz w) n+eL (lz w) p:=by unfold eL;rw[List.map_cons,List.sum_cons]
  have h1:=Iu W hw n;have h2:=xN p;rw[e,List.length_cons];refine⟨by omega,?_⟩
  push_cast
  rw[Int.add_mul,Int.one_mul];omega
variable {ks:List Nat}{F:List dY}{m:Int}(R:sG w ks (lz w) F m)
include R
end
theorem L8{x:cw}:gz (fr x) .non=.ok (.bl false):=rfl
end Vlu
namespace Bfd
open PySem L2 DL Com Bor Pth Vlu
open K11 (bJ ways pr)
structure BS where
 ks:List Str
 Z:Str->Int
noncomputable def gf(zs:List Int) (s:kK) (S:BS):BS×Bool :=
 if s.a∈S.ks/\(s.b∉S.ks∨S.Z s.a+cT zs s.n<S.Z s.b) then(⟨if s.b∈S.ks then S.ks else S.ks++[s.b],λp=>if p=s.b then S.Z s.a+cT zs s.n else S.Z p⟩,true) else(S,false)
noncomputable def dI(zs:List Int):List kK->BS×Bool->BS×Bool
 |[],r=>r
 |s::L,(S,c)=>dI zs L ((gf zs s S).1,c||(gf zs s S).2)
theorem vO{zs:List Int}:∀{L L':List kK}{r:BS×Bool},dI zs (L++L') r=dI zs L' (dI zs L r)
 |[],_,_=>rfl
 |s::L,L',(S,c)=>by rw[List.cons_append,dI,vO,dI]
noncomputable def xK:Int:=1000000000000*60 ^ 14
structure dU (w:cq) (tk:List Nat) (S:BS):Prop where
 nd:S.ks.Nodup
 pl:∀p∈S.ks,p∈w.ps
 fi:w.fi∈S.ks
 z0:S.Z w.fi<=0
 wk:∀p∈S.ks,∃q,eu w tk w.fi q p/\eL (lz w) q=S.Z p
 bd:∀p∈S.ks,S.Z p<=((S.ks.length:Int)-1)*xK
noncomputable def Le(S S':BS):Prop:=(∀p∈S.ks,p∈S'.ks)/\∀p∈S.ks,S'.Z p<=S.Z p
theorem Le.refl(S:BS):Le S S:=⟨λ_ h=>h,λ_ _=>Int.le_refl _⟩
theorem Le.trans{S T U:BS}(h:Le S T)(g:Le T U):Le S U:=⟨λp hp=>g.1 p (h.1 p hp),λp hp=>Int.le_trans (g.2 p (h.1 p hp)) (h.2 p hp)⟩
section
variable {w:cq}(W:bT w) (hw:∀t∈w.ts,gD t) {tk:List Nat}
include W hw
theorem vG{S:BS}(K:dU w tk S){s:kK}(hs:s∈aX w tk) :
  dU w tk (gf (lz w) s S).1/\Le S (gf (lz w) s S).1/\(s.a∈S.ks->s.b∈(gf (lz w) s S).1.ks/\(gf (lz w) s S).1.Z s.b<=S.Z s.a+cT (lz w) s.n)/\((gf (lz w) s S).2=false->(gf (lz w) s S).1=S):=by
 obtain⟨t,ht,hn,hm⟩:=cP.mp hs;have T:=W.ts t (List.mem_of_getElem? ht);have hbp:s.b∈w.ps:=by
  unfold ways at hm;split at hm
  .simp at hm;rw[hm.2];exact T.b
  .simp at hm
   rcases hm with h|h
   .rw[h.2];exact T.b
   .rw[h.2];exact T.a
 obtain⟨z0,z1⟩:=Iu W hw s.n;have z1:cT (lz w) s.n<=xK:=z1;have hM:(0:Int)<xK:=by decide
 unfold gf
 by_cases h:s.a∈S.ks/\(s.b∉S.ks∨S.Z s.a+cT (lz w) s.n<S.Z s.b)
 .rw[if_pos h]
  obtain⟨ha,hb⟩:=h;obtain⟨qa,qw,qz⟩:=K.wk s.a ha;have hwb:eu w tk w.fi (qa++[s.n]) s.b:=.snoc qw ⟨t,ht,hn,hm⟩;have hz:eL (lz w) (qa++[s.n])=S.Z s.a+cT (lz w) s.n:=by rw[gE,qz]
  have nnq:∀q:List Nat,0<=eL (lz w) q:=λq=>(xN W hw q).1;have sub:∀p,p∈(if s.b∈S.ks then S.ks else S.ks++[s.b])↔p∈S.ks∨p=s.b:=by
   intro p;split
   .rename_i hin
    exact⟨.inl,λh=>h.elim id λe=>e▸hin⟩
   .rw[List.mem_append,List.mem_singleton]
  have len:((if s.b∈S.ks then S.ks else S.ks++[s.b]).length:Int)=if s.b∈S.ks then(S.ks.length:Int) else(S.ks.length:Int)+1:=by
   split
   .rfl
   .simp
  refine⟨⟨?_,?_,?_,?_,?_,?_⟩,⟨λp hp=>(sub p).mpr (.inl hp),λp hp=>?_⟩,λ_=>⟨(sub _).mpr (.inr rfl),?_⟩,λe=>nomatch e⟩
  .show(if s.b∈S.ks then S.ks else S.ks++[s.b]).Nodup
   split
   .exact K.nd
   .rename_i hnin
    rw[List.nodup_append];exact⟨K.nd,by simp,λx hx y hy=>by rw[List.mem_singleton] at hy;subst hy;exact λe=>hnin (e▸hx)⟩
  .intro p hp
   rcases(sub p).mp hp with h|h
   .exact K.pl p h
   .rw[h];exact hbp
  .exact(sub _).mpr (.inl K.fi)
  .show(if w.fi=s.b then S.Z s.a+cT (lz w) s.n else S.Z w.fi)<=0
   split
   .rename_i e
    rcases hb with hb|hb
    .exact absurd (e▸K.fi) hb
    .have:=K.z0;rw[e] at this;omega
   .exact K.z0
  .intro p hp
   show ∃q,eu w tk w.fi q p/\eL (lz w) q=(if p=s.b then S.Z s.a+cT (lz w) s.n else S.Z p)
   by_cases e:p=s.b
   .rw[if_pos e,e];exact⟨_,hwb,hz⟩
   .rw[if_neg e]
    rcases(sub p).mp hp with h|h
    .exact K.wk p h
    .exact absurd h e
  .intro p hp
   show(if p=s.b then S.Z s.a+cT (lz w) s.n else S.Z p)<=(((if s.b∈S.ks then S.ks else S.ks++[s.b]).length:Int)-1)*xK;rw[len];have hba:=K.bd s.a ha
   by_cases e:p=s.b
   .rw[if_pos e]
    by_cases hin:s.b∈S.ks
    .rw[if_pos hin]
     have:=K.bd s.b hin;rcases hb with hb|hb
     .exact absurd hin hb
     .omega
    .rw[if_neg hin]
     have:((S.ks.length:Int)+1-1)*xK=((S.ks.length:Int)-1)*xK+xK:=by
      rw[show(S.ks.length:Int)+1-1=((S.ks.length:Int)-1)+1 by omega,Int.add_mul,Int.one_mul]
     omega
   .rw[if_neg e]
    have hp':p∈S.ks:=(sub p).mp hp |>.elim id λh=>absurd h e
    have:=K.bd p hp';split
    .exact this
    .refine Int.le_trans this (Int.mul_le_mul_of_nonneg_right (by omega) (by omega))
  .show(if p=s.b then S.Z s.a+cT (lz w) s.n else S.Z p)<=S.Z p
   split
   .rename_i e
    subst e;rcases hb with hb|hb
    .exact absurd hp hb
    .omega
   .exact Int.le_refl _
  .show(if s.b=s.b then S.Z s.a+cT (lz w) s.n else S.Z s.b)<=_
   rw[if_pos rfl];exact Int.le_refl _
 .rw[if_neg h]
  refine⟨K,Le.refl S,λha=>?_,λ_=>rfl⟩
  by_cases hin:s.b∈S.ks
  .exact⟨hin,Int.not_lt.mp λhl=>h ⟨ha,.inr hl⟩⟩
  .exact absurd ⟨ha,.inl hin⟩ h
theorem jr:∀(L:List kK),(∀s∈L,s∈aX w tk)->∀{S:BS}{c:Bool},dU w tk S ->
  dU w tk (dI (lz w) L (S,c)).1/\Le S (dI (lz w) L (S,c)).1/\(∀s∈L,s.a∈S.ks->s.b∈(dI (lz w) L (S,c)).1.ks/\(dI (lz w) L (S,c)).1.Z s.b<=S.Z s.a+cT (lz w) s.n)/\((dI (lz w) L (S,c)).2=false->c=false/\(dI (lz w) L (S,c)).1=S)
 |[],_,S,c,K=>⟨K,Le.refl S,λs h=>(nomatch h),λe=>⟨e,rfl⟩⟩
 |s::L,hL,S,c,K=>by
  obtain⟨k1,k2,k3,k4⟩:=vG W hw K (hL s List.mem_cons_self);obtain⟨p1,p2,p3,p4⟩:=jr L (λx hx=>hL x (List.mem_cons_of_mem _ hx)) (S:=(gf (lz w) s S).1) (c:=c||(gf (lz w) s S).2) k1;rw[dI];refine⟨p1,k2.trans p2,λx hx ha=>?_,λe=>?_⟩
  .rcases List.mem_cons.mp hx with rfl|hx
   .obtain⟨h1,h2⟩:=k3 ha
    exact⟨p2.1 _ h1,Int.le_trans (p2.2 _ h1) h2⟩
   .obtain⟨h1,h2⟩:=p3 x hx (k2.1 _ ha)
    exact⟨h1,Int.le_trans h2 (by have:=k2.2 _ ha;omega)⟩
  .obtain⟨e1,e2⟩:=p4 e
   rw[Bool.or_eq_false_iff] at e1;exact⟨e1.1,e2.trans (k4 e1.2)⟩
noncomputable def Rd(w:cq) (tk:List Nat) (r:Nat) (S:BS):Prop:=∀q p,eu w tk w.fi q p->q.length<=r->p∈S.ks/\S.Z p<=eL (lz w) q
theorem Fb{S:BS}(K:dU w tk S):Rd w tk 0 S:=by
 intro q p h hl;cases h with|nil=>exact⟨K.fi,K.z0⟩|snoc=>simp at hl
theorem Fc{S:BS}{c:Bool}{r:Nat}(K:dU w tk S)(R:Rd w tk r S):Rd w tk (r+1) (dI (lz w) (aX w tk) (S,c)).1:=by
 obtain⟨p1,p2,p3,p4⟩:=jr W hw (aX w tk) (λs h=>h) (c:=c) K;intro q p h hl;cases h with
 |nil=>exact⟨p1.fi,p1.z0⟩
 |snoc h g =>
  rename_i q' b n;obtain⟨t,t1,t2,t3⟩:=g;have hs:(⟨n,b,p⟩:kK)∈aX w tk:=cP.mpr ⟨t,t1,t2,t3⟩;obtain⟨r1,r2⟩:=R q' b h (by simp at hl;omega);obtain⟨s1,s2⟩:=p3 _ hs r1;refine⟨s1,?_⟩;rw[gE];have s2:(dI (lz w) (aX w tk) (S,c)).1.Z p<=S.Z b+cT (lz w) n:=s2;omega
theorem Fd{S:BS}{c:Bool}(K:dU w tk S)(h:(dI (lz w) (aX w tk) (S,c)).2=false)(r:Nat):Rd w tk r S:=by
 obtain⟨p1,p2,p3,p4⟩:=jr W hw (aX w tk) (λs h=>h) (c:=c) K;obtain⟨_,e⟩:=p4 h;rw[e] at p3;intro q p h _;have key:∀q p,eu w tk w.fi q p->p∈S.ks/\S.Z p<=eL (lz w) q:=by
  intro q p h
  induction h with
  |nil=>exact⟨K.fi,K.z0⟩
  |snoc h g ih =>
   rename_i q' b c' n;obtain⟨t,t1,t2,t3⟩:=g;have hs:(⟨n,b,c'⟩:kK)∈aX w tk:=cP.mpr ⟨t,t1,t2,t3⟩;obtain⟨r1,r2⟩:=ih;obtain⟨s1,s2⟩:=p3 _ hs r1;refine⟨s1,?_⟩;rw[gE];have s2:S.Z c'<=S.Z b+cT (lz w) n:=s2;omega
 exact key q p h
end
open K11 (bJ ways pr there oS)
open K51 (Bd pl)
noncomputable abbrev bp:List D->aj D:=K11.bp
noncomputable abbrev bB:List D->aj D:=K12.bB
noncomputable abbrev bh:List D->aj D:=K51.bh
noncomputable def kE:Ev->aj Fl :=
 (aw (pd 2 (xv (aa (ae 0) (dC (.int 2)) aN) (au (ai (dC (.int 0)) (ai (dC (.int 1)) aE)) e8)))
 (aw (kP (au (ai (aa (ae 0) (dC (.int 0)) aN) aE) (m1 dE)) (bw 3)
 (aw (bG 4 (dC (.bl true)))
 (aw (kP (au (ai (aa (ae 0) (dC (.int 1)) aN) aE) (m1 dE)) (bw 5)
 (aw (bG 6 (aa (aa (ae 0) (dC (.int 1)) aN) (ae 5) aN))
 (aw (jQ (Cg (BF (ae 6) fg (eP (dC (.int 2))))) (bw 7)
 (aw (bG 8 (au (ai (ae 6) (ai (ae 7) aE)) bp))
 (aw (dW (eW (aa (ae 5) (ae 1) cj) (eW (aa (ae 8) (dC (.non)) cU) (aa (ae 7) (ae 2) jN)))
 (aw (pb 9 (au (ai (aa (ae 2) (ae 7) bV) (ai (aa (ae 6) (dC (.int 3)) aN) aE)) bB))
 (aw (dW (iq (aa (ae 8) (ae 2) eG) (au (ai (ae 9) (ai (aa (ae 2) (ae 8) bV) aE)) bh))
 (aw (iA 2 (ae 9) (ae 8))
 (aw (bG 4 (dC (.bl false)))
 ar))
 ar)
 ar))
 ar)
 ar)))
 ar)))
 (aw (dW (ae 4)
 (aw (bP (ae 2))
 ar)
 ar)
 ar))))
 (aw (bP (ae 2))
 ar)))
noncomputable def cZ:List D->aj D:=cp 10 kE
noncomputable def dD(w:cq) (S:BS):D:=.dic S.ks (S.ks.map λp=>fr (cQ (S.Z p) (lB w)))
theorem yH{w:cq}{S:BS}{p:Str}:kJ S.ks (S.ks.map λp=>fr (cQ (S.Z p) (lB w))) p=if p∈S.ks then some (fr (cQ (S.Z p) (lB w))) else none:=rQ (g:=λp=>fr (cQ (S.Z p) (lB w)))
theorem D9{w:cq}{S:BS}{p:Str}:jN (.str p) (dD w S)=.ok (.bl (decide (p∈S.ks))):=by
 show aj.ok (D.bl (kJ S.ks (S.ks.map λp=>fr (cQ (S.Z p) (lB w))) p).isSome)=_;rw[yH]
 by_cases h:p∈S.ks
 .rw[if_pos h,decide_eq_true h];rfl
 .rw[if_neg h,decide_eq_false h];rfl
theorem BC{w:cq}{S:BS}{p:Str}:eG (.str p) (dD w S)=.ok (.bl (!(decide (p∈S.ks)))):=by
 show aj.ok (D.bl (!(kJ S.ks (S.ks.map λp=>fr (cQ (S.Z p) (lB w))) p).isSome))=_;rw[yH]
 by_cases h:p∈S.ks
 .rw[if_pos h,decide_eq_true h];rfl
 .rw[if_neg h,decide_eq_false h];rfl
theorem u5{w:cq}{S:BS}{p:Str}(h:p∈S.ks):bV (dD w S) (.str p)=.ok (fr (cQ (S.Z p) (lB w))):=by
 show(match kJ S.ks (S.ks.map λp=>fr (cQ (S.Z p) (lB w))) p with|some d=>aj.ok d|none=>.stuck)=_;rw[yH,if_pos h]
theorem ze{g:Str->D}{x:Str}{d:D}:∀{ks:List Str},pq ks (ks.map g) x d=ks.map λk=>if k=x then d else g k
 |[]=>rfl
 |k::ks=>by rw[List.map_cons,pq,ze,List.map_cons]
theorem F5{w:cq}{S:BS}{b:Str}{z:Int}:jK S.ks (S.ks.map λp=>fr (cQ (S.Z p) (lB w))) b (fr (cQ z (lB w)))=dD w ⟨if b∈S.ks then S.ks else S.ks++[b],λp=>if p=b then z else S.Z p⟩:=by
 unfold jK dD
 by_cases h:b∈S.ks
 .rw[if_pos h]
  simp only[if_pos h];rw[ze]
  congr 1
  refine List.map_congr_left λk _=>?_
  by_cases e:k=b
  .rw[if_pos e,if_pos e]
  .rw[if_neg e,if_neg e]
 .rw[if_neg h]
  simp only[if_neg h];rw[List.map_append]
  congr 1
  congr 1
  .refine List.map_congr_left λk hk=>?_
   rw[if_neg (by intro e;exact h (e▸hk))]
  .simp
theorem B5{x y:cw}(hx:Low x)(hy:Low y)(h:val x=val y):x=y:=by
 have q1:=hx.q1;have q2:=hy.q1;have h1:=eF (x:=x) (y:=y) (by omega) (by omega);have h2:=eF (x:=y) (y:=x) (by omega) (by omega);rw[h,decide_eq_false Rat.lt_irrefl] at h1;rw[h,decide_eq_false Rat.lt_irrefl] at h2;unfold flt at h1 h2;refine pO hx hy ?_;have:=of_decide_eq_false h1;have:=of_decide_eq_false h2;omega
section
variable {w:cq}(W:bT w) (hw:∀t∈w.ts,gD t)
include W hw
theorem yg{z:Int}{n:Nat}{t:kH}(ht:w.ts[n]?=some t):pl (cQ z (lB w)) t.l=cQ (z+cT (lz w) n) (lB w):=by
 have hB:=(gk W).1;have T:=(W.ts t (List.mem_of_getElem? ht)).l;have hq:0<t.l.2:=by have:=T.q1;omega
 have hn:n<w.ts.length:=(List.getElem?_eq_some_iff.mp ht).1;have hl:val t.l=(cT (lz w) n:Rat) / (lB w:Rat):=by
  have:=vn W hn;rw[show K12.lenAt w n=t.l by unfold K12.lenAt;rw[ht];rfl] at this;exact this
 have lq:0<(cQ z (lB w)).2:=by have:=(dz (a:=z) hB).q1;omega
 refine B5 (dz (Int.mul_pos lq hq)) (dz hB) ?_;rw[uq lq hq,jq hB,jq hB,hl,Rat.intCast_add];have p1:=cz hB
 grind
theorem FU{z z':Int}:flt (cQ z (lB w)) (cQ z' (lB w))=decide (z<z'):=by
 have hB:=(gk W).1;have q1:=(dz (a:=z) hB).q1;have q2:=(dz (a:=z') hB).q1;rw[eF (by omega) (by omega),jq hB,jq hB];have p1:=cz hB;have:((z:Rat) / (lB w:Rat)<(z':Rat) / (lB w:Rat))↔z<z':=by
  rw[u3 p1 p1];constructor
  .intro h;exact Rat.intCast_lt_intCast.mp ((Rat.mul_lt_mul_right p1).mp h)
  .intro h;exact(Rat.mul_lt_mul_right p1).mpr (Rat.intCast_lt_intCast.mpr h)
 by_cases h:z<z'
 .rw[decide_eq_true h,decide_eq_true (this.mpr h)]
 .rw[decide_eq_false h,decide_eq_false λe=>h (this.mp e)]
theorem um{tk:List Nat}{S:BS}(K:dU w tk S){p:Str}(hp:p∈S.ks):0<=S.Z p/\S.Z p<=6*xK:=by
 obtain⟨q,_,hq⟩:=K.wk p hp;have h0:=(xN W hw q).1;have h1:=K.bd p hp;have hl:S.ks.length<=w.ps.length:=Cod.nodup_le K.nd K.pl;have n7:=W.n7;have:((S.ks.length:Int)-1)*xK<=6*xK:=Int.mul_le_mul_of_nonneg_right (by omega) (by decide);omega
theorem Hk{z:Int}(h0:0<=z)(h1:z<=7*xK):Bd (cQ z (lB w)) 130:=by
 have hB:=lB60 W hw;have c1:(7:Int)*xK<2 ^ 130:=by decide
 have c2:(60:Int) ^ 14<2 ^ 130:=by decide
 refine K51.low_bd hB.1 ?_ ?_
 .have:z<2 ^ 130:=by omega
  omega
 .have:lB w<2 ^ 130:=by omega
  omega
end
end Bfd
namespace K15
open PySem L2 DL
noncomputable abbrev b5:List D->aj D:=Bor.b5
noncomputable abbrev aF:Addr->List D->List D->aj (D×List D):=Bor.aF
noncomputable abbrev dy:Addr->List D->List D->aj (D×List D):=Bor.dy
noncomputable abbrev bI:List D->aj D:=Cod.bI
noncomputable abbrev b6:Addr->List D->List D->aj (D×List D):=Bor.b6
noncomputable abbrev cF:Addr->List D->List D->aj (D×List D):=Bor.cF
noncomputable abbrev cY:Addr->List D->List D->aj (D×List D):=Bor.cY
noncomputable abbrev cG:Addr->List D->List D->aj (D×List D):=Bor.cG
noncomputable abbrev bp:List D->aj D:=K11.bp
noncomputable def iH:Ev->aj Fl :=
 (aw (ke 2 (au (ai (au (ai (au aE cu) (ai (au (ai (aa (ae 0) (dC (.int 2)) aN) aE) cu) aE)) e8) aE) cu))
 (aw (ke 3 (au aE cu))
 (aw (fI (λ_=>111112) (aa (ae 2) (au aE cu) jE)
 (aw (gU [4,5] 2)
 (aw (dW (aa (aa (ae 5) (cL (dC (.int 1)) xu) aN) (aa (ae 0) (dC (.int 3)) aN) iD)
 (aw (dw 3 (ae 4))
 ar)
 (aw (kP (au (ai (aa (ae 0) (dC (.int 1)) aN) aE) (m1 dE)) (bw 6)
 (aw (bG 7 (au (ai (aa (aa (ae 0) (dC (.int 1)) aN) (ae 6) aN) (ai (aa (ae 5) (cL (dC (.int 1)) xu) aN) aE)) bp))
 (aw (dW (eW (aa (ae 7) (dC (.non)) cU) (eW (aa (ae 7) (ae 5) cj) (aa (ae 6) (ae 1) cj)))
 (aw (dw 2 (au (ai (aa (ae 4) (au (ai (ae 6) aE) cu) cb) (ai (aa (ae 5) (au (ai (ae 7) aE) cu) cb) aE)) e8))
 ar)
 ar)
 ar)))
 ar))
 ar)))
 (aw (bP (ae 3))
 ar))))
noncomputable def cx:List D->aj D:=cp 8 iH
noncomputable abbrev bB:List D->aj D:=K12.bB
noncomputable def nU:Ev->aj Fl :=
 (aw (bG 2 (au (ai (dC (.int 0)) (ai (dC (.int 1)) aE)) e8))
 (aw (n9 (ae 1) (bw 3)
 (aw (bG 2 (au (ai (ae 2) (ai (aa (aa (aa (ae 0) (dC (.int 1)) aN) (ae 3) aN) (dC (.int 3)) aN) aE)) bB))
 ar))
 (aw (bP (ae 2))
 ar)))
noncomputable def cA:List D->aj D:=cp 4 nU
noncomputable abbrev m_is_name:List D->aj D:=Com.m_is_name
noncomputable abbrev m_look_at_places:List D->aj D:=Com.m_look_at_places
noncomputable abbrev m_is_whole:List D->aj D:=Com.m_is_whole
noncomputable abbrev m_common_divisor:List D->aj D:=Com.m_common_divisor
noncomputable abbrev m_is_ratio:List D->aj D:=Com.m_is_ratio
noncomputable abbrev m_is_length:List D->aj D:=Com.m_is_length
noncomputable abbrev m_is_worth:List D->aj D:=Com.m_is_worth
noncomputable abbrev m_is_tie:List D->aj D:=Com.m_is_tie
noncomputable abbrev m_look_at_ties:List D->aj D:=Com.m_look_at_ties
noncomputable abbrev m_is_place:List D->aj D:=Com.m_is_place
noncomputable abbrev m_look_at_web:List D->aj D:=Com.m_look_at_web
noncomputable abbrev m_is_tie_number:List D->aj D:=Com.m_is_tie_number
noncomputable abbrev m_look_at_taking:List D->aj D:=Com.m_look_at_taking
noncomputable abbrev m_shared_bottom:List D->aj D:=Com.m_shared_bottom
noncomputable abbrev m_as_whole:List D->aj D:=Com.m_as_whole
noncomputable abbrev m_on_one_scale:List D->aj D:=Com.m_on_one_scale
noncomputable abbrev m_scaled_lengths:List D->aj D:=K17.m_scaled_lengths
noncomputable abbrev m_steps_along:List D->aj D:=K11.m_steps_along
noncomputable abbrev m_steps_left:List D->aj D:=K51.m_steps_left
noncomputable abbrev m_nearest_step:List D->aj D:=K17.m_nearest_step
noncomputable abbrev m_all_reached:List D->aj D:=K17.m_all_reached
noncomputable abbrev m_ratio:List D->aj D:=Com.m_ratio
noncomputable abbrev m_shortest:List D->aj D:=K17.m_shortest
noncomputable abbrev m_least_way:List D->aj D:=K17.m_least_way
noncomputable abbrev bh:List D->aj D:=K51.bh
noncomputable abbrev m_is_price:List D->aj D:=K51.m_is_price
noncomputable abbrev m_prices_just_the_places:List D->aj D:=K17.m_prices_just_the_places
noncomputable abbrev m_is_less:List D->aj D:=Com.m_is_less
noncomputable abbrev m_plus:List D->aj D:=Com.m_plus
noncomputable abbrev m_is_let:List D->aj D:=K51.m_is_let
noncomputable abbrev m_lets_prices:List D->aj D:=K17.m_lets_prices
noncomputable def fz:Ev->aj Fl :=
 (aw (dW (cI (au (ai (ae 0) (ai (ae 1) (ai (ae 2) aE))) m_lets_prices))
 (aw (bP (dC (.bl true)))
 ar)
 ar)
 (aw (dW (aa (aa (ae 2) (aa (ae 0) (dC (.int 3)) aN) bV) (dC (.non)) gz)
 (aw (bP (aa (ae 3) (au aE cu) iD))
 ar)
 ar)
 (aw (bP (aa (dh 1 [2,0] (jJ (ae 3)) (bw 0) (au (ai (ae 0) (ai (aa (ae 1) (aa (ae 2) (dC (.int 3)) aN) bV) aE)) bh) (ae 0)) (au aE cu) iD))
 ar)))
noncomputable def b4:List D->aj D:=cp 4 fz
noncomputable abbrev cZ:List D->aj D:=Bfd.cZ
noncomputable def nS:Addr->Ev->List D->aj df:=λa =>
 (aW (dP 3 (mB (mP (au (ai (dC (.int 1)) (ai (dC (.int 1)) (ai (dC (.int 2)) (ai (dC (.int 3)) aE)))) cu)) (bD 0 a (aQ (mP (dC (.int 4))) bU) aF) aN))
 (aW (cJ (pd 4 (dC (.dic [] []))))
 (aW (k9 (uK (jJ (aa (ae 1) (dC (.int 0)) aN))) (bw 5)
 (aW (cJ (iA 4 (dC (.non)) (ae 5)))
 (aW (cJ (dW (aa (ae 5) (ae 2) jN)
 (aw (iA 4 (au (ai (aa (aa (ae 2) (ae 5) bV) (dC (.int 0)) aN) (ai (aa (aa (aa (ae 2) (ae 5) bV) (dC (.int 1)) aN) (ae 3) b3) aE)) bI) (ae 5))
 ar)
 ar))
 (aW (sC (mB (bD 0 a (aQ (mP (dC (.int 5))) bU) aF) (mP (dC (.int 0))) iD)
 (aW (sT 4 (mB (mA (aQ (mP (dC (.non))) (aQ (bD 0 a (aQ (mP (dC (.int 0))) bU) b6) bU)) cu) (bD 0 a (aQ (mP (dC (.int 2))) bU) aF) aN) (mP (ae 5)))
 bg)
 bg)
 bg))))
 (aW (eB (ae 4))
 bg))))
noncomputable def eQ:Addr->List D->List D->aj (D×List D):=ph 6 nS
noncomputable def Hh:Ev->aj Fl :=
 (aw (kP (au (ai (dC (.int 1)) (ai (au (ai (au (ai (ae 0) aE) (m1 dE)) (ai (dC (.int 8)) aE)) (m2 Gb)) aE)) (m2 I0)) (bw 1)
 (kg 2 (au (ai (ae 0) (ai (ae 1) aE)) b5) λa=>(aW (dP 3 (bD 2 a (aQ (mP (dC (.int 6))) (aQ (mP (dC (.int 10))) bU)) cY))
 (aW (dP 4 (bD 2 a (aQ (mP (ae 3)) (aQ (mB (mP (dC (.int 2))) (bD 2 a (aQ (mP (dC (.int 6))) bU) aF) cb) bU)) cG))
 (aW (cJ (bG 5 (dh 1 [3] (jJ (au (ai (ae 3) (ai (ae 4) aE)) cx)) (bw 0) mYes (au (ai (ae 1) (ai (ae 0) aE)) cA))))
 (aW (cJ (bG 6 (au (ai (ae 3) (ai (ae 4) aE)) m_least_way)))
 (aW (sC (mT (aa (ae 5) (au aE cu) iD))
 (aW (sC (mT (iq (aa (aa (ae 6) (dC (.int 0)) aN) (dC (.non)) cU) (aa (aa (ae 6) (dC (.int 1)) aN) (dC (.non)) cU)))
 (aW (eB (dC (.bl false)))
 bg)
 bg)
 bg)
 (aW (sC (mT (iq (aa (aa (ae 6) (dC (.int 1)) aN) (ae 5) cj) (aa (dh 1 [6] (jJ (ae 5)) (bw 0) (au (ai (ae 0) (ai (aa (ae 1) (dC (.int 1)) aN) aE)) bh) (ae 0)) (au aE cu) jE)))
 (aW (eB (dC (.bl false)))
 bg)
 bg)
 bg))
 (aW (sC (mT (iq (cI (au (ai (ae 3) (ai (ae 4) (ai (aa (ae 6) (dC (.int 2)) aN) aE))) m_lets_prices)) (cI (au (ai (ae 3) (ai (ae 4) (ai (aa (ae 6) (dC (.int 2)) aN) (ai (ae 5) aE)))) b4))))
 (aW (eB (dC (.bl false)))
 bg)
 bg)
 (aW (dP 7 (mA (aQ (mP (ae 3)) (aQ (mB (mP (au (ai (ae 4) (ai (au aE cu) aE)) cu)) (bD 2 a (aQ (mP (dC (.int 2))) bU) aF) aN) bU)) cZ))
 (aW (k9 (uK (gb (dC (.int 6)))) (bw 8)
 (aW (sC (Dg (mA (aQ (mP (ae 3)) (aQ (mP (ae 4)) (aQ (bD 2 a (aQ (mP (ae 3)) (aQ (mP (ae 7)) bU)) eQ) (aQ (mP (ae 5)) bU)))) b4))
 (aW (eB (dC (.bl false)))
 bg)
 bg)
 bg))
 bg))))))))))
 (aw (bP (dC (.bl true)))
 ar))
noncomputable def m_law:List D->aj D:=cp 9 Hh
noncomputable def top(i:Nat):Stmt:=PySem.Challenge.pw_farthestcut_k15_whole_no_way_is_shorter.main.body.getD i (.Pass ⟨0,0,0,0⟩)
noncomputable def rows:List Rw:=[
 ⟨"_law_begun",top 61,["_law_script","_law_k","_law_cell"],2⟩,
 ⟨"_law_take",top 62,["_law_state","_law_many","_law_digit","_law_made","_law_turn"],2⟩,
 ⟨"_law_names",top 65,["_law_state","_law_many","_law_letters","_law_long_here","_law_at","_law_turn","_law_step","_law_nested","_law_found","_law_k","_law_one"],2⟩,
 ⟨"_law_low",top 63,["_law_top","_law_bottom","_law_one","_law_other"],2⟩,
 ⟨"_law_amount",top 64,["_law_state","_law_least","_law_way","_law_top","_law_many","_law_bottoms"],2⟩,
 ⟨"_law_tie",top 66,["_law_state","_law_names_here","_law_k","_law_many","_law_one","_law_other","_law_word","_law_length","_law_worth"],3⟩,
 ⟨"_law_web",top 67,["_law_state","_law_most","_law_more","_law_names_here","_law_many","_law_ties","_law_k","_law_first","_law_last"],3⟩,
 ⟨"_law_taking",top 68,["_law_state","_law_web_here","_law_rare","_law_found","_law_k"],3⟩,
 ⟨"_law_there",top 71,["_law_tie_here","_law_here"],2⟩,
 ⟨"_law_all_ways",top 73,["_law_web_here","_law_gone","_law_begun_here","_law_found","_law_way","_law_seen","_law_k","_law_there_here"],2⟩,
 ⟨"_law_plus",top 69,["_law_one","_law_other"],2⟩,
 ⟨"_law_long",top 74,["_law_web_here","_law_way","_law_total","_law_number"],2⟩,
 ⟨"is_name",top 12,["thing"],1⟩,
 ⟨"look_at_places",top 37,["places","number","place"],1⟩,
 ⟨"is_whole",top 10,["thing"],1⟩,
 ⟨"common_divisor",top 1,["one","other","larger","smaller","rest"],2⟩,
 ⟨"is_ratio",top 11,["thing"],1⟩,
 ⟨"is_length",top 33,["thing"],1⟩,
 ⟨"is_worth",top 34,["thing"],1⟩,
 ⟨"is_tie",top 32,["thing"],1⟩,
 ⟨"look_at_ties",top 38,["ties","places","number","tie"],2⟩,
 ⟨"is_place",top 39,["thing","places"],2⟩,
 ⟨"look_at_web",top 36,["thing"],1⟩,
 ⟨"is_tie_number",top 35,["web","thing"],2⟩,
 ⟨"look_at_taking",top 53,["web","thing","ahead","number"],2⟩,
 ⟨"shared_bottom",top 45,["some","bottom","one"],1⟩,
 ⟨"as_whole",top 46,["one","bottom"],2⟩,
 ⟨"on_one_scale",top 44,["some","bottom"],1⟩,
 ⟨"scaled_lengths",top 49,["web"],1⟩,
 ⟨"steps_along",top 41,["tie","there"],1⟩,
 ⟨"steps_left",top 42,["web","taken","steps","number","tie","here","there"],2⟩,
 ⟨"nearest_step",top 51,["steps","sizes","found","nearest","number","here","there","size"],3⟩,
 ⟨"all_reached",top 50,["web","taken","sizes","steps","found","nearest"],3⟩,
 ⟨"ratio",top 15,["top","bottom","divisor"],2⟩,
 ⟨"shortest",top 48,["web","taken","scaled","found","prices","place"],2⟩,
 ⟨"least_way",top 59,["web","taking"],2⟩,
 ⟨"_law_less",top 70,["_law_one","_law_other"],2⟩,
 ⟨"is_price",top 57,["thing"],1⟩,
 ⟨"prices_just_the_places",top 56,["places","thing"],2⟩,
 ⟨"is_less",top 17,["one","other"],2⟩,
 ⟨"plus",top 16,["one","other"],2⟩,
 ⟨"is_let",top 58,["here","length","there"],3⟩,
 ⟨"lets_prices",top 55,["web","taking","thing","number","here","there"],3⟩,
 ⟨"_law_holds",top 76,["_law_web_here","_law_gone","_law_some_here","_law_longs"],4⟩,
 ⟨"_law_far",top 72,["_law_web_here","_law_gone","_law_far_here","_law_turn","_law_still","_law_k","_law_tie_here","_law_here","_law_there_here","_law_more"],2⟩,
 ⟨"_law_some",top 75,["_law_state","_law_web_here","_law_far_here","_law_share","_law_found","_law_name"],3⟩,
 ⟨"law",top 77,["_law_script","_law_k","_law_state","_law_web_here","_law_gone","_law_longs","_law_told","_law_far_here","_law_turn"],1⟩]
theorem sc:Mr rows:=by decide +kernel
theorem nd(i:Nat){r:Rw}(h:rows[i]?=some r:=by rfl):r.N.Nodup:=(sc r (List.mem_of_getElem? h)).nd
theorem bn:∀r∈rows,JJ r:=by
 unfold rows
 repeat refine List.forall_mem_cons.mpr ⟨by first|exact Np|exact Nn|exact Nm|exact Nl|exact bd5,?_⟩
 exact λ_ h=>nomatch h
set_option genInjectivity false in
set_option genSizeOfSpec false in
structure Adr where
 A:Nat->Addr
 Q:Nat->FuncData
set_option genInjectivity false in
set_option genSizeOfSpec false in
structure Txt (K:W.Frag) (mg:Str->Option Value) (t:Adr):Prop where
 g:TG rows K mg t.A t.Q
 n_abs:mg "abs"=none
 n_all:mg "all"=none
 n_bool:mg "bool"=none
 n_dict:mg "dict"=none
 n_enumerate:mg "enumerate"=none
 n_int:mg "int"=none
 n_isinstance:mg "isinstance"=none
 n_len:mg "len"=none
 n_list:mg "list"=none
 n_max:mg "max"=none
 n_min:mg "min"=none
 n_range:mg "range"=none
 n_str:mg "str"=none
 n_tuple:mg "tuple"=none
 ff:ug K mg "FEWEST_PLACES" (.int 2)
 jG:ug K mg "FIRST" (.int 2)
 kA:ug K mg "LAST" (.int 3)
 jf:ug K mg "LENGTH" (.int 3)
 nz:ug K mg "LETTERS" (.str "abcdefghijklmnopqrstuvwxyz")
 fS:ug K mg "LONGEST_NAME" (.int 8)
 gB:ug K mg "MOST_PLACES" (.int 7)
 je:ug K mg "MOST_TIES" (.int 14)
 rH:ug K mg "NOUGHT" (.tup [(.int 0),(.int 1)])
 rG:ug K mg "ONE" (.int 0)
 iw:ug K mg "OTHER" (.int 1)
 eX:ug K mg "PLACES" (.int 0)
 jd:ug K mg "TIES" (.int 1)
 rE:ug K mg "WORD" (.int 2)
 vd:ug K mg "WORDS" (.tup [(.str "one"),(.str "both")])
 oT:ug K mg "WORTH" (.int 4)
section
variable {P:Program}{w:World}{K:W.Frag}{mg:Str->Option Value}{base:Heap}{t:Adr}
theorem pK(T:Txt K mg t):eK P w K mg base CX0 1 (t.A 0) (t.Q 0) ["_law_script","_law_k"] (JX K 2 b5) "_law_begun" (top 61) :=
 oF T.g sc (i:=0) rfl λ_ _ _ _ _ _ _ _=>(
 (tI (br (i:=2) (nd 0) rfl (Or.inl rfl) ak)
 (tI (bR (aY sR (dg λ_ _ _ _=>rb _) (dv 1) (bE cc dJ rfl T.n_len PyProof.Rows.Boot.«len» (af (dv 0) av)) nm)
 (ag (br (i:=2) (nd 0) rfl (Or.inl rfl) (aq (dv 0) (dv 1)))
 ao)
 ao)
 (Bz (ku (af (dv 2) (af (fb (da (da (fb (dv 2) ak) (cR (cR ak (dv 1)) (dv 1))) ak) ak) (af (dq C1 (dg λ_ _ _ _=>rb _) (dv 2) (yI ak ak) nm) av))))))))
theorem aR(T:Txt K mg t):eK P w K mg base CX0 1 (t.A 1) (t.Q 1) ["_law_state","_law_many"] (Ci K 1 aF) "_law_take" (top 62) :=
 oM T.g sc (i:=1) rfl rfl λ_ _ _ _ _ _ _ _ _ _=>(
 (aB (iL (D3 (i:=0) (E:=E0) (bQ (aq (dv 0) ak)))
 (aB (cE (i:=2) (nd 1) rfl (Or.inl rfl) (my (i:=0) (E:=E0) (fb (aq (dv 0) ak) (dv 1))))
 (aB (xW (i:=0) rfl (Or.inl rfl) (my (i:=0) (E:=E0) (jc (aq (dv 0) ak) (dv 1))) (aL (E:=E0) ak))
 (aB (xW (i:=0) rfl (Or.inl rfl) (my (i:=0) (E:=E0) (dq zw (dg λ_ _ _ _=>rb _) (aq (dv 0) ak) ak nm)) (aL (E:=E0) ak))
 (aB (dZ (E:=E0) (dv 2))
 bc))))
 bc)
 (aB (cg (E:=E0) λvs=>(br (i:=3) (nd 1) rfl (Or.inl rfl) ak))
 (aB (kO (E:=E0) PassesOwn.never rfl (k8 (E:=E0) (jD rfl T.n_range (da ak (cR ak (Ed BK Jj rfl T.n_int PyProof.Rows.Boot.«int» (af (dq zw (dg λ_ _ _ _=>rb _) (dv 1) (yI ak ak) nm) av)))))) (λvs=>(bO (i:=4) (nd 1) rfl (Or.inl rfl))) bX
 (aB (xW (i:=0) rfl (Or.inl rfl) (my (i:=0) (E:=E0) (fb (da (cR (aq (dv 0) ak) ak) ak) ak)) (aL (E:=E0) ak))
 (aB (cE (i:=3) (nd 1) rfl (Or.inl rfl) (my (i:=0) (E:=E0) (da (cR (dv 3) ak) (fb (cR (aq (dv 0) ak) (aq (dv 0) ak)) ak))))
 bc)))
 (aB (dZ (E:=E0) (fb (jc (dv 3) ak) (dv 1)))
 bc)))))
theorem sv(T:Txt K mg t):eK P w K mg base CX0 2 (t.A 2) (t.Q 2) ["_law_state","_law_many"] (Ci K 1 dy) "_law_names" (top 65) :=
 oM T.g sc (i:=2) rfl rfl λ_ _ _ _ H He _ _ _ hr=>(
 (aB (E8 (i:=2) (nd 2) rfl rfl (L5 (E:=E0) ["_law_k","_law_state"] 1 [0] rfl (k8 (E:=E0) (jD rfl T.n_range ak)) (dN (by decide)) (λs H C fp pn=>⟨λHe H0e=>(bO (i:=0) (show List.Nodup (["_law_k","_law_state"]:List Str) from by decide) rfl (Or.inl rfl)),λHe H0e=>(rM 1 (aR T) hr (aO (aL (E:=E0) ak) ba))⟩) ⟨rfl,rfl⟩ rfl rfl rfl rfl) yM)
 (aB (cE (i:=3) (nd 2) rfl (Or.inl rfl) (nt (aL (E:=E0) ak) (rM 0 (aR T) hr (aO (aL (E:=E0) ak) ba))))
 (aB (cE (i:=4) (nd 2) rfl (Or.inl rfl) (rM 0 (aR T) hr (aO (aL (E:=E0) (dv 3)) ba)))
 (aB (cE (i:=5) (nd 2) rfl (Or.inl rfl) (rM 0 (aR T) hr (aO (aL (E:=E0) ak) ba)))
 (aB (cE (i:=6) (nd 2) rfl (Or.inl rfl) (jB (aL (E:=E0) (cH (af ak (af ak (af ak (af ak (af ak (af ak av)))))))) (rM 0 (aR T) hr (aO (aL (E:=E0) ak) ba))))
 (aB (cE (i:=7) (nd 2) rfl (Or.inl rfl) (IV (E:=E0) (c8 hr.units) eA (rM 0 (aR T) hr (aO (aL (E:=E0) ak) ba)) (aL (E:=E0) ak) nm))
 (aB (cg (E:=E0) λvs=>(i9 (i:=8) (nd 2) rfl (Or.inl rfl) (ku av)))
 (aB (cg (E:=E0) λvs=>(mv PassesOwn.never rfl rfl T.n_range (dv 1) (bO (i:=9) (nd 2) rfl (Or.inl rfl)) bX
 (ag (i9 (i:=10) (nd 2) rfl (Or.inl rfl) (xr (dv 2) oR (oQ (dv 3))))
 (ag (IQ (i:=10) rfl (Or.inl rfl) (fb (da (dv 5) (cR (dv 6) (dv 9))) ak) (dv 4))
 (ag (bR (bQ (dv 7))
 (ag (i9 (i:=10) (nd 2) rfl (Or.inl rfl) (xr (dv 2) oR (oQ (da ak (fb (da (dv 5) (dv 9)) ak)))))
 ao)
 ao)
 (ag (IT 10 (gI (i:=8) rfl (Or.inl rfl) (F7 nv (af (nJ (va ["_law_letter"] 1 [] rfl (fw (dv 10)) (dN (by decide)) (λs H C fp pn=>⟨λHe H0e=>(bO (i:=0) (show List.Nodup (["_law_letter"]:List Str) from by decide) rfl (Or.inl rfl)),jC,(aq nv (dv 0))⟩) ⟨rfl,rfl⟩ rfl rfl rfl rfl)) av))))
 ao))))))
 (aB (dZ (E:=E0) (dv 8))
 bc))))))))))
theorem iP(T:Txt K mg t):eK P w K mg base CX0 1 (t.A 3) (t.Q 3) ["_law_top","_law_bottom"] (spD K 2 bI) "_law_low" (top 63) :=
 oD T.g sc (i:=3) rfl λ_ _ _ _ _ _ _ hr=>(
 (ag (br (i:=2) (nd 3) rfl (Or.inl rfl) (bE rD yO rfl T.n_abs PyProof.Rows.Boot.«abs» (af (dv 0) av)))
 (ag (br (i:=3) (nd 3) rfl (Or.inl rfl) (dv 1))
 (ag (mq _ PassesOwn.never (aY (gZ hr.units) kY (dv 3) ak nm)
 (ag (IS (i:=2) (j:=3) rfl (nd 3) rfl rfl (by decide) rfl rfl (af (dv 3) (af (fb (dv 2) (dv 3)) av)) rfl)
 ao))
 (ag (aV (dm (af (jc (dv 0) (dv 2)) (af (jc (dv 1) (dv 2)) av))))
 ao)))))
theorem fK(T:Txt K mg t):eK P w K mg base CX0 2 (t.A 4) (t.Q 4) ["_law_state","_law_least"] (Ci K 1 b6) "_law_amount" (top 64) :=
 oM T.g sc (i:=4) rfl rfl λ_ _ _ _ _ _ _ _ _ hr=>(
 (aB (cE (i:=2) (nd 4) rfl (Or.inl rfl) (rM 0 (aR T) hr (aO (aL (E:=E0) ak) ba)))
 (aB (cE (i:=3) (nd 4) rfl (Or.inl rfl) (nt (aL (E:=E0) (dv 1)) (rM 0 (aR T) hr (aO (aL (E:=E0) (aq (cH (af ak (af ak (af ak (af ak (af ak (af (yI ak ak) av))))))) (dv 2))) ba))))
 (aB (cg (E:=E0) λvs=>(br (i:=4) (nd 4) rfl (Or.inl rfl) (aq (cH (af ak (af ak (af ak (af ak (af ak (af ak av))))))) (dv 2))))
 (aB (cg (E:=E0) λvs=>(br (i:=5) (nd 4) rfl (Or.inl rfl) (cH (af ak (af ak (af ak (af ak (af ak (af ak (af ak (af ak (af ak (af ak (af ak (af ak av)))))))))))))))
 (aB (HB (LZ (iP T) hr (aO (aL (E:=E0) (dv 3)) (aO (jB (aL (E:=E0) (dv 5)) (rM 0 (aR T) hr (aO (aL (E:=E0) (dv 4)) ba))) ba))))
 bc))))))
theorem vY(T:Txt K mg t):eK P w K mg base CX0 3 (t.A 5) (t.Q 5) ["_law_state","_law_names_here","_law_k"] (Ci K 2 cF) "_law_tie" (top 66) :=
 oM T.g sc (i:=5) rfl rfl λ_ _ _ _ _ _ _ _ _ hr=>(
 (aB (cg (E:=E0) λvs=>(br (i:=3) (nd 5) rfl (Or.inl rfl) (bE cc dJ rfl T.n_len PyProof.Rows.Boot.«len» (af (dv 1) av))))
 (aB (cE (i:=4) (nd 5) rfl (Or.inl rfl) (rM 0 (aR T) hr (aO (aL (E:=E0) (dv 3)) ba)))
 (aB (cE (i:=5) (nd 5) rfl (Or.inl rfl) (D4 (nt (aL (E:=E0) (da (dv 4) ak)) (rM 0 (aR T) hr (aO (aL (E:=E0) (u7 (dv 3) ak)) ba))) (aL (E:=E0) (dv 3))))
 (aB (iL (mx (E:=E0) (c8 hr.units) eA (rM 0 (aR T) hr (aO (aL (E:=E0) ak) ba)) (aL (E:=E0) ak) nm)
 (aB (cg (E:=E0) λvs=>(br (i:=4) (nd 5) rfl (Or.inl rfl) (fb (dv 2) (dv 3))))
 (aB (cg (E:=E0) λvs=>(br (i:=5) (nd 5) rfl (Or.inl rfl) (fb (da (dv 2) ak) (dv 3))))
 bc))
 bc)
 (aB (cE (i:=6) (nd 5) rfl (Or.inl rfl) (jB (aL (E:=E0) (cH (af nv (af nv av)))) (rM 0 (aR T) hr (aO (aL (E:=E0) ak) ba))))
 (aB (cE (i:=7) (nd 5) rfl (Or.inl rfl) (rM 0 (fK T) hr (aO (aL (E:=E0) ak) ba)))
 (aB (cE (i:=8) (nd 5) rfl (Or.inl rfl) (rM 0 (fK T) hr (aO (aL (E:=E0) ak) ba)))
 (aB (iL (mx (E:=E0) (c8 hr.units) eA (rM 0 (aR T) hr (aO (aL (E:=E0) ak) ba)) (aL (E:=E0) ak) nm)
 (aB (cg (E:=E0) λvs=>(br (i:=8) (nd 5) rfl (Or.inl rfl) cn))
 bc)
 bc)
 (aB (dZ (E:=E0) (dm (af (aq (dv 1) (dv 4)) (af (aq (dv 1) (dv 5)) (af (dv 6) (af (dv 7) (af (dv 8) av)))))))
 bc))))))))))
theorem vX(T:Txt K mg t):eK P w K mg base CX0 4 (t.A 6) (t.Q 6) ["_law_state","_law_most","_law_more"] (Ci K 2 cY) "_law_web" (top 67) :=
 oM T.g sc (i:=6) rfl rfl λ_ _ _ _ _ _ _ _ _ hr=>(
 (aB (cE (i:=3) (nd 6) rfl (Or.inl rfl) (rM 0 (sv T) hr (aO (nt (aL (E:=E0) ak) (rM 0 (aR T) hr (aO (aL (E:=E0) (u7 (dv 1) ak)) ba))) ba)))
 (aB (cg (E:=E0) λvs=>(br (i:=4) (nd 6) rfl (Or.inl rfl) (bE cc dJ rfl T.n_len PyProof.Rows.Boot.«len» (af (dv 3) av))))
 (aB (cg (E:=E0) λvs=>(i9 (i:=5) (nd 6) rfl (Or.inl rfl) (ku av)))
 (aB (kO (E:=E0) PassesOwn.never rfl (Bj rfl T.n_range (rM 0 (aR T) hr (aO (aL (E:=E0) (da (dv 2) ak)) ba))) (λvs=>(bO (i:=6) (nd 6) rfl (Or.inl rfl))) bX
 (aB (A0 (i:=5) rfl (Or.inl rfl) (rM 0 (vY T) hr (aO (aL (E:=E0) (dv 3)) (aO (aL (E:=E0) (dv 6)) ba))))
 bc))
 (aB (cg (E:=E0) λvs=>(br (i:=7) (nd 6) rfl (Or.inl rfl) ak))
 (aB (cg (E:=E0) λvs=>(br (i:=8) (nd 6) rfl (Or.inl rfl) (u7 (dv 4) ak)))
 (aB (iL (mx (E:=E0) (c8 hr.units) eA (rM 0 (aR T) hr (aO (aL (E:=E0) ak) ba)) (aL (E:=E0) ak) nm)
 (aB (cE (i:=7) (nd 6) rfl (Or.inl rfl) (rM 0 (aR T) hr (aO (aL (E:=E0) (dv 4)) ba)))
 (aB (cE (i:=8) (nd 6) rfl (Or.inl rfl) (D4 (nt (aL (E:=E0) (da (dv 7) ak)) (rM 0 (aR T) hr (aO (aL (E:=E0) (u7 (dv 4) ak)) ba))) (aL (E:=E0) (dv 4))))
 bc))
 bc)
 (aB (dZ (E:=E0) (dm (af (dv 3) (af (dv 5) (af (aq (dv 3) (dv 7)) (af (aq (dv 3) (dv 8)) av))))))
 bc)))))))))
theorem pJ(T:Txt K mg t):eK P w K mg base CX0 2 (t.A 7) (t.Q 7) ["_law_state","_law_web_here","_law_rare"] (Ci K 2 cG) "_law_taking" (top 68) :=
 oM T.g sc (i:=7) rfl rfl λ_ _ _ _ _ _ _ _ _ hr=>(
 (aB (cg (E:=E0) λvs=>(i9 (i:=3) (nd 7) rfl (Or.inl rfl) (ku av)))
 (aB (kO (E:=E0) PassesOwn.never rfl (k8 (E:=E0) (jD rfl T.n_range (bE cc dJ rfl T.n_len PyProof.Rows.Boot.«len» (af (aq (dv 1) ak) av)))) (λvs=>(bO (i:=4) (nd 7) rfl (Or.inl rfl))) bX
 (aB (iL (JI.dt (F1 (mx (E:=E0) (c8 hr.units) eA (rM 0 (aR T) hr (aO (aL (E:=E0) (dv 2)) ba)) (aL (E:=E0) ak) nm) (F0 (jb (E:=E0) (aY gh gj (aq (aq (aq (dv 1) ak) (dv 4)) ak) cn nm)))))
 (aB (cg (E:=E0) λvs=>(gI (i:=3) rfl (Or.inl rfl) (dv 4)))
 bc)
 bc)
 bc))
 (aB (dZ (E:=E0) (dv 3))
 bc))))
theorem jT(T:Txt K mg t):eK P w K mg base CX0 1 (t.A 8) (t.Q 8) ["_law_tie_here","_law_here"] (spD K 2 bp) "_law_there" (top 71) :=
 oD T.g sc (i:=8) rfl λ_ _ _ _ _ _ _ hr=>(
 (ag (bR (aY (c8 hr.units) eA (aq (dv 0) ak) (dv 1) nm)
 (ag (aV (aq (dv 0) ak))
 ao)
 ao)
 (ag (bR (DW.dt (nr (aY (c8 hr.units) eA (aq (dv 0) ak) (dv 1) nm) (ik (aY (c8 hr.units) eA (aq (dv 0) ak) nv nm))))
 (ag (aV (aq (dv 0) ak))
 ao)
 ao)
 (ag (aV cn)
 ao))))
theorem m7(T:Txt K mg t):eK P w K mg base CX0 2 (t.A 9) (t.Q 9) ["_law_web_here","_law_gone"] (spD K 2 cx) "_law_all_ways" (top 73) :=
 oD T.g sc (i:=9) rfl λ_ _ _ _ _ _ _ hr=>(
 (ag (i9 (i:=2) (nd 9) rfl (Or.inl rfl) (ku (af (dm (af (cH av) (af (cH (af (aq (dv 0) ak) av)) av))) av)))
 (ag (i9 (i:=3) (nd 9) rfl (Or.inl rfl) (ku av))
 (ag (mq _ PassesOwn.never (aY (gZ hr.units) kY (dv 2) (cH av) nm)
 (ag (BA (i:=2) rfl rfl (Or.inl rfl) (ck (i:=4) (nd 9) rfl (Or.inl rfl) (ck (i:=5) (nd 9) rfl (Or.inl rfl) il)))
 (ag (bR (aY (c8 hr.units) eA (aq (dv 5) (u9 ak)) (aq (dv 0) ak) nm)
 (ag (gI (i:=3) rfl (Or.inl rfl) (dv 4))
 ao)
 (ag (mv PassesOwn.never rfl rfl T.n_range (bE cc dJ rfl T.n_len PyProof.Rows.Boot.«len» (af (aq (dv 0) ak) av)) (bO (i:=6) (nd 9) rfl (Or.inl rfl)) bX
 (ag (br (i:=7) (nd 9) rfl (Or.inl rfl) (rC (jT T) hr (af (aq (aq (dv 0) ak) (dv 6)) (af (aq (dv 5) (u9 ak)) av))))
 (ag (bR (DW.dt (nr (aY gh gj (dv 7) cn nm) (nr (aY (eM hr.units) eO (dv 7) (dv 5) rfl) (ik (aY (eM hr.units) eO (dv 6) (dv 1) rfl)))))
 (ag (gI (i:=2) rfl (Or.inl rfl) (dm (af (da (dv 4) (cH (af (dv 6) av))) (af (da (dv 5) (cH (af (dv 7) av))) av))))
 ao)
 ao)
 ao)))
 ao))
 ao)))
 (ag (aV (dv 3))
 ao)))))
theorem kX(T:Txt K mg t):eK P w K mg base CX0 2 (t.A 10) (t.Q 10) ["_law_one","_law_other"] (spD K 2 bB) "_law_plus" (top 69) :=
 oD T.g sc (i:=10) rfl λ_ _ _ _ _ _ _ hr=>(
 (ag (aV (rC (iP T) hr (af (da (cR (aq (dv 0) ak) (aq (dv 1) ak)) (cR (aq (dv 1) ak) (aq (dv 0) ak))) (af (cR (aq (dv 0) ak) (aq (dv 1) ak)) av))))
 ao))
theorem uH(T:Txt K mg t):eK P w K mg base CX0 3 (t.A 11) (t.Q 11) ["_law_web_here","_law_way"] (spD K 2 cA) "_law_long" (top 74) :=
 oD T.g sc (i:=11) rfl λ_ _ _ _ _ _ _ hr=>(
 (ag (br (i:=2) (nd 11) rfl (Or.inl rfl) (dm (af ak (af ak av))))
 (ag (kq PassesOwn.never rfl (dv 1) (bO (i:=3) (nd 11) rfl (Or.inl rfl)) bX
 (ag (br (i:=2) (nd 11) rfl (Or.inl rfl) (rC (kX T) hr (af (dv 2) (af (aq (aq (aq (dv 0) ak) (dv 3)) ak) av))))
 ao))
 (ag (aV (dv 2))
 ao))))
theorem g6(T:Txt K mg t):eK P w K mg base CX0 1 (t.A 12) (t.Q 12) ["thing"] (spD K 1 m_is_name) "is_name" (top 12) :=
 oD T.g sc (i:=12) rfl λ_ _ _ _ H _ _ hr=>(
 (ag (bR (DW.dt (dk (bZ (bQ (cS pT rfl T.n_isinstance rfl T.n_str PyProof.Rows.Boot.«str» (dv 0)))) (bA (bZ (xo sS sS (fB λ_ _ _ _=>rb _) (fB λ_ _ _ _=>rb _) fE fE ak (bE cc dJ rfl T.n_len PyProof.Rows.Boot.«len» (af (dv 0) av)) (bb T.fS rfl))))))
 (ag (aV ef)
 ao)
 ao)
 (ag (aV (bE (xC rfl) Eg rfl T.n_all PyProof.Rows.Boot.«all» (af (nJ (va ["sign"] 1 [] rfl (IY (dv 0)) (dN (by decide)) (λs H C fp pn=>⟨λHe H0e=>(bO (i:=0) (show List.Nodup (["sign"]:List Str) from by decide) rfl (Or.inl rfl)),jC,(dq (C0 hr.units) C3 (dv 0) (bb T.nz rfl) rfl)⟩) ⟨rfl,rfl⟩ rfl rfl rfl rfl)) av)))
 ao)))
theorem kU(T:Txt K mg t):eK P w K mg base CX0 2 (t.A 13) (t.Q 13) ["places"] (spD K 1 m_look_at_places) "look_at_places" (top 37) :=
 oD T.g sc (i:=13) rfl λ_ _ _ _ _ _ _ hr=>(
 (ag (bR (DW.dt (dk (bZ (bQ (cS iV rfl T.n_isinstance rfl T.n_list PyProof.Rows.Boot.«list» (dv 0)))) (bA (bZ (xo sS sS (fB λ_ _ _ _=>rb _) (fB λ_ _ _ _=>rb _) fE fE (bb T.ff rfl) (bE cc dJ rfl T.n_len PyProof.Rows.Boot.«len» (af (dv 0) av)) (bb T.gB rfl))))))
 (ag c6
 ao)
 ao)
 (ag (oP PassesOwn.never rfl (u6 rfl T.n_enumerate (dv 0)) (nu rfl (ck (i:=1) (nd 13) rfl (Or.inl rfl) (ck (i:=2) (nd 13) rfl (Or.inl rfl) il))) fA
 (ag (bR (DW.dt (dk (bZ (bQ (rC (g6 T) hr (af (dv 2) av)))) (bA (aY (C0 hr.units) C3 (dv 2) (tN (dv 0) oR (oQ (dv 1))) rfl))))
 (ag c6
 ao)
 ao)
 ao))
 ao)))
theorem eN(T:Txt K mg t):eK P w K mg base CX0 1 (t.A 14) (t.Q 14) ["thing"] (spD K 1 m_is_whole) "is_whole" (top 10) :=
 oD T.g sc (i:=14) rfl λ_ _ _ _ _ _ _ _=>(
 (ag (aV (ip (cS yx rfl T.n_isinstance rfl T.n_int PyProof.Rows.Boot.«int» (dv 0)) (fP (Eb (cS wz rfl T.n_isinstance rfl T.n_bool PyProof.Rows.Boot.«bool» (dv 0))))))
 ao))
theorem d7(T:Txt K mg t):eK P w K mg base CX0 1 (t.A 15) (t.Q 15) ["one","other"] (spD K 2 m_common_divisor) "common_divisor" (top 1) :=
 oD T.g sc (i:=15) rfl λ_ _ _ _ _ _ _ hr=>(
 (ag (br (i:=2) (nd 15) rfl (Or.inl rfl) (bE rD yO rfl T.n_abs PyProof.Rows.Boot.«abs» (af (dv 0) av)))
 (ag (br (i:=3) (nd 15) rfl (Or.inl rfl) (bE rD yO rfl T.n_abs PyProof.Rows.Boot.«abs» (af (dv 1) av)))
 (ag (mq _ PassesOwn.never (aY (gZ hr.units) kY (dv 3) ak nm)
 (ag (br (i:=4) (nd 15) rfl (Or.inl rfl) (fb (dv 2) (dv 3)))
 (ag (br (i:=2) (nd 15) rfl (Or.inl rfl) (dv 3))
 (ag (br (i:=3) (nd 15) rfl (Or.inl rfl) (dv 4))
 ao))))
 (ag (aV (dv 2))
 ao)))))
theorem nF(T:Txt K mg t):eK P w K mg base CX0 2 (t.A 16) (t.Q 16) ["thing"] (spD K 1 m_is_ratio) "is_ratio" (top 11) :=
 oD T.g sc (i:=16) rfl λ_ _ _ _ _ _ _ hr=>(
 (ag (bR (DW.dt (dk (bZ (bQ (cS ic rfl T.n_isinstance rfl T.n_tuple PyProof.Rows.Boot.«tuple» (dv 0)))) (bA (aY (gZ hr.units) kY (bE cc dJ rfl T.n_len PyProof.Rows.Boot.«len» (af (dv 0) av)) ak nm))))
 (ag (aV ef)
 ao)
 ao)
 (ag (bR (DW.dt (dk (bZ (bQ (rC (eN T) hr (af (aq (dv 0) ak) av)))) (bA (bZ (bQ (rC (eN T) hr (af (aq (dv 0) ak) av)))))))
 (ag (aV ef)
 ao)
 ao)
 (ag (aV (ip (dq C1 (dg λ_ _ _ _=>rb _) (aq (dv 0) ak) ak nm) (fP (dq (c8 hr.units) eA (rC (d7 T) hr (af (aq (dv 0) ak) (af (aq (dv 0) ak) av))) ak nm))))
 ao))))
theorem kW(T:Txt K mg t):eK P w K mg base CX0 3 (t.A 17) (t.Q 17) ["thing"] (spD K 1 m_is_length) "is_length" (top 33) :=
 oD T.g sc (i:=17) rfl λ_ _ _ _ _ _ _ hr=>(
 (ag (aV (ip (rC (nF T) hr (af (dv 0) av)) (fP (dq C1 (dg λ_ _ _ _=>rb _) (aq (dv 0) ak) ak nm))))
 ao))
theorem vU(T:Txt K mg t):eK P w K mg base CX0 3 (t.A 18) (t.Q 18) ["thing"] (spD K 1 m_is_worth) "is_worth" (top 34) :=
 oD T.g sc (i:=18) rfl λ_ _ _ _ _ _ _ hr=>(
 (ag (aV (Hc (dq kh ki (dv 0) cn nm) (fP (ip (rC (nF T) hr (af (dv 0) av)) (fP (dq zw (dg λ_ _ _ _=>rb _) (aq (dv 0) ak) ak nm))))))
 ao))
theorem Bc(T:Txt K mg t):eK P w K mg base CX0 4 (t.A 19) (t.Q 19) ["thing"] (spD K 1 m_is_tie) "is_tie" (top 32) :=
 oD T.g sc (i:=19) rfl λ_ _ _ _ _ _ _ hr=>(
 (ag (bR (DW.dt (dk (bZ (bQ (cS ic rfl T.n_isinstance rfl T.n_tuple PyProof.Rows.Boot.«tuple» (dv 0)))) (bA (aY (gZ hr.units) kY (bE cc dJ rfl T.n_len PyProof.Rows.Boot.«len» (af (dv 0) av)) ak nm))))
 (ag (aV ef)
 ao)
 ao)
 (ag (bR (DW.dt (dk (bZ (bQ (rC (g6 T) hr (af (aq (dv 0) (bb T.rG rfl)) av)))) (dk (bZ (bQ (rC (g6 T) hr (af (aq (dv 0) (bb T.iw rfl)) av)))) (bA (aY (c8 hr.units) eA (aq (dv 0) (bb T.rG rfl)) (aq (dv 0) (bb T.iw rfl)) nm)))))
 (ag (aV ef)
 ao)
 ao)
 (ag (bR (DW.dt (dk (bZ (bQ (cS pT rfl T.n_isinstance rfl T.n_str PyProof.Rows.Boot.«str» (aq (dv 0) (bb T.rE rfl))))) (bA (aY (eM hr.units) eO (aq (dv 0) (bb T.rE rfl)) (bb T.vd rfl) rfl))))
 (ag (aV ef)
 ao)
 ao)
 (ag (aV (ip (rC (kW T) hr (af (aq (dv 0) (bb T.jf rfl)) av)) (fP (rC (vU T) hr (af (aq (dv 0) (bb T.oT rfl)) av)))))
 ao)))))
theorem oe(T:Txt K mg t):eK P w K mg base CX0 5 (t.A 20) (t.Q 20) ["ties","places"] (spD K 2 m_look_at_ties) "look_at_ties" (top 38) :=
 oD T.g sc (i:=20) rfl λ_ _ _ _ _ _ _ hr=>(
 (ag (bR (DW.dt (dk (bZ (bQ (cS iV rfl T.n_isinstance rfl T.n_list PyProof.Rows.Boot.«list» (dv 0)))) (bA (aY zw (dg λ_ _ _ _=>rb _) (bE cc dJ rfl T.n_len PyProof.Rows.Boot.«len» (af (dv 0) av)) (bb T.je rfl) nm))))
 (ag c6
 ao)
 ao)
 (ag (oP PassesOwn.never rfl (u6 rfl T.n_enumerate (dv 0)) (nu rfl (ck (i:=2) (nd 20) rfl (Or.inl rfl) (ck (i:=3) (nd 20) rfl (Or.inl rfl) il))) fA
 (ag (bR (DW.dt (dk (bZ (bQ (rC (Bc T) hr (af (dv 3) av)))) (dk (aY (eM hr.units) eO (aq (dv 3) (bb T.rG rfl)) (dv 1) rfl) (bA (aY (eM hr.units) eO (aq (dv 3) (bb T.iw rfl)) (dv 1) rfl)))))
 (ag c6
 ao)
 ao)
 ao))
 ao)))
theorem nG(T:Txt K mg t):eK P w K mg base CX0 2 (t.A 21) (t.Q 21) ["thing","places"] (spD K 2 m_is_place) "is_place" (top 39) :=
 oD T.g sc (i:=21) rfl λ_ _ _ _ _ _ _ hr=>(
 (ag (aV (ip (rC (g6 T) hr (af (dv 0) av)) (fP (dq (C0 hr.units) C3 (dv 0) (dv 1) rfl))))
 ao))
theorem pH(T:Txt K mg t):eK P w K mg base CX0 6 (t.A 22) (t.Q 22) ["thing"] (spD K 1 m_look_at_web) "look_at_web" (top 36) :=
 oD T.g sc (i:=22) rfl λ_ _ _ _ _ _ _ hr=>(
 (ag (bR (DW.dt (dk (bZ (bQ (cS ic rfl T.n_isinstance rfl T.n_tuple PyProof.Rows.Boot.«tuple» (dv 0)))) (bA (aY (gZ hr.units) kY (bE cc dJ rfl T.n_len PyProof.Rows.Boot.«len» (af (dv 0) av)) ak nm))))
 (ag c6
 ao)
 ao)
 (ag (mw (rC (kU T) hr (af (aq (dv 0) (bb T.eX rfl)) av)))
 (ag (mw (rC (oe T) hr (af (aq (dv 0) (bb T.jd rfl)) (af (aq (dv 0) (bb T.eX rfl)) av))))
 (ag (bR (bZ (bQ (rC (nG T) hr (af (aq (dv 0) (bb T.jG rfl)) (af (aq (dv 0) (bb T.eX rfl)) av)))))
 (ag c6
 ao)
 ao)
 (ag (bR (DW.dt (dk (bZ (bQ (rC (nG T) hr (af (aq (dv 0) (bb T.kA rfl)) (af (aq (dv 0) (bb T.eX rfl)) av))))) (bA (aY (c8 hr.units) eA (aq (dv 0) (bb T.kA rfl)) (aq (dv 0) (bb T.jG rfl)) nm))))
 (ag c6
 ao)
 ao)
 ao))))))
theorem m6(T:Txt K mg t):eK P w K mg base CX0 2 (t.A 23) (t.Q 23) ["web","thing"] (spD K 2 m_is_tie_number) "is_tie_number" (top 35) :=
 oD T.g sc (i:=23) rfl λ_ _ _ _ _ _ _ hr=>(
 (ag (aV (ip (rC (eN T) hr (af (dv 1) av)) (fP (Ec sS sR (fB λ_ _ _ _=>rb _) (fB λ_ _ _ _=>rb _) fE fE ak (dv 1) (bE cc dJ rfl T.n_len PyProof.Rows.Boot.«len» (af (aq (dv 0) (bb T.jd rfl)) av))))))
 ao))
theorem gi(T:Txt K mg t):eK P w K mg base CX0 7 (t.A 24) (t.Q 24) ["web","thing"] (spD K 2 m_look_at_taking) "look_at_taking" (top 53) :=
 oD T.g sc (i:=24) rfl λ_ _ _ _ _ _ _ hr=>(
 (ag (mw (rC (pH T) hr (af (dv 0) av)))
 (ag (bR (bZ (bQ (cS iV rfl T.n_isinstance rfl T.n_list PyProof.Rows.Boot.«list» (dv 1))))
 (ag c6
 ao)
 ao)
 (ag (br (i:=2) (nd 24) rfl (Or.inl rfl) (u9 ak))
 (ag (kq PassesOwn.never rfl (dv 1) (bO (i:=3) (nd 24) rfl (Or.inl rfl)) bX
 (ag (bR (DW.dt (dk (bZ (bQ (rC (m6 T) hr (af (dv 0) (af (dv 3) av))))) (bA (aY sS (dg λ_ _ _ _=>rb _) (dv 3) (dv 2) nm))))
 (ag c6
 ao)
 ao)
 (ag (bR (aY kh ki (aq (aq (aq (dv 0) (bb T.jd rfl)) (dv 3)) (bb T.oT rfl)) cn nm)
 (ag c6
 ao)
 ao)
 (ag (br (i:=2) (nd 24) rfl (Or.inl rfl) (dv 3))
 ao))))
 ao)))))
theorem m5(T:Txt K mg t):eK P w K mg base CX0 2 (t.A 25) (t.Q 25) ["some"] (spD K 1 m_shared_bottom) "shared_bottom" (top 45) :=
 oD T.g sc (i:=25) rfl λ_ _ _ _ _ _ _ hr=>(
 (ag (br (i:=1) (nd 25) rfl (Or.inl rfl) ak)
 (ag (kq PassesOwn.never rfl (dv 0) (bO (i:=2) (nd 25) rfl (Or.inl rfl)) bX
 (ag (br (i:=1) (nd 25) rfl (Or.inl rfl) (cR (jc (dv 1) (rC (d7 T) hr (af (dv 1) (af (aq (dv 2) ak) av)))) (aq (dv 2) ak)))
 ao))
 (ag (aV (dv 1))
 ao))))
theorem vW(T:Txt K mg t):eK P w K mg base CX0 1 (t.A 26) (t.Q 26) ["one","bottom"] (spD K 2 m_as_whole) "as_whole" (top 46) :=
 oD T.g sc (i:=26) rfl λ_ _ _ _ _ _ _ _=>(
 (ag (aV (cR (aq (dv 0) ak) (jc (dv 1) (aq (dv 0) ak))))
 ao))
theorem oa(T:Txt K mg t):eK P w K mg base CX0 3 (t.A 27) (t.Q 27) ["some"] (spD K 1 m_on_one_scale) "on_one_scale" (top 44) :=
 oD T.g sc (i:=27) rfl λ_ _ _ _ H _ _ hr=>(
 (ag (br (i:=1) (nd 27) rfl (Or.inr rfl) (rC (m5 T) hr (af (nJ (va ["one"] 1 [] rfl (fw (dv 0)) (dN (by decide)) (λs H C fp pn=>⟨λHe H0e=>(bO (i:=0) (show List.Nodup (["one"]:List Str) from by decide) rfl (Or.inl rfl)),(u4 (aY gh gj (dv 0) cn nm)),(dv 0)⟩) ⟨rfl,rfl⟩ rfl rfl rfl rfl)) av)))
 (ag (aV (dm (af (nJ (va ["one","bottom"] 1 [1] rfl (fw (dv 0)) (dN (by decide)) (λs H C fp pn=>⟨λHe H0e=>(bO (i:=0) (show List.Nodup (["one","bottom"]:List Str) from by decide) rfl (Or.inl rfl)),jC,(xt (aY kh ki (dv 0) cn nm) cn (rC (vW T) hr (af (dv 0) (af (dv 1) av))))⟩) ⟨rfl,rfl⟩ rfl rfl rfl rfl)) (af (dv 1) av))))
 ao)))
theorem kT(T:Txt K mg t):eK P w K mg base CX0 4 (t.A 28) (t.Q 28) ["web"] (spD K 1 m_scaled_lengths) "scaled_lengths" (top 49) :=
 oD T.g sc (i:=28) rfl λ_ _ _ _ H _ _ hr=>(
 (ag (aV (rC (oa T) hr (af (nJ (va ["tie"] 1 [] rfl (fw (aq (dv 0) (bb T.jd rfl))) (dN (by decide)) (λs H C fp pn=>⟨λHe H0e=>(bO (i:=0) (show List.Nodup (["tie"]:List Str) from by decide) rfl (Or.inl rfl)),jC,(aq (dv 0) (bb T.jf rfl))⟩) ⟨rfl,rfl⟩ rfl rfl rfl rfl)) av)))
 ao))
theorem pG(T:Txt K mg t):eK P w K mg base CX0 1 (t.A 29) (t.Q 29) ["tie"] (spD K 1 m_steps_along) "steps_along" (top 41) :=
 oD T.g sc (i:=29) rfl λ_ _ _ _ _ _ _ hr=>(
 (ag (br (i:=1) (nd 29) rfl (Or.inl rfl) (dm (af (aq (dv 0) (bb T.rG rfl)) (af (aq (dv 0) (bb T.iw rfl)) av))))
 (ag (bR (aY (c8 hr.units) eA (aq (dv 0) (bb T.rE rfl)) nv nm)
 (ag (aV (cH (af (dv 1) av)))
 ao)
 ao)
 (ag (aV (cH (af (dv 1) (af (dm (af (aq (dv 0) (bb T.iw rfl)) (af (aq (dv 0) (bb T.rG rfl)) av))) av))))
 ao))))
theorem jS(T:Txt K mg t):eK P w K mg base CX0 2 (t.A 30) (t.Q 30) ["web","taken"] (spD K 2 m_steps_left) "steps_left" (top 42) :=
 oD T.g sc (i:=30) rfl λ_ _ _ _ _ _ _ hr=>(
 (ag (i9 (i:=2) (nd 30) rfl (Or.inl rfl) (ku av))
 (ag (oP PassesOwn.never rfl (u6 rfl T.n_enumerate (aq (dv 0) (bb T.jd rfl))) (nu rfl (ck (i:=3) (nd 30) rfl (Or.inl rfl) (ck (i:=4) (nd 30) rfl (Or.inl rfl) il))) fA
 (ag (bR (aY (eM hr.units) eO (dv 3) (dv 1) rfl)
 (ag (kq PassesOwn.never rfl (rC (pG T) hr (af (dv 4) av)) (nu rfl (ck (i:=5) (nd 30) rfl (Or.inl rfl) (ck (i:=6) (nd 30) rfl (Or.inl rfl) il))) fA
 (ag (gI (i:=2) rfl (Or.inl rfl) (dm (af (dv 3) (af (dv 5) (af (dv 6) av)))))
 ao))
 ao)
 ao)
 ao))
 (ag (aV (dv 2))
 ao))))
theorem iB(T:Txt K mg t):eK P w K mg base CX0 1 (t.A 31) (t.Q 31) ["steps","sizes","found"] (spD K 3 m_nearest_step) "nearest_step" (top 51) :=
 oD T.g sc (i:=31) rfl λ_ _ _ _ _ _ _ hr=>(
 (ag (br (i:=3) (nd 31) rfl (Or.inl rfl) cn)
 (ag (kq PassesOwn.never rfl (dv 0) (nu rfl (ck (i:=4) (nd 31) rfl (Or.inl rfl) (ck (i:=5) (nd 31) rfl (Or.inl rfl) (ck (i:=6) (nd 31) rfl (Or.inl rfl) il)))) fA
 (ag (bR (DW.dt (nr (aY (pD (kM hr.units)) pL (dv 5) (dv 2) rfl) (ik (aY (m4 (kM hr.units)) m8 (dv 6) (dv 2) rfl))))
 (ag (br (i:=7) (nd 31) rfl (Or.inl rfl) (da (aq (c4 (kM hr.units) (dv 2) (dv 5)) ak) (aq (dv 1) (dv 4))))
 (ag (bR (DW.dt (dk (aY kh ki (dv 3) cn nm) (bA (aY sR (dg λ_ _ _ _=>rb _) (dv 7) (aq (dv 3) ak) nm))))
 (ag (br (i:=3) (nd 31) rfl (Or.inl rfl) (dm (af (dv 6) (af (dv 7) (af (da (aq (c4 (kM hr.units) (dv 2) (dv 5)) ak) (cH (af (dv 4) av))) av)))))
 ao)
 ao)
 ao))
 ao)
 ao))
 (ag (aV (dv 3))
 ao))))
theorem pI(T:Txt K mg t):eK P w K mg base CX0 3 (t.A 32) (t.Q 32) ["web","taken","sizes"] (spD K 3 m_all_reached) "all_reached" (top 50) :=
 oD T.g sc (i:=32) rfl λ_ _ _ _ _ _ _ hr=>(
 (ag (br (i:=3) (nd 32) rfl (Or.inl rfl) (rC (jS T) hr (af (dv 0) (af (dv 1) av))))
 (ag (oO (i:=4) (nd 32) rfl (Or.inl rfl) (tL (aq (dv 0) (bb T.jG rfl)) (dm (af ak (af (cH av) av)))))
 (ag (uY (i:=5) (nd 32) rfl (Or.inl rfl) (rC (iB T) hr (af (dv 3) (af (dv 2) (af (dv 4) av)))))
 (ag (mq _ PassesOwn.never (aY gh gj (dv 5) cn nm)
 (ag (mr (i:=4) (kM hr.units) rfl (Or.inl rfl) (dm (af (aq (dv 5) ak) (af (aq (dv 5) ak) av))) (aq (dv 5) ak))
 (ag (uY (i:=5) (nd 32) rfl (Or.inl rfl) (rC (iB T) hr (af (dv 3) (af (dv 2) (af (dv 4) av)))))
 ao)))
 (ag (aV (dv 4))
 ao))))))
theorem vT(T:Txt K mg t):eK P w K mg base CX0 2 (t.A 33) (t.Q 33) ["top","bottom"] (spD K 2 m_ratio) "ratio" (top 15) :=
 oD T.g sc (i:=33) rfl λ_ _ _ _ _ _ _ hr=>(
 (ag (bR (DW.dt (dk (bZ (bQ (rC (eN T) hr (af (dv 0) av)))) (bA (bZ (bQ (rC (eN T) hr (af (dv 1) av)))))))
 (ag c6
 ao)
 ao)
 (ag (bR (aY (c8 hr.units) eA (dv 1) ak nm)
 (ag c6
 ao)
 ao)
 (ag (br (i:=2) (nd 33) rfl (Or.inl rfl) (rC (d7 T) hr (af (dv 0) (af (dv 1) av))))
 (ag (bR (aY sR (dg λ_ _ _ _=>rb _) (dv 1) ak nm)
 (ag (br (i:=2) (nd 33) rfl (Or.inl rfl) (u9 (dv 2)))
 ao)
 ao)
 (ag (aV (dm (af (jc (dv 0) (dv 2)) (af (jc (dv 1) (dv 2)) av))))
 ao))))))
theorem vS(T:Txt K mg t):eK P w K mg base CX0 5 (t.A 34) (t.Q 34) ["web","taken"] (spD K 2 m_shortest) "shortest" (top 48) :=
 oD T.g sc (i:=34) rfl λ_ _ _ _ _ _ _ hr=>(
 (ag (br (i:=2) (nd 34) rfl (Or.inl rfl) (rC (kT T) hr (af (dv 0) av)))
 (ag (br (i:=3) (nd 34) rfl (Or.inl rfl) (rC (pI T) hr (af (dv 0) (af (dv 1) (af (aq (dv 2) ak) av)))))
 (ag (oO (i:=4) (nd 34) rfl (Or.inl rfl) AA)
 (ag (kq PassesOwn.never rfl (aq (dv 0) (bb T.eX rfl)) (bO (i:=5) (nd 34) rfl (Or.inl rfl)) bX
 (ag (mr (i:=4) (kM hr.units) rfl (Or.inl rfl) (xt (aY (pD (kM hr.units)) pL (dv 5) (dv 3) rfl) (rC (vT T) hr (af (aq (c4 (kM hr.units) (dv 3) (dv 5)) ak) (af (aq (dv 2) ak) av))) cn) (dv 5))
 ao))
 (ag (bR (aY (m4 (kM hr.units)) m8 (aq (dv 0) (bb T.kA rfl)) (dv 3) rfl)
 (ag (aV (dm (af cn (af cn (af (dv 4) av)))))
 ao)
 ao)
 (ag (aV (dm (af (aq (c4 (kM hr.units) (dv 3) (aq (dv 0) (bb T.kA rfl))) ak) (af (c4 (kM hr.units) (dv 4) (aq (dv 0) (bb T.kA rfl))) (af (dv 4) av)))))
 ao)))))))
theorem uF(T:Txt K mg t):eK P w K mg base CX0 8 (t.A 35) (t.Q 35) ["web","taking"] (spD K 2 m_least_way) "least_way" (top 59) :=
 oD T.g sc (i:=35) rfl λ_ _ _ _ _ _ _ hr=>(
 (ag (mw (rC (gi T) hr (af (dv 0) (af (dv 1) av))))
 (ag (aV (rC (vS T) hr (af (dv 0) (af (dv 1) av))))
 ao)))
theorem g7(T:Txt K mg t):eK P w K mg base CX0 1 (t.A 36) (t.Q 36) ["_law_one","_law_other"] (spD K 2 bh) "_law_less" (top 70) :=
 oD T.g sc (i:=36) rfl λ_ _ _ _ _ _ _ _=>(
 (ag (aV (dq sR (dg λ_ _ _ _=>rb _) (cR (aq (dv 0) ak) (aq (dv 1) ak)) (cR (aq (dv 1) ak) (aq (dv 0) ak)) nm))
 ao))
theorem vV(T:Txt K mg t):eK P w K mg base CX0 4 (t.A 37) (t.Q 37) ["thing"] (spD K 1 m_is_price) "is_price" (top 57) :=
 oD T.g sc (i:=37) rfl λ_ _ _ _ _ _ _ hr=>(
 (ag (aV (Hc (dq kh ki (dv 0) cn nm) (fP (rC (kW T) hr (af (dv 0) av)))))
 ao))
theorem fY(T:Txt K mg t):eK P w K mg base CX0 5 (t.A 38) (t.Q 38) ["places","thing"] (spD K 2 m_prices_just_the_places) "prices_just_the_places" (top 56) :=
 oD T.g sc (i:=38) rfl λ_ _ _ _ H _ _ hr=>(
 (ag (bR (DW.dt (dk (bZ (bQ (cS wx rfl T.n_isinstance rfl T.n_dict PyProof.Rows.Boot.«dict» (dv 1)))) (bA (aY (gZ hr.units) kY (bE BJ Gh rfl T.n_len PyProof.Rows.Boot.«len» (af (dv 1) av)) (bE cc dJ rfl T.n_len PyProof.Rows.Boot.«len» (af (dv 0) av)) nm))))
 (ag (aV ef)
 ao)
 ao)
 (ag (aV (bE (xC rfl) Eg rfl T.n_all PyProof.Rows.Boot.«all» (af (nJ (va ["place","thing"] 1 [1] rfl (fw (dv 0)) (dN (by decide)) (λs H C fp pn=>⟨λHe H0e=>(bO (i:=0) (show List.Nodup (["place","thing"]:List Str) from by decide) rfl (Or.inl rfl)),jC,(ip (dq (pD (kM hr.units)) pL (dv 0) (dv 1) rfl) (fP (rC (vV T) hr (af (c4 (kM hr.units) (dv 1) (dv 0)) av))))⟩) ⟨rfl,rfl⟩ rfl rfl rfl rfl)) av)))
 ao)))
theorem yj(T:Txt K mg t):eK P w K mg base CX0 1 (t.A 39) (t.Q 39) ["one","other"] (spD K 2 m_is_less) "is_less" (top 17) :=
 oD T.g sc (i:=39) rfl λ_ _ _ _ _ _ _ _=>(
 (ag (aV (dq sR (dg λ_ _ _ _=>rb _) (cR (aq (dv 0) ak) (aq (dv 1) ak)) (cR (aq (dv 1) ak) (aq (dv 0) ak)) nm))
 ao))
theorem Fy(T:Txt K mg t):eK P w K mg base CX0 3 (t.A 40) (t.Q 40) ["one","other"] (spD K 2 m_plus) "plus" (top 16) :=
 oD T.g sc (i:=40) rfl λ_ _ _ _ _ _ _ hr=>(
 (ag (aV (rC (vT T) hr (af (da (cR (aq (dv 0) ak) (aq (dv 1) ak)) (cR (aq (dv 1) ak) (aq (dv 0) ak))) (af (cR (aq (dv 0) ak) (aq (dv 1) ak)) av))))
 ao))
theorem Be(T:Txt K mg t):eK P w K mg base CX0 4 (t.A 41) (t.Q 41) ["here","length","there"] (spD K 3 m_is_let) "is_let" (top 58) :=
 oD T.g sc (i:=41) rfl λ_ _ _ _ _ _ _ hr=>(
 (ag (bR (aY kh ki (dv 0) cn nm)
 (ag (aV ef)
 ao)
 ao)
 (ag (aV (ip (dq gh gj (dv 2) cn nm) (fP (Eb (rC (yj T) hr (af (rC (Fy T) hr (af (dv 0) (af (dv 1) av))) (af (dv 2) av)))))))
 ao)))
theorem iO(T:Txt K mg t):eK P w K mg base CX0 8 (t.A 42) (t.Q 42) ["web","taking","thing"] (spD K 3 m_lets_prices) "lets_prices" (top 55) :=
 oD T.g sc (i:=42) rfl λ_ _ _ _ _ _ _ hr=>(
 (ag (mw (rC (gi T) hr (af (dv 0) (af (dv 1) av))))
 (ag (bR (DW.dt (dk (bZ (bQ (rC (fY T) hr (af (aq (dv 0) (bb T.eX rfl)) (af (dv 2) av))))) (bA (aY (gZ hr.units) kY (c4 (kM hr.units) (dv 2) (aq (dv 0) (bb T.jG rfl))) (bb T.rH rfl) nm))))
 (ag (aV ef)
 ao)
 ao)
 (ag (kq PassesOwn.never rfl (rC (jS T) hr (af (dv 0) (af (dv 1) av))) (nu rfl (ck (i:=3) (nd 42) rfl (Or.inl rfl) (ck (i:=4) (nd 42) rfl (Or.inl rfl) (ck (i:=5) (nd 42) rfl (Or.inl rfl) il)))) fA
 (ag (bR (bZ (bQ (rC (Be T) hr (af (c4 (kM hr.units) (dv 2) (dv 4)) (af (aq (aq (aq (dv 0) (bb T.jd rfl)) (dv 3)) (bb T.jf rfl)) (af (c4 (kM hr.units) (dv 2) (dv 5)) av))))))
 (ag (aV ef)
 ao)
 ao)
 ao))
 (ag (aV ef)
 ao)))))
theorem jU(T:Txt K mg t):eK P w K mg base CX0 9 (t.A 43) (t.Q 43) ["_law_web_here","_law_gone","_law_some_here","_law_longs"] (spD K 4 b4) "_law_holds" (top 76) :=
 oD T.g sc (i:=43) rfl λ_ _ _ _ H _ _ hr=>(
 (ag (bR (bZ (bQ (rC (iO T) hr (af (dv 0) (af (dv 1) (af (dv 2) av))))))
 (ag (aV ef)
 ao)
 ao)
 (ag (bR (aY kh ki (c4 (kM hr.units) (dv 2) (aq (dv 0) ak)) cn nm)
 (ag (aV (dq (c8 hr.units) eA (dv 3) (cH av) nm))
 ao)
 ao)
 (ag (aV (dq (c8 hr.units) eA (nJ (va ["_law_one","_law_some_here","_law_web_here"] 1 [2,0] rfl (fw (dv 3)) (dN (by decide)) (λs H C fp pn=>⟨λHe H0e=>(bO (i:=0) (show List.Nodup (["_law_one","_law_some_here","_law_web_here"]:List Str) from by decide) rfl (Or.inl rfl)),(u4 (bQ (rC (g7 T) hr (af (dv 0) (af (c4 (kM hr.units) (dv 1) (aq (dv 2) ak)) av))))),(dv 0)⟩) ⟨rfl,rfl⟩ rfl rfl rfl rfl)) (cH av) nm))
 ao))))
theorem vZ(T:Txt K mg t):eK P w K mg base CX0 3 (t.A 44) (t.Q 44) ["_law_web_here","_law_gone"] (spD K 2 cZ) "_law_far" (top 72) :=
 oD T.g sc (i:=44) rfl λ_ _ _ _ _ _ _ hr=>(
 (ag (oO (i:=2) (nd 44) rfl (Or.inl rfl) (tL (aq (dv 0) ak) (dm (af ak (af ak av)))))
 (ag (mv PassesOwn.never rfl rfl T.n_range (bE cc dJ rfl T.n_len PyProof.Rows.Boot.«len» (af (aq (dv 0) ak) av)) (bO (i:=3) (nd 44) rfl (Or.inl rfl)) bX
 (ag (br (i:=4) (nd 44) rfl (Or.inl rfl) ef)
 (ag (mv PassesOwn.never rfl rfl T.n_range (bE cc dJ rfl T.n_len PyProof.Rows.Boot.«len» (af (aq (dv 0) ak) av)) (bO (i:=5) (nd 44) rfl (Or.inl rfl)) bX
 (ag (br (i:=6) (nd 44) rfl (Or.inl rfl) (aq (aq (dv 0) ak) (dv 5)))
 (ag (oP PassesOwn.never rfl (IW (tN (dv 6) oR (oQ ak))) (bO (i:=7) (nd 44) rfl (Or.inl rfl)) bX
 (ag (br (i:=8) (nd 44) rfl (Or.inl rfl) (rC (jT T) hr (af (dv 6) (af (dv 7) av))))
 (ag (bR (DW.dt (nr (aY (eM hr.units) eO (dv 5) (dv 1) rfl) (nr (aY gh gj (dv 8) cn nm) (ik (aY (pD (kM hr.units)) pL (dv 7) (dv 2) rfl)))))
 (ag (uY (i:=9) (nd 44) rfl (Or.inl rfl) (rC (kX T) hr (af (c4 (kM hr.units) (dv 2) (dv 7)) (af (aq (dv 6) ak) av))))
 (ag (bR (DW.dt (dk (aY (m4 (kM hr.units)) m8 (dv 8) (dv 2) rfl) (bA (bQ (rC (g7 T) hr (af (dv 9) (af (c4 (kM hr.units) (dv 2) (dv 8)) av)))))))
 (ag (mr (i:=2) (kM hr.units) rfl (Or.inl rfl) (dv 9) (dv 8))
 (ag (br (i:=4) (nd 44) rfl (Or.inl rfl) ef)
 ao))
 ao)
 ao))
 ao)
 ao)))
 ao)))
 (ag (bR (bQ (dv 4))
 (ag (aV (dv 2))
 ao)
 ao)
 ao))))
 (ag (aV (dv 2))
 ao))))
theorem uG(T:Txt K mg t):eK P w K mg base CX0 3 (t.A 45) (t.Q 45) ["_law_state","_law_web_here","_law_far_here"] (Ci K 2 eQ) "_law_some" (top 75) :=
 oM T.g sc (i:=45) rfl rfl λ_ _ _ _ _ _ _ _ _ hr=>(
 (aB (cE (i:=3) (nd 45) rfl (Or.inl rfl) (jB (aL (E:=E0) (cH (af ak (af ak (af ak (af ak av)))))) (rM 0 (aR T) hr (aO (aL (E:=E0) ak) ba))))
 (aB (cg (E:=E0) λvs=>(oO (i:=4) (nd 45) rfl (Or.inl rfl) AA))
 (aB (kO (E:=E0) PassesOwn.never rfl (k8 (E:=E0) (fw (aq (dv 1) ak))) (λvs=>(bO (i:=5) (nd 45) rfl (Or.inl rfl))) bX
 (aB (cg (E:=E0) λvs=>(mr (i:=4) (kM hr.units) rfl (Or.inl rfl) cn (dv 5)))
 (aB (cg (E:=E0) λvs=>(bR (aY (pD (kM hr.units)) pL (dv 5) (dv 2) rfl)
 (ag (mr (i:=4) (kM hr.units) rfl (Or.inl rfl) (rC (iP T) hr (af (aq (c4 (kM hr.units) (dv 2) (dv 5)) ak) (af (cR (aq (c4 (kM hr.units) (dv 2) (dv 5)) ak) (dv 3)) av))) (dv 5))
 ao)
 ao))
 (aB (iL (mx (E:=E0) (c8 hr.units) eA (rM 0 (aR T) hr (aO (aL (E:=E0) ak) ba)) (aL (E:=E0) ak) nm)
 (aB (E9 (i:=4) (kM hr.units) rfl (Or.inl rfl) (jB (IU (aO (aL (E:=E0) cn) (aO (rM 0 (fK T) hr (aO (aL (E:=E0) ak) ba)) ba))) (rM 0 (aR T) hr (aO (aL (E:=E0) ak) ba))) (aL (E:=E0) (dv 5)))
 bc)
 bc)
 bc))))
 (aB (dZ (E:=E0) (dv 4))
 bc)))))
theorem ok_law(T:Txt K mg t):eK P w K mg base CX0 10 (t.A 46) (t.Q 46) ["_law_script"] (spD K 1 m_law) "law" (top 77) :=
 oD T.g sc (i:=46) rfl λ_ _ _ _ H _ _ hr=>(
 (ag (mv PassesOwn.never rfl rfl T.n_range (bE (BI rfl) Jh rfl T.n_max PyProof.Rows.Boot.«max» (af ak (af (bE (BH rfl) Jg rfl T.n_min PyProof.Rows.Boot.«min» (af (bE cc dJ rfl T.n_len PyProof.Rows.Boot.«len» (af (dv 0) av)) (af ak av))) av))) (bO (i:=1) (nd 46) rfl (Or.inl rfl)) bX
 (By (i:=2) (nd 46) rfl (Or.inl rfl) (rF (pK T) hr (af (dv 0) (af (dv 1) av))) λa=>(aB (cE (i:=3) (nd 46) rfl (Or.inr rfl) (rM 2 (vX T) hr (aO (aL (E:=E0) ak) (aO (aL (E:=E0) ak) ba))))
 (aB (cE (i:=4) (nd 46) rfl (Or.inl rfl) (rM 2 (pJ T) hr (aO (aL (E:=E0) (dv 3)) (aO (nt (aL (E:=E0) ak) (rM 2 (aR T) hr (aO (aL (E:=E0) ak) ba))) ba))))
 (aB (cg (E:=E0) λvs=>(FZ (i:=5) (nd 46) rfl rfl tQ (va ["_law_way","_law_web_here"] 1 [3] rfl (fw (rC (m7 T) hr (af (dv 3) (af (dv 4) av)))) (dN (by decide)) (λs H C fp pn=>⟨λHe H0e=>(bO (i:=0) (show List.Nodup (["_law_way","_law_web_here"]:List Str) from by decide) rfl (Or.inl rfl)),jC,(rC (uH T) hr (af (dv 1) (af (dv 0) av)))⟩) ⟨rfl,rfl⟩ rfl rfl rfl rfl)))
 (aB (cg (E:=E0) λvs=>(br (i:=6) (nd 46) rfl (Or.inr rfl) (rC (uF T) hr (af (dv 3) (af (dv 4) av)))))
 (aB (iL (jb (E:=E0) (aY (c8 hr.units) eA (dv 5) (cH av) nm))
 (aB (iL (jb (E:=E0) (DW.dt (dk (aY gh gj (aq (dv 6) ak) cn nm) (bA (aY gh gj (aq (dv 6) ak) cn nm)))))
 (aB (dZ (E:=E0) ef)
 bc)
 bc)
 bc)
 (aB (iL (jb (E:=E0) (DW.dt (dk (aY (eM hr.units) eO (aq (dv 6) ak) (dv 5) rfl) (bA (aY (gZ hr.units) kY (nJ (va ["_law_one","_law_told"] 1 [6] rfl (fw (dv 5)) (dN (by decide)) (λs H C fp pn=>⟨λHe H0e=>(bO (i:=0) (show List.Nodup (["_law_one","_law_told"]:List Str) from by decide) rfl (Or.inl rfl)),(u4 (bQ (rC (g7 T) hr (af (dv 0) (af (aq (dv 1) ak) av))))),(dv 0)⟩) ⟨rfl,rfl⟩ rfl rfl rfl rfl)) (cH av) nm)))))
 (aB (dZ (E:=E0) ef)
 bc)
 bc)
 bc))
 (aB (iL (jb (E:=E0) (DW.dt (dk (bZ (bQ (rC (iO T) hr (af (dv 3) (af (dv 4) (af (aq (dv 6) ak) av)))))) (bA (bZ (bQ (rC (jU T) hr (af (dv 3) (af (dv 4) (af (aq (dv 6) ak) (af (dv 5) av)))))))))))
 (aB (dZ (E:=E0) ef)
 bc)
 bc)
 (aB (cE (i:=7) (nd 46) rfl (Or.inl rfl) (LZ (vZ T) hr (aO (aL (E:=E0) (dv 3)) (aO (jB (aL (E:=E0) (cH (af (dv 4) (af (cH av) av)))) (rM 2 (aR T) hr (aO (aL (E:=E0) ak) ba))) ba))))
 (aB (kO (E:=E0) PassesOwn.never rfl (k8 (E:=E0) (jD rfl T.n_range ak)) (λvs=>(bO (i:=8) (nd 46) rfl (Or.inl rfl))) bX
 (aB (iL (F3 (F2 (LZ (jU T) hr (aO (aL (E:=E0) (dv 3)) (aO (aL (E:=E0) (dv 4)) (aO (rM 2 (uG T) hr (aO (aL (E:=E0) (dv 3)) (aO (aL (E:=E0) (dv 7)) ba))) (aO (aL (E:=E0) (dv 5)) ba)))))))
 (aB (dZ (E:=E0) ef)
 bc)
 bc)
 bc))
 bc))))))))))
 (ag (aV ef)
 ao)))
end
theorem txt_mk{K:W.Frag}{h:Heap}{mg:Str->Option Value}(X:K.In h)(G:h.Ns mainGlobals mg){a0 a1 a2 a3 a4 a5 a6 a7 a8 a9 a10 a11 a12 a13 a14 a15 a16 a17 a18 a19 a20 a21 a22 a23 a24 a25 a26 a27 a28 a29 a30 a31 a32 a33 a34 a35 a36 a37 a38 a39 a40 a41 a42 a43 a44 a45 a46:Addr}(qs:QAs K rows [a0,a1,a2,a3,a4,a5,a6,a7,a8,a9,a10,a11,a12,a13,a14,a15,a16,a17,a18,a19,a20,a21,a22,a23,a24,a25,a26,a27,a28,a29,a30,a31,a32,a33,a34,a35,a36,a37,a38,a39,a40,a41,a42,a43,a44,a45,a46])
  (z_abs:W.nsIn K mainGlobals "abs"=some none)
  (z_all:W.nsIn K mainGlobals "all"=some none)
  (z_bool:W.nsIn K mainGlobals "bool"=some none)
  (z_dict:W.nsIn K mainGlobals "dict"=some none)
  (z_enumerate:W.nsIn K mainGlobals "enumerate"=some none)
  (z_int:W.nsIn K mainGlobals "int"=some none)
  (z_isinstance:W.nsIn K mainGlobals "isinstance"=some none)
  (vn:W.nsIn K mainGlobals "len"=some none)
  (z_list:W.nsIn K mainGlobals "list"=some none)
  (z_max:W.nsIn K mainGlobals "max"=some none)
  (z_min:W.nsIn K mainGlobals "min"=some none)
  (z_range:W.nsIn K mainGlobals "range"=some none)
  (z_str:W.nsIn K mainGlobals "str"=some none)
  (z_tuple:W.nsIn K mainGlobals "tuple"=some none)
  {n8:Tok}(nZ:W.nsIn K mainGlobals "FEWEST_PLACES"=some (some (.int 2 n8)))
  {EZ:Tok}(EH:W.nsIn K mainGlobals "FIRST"=some (some (.int 2 EZ)))
  {Hw:Tok}(Hn:W.nsIn K mainGlobals "LAST"=some (some (.int 3 Hw)))
  {Cd:Tok}(BX:W.nsIn K mainGlobals "LENGTH"=some (some (.int 3 Cd)))
  {AX:Tok}(AO:W.nsIn K mainGlobals "LETTERS"=some (some (.str "abcdefghijklmnopqrstuvwxyz" AX)))
  {o4:Tok}(oX:W.nsIn K mainGlobals "LONGEST_NAME"=some (some (.int 8 o4)))
  {sq:Tok}(so:W.nsIn K mainGlobals "MOST_PLACES"=some (some (.int 7 sq)))
  {vt:Tok}(vo:W.nsIn K mainGlobals "MOST_TIES"=some (some (.int 14 vt)))
  {vJ:Addr}{v7:Obj}(BW:W.nsIn K mainGlobals "NOUGHT"=some (some (.ref vJ))) (B0:K.lookup vJ=some v7) (B4:∃od its n sl vs,v7=⟨.type "tuple",od,.seq its n,sl⟩/\bF vs its.toList/\its.size<=sizeLine/\∀H,Reps K H [.int 0,.int 1] vs)
  {JN:Tok}(JK:W.nsIn K mainGlobals "ONE"=some (some (.int 0 JN)))
  {EY:Tok}(EG:W.nsIn K mainGlobals "OTHER"=some (some (.int 1 EY)))
  {Cc:Tok}(BV:W.nsIn K mainGlobals "PLACES"=some (some (.int 0 Cc)))
  {Hv:Tok}(Hm:W.nsIn K mainGlobals "TIES"=some (some (.int 1 Hv)))
  {Hu:Tok}(Hl:W.nsIn K mainGlobals "WORD"=some (some (.int 2 Hu)))
  {zg:Addr}{zA:Obj}(EF:W.nsIn K mainGlobals "WORDS"=some (some (.ref zg))) (EK:K.lookup zg=some zA) (ER:∃od its n sl vs,zA=⟨.type "tuple",od,.seq its n,sl⟩/\bF vs its.toList/\its.size<=sizeLine/\∀H,Reps K H [.str "one",.str "both"] vs)
  {EX:Tok}(EE:W.nsIn K mainGlobals "WORTH"=some (some (.int 4 EX))) :
  ∃t:Adr,Txt K mg t/\t.A 46=a46/\∃kV doc pm an cdv ct,t.Q 46=W.fnOf "law" "law" (defArgs (top 77)) (defBody (top 77)) (defScope (top 77)) .none kV doc pm an cdv ct:=by
 obtain⟨Q,hQ⟩:=GA X G bn qs;have D_law:=(hQ 46 _ rfl).2;refine⟨⟨λi=>[a0,a1,a2,a3,a4,a5,a6,a7,a8,a9,a10,a11,a12,a13,a14,a15,a16,a17,a18,a19,a20,a21,a22,a23,a24,a25,a26,a27,a28,a29,a30,a31,a32,a33,a34,a35,a36,a37,a38,a39,a40,a41,a42,a43,a44,a45,a46].getD i 0,Q⟩,⟨λi r h=>(hQ i r h).1,W.mg_none_of X G z_abs,W.mg_none_of X G z_all,W.mg_none_of X G z_bool,W.mg_none_of X G z_dict,W.mg_none_of X G z_enumerate,W.mg_none_of X G z_int,W.mg_none_of X G z_isinstance,W.mg_none_of X G vn,W.mg_none_of X G z_list,W.mg_none_of X G z_max,W.mg_none_of X G z_min,W.mg_none_of X G z_range,W.mg_none_of X G z_str,W.mg_none_of X G z_tuple,?ff,?jG,?kA,?jf,?nz,?fS,?gB,?je,?rH,?rG,?iw,?eX,?jd,?rE,?vd,?oT⟩,rfl,D_law⟩
 case ff=>exact dA (W.mg_of X G nZ)
 case jG=>exact dA (W.mg_of X G EH)
 case kA=>exact dA (W.mg_of X G Hn)
 case jf=>exact dA (W.mg_of X G BX)
 case nz=>exact FO (W.mg_of X G AO)
 case fS=>exact dA (W.mg_of X G oX)
 case gB=>exact dA (W.mg_of X G so)
 case je=>exact dA (W.mg_of X G vo)
 case rH =>
  obtain⟨od,its,n,sl,vs,rfl,h1,h2,h3⟩:=B4;exact zJ (W.mg_of X G BW) B0 h1 h2 h3
 case rG=>exact dA (W.mg_of X G JK)
 case iw=>exact dA (W.mg_of X G EG)
 case eX=>exact dA (W.mg_of X G BV)
 case jd=>exact dA (W.mg_of X G Hm)
 case rE=>exact dA (W.mg_of X G Hl)
 case vd =>
  obtain⟨od,its,n,sl,vs,rfl,h1,h2,h3⟩:=ER;exact zJ (W.mg_of X G EF) EK h1 h2 h3
 case oT=>exact dA (W.mg_of X G EE)
theorem txt_wr{K:W.Frag}{mg:Str->Option Value}{a:Addr}{R:Adr->Prop}(h:∃t:Adr,Txt K mg t/\t.A 46=a/\R t):∃t:Adr,Txt K mg t/\mg "law"=some (.ref (t.A 46))/\R t:=h.elim λt ⟨T,_,r⟩=>⟨t,T,(T.g 46 _ rfl).g,r⟩
end K15
namespace Bfd
open PySem L2 DL Com Bor Pth Vlu
open K11 (bJ ways pr there oS)
open K51 (Bd pl)
noncomputable abbrev hB:Ev->aj Fl :=
 (aw (bG 8 (au (ai (ae 6) (ai (ae 7) aE)) bp))
 (aw (dW (eW (aa (ae 5) (ae 1) cj) (eW (aa (ae 8) (dC (.non)) cU) (aa (ae 7) (ae 2) jN)))
 (aw (pb 9 (au (ai (aa (ae 2) (ae 7) bV) (ai (aa (ae 6) (dC (.int 3)) aN) aE)) bB))
 (aw (dW (iq (aa (ae 8) (ae 2) eG) (au (ai (ae 9) (ai (aa (ae 2) (ae 8) bV) aE)) bh))
 (aw (iA 2 (ae 9) (ae 8))
 (aw (bG 4 (dC (.bl false)))
 ar))
 ar)
 ar))
 ar)
 ar))
noncomputable abbrev tB:Ev->aj Fl :=
 (aw (bG 6 (aa (aa (ae 0) (dC (.int 1)) aN) (ae 5) aN))
 (aw (jQ (Cg (BF (ae 6) fg (eP (dC (.int 2))))) (bw 7)
 hB)
 ar))
noncomputable abbrev rB:Ev->aj Fl :=
 (aw (bG 4 (dC (.bl true)))
 (aw (kP (au (ai (aa (ae 0) (dC (.int 1)) aN) aE) (m1 dE)) (bw 5)
 tB)
 (aw (dW (ae 4)
 (aw (bP (ae 2))
 ar)
 ar)
 ar)))
noncomputable def Pl(x:Sl):Prop:=x=.no∨∃d,x=.sh d
noncomputable def iJ(w:cq) (tk:List Nat) (S:BS) (c:Bool) (x3 x5 x6 x7 x8 x9:Sl):Ev:=[.sh (aS w),.sh (aU tk),.ow (dD w S),x3,.sh (.bl (!c)),x5,x6,x7,x8,x9]
noncomputable def zU(zs:List Int) (tk:List Nat) (n:Nat) (t:kH) (z:Str) (r:BS×Bool):BS×Bool:=if n∈tk then r else match there t z with
 |none=>r
 |some b=>((gf zs ⟨n,z,b⟩ r.1).1,r.2||(gf zs ⟨n,z,b⟩ r.1).2)
section
variable {w:cq}(W:bT w) (hw:∀t∈w.ts,gD t) {tk:List Nat}
include W hw
theorem zT{n:Nat}{t:kH}(ht:w.ts[n]?=some t){z:Str}{S:BS}{c:Bool}(K:dU w tk S){x3 x8 x9:Sl}(h3:Pl x3)(h9:Pl x9) :
  ∃y8 y9,hB (iJ w tk S c x3 (.sh (.int (n:Int))) (.sh (bL t)) (.sh (.str z)) x8 x9)=.ok (.nx (iJ w tk (zU (lz w) tk n t z (S,c)).1 (zU (lz w) tk n t z (S,c)).2 x3 (.sh (.int (n:Int))) (.sh (bL t)) (.sh (.str z)) y8 y9))/\Pl y8/\Pl y9:=by
 have hth:=K11.there_ok (t:=t) (z:=z);have hni:=K11.notIn_nums (ks:=tk) (n:=n);have hni:cj (.int (n:Int)) (aU tk)=.ok (.bl (!(decide (n∈tk)))):=hni;have i3:aN (bL t) (.int 3)=.ok (fr t.l):=rfl;unfold zU
 by_cases hk:n∈tk
 .rw[decide_eq_true hk] at hni
  refine⟨.sh (oS (there t z)),x9,?_,.inr ⟨_,rfl⟩,h9⟩;rw[if_pos hk];unfold iJ;open_line with[hth,hni]
 .rw[decide_eq_false hk] at hni
  simp only[if_neg hk];cases hz:there t z with
  |none =>
   rw[hz] at hth;have hth:bp [bL t,.str z]=.ok .non:=hth;refine⟨.sh .non,x9,?_,.inr ⟨_,rfl⟩,h9⟩;unfold iJ;open_line with[hth,hni]
  |some b =>
   rw[hz] at hth;have hth:bp [bL t,.str z]=.ok (.str b):=hth;have hin:=D9 (w:=w) (S:=S) (p:=z);have hN:cU (.str b) .non=.ok (.bl true):=rfl;unfold gf;simp only
   by_cases ha:z∈S.ks
   .rw[decide_eq_true ha] at hin
    have hg:=u5 (w:=w) ha;obtain⟨z0,z1⟩:=um W hw K ha;obtain⟨n0,n1⟩:=Iu W hw n;have n1:cT (lz w) n<=xK:=n1;have hpl:=K51.lplus_bd (Hk W hw z0 (by omega)) (p8 (W.ts t (List.mem_of_getElem? ht)).l) (by decide);rw[yg W hw ht] at hpl;have hpl:bB [fr (cQ (S.Z z) (lB w)),fr t.l]=.ok (fr (cQ (S.Z z+cT (lz w) n) (lB w))):=hpl;have hnd:nd (fr (cQ (S.Z z+cT (lz w) n) (lB w)))=true:=rfl;have hoD:∀d8:D,pF (iJ w tk S c x3 (.sh (.int (n:Int))) (.sh (bL t)) (.sh (.str z)) (.sh d8) x9)=true:=by
     intro d8;rcases h3 with rfl|⟨_,rfl⟩<;>rcases h9 with rfl|⟨_,rfl⟩<;>rfl
    have hoD:=hoD (.str b);unfold iJ at hoD;have hnb:=BC (w:=w) (S:=S) (p:=b);have hlen:decide (S.ks.length<=900)=true:=decide_eq_true (by have:=Cod.nodup_le K.nd K.pl;have:=W.n7;omega);have hput:=F5 (w:=w) (S:=S) (b:=b) (z:=S.Z z+cT (lz w) n);have hp1:∀(f k:Ev->aj D) (ρ:Ev),CC 2 f k ρ (some (.ow (dD w S)))=(f ρ).bind (CA 2 k ρ S.ks (S.ks.map λp=>fr (cQ (S.Z p) (lB w)))):=λ_ _ _=>gr
    by_cases hb:b∈S.ks
    .rw[decide_eq_true hb] at hnb
     have hgb:=u5 (w:=w) hb;obtain⟨b0,b1⟩:=um W hw K hb;have hls:=K51.lless_bd (Hk W hw (z:=S.Z z+cT (lz w) n) (by omega) (by omega)) (Hk W hw b0 (by omega)) (by decide) (by decide);rw[FU W hw] at hls;have hls:bh [fr (cQ (S.Z z+cT (lz w) n) (lB w)),fr (cQ (S.Z b) (lB w))]=.ok (.bl (decide (S.Z z+cT (lz w) n<S.Z b))):=hls
     by_cases hlt:S.Z z+cT (lz w) n<S.Z b
     .rw[decide_eq_true hlt] at hls
      rw[if_pos ⟨ha,.inr hlt⟩];refine⟨.sh (.str b),.sh (fr (cQ (S.Z z+cT (lz w) n) (lB w))),?_,.inr ⟨_,rfl⟩,.inr ⟨_,rfl⟩⟩;unfold iJ;open_line with[hth,hni,hN,hin,hg,i3,hpl,qY,ml hnd hoD,hnb,hgb,hls,ij,hp1,fv,ee hlen,hput,Bool.or_true]
     .rw[decide_eq_false hlt] at hls
      rw[if_neg (by rintro⟨_,h|h⟩;exact h hb;exact hlt h)];refine⟨.sh (.str b),.sh (fr (cQ (S.Z z+cT (lz w) n) (lB w))),?_,.inr ⟨_,rfl⟩,.inr ⟨_,rfl⟩⟩;unfold iJ;open_line with[hth,hni,hN,hin,hg,i3,hpl,qY,ml hnd hoD,hnb,hgb,hls,Bool.or_false]
    .rw[decide_eq_false hb] at hnb
     rw[if_pos ⟨ha,.inl hb⟩];refine⟨.sh (.str b),.sh (fr (cQ (S.Z z+cT (lz w) n) (lB w))),?_,.inr ⟨_,rfl⟩,.inr ⟨_,rfl⟩⟩;unfold iJ;open_line with[hth,hni,hN,hin,hg,i3,hpl,qY,ml hnd hoD,hnb,ij,hp1,fv,ee hlen,hput,Bool.or_true]
   .rw[decide_eq_false ha] at hin
    rw[if_neg (λh=>ha h.1)];refine⟨.sh (.str b),x9,?_,.inr ⟨_,rfl⟩,h9⟩;unfold iJ;open_line with[hth,hni,hN,hin,Bool.or_false]
theorem Bt{n:Nat}{t:kH}(ht:w.ts[n]?=some t){z:Str}(hz:z=t.a∨z=t.b){S:BS}{c:Bool}(K:dU w tk S):dU w tk (zU (lz w) tk n t z (S,c)).1:=by
 unfold zU;split
 .exact K
 .rename_i hk
  split
  .exact K
  .rename_i b hb
   have hs:(⟨n,z,b⟩:kK)∈aX w tk:=by
    refine cP.mpr ⟨t,ht,hk,?_⟩;unfold there at hb;show(z,b)∈ways t;unfold ways;have T:=W.ts t (List.mem_of_getElem? ht);split at hb
    .rename_i e
     cases hb;rw[←e];split<;>simp
    .split at hb
     .rename_i e
      cases hb;have:t.w≠"one":=by rw[e.2];decide
      rw[if_neg this,←e.1];simp
     .cases hb
   exact(vG W hw K hs).1
theorem IF{n:Nat}{t:kH}(ht:w.ts[n]?=some t){r:BS×Bool}:zU (lz w) tk n t t.b (zU (lz w) tk n t t.a r)=dI (lz w) (cf tk n t) r:=by
 have T:=W.ts t (List.mem_of_getElem? ht);obtain⟨S,c⟩:=r;unfold cf zU
 by_cases hk:n∈tk
 .simp only[if_pos hk];rfl
 .simp only[if_neg hk]
  have h1:there t t.a=some t.b:=by unfold there;rw[if_pos rfl]
  have hne:t.a≠t.b:=T.ne;rw[h1];unfold ways;rcases T.w with e|e
  .have h2:there t t.b=none:=by unfold there;rw[if_neg hne,if_neg (by rw[e];rintro⟨_,h⟩;exact absurd h (by decide))]
   rw[h2,if_pos e];rfl
  .have h2:there t t.b=some t.a:=by unfold there;rw[if_neg hne,if_pos ⟨rfl,e⟩]
   rw[h2,if_neg (by rw[e];decide)];rfl
theorem Ht{n:Nat}{t:kH}(ht:w.ts[n]?=some t){S:BS}{c:Bool}(K:dU w tk S){x3 x6 x7 x8 x9:Sl}(h3:Pl x3)(h9:Pl x9) :
  ∃y6 y7 y8 y9,tB (iJ w tk S c x3 (.sh (.int (n:Int))) x6 x7 x8 x9)=.ok (.nx (iJ w tk (dI (lz w) (cf tk n t) (S,c)).1 (dI (lz w) (cf tk n t) (S,c)).2 x3 (.sh (.int (n:Int))) y6 y7 y8 y9))/\Pl y9:=by
 have i1:aN (aS w) (.int 1)=.ok (.lst (w.ts.map bL)):=rfl;have hix:=mR ht;obtain⟨a8,a9,e1,_,p9⟩:=zT W hw ht (z:=t.a) (c:=c) K (x3:=x3) (x8:=x8) (x9:=x9) h3 h9;have K1:=Bt W hw ht (z:=t.a) (.inl rfl) (c:=c) K;obtain⟨b8,b9,e2,_,q9⟩:=zT W hw ht (z:=t.b) (c:=(zU (lz w) tk n t t.a (S,c)).2) K1 (x3:=x3) (x8:=a8) (x9:=a9) h3 p9;have hg:zU (lz w) tk n t t.b ((zU (lz w) tk n t t.a (S,c)).1,(zU (lz w) tk n t t.a (S,c)).2)=dI (lz w) (cf tk n t) (S,c):=IF W hw ht;rw[hg] at e2;refine⟨.sh (bL t),.sh (.str t.b),b8,b9,?_,q9⟩;have hsl:Ck (bL t) none (some 2)=.ok (.tup [.str t.a,.str t.b]):=(qg (by rfl)).trans rfl;have hl:bM (bw 7) hB [.str t.a,.str t.b] (iJ w tk S c x3 (.sh (.int (n:Int))) (.sh (bL t)) x7 x8 x9)=.ok (.nx (iJ w tk (dI (lz w) (cf tk n t) (S,c)).1 (dI (lz w) (cf tk n t) (S,c)).2 x3 (.sh (.int (n:Int))) (.sh (bL t)) (.sh (.str t.b)) b8 b9)):=by
  rw[c3 (ρ1:=iJ w tk S c x3 (.sh (.int (n:Int))) (.sh (bL t)) (.sh (.str t.a)) x8 x9) rfl e1,c3 (ρ1:=iJ w tk (zU (lz w) tk n t t.a (S,c)).1 (zU (lz w) tk n t t.a (S,c)).2 x3 (.sh (.int (n:Int))) (.sh (bL t)) (.sh (.str t.b)) a8 a9) rfl e2];rfl
 unfold iJ at hl ⊢;open_line with[i1,hix,hsl,hl]
theorem oz:∀(ts:List kH) (n:Nat) {S:BS}{c:Bool},(∀j t,ts[j]?=some t->w.ts[n+j]?=some t)->dU w tk S->∀{x3 x5 x6 x7 x8 x9:Sl},Pl x3->Pl x9 ->
  ∃y5 y6 y7 y8 y9,bM (bw 5) tB (DL.intsFrom (n:Int) ts.length) (iJ w tk S c x3 x5 x6 x7 x8 x9)=.ok (.nx (iJ w tk (dI (lz w) (bY tk n ts) (S,c)).1 (dI (lz w) (bY tk n ts) (S,c)).2 x3 y5 y6 y7 y8 y9))/\Pl y9
 |[],n,S,c,_,K,x3,x5,x6,x7,x8,x9,h3,h9=>⟨x5,x6,x7,x8,x9,rfl,h9⟩
 |t::ts,n,S,c,ht,K,x3,x5,x6,x7,x8,x9,h3,h9=>by
  have h0:w.ts[n]?=some t:=ht 0 t rfl;obtain⟨y6,y7,y8,y9,e1,p9⟩:=Ht W hw h0 (c:=c) K (x6:=x6) (x7:=x7) (x8:=x8) h3 h9;have hsub:∀s∈cf tk n t,s∈aX w tk:=by
   intro s hs;unfold cf at hs;split at hs
   .cases hs
   .rename_i hk
    obtain⟨p,hp,rfl⟩:=List.mem_map.mp hs;exact cP.mpr ⟨t,h0,hk,hp⟩
  have K1:=(jr W hw (cf tk n t) hsub (c:=c) K).1;obtain⟨z5,z6,z7,z8,z9,e2,q9⟩:=oz ts (n+1) (S:=(dI (lz w) (cf tk n t) (S,c)).1) (c:=(dI (lz w) (cf tk n t) (S,c)).2) (λj u hj=>by
   have:=ht (j+1) u (by simpa using hj);rw[show n+1+j=n+(j+1) by omega];exact this) K1 (x3:=x3) (x5:=.sh (.int (n:Int))) (x6:=y6) (x7:=y7) (x8:=y8) h3 p9
  refine⟨z5,z6,z7,z8,z9,?_,q9⟩;have hI:DL.intsFrom (n:Int) (t::ts).length=.int (n:Int)::DL.intsFrom ((n+1:Nat):Int) ts.length:=by
   unfold DL.intsFrom;rw[List.length_cons,List.range_succ_eq_map,List.map_cons,List.map_map];simp;intro a _;omega
  rw[hI,c3 (ρ1:=iJ w tk S c x3 (.sh (.int (n:Int))) x6 x7 x8 x9) rfl e1,e2,bY,vO]
theorem Cs{S:BS}{c:Bool}(K:dU w tk S){x3 x5 x6 x7 x8 x9:Sl}(h3:Pl x3)(h9:Pl x9) :
  ((dI (lz w) (aX w tk) (S,false)).2=false/\rB (iJ w tk S c x3 x5 x6 x7 x8 x9)=.ok (.rt (dD w S))) ∨
  ((dI (lz w) (aX w tk) (S,false)).2=true/\∃y5 y6 y7 y8 y9,rB (iJ w tk S c x3 x5 x6 x7 x8 x9)=.ok (.nx (iJ w tk (dI (lz w) (aX w tk) (S,false)).1 true x3 y5 y6 y7 y8 y9))/\Pl y9):=by
 have t14:=W.t14;have i1:aN (aS w) (.int 1)=.ok (.lst (w.ts.map bL)):=rfl;have hlen:dE (.lst (w.ts.map bL))=.ok (.int w.ts.length):=by rw[dB,List.length_map]
 obtain⟨y5,y6,y7,y8,y9,e,p9⟩:=oz W hw w.ts 0 (S:=S) (c:=false) (λj t h=>by rw[Nat.zero_add];exact h) K (x3:=x3) (x5:=x5) (x6:=x6) (x7:=x7) (x8:=x8) h3 h9;have hL:bY tk 0 w.ts=aX w tk:=rfl;rw[hL] at e;have hfr:=iX (tg:=bw 5) (s:=tB) (ρ:=iJ w tk S false x3 x5 x6 x7 x8 x9) (k:=w.ts.length) (by omega);have e:bM (bw 5) tB (DL.intsFrom 0 w.ts.length) (iJ w tk S false x3 x5 x6 x7 x8 x9)=.ok (.nx (iJ w tk (dI (lz w) (aX w tk) (S,false)).1 (dI (lz w) (aX w tk) (S,false)).2 x3 y5 y6 y7 y8 y9)):=e;cases hc:(dI (lz w) (aX w tk) (S,false)).2 with
 |false =>
  have hS:=((jr W hw (aX w tk) (λs h=>h) (c:=false) K).2.2.2 hc).2;rw[hc,hS] at e;refine .inl ⟨rfl,?_⟩;unfold iJ at hfr e ⊢;simp only[Bool.not_false,Bool.not_true] at hfr e ⊢;open_line with[i1,hlen,hfr,e]
 |true =>
  rw[hc] at e;refine .inr ⟨rfl,y5,y6,y7,y8,y9,?_,p9⟩;unfold iJ at hfr e ⊢;simp only[Bool.not_false,Bool.not_true] at hfr e ⊢;open_line with[i1,hlen,hfr,e]
end
open K11 (bJ ways pr there oS)
open K51 (Bd pl)
theorem L6{b:Int}(hb:0<b):cQ 0 b=(0,1):=by
 refine pO (dz hb) ⟨by decide,by decide⟩ ?_;show(cQ 0 b).1*1=0*(cQ 0 b).2;unfold cQ;simp
section
variable {w:cq}(W:bT w) (hw:∀t∈w.ts,gD t) {tk:List Nat}
include W hw
theorem sQ:∀(m r:Nat) {S:BS}{c:Bool}(i:Int),dU w tk S->Rd w tk r S->∀{x3 x5 x6 x7 x8 x9:Sl},Pl x9 ->
  (∃S',dU w tk S'/\(∀k,Rd w tk k S')/\bM (bw 3) rB (DL.intsFrom i m) (iJ w tk S c x3 x5 x6 x7 x8 x9)=.ok (.rt (dD w S'))) ∨
  (∃S' c' y3 y5 y6 y7 y8 y9,dU w tk S'/\Rd w tk (r+m) S'/\bM (bw 3) rB (DL.intsFrom i m) (iJ w tk S c x3 x5 x6 x7 x8 x9)=.ok (.nx (iJ w tk S' c' y3 y5 y6 y7 y8 y9)))
 |0,r,S,c,i,K,R,x3,x5,x6,x7,x8,x9,h9=>.inr ⟨S,c,x3,x5,x6,x7,x8,x9,K,R,rfl⟩
 |m+1,r,S,c,i,K,R,x3,x5,x6,x7,x8,x9,h9=>by
  have hI:DL.intsFrom i (m+1)=.int i::DL.intsFrom (i+1) m:=by
   unfold DL.intsFrom;rw[List.range_succ_eq_map,List.map_cons,List.map_map];simp;intro a _;omega
  rw[hI];have hg:bw 3 (iJ w tk S c x3 x5 x6 x7 x8 x9) (.int i)=.ok (iJ w tk S c (.sh (.int i)) x5 x6 x7 x8 x9):=rfl;rcases Cs W hw (c:=c) K (x3:=.sh (.int i)) (x5:=x5) (x6:=x6) (x7:=x7) (x8:=x8) (x9:=x9) (.inr ⟨_,rfl⟩) h9 with⟨hc,e⟩|⟨hc,y5,y6,y7,y8,y9,e,p9⟩
  .refine .inl ⟨S,K,λk=>Fd W hw K hc k,?_⟩
   unfold bM;rw[hg,iC,e,iC]
  .have K1:=(jr W hw (aX w tk) (λs h=>h) (c:=false) K).1
   have R1:=Fc W hw (c:=false) K R;rcases sQ m (r+1) (S:=(dI (lz w) (aX w tk) (S,false)).1) (c:=true) (i+1) K1 R1 (x3:=.sh (.int i)) (x5:=y5) (x6:=y6) (x7:=y7) (x8:=y8) p9 with⟨S',a1,a2,a3⟩|⟨S',c',z3,z5,z6,z7,z8,z9,a1,a2,a3⟩
   .exact .inl ⟨S',a1,a2,by rw[c3 hg e];exact a3⟩
   .refine .inr ⟨S',c',z3,z5,z6,z7,z8,z9,a1,?_,by rw[c3 hg e];exact a3⟩
    rw[show r+(m+1)=r+1+m by omega];exact a2
theorem II:∃S,dU w tk S/\Rd w tk w.ps.length S/\cZ [aS w,aU tk]=.ok (dD w S):=by
 have n7:=W.n7;have i0:aN (aS w) (.int 0)=.ok (.lst (w.ps.map D.str)):=rfl;have i2:aN (aS w) (.int 2)=.ok (.str w.fi):=rfl;have hlen:dE (.lst (w.ps.map D.str))=.ok (.int w.ps.length):=by rw[dB,List.length_map]
 have K0:dU w tk ⟨[w.fi],λ_=>0⟩:=⟨by simp,λp hp=>by rw[List.mem_singleton] at hp;subst hp;exact W.fi,by simp,Int.le_refl _,λp hp=>by
  rw[List.mem_singleton] at hp;subst hp;exact⟨[],.nil,rfl⟩,λp _=>by show(0:Int)<=((1:Int)-1)*xK;simp⟩
 have hd:D.dic [w.fi] [.tup [.int 0,.int 1]]=dD w ⟨[w.fi],λ_=>0⟩:=by
  unfold dD;rw[List.map_cons,List.map_nil,L6 (gk W).1];rfl
 have hown:∀ρ:Ev,zt 2 ρ (dD w ⟨[w.fi],λ_=>0⟩)=.ok (.nx (ρ.set 2 (.ow (dD w ⟨[w.fi],λ_=>0⟩)))):=λ_=>mn;have hfr:=iX (tg:=bw 3) (s:=rB) (ρ:=[.sh (aS w),.sh (aU tk),.ow (dD w ⟨[w.fi],λ_=>0⟩),.no,.no,.no,.no,.no,.no,.no]) (k:=w.ps.length) (by omega);have hr:∀(d3:D) (x4 x4':Sl),rB [.sh (aS w),.sh (aU tk),.ow (dD w ⟨[w.fi],λ_=>0⟩),.sh d3,x4,.no,.no,.no,.no,.no]=rB [.sh (aS w),.sh (aU tk),.ow (dD w ⟨[w.fi],λ_=>0⟩),.sh d3,x4',.no,.no,.no,.no,.no]:=λ_ _ _=>rfl;have start:∀(d:D) (ds:List D),bM (bw 3) rB (d::ds) [.sh (aS w),.sh (aU tk),.ow (dD w ⟨[w.fi],λ_=>0⟩),.no,.no,.no,.no,.no,.no,.no]=bM (bw 3) rB (d::ds) (iJ w tk ⟨[w.fi],λ_=>0⟩ false .no .no .no .no .no .no):=by
  intro d ds
  conv=>lhs;unfold bM
  conv=>rhs;unfold bM
  rw[show bw 3 [.sh (aS w),.sh (aU tk),.ow (dD w ⟨[w.fi],λ_=>0⟩),.no,.no,.no,.no,.no,.no,.no] d=.ok [.sh (aS w),.sh (aU tk),.ow (dD w ⟨[w.fi],λ_=>0⟩),.sh d,.no,.no,.no,.no,.no,.no] from rfl,show bw 3 (iJ w tk ⟨[w.fi],λ_=>0⟩ false .no .no .no .no .no .no) d=.ok [.sh (aS w),.sh (aU tk),.ow (dD w ⟨[w.fi],λ_=>0⟩),.sh d,.sh (.bl true),.no,.no,.no,.no,.no] from rfl,iC,iC,hr d .no (.sh (.bl true))]
 obtain⟨m,hm⟩:∃m,w.ps.length=m+1:=⟨w.ps.length-1,by have:=W.n2;omega⟩
 have hI:DL.intsFrom 0 w.ps.length=.int 0::DL.intsFrom (0+1) m:=by
  rw[hm];unfold DL.intsFrom;rw[List.range_succ_eq_map,List.map_cons,List.map_map];simp;intro a _;omega
 rcases sQ W hw w.ps.length 0 (c:=false) 0 K0 (Fb W hw K0) (x3:=.no) (x5:=.no) (x6:=.no) (x7:=.no) (x8:=.no) (x9:=.no) (.inl rfl) with⟨S',a1,a2,a3⟩|⟨S',c',z3,z5,z6,z7,z8,z9,a1,a2,a3⟩
 .rw[hI,←start,←hI] at a3
  refine⟨S',a1,a2 _,?_⟩;open_line with[cZ,kE,nq,uX,qZ,i2,hd,hown,i0,hlen,hfr,a3]
 .rw[hI,←start,←hI] at a3
  rw[Nat.zero_add] at a2;refine⟨S',a1,a2,?_⟩;unfold iJ at a3;open_line with[cZ,kE,nq,uX,qZ,i2,hd,hown,i0,hlen,hfr,a3]
end
end Bfd
namespace Vlx
open PySem L2 DL Com Bor Pth Vlu Bfd
open K51 (Bd pl)
theorem eq_fr{x y:cw}:iD (fr x) (fr y)=.ok (.bl (decide (x=y))):=by
 obtain⟨a,b⟩:=x;obtain⟨c,d⟩:=y;have h:iD (fr (a,b)) (fr (c,d))=.ok (.bl ((a==c)&&((b==d)&&true))):=by
  unfold iD;rw[if_pos ⟨rfl,rfl⟩];show aj.ok (D.bl (cC (.tup [.int a,.int b]) (.tup [.int c,.int d])))=_;rw[cC,eqDs,eqDs,eqDs,cC,cC]
 rw[h]
 by_cases e:(a,b)=(c,d)
 .cases e;simp
 .rw[decide_eq_false e]
  have:((a==c)&&((b==d)&&true))=false:=by
   rw[Bool.and_true,Bool.and_eq_false_iff]
   by_cases h1:a=c
   .right;exact beq_eq_false_iff_ne.mpr λh2=>e (by rw[h1,h2])
   .left;exact beq_eq_false_iff_ne.mpr h1
  rw[this]
end Vlx
namespace K15
open PySem L2 DL Com Bor Pth
open K11 (bJ ways pr there oS)
theorem ka{zs:List Str}{t:kH}(T:rR zs t){a b:Str}:there t a=some b↔(a,b)∈ways t:=by
 have ne:=T.ne;unfold there ways;rcases T.w with e|e
 .rw[if_pos e]
  constructor
  .intro h
   split at h
   .next h1=>cases h;subst h1;exact List.mem_singleton.mpr rfl
   .split at h
    .next h2=>rw[e] at h2;exact absurd h2.2 (by decide)
    .cases h
  .intro h
   have:=List.mem_singleton.mp h;cases this;rw[if_pos rfl]
 .have e1:t.w≠"one":=by rw[e];decide
  rw[if_neg e1];constructor
  .intro h
   split at h
   .next h1=>cases h;subst h1;exact List.mem_cons_self
   .split at h
    .next h2=>cases h;rw[←h2.1];exact List.mem_cons_of_mem _ (List.mem_singleton.mpr rfl)
    .cases h
  .intro h
   rcases List.mem_cons.mp h with h|h
   .cases h;rw[if_pos rfl]
   .have:=List.mem_singleton.mp h
    cases this;rw[if_neg ne,if_pos ⟨rfl,e⟩]
structure f9 where
 y:List Nat
 s:List Str
 z:Str
noncomputable def f9.seen(e:f9):List Str:=e.s++[e.z]
noncomputable def oo(e:f9):D:=.tup [.lst (bJ e.y),.lst (e.seen.map D.str)]
structure j9 (w:cq) (ks:List Nat) (e:f9):Prop where
 wk:eu w ks w.fi e.y e.z
 nd:e.seen.Nodup
 pl:∀p∈e.seen,p∈w.ps
 ln:e.y.length=e.s.length
noncomputable def vk(w:cq) (ks:List Nat) (e:f9) (n:Nat):List f9:=match w.ts[n]? with
 |none=>[]
 |some t=>match there t e.z with
  |none=>[]
  |some b=>if b∉e.seen/\n∉ks then[⟨e.y++[n],e.seen,b⟩] else[]
noncomputable def fZ(w:cq) (ks:List Nat) (e:f9):Nat->List f9
 |0=>[]
 |k+1=>fZ w ks e k++vk w ks e k
theorem Iv{w:cq}{ks:List Nat}{e:f9}{n:Nat}:(vk w ks e n).length<=1:=by
 unfold vk;split
 .simp
 .split
  .simp
  .split<;>simp
theorem uN{w:cq}{ks:List Nat}{e:f9}:∀k,(fZ w ks e k).length<=k
 |0=>Nat.le_refl _
 |k+1=>by
  have h1:=uN (w:=w) (ks:=ks) (e:=e) k;have h2:=Iv (w:=w) (ks:=ks) (e:=e) (n:=k);unfold fZ;rw[List.length_append];omega
theorem iS{w:cq}{ks:List Nat}{e c:f9}:∀{k:Nat},c∈fZ w ks e k↔∃n,n<k/\c∈vk w ks e n
 |0=>by simp [fZ]
 |k+1=>by
  unfold fZ;rw[List.mem_append,iS (k:=k)];constructor
  .rintro(⟨n,h1,h2⟩|h)
   .exact⟨n,by omega,h2⟩
   .exact⟨k,by omega,h⟩
  .rintro⟨n,h1,h2⟩
   by_cases h:n=k
   .subst h;exact .inr h2
   .exact .inl ⟨n,by omega,h2⟩
theorem zC{w:cq}(W:bT w){ks:List Nat}{e c:f9}{n:Nat}:c∈vk w ks e n↔∃b,Et w ks n e.z b/\b∉e.seen/\c=⟨e.y++[n],e.seen,b⟩:=by
 unfold Et;cases ht:w.ts[n]? with
 |none =>
  have hk:vk w ks e n=[]:=by unfold vk;rw[ht]
  rw[hk];simp
 |some t =>
  have T:=W.ts t (List.mem_of_getElem? ht);cases hh:there t e.z with
  |none =>
   have hk:vk w ks e n=[]:=by unfold vk;rw[ht];simp only[hh]
   rw[hk];simp only[List.not_mem_nil,false_iff];rintro⟨b,⟨u,h1,h2,h3⟩,_⟩;cases h1;rw[(ka T).mpr h3] at hh;cases hh
  |some b =>
   have hb:=(ka T).mp hh;have hk:vk w ks e n=if b∉e.seen/\n∉ks then[⟨e.y++[n],e.seen,b⟩] else[]:=by unfold vk;rw[ht];simp only[hh]
   rw[hk];constructor
   .intro h
    split at h
    .next h1=>exact⟨b,⟨t,rfl,h1.2,hb⟩,h1.1,List.mem_singleton.mp h⟩
    .cases h
   .rintro⟨b',⟨u,h1,h2,h3⟩,h4,rfl⟩
    cases h1;have:=(ka T).mpr h3;rw[hh] at this;cases this;rw[if_pos ⟨h4,h2⟩];exact List.mem_singleton.mpr rfl
theorem yy{w:cq}(W:bT w){ks:List Nat}{e c:f9}(h:j9 w ks e){n:Nat}(hc:c∈vk w ks e n):j9 w ks c/\c.s.length=e.s.length+1:=by
 obtain⟨b,g,hb,rfl⟩:=(zC W).mp hc;obtain⟨t,t1,t2,t3⟩:=g;have T:=W.ts t (List.mem_of_getElem? t1);have hs:(⟨e.y++[n],e.seen,b⟩:f9).seen=e.seen++[b]:=rfl;refine⟨⟨.snoc h.wk ⟨t,t1,t2,t3⟩,?_,?_,?_⟩,?_⟩
 .rw[hs,List.nodup_append]
  refine⟨h.nd,by simp,λa ha b' hb' z=>?_⟩;have:=List.mem_singleton.mp hb';subst this;subst z;exact hb ha
 .intro p hp
  rw[hs,List.mem_append] at hp;rcases hp with hp|hp
  .exact h.pl p hp
  .rw[List.mem_singleton.mp hp];exact(ou T t3).2.1
 .show(e.y++[n]).length=e.seen.length
  unfold f9.seen;rw[List.length_append,List.length_append,h.ln];rfl
 .show e.seen.length=_
  unfold f9.seen;rw[List.length_append];rfl
theorem j9.len{w:cq}{ks:List Nat}{e:f9}(h:j9 w ks e):e.s.length+1<=w.ps.length:=by
 have h1:e.seen.length<=w.ps.length:=by
  have:=List.Nodup.length_le_of_subset h.nd (λp hp=>h.pl p hp);exact this
 unfold f9.seen at h1;rw[List.length_append] at h1;exact h1
noncomputable def T(q:Nat):Nat->Nat
 |0=>1
 |k+1=>1+q*T q k
noncomputable def mu(p q:Nat) (S:List f9):Nat:=(S.map λe=>T q (p-(e.s.length+1))).sum
theorem Ep{q:Nat}:∀k,1<=T q k
 |0=>Nat.le_refl _
 |k+1=>by unfold T;omega
theorem yp{p q:Nat}{S S':List f9}:mu p q (S++S')=mu p q S+mu p q S':=by
 unfold mu;rw[List.map_append,List.sum_append]
theorem GQ{p q c:Nat}:∀{S:List f9},(∀e∈S,T q (p-(e.s.length+1))<=c)->mu p q S<=S.length*c
 |[],_=>by simp [mu]
 |e::S,h=>by
  have h1:=h e List.mem_cons_self;have h2:=GQ (S:=S) λu hu=>h u (List.mem_cons_of_mem _ hu);show(T q (p-(e.s.length+1))::(S.map λe=>T q (p-(e.s.length+1)))).sum<=_;rw[List.sum_cons,List.length_cons,Nat.add_mul];unfold mu at h2;omega
theorem Dc{p q:Nat}:∀{S:List f9},S.length<=mu p q S
 |[]=>Nat.le_refl _
 |e::S=>by
  have h2:=Dc (p:=p) (q:=q) (S:=S);have h1:=Ep (q:=q) (p-(e.s.length+1));show _<=(T q (p-(e.s.length+1))::(S.map λe=>T q (p-(e.s.length+1)))).sum;rw[List.sum_cons,List.length_cons];unfold mu at h2;omega
theorem FD{w:cq}(W:bT w){ks:List Nat}{e:f9}(h:j9 w ks e){p q:Nat}(hp:w.ps.length<=p){k:Nat}(hk:k<=q):mu p q (fZ w ks e k)+1<=T q (p-(e.s.length+1)):=by
 by_cases hn:fZ w ks e k=[]
 .rw[hn];exact Ep _
 .have hne:∃c,c∈fZ w ks e k:=by
   cases hx:fZ w ks e k with|nil=>exact absurd hx hn|cons c r=>exact⟨c,List.mem_cons_self⟩
  obtain⟨c,hc⟩:=hne;obtain⟨n,_,hcn⟩:=iS.mp hc;obtain⟨c1,c2⟩:=yy W h hcn;have hl:=c1.len;obtain⟨m,hm⟩:∃m,p-(e.s.length+1)=m+1:=⟨p-(e.s.length+1)-1,by omega⟩
  have h1:mu p q (fZ w ks e k)<=(fZ w ks e k).length*T q m:=GQ λd hd=>by
   obtain⟨n,_,hdn⟩:=iS.mp hd;have:=(yy W h hdn).2;rw[this,show p-(e.s.length+1+1)=m by omega];exact Nat.le_refl _
  have h2:(fZ w ks e k).length*T q m<=q*T q m:=Nat.mul_le_mul_right _ (Nat.le_trans (uN k) hk);rw[hm];show _<=1+q*T q m;omega
inductive EC (w:cq) (ks:List Nat):f9->List Nat->Prop where
 |here {e:f9}:e.z=w.la->EC w ks e e.y
 |step {e:f9}{n:Nat}{b:Str}{p:List Nat}:e.z≠w.la->Et w ks n e.z b->b∉e.seen->EC w ks ⟨e.y++[n],e.seen,b⟩ p->EC w ks e p
theorem IJ{w:cq}{ks:List Nat}{e:f9}{p:List Nat}(h:EC w ks e p)(hl:e.z=w.la):p=e.y:=by
 cases h with|here _=>rfl|step h1 _ _ _=>exact absurd hl h1
theorem FW{w:cq}(W:bT w){ks:List Nat}{e:f9}{p:List Nat}(h:EC w ks e p)(hl:e.z≠w.la):∃c∈fZ w ks e w.ts.length,EC w ks c p:=by
 cases h with
 |here h=>exact absurd h hl
 |step h1 h2 h3 h4 =>
  refine⟨_,iS.mpr ⟨_,?_,(zC W).mpr ⟨_,h2,h3,rfl⟩⟩,h4⟩;obtain⟨t,t1,_⟩:=h2;exact(List.getElem?_eq_some_iff.mp t1).1
end K15
namespace Bor
open PySem L2 DL Com
theorem B2(a:Addr){p q:Nat}(hp:2<=p/\p<=7)(hq:q<=14){st:List D}(h:St st):∃(w:cq) (st':List D),cY a st [.int (p:Int),.int (q:Int)]=.ok (aS w,st')/\bT w/\(∀t∈w.ts,gD t)/\St st'/\w.ps.length<=p/\w.ts.length<=q:=by
 obtain⟨m,st1,t1,m0,m1,S1⟩:=bN a (n:=(p:Int)-1) (by omega) (by omega) h;obtain⟨m,rfl⟩:=Int.eq_ofNat_of_zero_le m0;obtain⟨css,st2,t2,hcl,hnd,hall,S2⟩:=C8 a (n:=2+m) (by omega) S1;have hnm:Cod.nmsD css=(css.map Cod.S).map D.str:=by unfold Cod.nmsD;rw[List.map_map];rfl
 have hzl:(css.map Cod.S).length=2+m:=by rw[List.length_map,hcl]
 have nd:(css.map Cod.S).Nodup:=by
  rw[List.nodup_iff_pairwise_ne,List.pairwise_map];exact List.Pairwise.imp (λh z=>h (Cod.S_inj z)) (List.nodup_iff_pairwise_ne.mp hnd)
 have nm:mI (css.map Cod.S):=⟨nd,λz hz=>by
  obtain⟨cs,hc,rfl⟩:=List.mem_map.mp hz;exact(hall cs hc).nameB⟩
 rw[hnm] at t2;generalize css.map Cod.S=zs at *;have hlen:dE (.lst (zs.map D.str))=.ok (.int zs.length):=by rw[dB,List.length_map]
 have hn0:((zs.length:Int)==0)=false:=beq_eq_false_iff_ne.mpr (by omega);obtain⟨c,st3,t3,c0,c1,S3⟩:=bN a (n:=(q:Int)+1) (by omega) (by omega) S2;obtain⟨c,rfl⟩:=Int.eq_ofNat_of_zero_le c0;have hlenI:(DL.intsFrom 0 c).length=c:=by unfold DL.intsFrom;simp
 obtain⟨ρ2,st4,hl,ts,x6,rfl,htl,hts,S4⟩:=p7 (tg:=bw 6) (body:=(aW (Dh 5 (bD 0 a (aQ (mP (ae 3)) (aQ (mP (ae 6)) bU)) cF))
 bg))
  (λj ρ st=>∃(ts:List kH) (x6:Sl),ρ=[.pt a,.sh (.int (p:Int)),.sh (.int (q:Int)),.sh (.lst (zs.map D.str)),.sh (.int (zs.length:Int)),.ow (.lst (ts.map bL)),x6,.no,.no]/\ts.length=j/\(∀t∈ts,rR zs t/\gD t)/\St st) (DL.intsFrom 0 c) (by
   rintro j d ρ st hj ⟨ts,x6,rfl,rfl,hts,S⟩;have hjt:ts.length<c:=by have:=(List.getElem?_eq_some_iff.mp hj).1;omega
   have hd:d=.int (ts.length:Int):=by
    unfold DL.intsFrom at hj;rw[List.getElem?_map,List.getElem?_range hjt] at hj;simp at hj;exact hj.symm
   subst hd;obtain⟨t,st',tt,tk,ta,S'⟩:=EW a (zs:=zs) (k:=ts.length) (by omega) (by omega) nd S;have hap:decide ((ts.map bL).length<=999)=true:=decide_eq_true (by rw[List.length_map];omega);refine⟨_,[.pt a,.sh (.int (p:Int)),.sh (.int (q:Int)),.sh (.lst (zs.map D.str)),.sh (.int (zs.length:Int)),.ow (.lst ((ts++[t]).map bL)),.sh (.int (ts.length:Int)),.no,.no],st',rfl,.inl ?_,ts++[t],_,rfl,by simp,λu hu=>?_,S'⟩
   .open_line with[tt,uW hap,List.map_append]
   .rw[List.mem_append] at hu
    rcases hu with hu|hu
    .exact hts u hu
    .have:u=t:=by simpa using hu
     subst this;exact⟨tk,ta⟩) 0 [.pt a,.sh (.int (p:Int)),.sh (.int (q:Int)),.sh (.lst (zs.map D.str)),.sh (.int (zs.length:Int)),.ow (.lst []),.no,.no,.no] st3 (Nat.zero_le _) ⟨[],_,rfl,rfl,λt ht=>by simp at ht,S3⟩
 rw[List.drop_zero] at hl;rw[hlenI] at htl;have hsr:uJ (.int (c:Int),st3)=.ok (DL.intsFrom 0 c,st3):=qX (by omega);have h2m:(2:Int)+(m:Int)=((2+m:Nat):Int):=by omega
 rw[←h2m] at t2;obtain⟨g,st5,t5,g0,g1,S5⟩:=bN a (n:=2) (by decide) (by decide) S4;cases hg:(g==0) with
 |true =>
  obtain⟨d,st6,t6,d0,d1,S6⟩:=bN a (n:=(zs.length:Int)) (by omega) (by omega) S5;obtain⟨e,st7,t7,e0,e1,S7⟩:=bN a (n:=(zs.length:Int)-1) (by omega) (by omega) S6;obtain⟨hr,hne⟩:=ua (n:=(zs.length:Int)) (d:=d) (e:=e) (by omega) d0 d1 e0 e1;obtain⟨z1,k1,j1⟩:=mS (zs:=zs) d0 d1;obtain⟨z2,k2,j2⟩:=mS (zs:=zs) hr.1 hr.2;have hz12:z1≠z2:=k7 nd k1 k2 (by omega);refine⟨⟨zs,ts,z1,z2⟩,st7,?_,⟨by show 2<=zs.length;omega,by show zs.length<=7;omega,nm,by show ts.length<=14;omega,λt ht=>(hts t ht).1,List.mem_of_getElem? k1,List.mem_of_getElem? k2,hz12⟩,λt ht=>(hts t ht).2,S7,by show zs.length<=p;omega,by show ts.length<=q;omega⟩;open_line with[cY,kD,ra,t1,t2,hlen,t3,hsr,hl,t5,hg,t6,t7,hn0,j1,j2,aS]
 |false =>
  obtain⟨z1,k1,j1⟩:=mS (zs:=zs) (k:=0) (by decide) (by omega);obtain⟨z2,k2,j2⟩:=mS (zs:=zs) (k:=(zs.length:Int)-1) (by omega) (by omega);have hz12:z1≠z2:=k7 nd k1 k2 (by omega);refine⟨⟨zs,ts,z1,z2⟩,st5,?_,⟨by show 2<=zs.length;omega,by show zs.length<=7;omega,nm,by show ts.length<=14;omega,λt ht=>(hts t ht).1,List.mem_of_getElem? k1,List.mem_of_getElem? k2,hz12⟩,λt ht=>(hts t ht).2,S5,by show zs.length<=p;omega,by show ts.length<=q;omega⟩;open_line with[cY,kD,ra,t1,t2,hlen,t3,hsr,hl,t5,hg,j1,j2,aS]
end Bor
namespace K15
open PySem L2 DL Com Bor Pth
open K11 (bJ ways pr there oS there_ok notIn_nums c9 oE)
theorem AE{i:Nat}{ρ:Ev}{ds:List D}{d:D}(h:ds.length<line):Jl i ρ ds d=.ok (.nx (ρ.set i (.ow (.lst (ds++[d]))))):=if_pos h
theorem Im{ds:List D}(h:ds≠[])(hs:ds.all (bo 39)=true):jE (.lst ds) (.lst [])=.ok (.bl true):=by
 cases ds with
 |nil=>exact absurd rfl h
 |cons d ds =>
  unfold jE;rw[if_pos ⟨hs,rfl⟩];rfl
theorem Cm{S:List f9}:(S.map oo).all (bo 39)=true:=List.all_eq_true.mpr λd hd=>by
 obtain⟨e,_,rfl⟩:=List.mem_map.mp hd;have h1:bo 38 (.lst (bJ e.y))=true:=K11.shal_nums (m:=37);have h2:bo 38 (.lst (e.seen.map D.str))=true:=mX (n:=37);show(bo 38 (.lst (bJ e.y))&&(bo 38 (.lst (e.seen.map D.str))&&true))=true;rw[h1,h2];rfl
noncomputable abbrev kB:Ev->aj Fl :=
 (aw (bG 7 (au (ai (aa (aa (ae 0) (dC (.int 1)) aN) (ae 6) aN) (ai (aa (ae 5) (cL (dC (.int 1)) xu) aN) aE)) bp))
 (aw (dW (eW (aa (ae 7) (dC (.non)) cU) (eW (aa (ae 7) (ae 5) cj) (aa (ae 6) (ae 1) cj)))
 (aw (dw 2 (au (ai (aa (ae 4) (au (ai (ae 6) aE) cu) cb) (ai (aa (ae 5) (au (ai (ae 7) aE) cu) cb) aE)) e8))
 ar)
 ar)
 ar))
noncomputable abbrev wB:Ev->aj Fl :=
 (aw (gU [4,5] 2)
 (aw (dW (aa (aa (ae 5) (cL (dC (.int 1)) xu) aN) (aa (ae 0) (dC (.int 3)) aN) iD)
 (aw (dw 3 (ae 4))
 ar)
 (aw (kP (au (ai (aa (ae 0) (dC (.int 1)) aN) aE) (m1 dE)) (bw 6)
 kB)
 ar))
 ar))
noncomputable def rY(w:cq) (ks:List Nat) (S:List f9) (F:List (List Nat)) (x4 x5 x6 x7:Sl):Ev:=[.sh (aS w),.sh (aU ks),.ow (.lst (S.map oo)),.ow (.lst (F.map λp=>.lst (bJ p))),x4,x5,x6,x7]
theorem Bg{p:List Nat}{n:Nat}:bJ p++[D.int (n:Int)]=bJ (p++[n]):=by
 unfold bJ;rw[List.map_append];rfl
theorem C4{p:List Nat}:(bJ p).length=p.length:=by unfold bJ;rw[List.length_map]
theorem Dq{w:cq}(W:bT w){ks:List Nat}{e:f9}(B:j9 w ks e){S:List f9}{F:List (List Nat)}(hS:S.length<line){k:Nat}(hk:k<w.ts.length){x7:Sl}(h7:x7=.no∨∃d,x7=.sh d) :
  ∃y,(y=.no∨∃d,y=.sh d)/\kB (rY w ks S F (.sh (.lst (bJ e.y))) (.sh (.lst (e.seen.map D.str))) (.sh (.int (k:Int))) x7)=.ok (.nx (rY w ks (S++vk w ks e k) F (.sh (.lst (bJ e.y))) (.sh (.lst (e.seen.map D.str))) (.sh (.int (k:Int))) y)):=by
 have i1:aN (aS w) (.int 1)=.ok (.lst (w.ts.map bL)):=rfl;have ht:w.ts[k]?=some w.ts[k]:=List.getElem?_eq_getElem hk;have hti:=mR ht;have hix:aN (.lst (e.seen.map D.str)) (.int (-1))=.ok (.str e.z):=oE;have n7:=W.n7;have hl:=B.len;have e2:=there_ok (t:=w.ts[k]) (z:=e.z);cases hth:there w.ts[k] e.z with
 |none =>
  rw[hth] at e2;simp only[oS] at e2;have hkid:vk w ks e k=[]:=by unfold vk;rw[ht];simp only[hth]
  refine⟨.sh .non,.inr ⟨_,rfl⟩,?_⟩;rw[hkid,List.append_nil];unfold rY kB;open_line with[i1,hti,hix,e2]
 |some b =>
  rw[hth] at e2;simp only[oS] at e2;have hkid:vk w ks e k=if b∉e.seen/\k∉ks then[⟨e.y++[k],e.seen,b⟩] else[]:=by unfold vk;rw[ht];simp only[hth]
  refine⟨.sh (.str b),.inr ⟨_,rfl⟩,?_⟩;have hks:aU ks=.lst (ks.map λ(k:Nat)=>D.int (k:Int)):=rfl;rw[hkid]
  by_cases h3:b∈e.seen
  .rw[if_neg (λz=>z.1 h3),List.append_nil]
   unfold rY kB;open_line with[i1,hti,hix,e2,ia,decide_eq_true h3]
  .by_cases h4:k∈ks
   .rw[if_neg (λz=>z.2 h4),List.append_nil]
    unfold rY kB;rw[hks];open_line with[i1,hti,hix,e2,ia,decide_eq_false h3,notIn_nums,decide_eq_true h4]
   .rw[if_pos ⟨h3,h4⟩]
    have hl1:decide ((bJ e.y).length+1<=1000)=true:=decide_eq_true (by rw[C4,B.ln];omega);have hl2:decide ((e.seen.map D.str).length+1<=1000)=true:=decide_eq_true (by rw[List.length_map];unfold f9.seen;rw[List.length_append];show e.s.length+1+1<=1000;omega);have a1:cb (.lst (bJ e.y)) (.lst [.int (k:Int)])=.ok (.lst (bJ (e.y++[k]))):=by rw[gq hl1,Bg]
    have a2:cb (.lst (e.seen.map D.str)) (.lst [.str b])=.ok (.lst ((e.seen++[b]).map D.str)):=by rw[gq hl2,List.map_append];rfl
    have hm:(S++[(⟨e.y++[k],e.seen,b⟩:f9)]).map oo=S.map oo++[.tup [.lst (bJ (e.y++[k])),.lst ((e.seen++[b]).map D.str)]]:=by rw[List.map_append];rfl
    have hSl:(S.map oo).length<line:=by rw[List.length_map];exact hS
    unfold rY kB;rw[hks,hm];open_line with[i1,hti,hix,e2,ia,decide_eq_false h3,notIn_nums,decide_eq_false h4,a1,a2,AE hSl]
theorem Bn{w:cq}(W:bT w){ks:List Nat}{e:f9}(B:j9 w ks e){S:List f9}{F:List (List Nat)}(hS:S.length+14<line){x6 x7:Sl}(h7:x7=.no∨∃d,x7=.sh d) :
  ∃y6 y7,(y7=.no∨∃d,y7=.sh d)/\bM (bw 6) kB (DL.intsFrom 0 w.ts.length) (rY w ks S F (.sh (.lst (bJ e.y))) (.sh (.lst (e.seen.map D.str))) x6 x7)=.ok (.nx (rY w ks (S++fZ w ks e w.ts.length) F (.sh (.lst (bJ e.y))) (.sh (.lst (e.seen.map D.str))) y6 y7)):=by
 have t14:=W.t14;obtain⟨ρ',h1,y6,y7,rfl,h2⟩:=uR (i:=6) (body:=kB) (n:=w.ts.length)
  (λk ρ=>∃y6 y7,ρ=rY w ks (S++fZ w ks e k) F (.sh (.lst (bJ e.y))) (.sh (.lst (e.seen.map D.str))) y6 y7/\(y7=.no∨∃d,y7=.sh d)) (by
   rintro k hk ρ ⟨y6,y7,rfl,h7⟩;obtain⟨y,hy,e1⟩:=Dq W B (S:=S++fZ w ks e k) (F:=F) (by
    have:=uN (w:=w) (ks:=ks) (e:=e) k;rw[List.length_append];omega) hk h7
   refine⟨_,e1,.sh (.int (k:Int)),y,?_,hy⟩;rw[show fZ w ks e (k+1)=fZ w ks e k++vk w ks e k from rfl,←List.append_assoc])
  (ρ:=rY w ks S F (.sh (.lst (bJ e.y))) (.sh (.lst (e.seen.map D.str))) x6 x7) ⟨x6,x7,by rw[show fZ w ks e 0=[] from rfl,List.append_nil],h7⟩
 exact⟨y6,y7,h2,h1⟩
theorem IK{is:List Nat}{i:Nat}{ρ:Ev}{ds:List D}{d:D}{es:List D}(h:ρ[i]?=some (.ow (.lst (ds++[d]))))(hp:fq is.length d=some es):gU is i ρ=.ok (.nx (d4 (ρ.set i (.ow (.lst ds))) is es)):=by
 unfold gU;rw[h];show oy is i ρ (ds++[d])=_;unfold oy;rw[List.getLast?_concat];simp only;rw[hp];simp only;rw[List.dropLast_concat]
theorem B8{w:cq}(W:bT w){ks:List Nat}{e:f9}(B:j9 w ks e){S:List f9}{F:List (List Nat)}(hS:S.length+14<line)(hF:F.length<line){x4 x5 x6 x7:Sl}(h7:x7=.no∨∃d,x7=.sh d) :
  ∃y4 y5 y6 y7,(y7=.no∨∃d,y7=.sh d)/\wB (rY w ks (S++[e]) F x4 x5 x6 x7)=.ok (.nx (rY w ks (S++if e.z=w.la then[] else fZ w ks e w.ts.length) (F++if e.z=w.la then[e.y] else[]) y4 y5 y6 y7)):=by
 have t14:=W.t14;have hm:(S++[e]).map oo=S.map oo++[oo e]:=by rw[List.map_append];rfl
 have hpop:gU [4,5] 2 (rY w ks (S++[e]) F x4 x5 x6 x7)=.ok (.nx (rY w ks S F (.sh (.lst (bJ e.y))) (.sh (.lst (e.seen.map D.str))) x6 x7)):=by
  rw[IK (ds:=S.map oo) (d:=oo e) (es:=[.lst (bJ e.y),.lst (e.seen.map D.str)]) (by rw[←hm];rfl) rfl];rfl
 have hix:aN (.lst (e.seen.map D.str)) (.int (-1))=.ok (.str e.z):=oE;have i1:aN (aS w) (.int 1)=.ok (.lst (w.ts.map bL)):=rfl;have i3:aN (aS w) (.int 3)=.ok (.str w.la):=rfl
 by_cases hz:e.z=w.la
 .simp only[if_pos hz]
  refine⟨.sh (.lst (bJ e.y)),.sh (.lst (e.seen.map D.str)),x6,x7,h7,?_⟩;have hFl:(F.map λp=>D.lst (bJ p)).length<line:=by rw[List.length_map];exact hF
  unfold wB;rw[kn,hpop];unfold rY;rw[List.append_nil,List.map_append];open_line with[hix,i3,c9,decide_eq_true hz,AE hFl]
 .simp only[if_neg hz]
  obtain⟨y6,y7,hy,hl⟩:=Bn W B hS (F:=F) (x6:=x6) h7;refine⟨.sh (.lst (bJ e.y)),.sh (.lst (e.seen.map D.str)),y6,y7,hy,?_⟩;have hlen:dE (.lst (w.ts.map bL))=.ok (.int w.ts.length):=by rw[dB,List.length_map]
  have hR:∀ρ,zW (bw 6) kB ρ (.int (w.ts.length:Int))=bM (bw 6) kB (DL.intsFrom 0 w.ts.length) ρ:=λρ=>iX (by omega);unfold wB;rw[kn,hpop,List.append_nil];unfold rY at hl ⊢;open_line with[hix,i1,i3,c9,decide_eq_false hz,hlen,hR,hl]
open K11 (bJ ways pr there oS there_ok notIn_nums c9 oE)
open K51 (Bd pl)
noncomputable def Pl(x:Sl):Prop:=x=.no∨∃d,x=.sh d
noncomputable abbrev wT:Ev->aj D:=aa (ae 2) (au aE cu) jE
theorem yo{p q:Nat}{e:f9}:mu p q [e]=T q (p-(e.s.length+1)):=by simp [mu]
section
variable {w:cq}(W:bT w) (p6:w.ps.length<=6) (t10:w.ts.length<=10) {ks:List Nat}
include W p6 t10
theorem mN:∀(f:Nat) (S:List f9) (F:List (List Nat)) (x4 x5 x6 x7:Sl),(∀e∈S,j9 w ks e)->(∀y∈F,eu w ks w.fi y w.la/\y.length<=6)->mu 6 10 S<f->mu 6 10 S+F.length<=111111->Pl x7 ->
  ∃F' y4 y5 y6 y7,b7 wT wB f (rY w ks S F x4 x5 x6 x7)=.ok (.nx (rY w ks [] F' y4 y5 y6 y7))/\(∀y∈F',eu w ks w.fi y w.la/\y.length<=6)/\F'.length<=111111/\(∀y∈F,y∈F')/\∀e∈S,∀y,EC w ks e y->y∈F'
 |0,S,F,x4,x5,x6,x7,_,_,h,_,_=>by omega
 |f+1,S,F,x4,x5,x6,x7,hS,hF,hm,hn,h7=>by
  have L:111111+14<line:=by decide
  rcases List.eq_nil_or_concat S with rfl|⟨S0,e,rfl⟩
  .refine⟨F,x4,x5,x6,x7,?_,hF,by omega,λ_ h=>h,λe he=>by cases he⟩
   have h1:wT (fX (rY w ks [] F x4 x5 x6 x7))=.ok (.bl false):=rfl;rw[mM h1]
  .rw[List.concat_eq_append] at *
   have B:=hS e (List.mem_append_right _ (List.mem_singleton.mpr rfl));have h0:∀d∈S0,j9 w ks d:=λd hd=>hS d (List.mem_append_left _ hd);rw[yp,yo] at hm hn;have hlen:=Dc (p:=6) (q:=10) (S:=S0);have hT:=Ep (q:=10) (6-(e.s.length+1));have hk:=FD W B p6 t10;have hbl:=B.len;obtain⟨y4,y5,y6,y7,hy,ht⟩:=B8 W B (S:=S0) (F:=F) (by omega) (by omega) (x4:=x4) (x5:=x5) (x6:=x6) h7;have h1:wT (fX (rY w ks (S0++[e]) F x4 x5 x6 x7))=.ok (.bl true):=by
    have:wT (fX (rY w ks (S0++[e]) F x4 x5 x6 x7))=jE (.lst ((S0++[e]).map oo)) (.lst []):=rfl;rw[this];exact Im (by simp) Cm
   rw[oY h1 ht]
   by_cases hz:e.z=w.la
   .simp only[if_pos hz] at ht ⊢
    rw[List.append_nil];obtain⟨F',z4,z5,z6,z7,r1,r2,r3,r4,r5⟩:=mN f S0 (F++[e.y]) y4 y5 y6 y7 h0 (λy hy=>by
     rcases List.mem_append.mp hy with hy|hy
     .exact hF y hy
     .rw[List.mem_singleton.mp hy,←hz]
      exact⟨B.wk,by rw[B.ln];omega⟩) (by omega) (by rw[List.length_append,List.length_singleton];omega) hy
    refine⟨F',z4,z5,z6,z7,r1,r2,r3,λy hy=>r4 y (List.mem_append_left _ hy),λd hd y hx=>?_⟩;rcases List.mem_append.mp hd with hd|hd
    .exact r5 d hd y hx
    .rw[List.mem_singleton.mp hd] at hx
     rw[IJ hx hz];exact r4 _ (List.mem_append_right _ (List.mem_singleton.mpr rfl))
   .simp only[if_neg hz] at ht ⊢
    rw[List.append_nil];obtain⟨F',z4,z5,z6,z7,r1,r2,r3,r4,r5⟩:=mN f (S0++fZ w ks e w.ts.length) F y4 y5 y6 y7 (λd hd=>by
     rcases List.mem_append.mp hd with hd|hd
     .exact h0 d hd
     .obtain⟨n,_,hdn⟩:=iS.mp hd
      exact(yy W B hdn).1) hF (by rw[yp];omega) (by rw[yp];omega) hy
    refine⟨F',z4,z5,z6,z7,r1,r2,r3,r4,λd hd y hx=>?_⟩;rcases List.mem_append.mp hd with hd|hd
    .exact r5 d (List.mem_append_left _ hd) y hx
    .rw[List.mem_singleton.mp hd] at hx
     obtain⟨c,hc,hx⟩:=FW W hx hz;exact r5 c (List.mem_append_right _ hc) y hx
theorem EM:∃F:List (List Nat),cx [aS w,aU ks]=.ok (.lst (F.map λy=>.lst (bJ y)))/\(∀y∈F,eu w ks w.fi y w.la/\y.length<=6)/\F.length<=111111/\∀y,EC w ks ⟨[],[],w.fi⟩ y->y∈F:=by
 obtain⟨F,y4,y5,y6,y7,h1,h2,h3,h4,h5⟩:=mN W p6 t10 (ks:=ks) 111112 [⟨[],[],w.fi⟩] [] .no .no .no .no (λe he=>by
  rw[List.mem_singleton.mp he];exact⟨.nil,by simp [f9.seen],λp hp=>by
   have:p=w.fi:=by simpa [f9.seen] using hp
   rw[this];exact W.fi,rfl⟩) (λy hy=>by cases hy) (by rw[yo];show T 10 5<111112;decide) (by rw[yo];show T 10 5+0<=111111;decide) (.inl rfl)
 refine⟨F,?_,h2,h3,λy hy=>h5 _ (List.mem_singleton.mpr rfl) y hy⟩;have i2:aN (aS w) (.int 2)=.ok (.str w.fi):=rfl;have hw:∀(c:Ev->aj D) (s:Ev->aj Fl) (ρ:Ev),fI (λ_=>111112) c s ρ=b7 c s 111112 ρ:=λ_ _ _=>rfl;have hS:[(⟨[],[],w.fi⟩:f9)].map oo=[.tup [.lst [],.lst [.str w.fi]]]:=rfl;unfold rY at h1;rw[hS] at h1;have h1:b7 wT wB 111112 [.sh (aS w),.sh (aU ks),.ow (.lst [.tup [.lst [],.lst [.str w.fi]]]),.ow (.lst []),.no,.no,.no,.no]=.ok (.nx [.sh (aS w),.sh (aU ks),.ow (.lst []),.ow (.lst (F.map λp=>.lst (bJ p))),y4,y5,y6,y7]):=h1;unfold wT wB kB at h1;open_line with[cx,iH,i2,hw,h1]
end
theorem yg{x y:cw}(hx:0<x.2)(hy:0<y.2):Low (pl x y):=dz (Int.mul_pos hx hy)
theorem nh{w:cq}{n:Nat}{y:List Nat}:cM w (n::y)=val (K12.lenAt w n)+cM w y:=by
 unfold cM;rw[List.map_cons,List.sum_cons]
theorem sV{w:cq}(W:bT w){d:D}:∀(y:List Nat) (x:cw) (m:Nat) (x3:Sl),(∀n∈y,n<w.ts.length)->Low x->Bd x m->m+201*y.length<=5000 ->
  ∃x' y3,bM (bw 3) (aw (bG 2 (au (ai (ae 2) (ai (aa (aa (aa (ae 0) (dC (.int 1)) aN) (ae 3) aN) (dC (.int 3)) aN) aE)) bB)) ar) (bJ y) [.sh (aS w),.sh d,.sh (fr x),x3]=.ok (.nx [.sh (aS w),.sh d,.sh (fr x'),y3])/\Low x'/\Bd x' (m+201*y.length)/\val x'=val x+cM w y
 |[],x,m,x3,_,hx,hb,_=>⟨x,x3,rfl,hx,hb,by simp [cM];grind⟩
 |n::y,x,m,x3,hy,hx,hb,hm=>by
  rw[List.length_cons] at hm;have hn:=hy n List.mem_cons_self;have ht:w.ts[n]?=some w.ts[n]:=List.getElem?_eq_getElem hn;have TT:=W.ts _ (List.mem_of_getElem? ht);have hl:=p8 TT.l;have hp:bB [fr x,fr w.ts[n].l]=.ok (fr (pl x w.ts[n].l)):=K51.lplus_bd hb hl (by omega);have hb':Bd (pl x w.ts[n].l) (m+201):=by
   have:=K51.un_bd hb hl;exact K51.low_bd this.q0 this.a this.b
  obtain⟨x',y3,e,h1,h2,h3⟩:=sV W (d:=d) y (pl x w.ts[n].l) (m+201) (.sh (.int (n:Int))) (λk hk=>hy k (List.mem_cons_of_mem _ hk)) (yg hb.q0 hl.q0) hb' (by omega);refine⟨x',y3,?_,h1,?_,?_⟩
  .have i1:aN (aS w) (.int 1)=.ok (.lst (w.ts.map bL)):=rfl
   have hti:=mR ht;have h3:aN (bL w.ts[n]) (.int 3)=.ok (fr w.ts[n].l):=rfl;show bM _ _ (.int (n:Int)::bJ y) _=_;rw[c3 (ρ1:=[.sh (aS w),.sh d,.sh (fr x),.sh (.int (n:Int))]) (ρ2:=[.sh (aS w),.sh d,.sh (fr (pl x w.ts[n].l)),.sh (.int (n:Int))]) rfl,e];open_line with[i1,hti,h3,hp]
  .rw[List.length_cons,show m+201*(y.length+1)=m+201+201*y.length by omega];exact h2
  .rw[h3,uq hb.q0 hl.q0,nh,K12.lenAt_of ht];grind
theorem FL{w:cq}(W:bT w){y:List Nat}(hy:∀n∈y,n<w.ts.length)(hl:y.length<=6):∃x,cA [aS w,.lst (bJ y)]=.ok (fr x)/\Low x/\Bd x 2000/\val x=cM w y:=by
 have h0:Bd (0,1) 1:=⟨by decide,by decide,by decide⟩
 obtain⟨x,y3,e,h1,h2,h3⟩:=sV W (d:=.lst (bJ y)) y (0,1) 1 .no hy ⟨by decide,by decide⟩ h0 (by omega);have e:bM (bw 3) (aw (bG 2 (au (ai (ae 2) (ai (aa (aa (aa (ae 0) (dC (.int 1)) aN) (ae 3) aN) (dC (.int 3)) aN) aE)) bB)) ar) (bJ y) [.sh (aS w),.sh (.lst (bJ y)),.sh (.tup [.int 0,.int 1]),.no]=_:=e;refine⟨x,?_,h1,⟨h2.q0,Nat.lt_of_lt_of_le h2.a (Nat.pow_le_pow_right (by decide) (by omega)),Nat.lt_of_lt_of_le h2.b (Nat.pow_le_pow_right (by decide) (by omega))⟩,?_⟩
 .open_line with[cA,nU,e]
 .rw[h3]
  have:val (0,1)=0:=by unfold val;grind
  rw[this];grind
open K51 (Bd pl)
theorem B6{x:cw}(h0:0<=x.1)(hq:0<x.2):0<=val x:=by
 refine Rat.not_lt.mp λh=>?_;have h2:val x<val (0,1):=by
  have:val (0,1)=0:=by unfold val;grind
  rw[this];exact h
 have:=eF (x:=x) (y:=(0,1)) hq (by decide);rw[decide_eq_true h2] at this;have:x.1*1<0*x.2:=by
  unfold flt at this;simpa using this
 omega
theorem pR{w:cq}(W:bT w)(n:Nat):0<=val (K12.lenAt w n):=by
 unfold K12.lenAt;cases h:w.ts[n]? with
 |none=>exact B6 (by decide) (by decide)
 |some t =>
  have T:=W.ts t (List.mem_of_getElem? h);exact B6 T.l0 (p8 T.l).q0
theorem pQ{w:cq}{a b:List Nat}:cM w (a++b)=cM w a+cM w b:=by
 unfold cM;rw[List.map_append,List.sum_append]
theorem zH{w:cq}(W:bT w):∀y:List Nat,0<=cM w y
 |[]=>by simp [cM]
 |n::y=>by
  have h1:=pR W n;have h2:=zH W y;rw[nh];grind
theorem B3{w:cq}{ks:List Nat}{a b c:Str}{p q:List Nat}(h:eu w ks a p b)(g:eu w ks b q c):eu w ks a (p++q) c:=by
 induction g with|nil=>rw[List.append_nil];exact h|snoc g1 g2 ih=>rw[←List.append_assoc];exact .snoc ih g2
theorem mO{w:cq}{ks:List Nat}{a c:Str}{y:List Nat}(h:eu w ks a y c):(y=[]/\a=c)∨∃n r b,y=n::r/\Et w ks n a b/\eu w ks b r c:=by
 induction h with
 |nil=>exact .inl ⟨rfl,rfl⟩
 |snoc h1 h2 ih =>
  rcases ih with⟨rfl,rfl⟩|⟨n,r,b,rfl,g,h⟩
  .exact .inr ⟨_,[],_,rfl,h2,.nil⟩
  .exact .inr ⟨n,_,b,rfl,g,.snoc h h2⟩
section
variable {w:cq}(W:bT w) {ks:List Nat}
include W
theorem Ge:∀(b:List Nat) (e:f9),eu w ks w.fi e.y e.z->(∀z∈e.seen,∃a,eu w ks w.fi a z/\a.length<=e.y.length/\cM w a<=cM w e.y)->eu w ks e.z b w.la ->
  (∃y,EC w ks e y/\cM w y<=cM w (e.y++b))∨∃y,eu w ks w.fi y w.la/\y.length<e.y.length+b.length/\cM w y<=cM w (e.y++b):=by
 intro b
 induction b with
 |nil =>
  intro e h1 h2 h3;rcases mO h3 with⟨_,h⟩|⟨n,r,c,h,_⟩
  .refine .inl ⟨e.y,.here h,?_⟩
   rw[List.append_nil];grind
  .cases h
 |cons n r ih =>
  intro e h1 h2 h3
  by_cases hz:e.z=w.la
  .refine .inl ⟨e.y,.here hz,?_⟩
   have:=zH W (n::r);rw[pQ];grind
  .rcases mO h3 with⟨h,_⟩|⟨n',r',c,h,g,hw⟩
   .cases h
   .cases h
    by_cases hc:c∈e.seen
    .obtain⟨a,a1,a2,a3⟩:=h2 c hc
     refine .inr ⟨a++r,B3 a1 hw,?_,?_⟩
     .rw[List.length_append,List.length_cons];omega
     .have:=pR W n
      rw[pQ,pQ,nh];grind
    .have hl:cM w (e.y++[n])=cM w e.y+val (K12.lenAt w n):=sW
     have hn:=pR W n;have he:e.y++[n]++r=e.y++n::r:=by simp
     rcases ih ⟨e.y++[n],e.seen,c⟩ (.snoc h1 g) (λz hz=>by
      have hz:z∈e.seen++[c]:=hz;rcases List.mem_append.mp hz with hz|hz
      .obtain⟨a,a1,a2,a3⟩:=h2 z hz
       refine⟨a,a1,?_,?_⟩
       .show _<=(e.y++[n]).length
        rw[List.length_append];omega
       .show _<=cM w (e.y++[n])
        rw[hl];grind
      .rw[List.mem_singleton.mp hz]
       exact⟨e.y++[n],.snoc h1 g,Nat.le_refl _,by show _<=cM w (e.y++[n]);grind⟩) hw with⟨y,y1,y2⟩|⟨y,y1,y2,y3⟩
     .exact .inl ⟨y,.step hz g hc y1,by rw[←he];exact y2⟩
     .refine .inr ⟨y,y1,?_,by rw[←he];exact y3⟩
      have y2:y.length<(e.y++[n]).length+r.length:=y2;rw[List.length_append,List.length_singleton] at y2;rw[List.length_cons];omega
theorem cut:∀(m:Nat) (y:List Nat),y.length<=m->eu w ks w.fi y w.la->∃y',EC w ks ⟨[],[],w.fi⟩ y'/\cM w y'<=cM w y:=by
 intro m
 induction m with
 |zero =>
  intro y hy h;have:y=[]:=List.length_eq_zero_iff.mp (by omega);subst this;rcases mO h with⟨_,h⟩|⟨n,r,c,h,_⟩
  .exact absurd h W.ne
  .cases h
 |succ m ih =>
  intro y hy h;rcases Ge W y ⟨[],[],w.fi⟩ .nil (λz hz=>by
   have:z=w.fi:=by simpa [f9.seen] using hz
   rw[this];exact⟨[],.nil,Nat.le_refl _,by grind⟩) h with⟨y',h1,h2⟩|⟨y',h1,h2,h3⟩
  .exact⟨y',h1,h2⟩
  .have h2:y'.length<0+y.length:=h2
   have h3:cM w y'<=cM w y:=h3;obtain⟨y2,g1,g2⟩:=ih y' (by omega) h1;exact⟨y2,g1,by grind⟩
end
open K51 (Bd pl)
open K11 (bJ)
theorem Kv{x y:cw}:jE (fr x) (fr y)=.ok (.bl (!(decide (x=y)))):=by
 have h:=Vlx.eq_fr (x:=x) (y:=y);have h1:iD (fr x) (fr y)=.ok (.bl (cC (fr x) (fr y))):=if_pos ⟨rfl,rfl⟩;have h2:jE (fr x) (fr y)=.ok (.bl (!(cC (fr x) (fr y)))):=if_pos ⟨rfl,rfl⟩;rw[h1] at h;injection h with h;injection h with h;rw[h2,h]
theorem FN{o o':Option cw}{l:cw}(hl:fW l)(ho:∀x,o=some x->ue x)(ho':∀x,o'=some x->ue x):∃b,K17.m_is_let [aM o,fr l,aM o']=.ok (.bl b)/\(b=true->∀x,o=some x->∃y,o'=some y/\val y<=val x+val l):=by
 by_cases h:∀x,o=some x->∃y,o'=some y/\val y<=val x+val l
 .exact⟨true,Dl hl ho ho' h,λ_=>h⟩
 .refine⟨false,?_,λh=>by cases h⟩
  show K51.m_is_let [aM o,fr l,aM o']=_;cases o with
  |none=>exact absurd (λx hx=>by cases hx) h
  |some x =>
   have px:=ho x rfl;have hn:gz (aM (some x)) .non=.ok (.bl false):=rfl;cases o' with
   |none =>
    have hn':cU (aM none) .non=.ok (.bl false):=rfl;open_line with[K51.m_is_let,K51.b_is_let,hn,hn']
   |some y =>
    have py:=ho' y rfl;have bl:=p8 hl;have hp:=K51.plus_bd px.b bl (by decide);have hle:=K51.less_bd (K51.pl_bd px.b bl) py.b (by decide) (by decide);have hf:flt (pl x l) y=true:=by
     rw[eF (K51.pl_bd px.b bl).q0 py.q,uq px.q bl.q0];refine decide_eq_true (Rat.not_le.mp λz=>h λx' hx=>?_);cases hx;exact⟨y,rfl,z⟩
    rw[hf] at hle;have hn':cU (aM (some y)) .non=.ok (.bl true):=rfl;have e1:aM (some x)=fr x:=rfl;have e2:aM (some y)=fr y:=rfl;rw[e1] at hn;rw[e2] at hn';rw[e1,e2];have hp:K51.m_plus [fr x,fr l]=.ok (fr (pl x l)):=hp;have hle:K51.m_is_less [fr (pl x l),fr y]=.ok (.bl true):=hle;open_line with[K51.m_is_let,K51.b_is_let,hn,hn',hp,hle]
noncomputable abbrev JE:Ev->aj Fl:=aw (dW (cI (au (ai (aa (ae 2) (ae 4) bV) (ai (aa (aa (aa (ae 0) (dC (.int 1)) aN) (ae 3) aN) (dC (.int 3)) aN) (ai (aa (ae 2) (ae 5) bV) aE))) K17.m_is_let))
 (aw (bP (dC (.bl false)))
 ar)
 ar)
 ar
section
variable {w:cq}(W:bT w) {ks:List Nat}(T:mF w ks) {q:Str->Option cw}(h:∀p∈w.ps,∀x,q p=some x->ue x)
include W T h
theorem Dk:∃b,K17.m_lets_prices [aS w,aU ks,qD w q]=.ok (.bl b)/\(b=true->q w.fi=some (0,1)/\∀s∈aX w ks,Lf w q s):=by
 have ht:K17.m_look_at_taking [aS w,aU ks]=.ok .non:=Com.taking_ok W T;have hj:=zK W h;have hs:K17.m_steps_left [aS w,aU ks]=.ok (.lst ((aX w ks).map fF)):=steps_ok W;have i0:aN (aS w) (.int 0)=.ok (.lst (w.ps.map D.str)):=rfl;have i1:aN (aS w) (.int 1)=.ok (.lst (w.ts.map bL)):=rfl;have i2:aN (aS w) (.int 2)=.ok (.str w.fi):=rfl;have hg:=jR (q:=q) W.fi
 by_cases h0:q w.fi=some (0,1)
 .rw[h0] at hg
  have hg:bV (qD w q) (.str w.fi)=.ok (.tup [.int 0,.int 1]):=hg;have hne:jE (.tup [.int 0,.int 1]) (.tup [.int 0,.int 1])=.ok (.bl false):=rfl;have loop:∀(ss:List kK),(∀s∈ss,s∈aX w ks)->∀x3 x4 x5:Sl,
    bM (fM [3,4,5]) JE (ss.map fF) [.sh (aS w),.sh (aU ks),.sh (qD w q),x3,x4,x5]=.ok (.rt (.bl false)) ∨
    (∃y3 y4 y5,bM (fM [3,4,5]) JE (ss.map fF) [.sh (aS w),.sh (aU ks),.sh (qD w q),x3,x4,x5]=.ok (.nx [.sh (aS w),.sh (aU ks),.sh (qD w q),y3,y4,y5]))/\∀s∈ss,Lf w q s:=by
   intro ss
   induction ss with
   |nil=>intro _ x3 x4 x5;exact .inr ⟨⟨x3,x4,x5,rfl⟩,λs hs=>by cases hs⟩
   |cons s ss ih =>
    intro hm x3 x4 x5;have hs:=hm s List.mem_cons_self;obtain⟨t,t1,t2,t3⟩:=cP.mp hs;have TT:=W.ts t (List.mem_of_getElem? t1);obtain⟨wa,wb,_⟩:=ou TT t3;have h1:=mR t1;have h3:aN (bL t) (.int 3)=.ok (fr t.l):=rfl;obtain⟨b,hlet,hb⟩:=FN TT.l (h s.a wa) (h s.b wb);cases b with
    |false =>
     refine .inl ?_;rw[List.map_cons,FR (ρ1:=[.sh (aS w),.sh (aU ks),.sh (qD w q),.sh (.int (s.n:Int)),.sh (.str s.a),.sh (.str s.b)]) (v:=.bl false) rfl];open_line with[i1,h1,h3,jR wa,jR wb,hlet]
    |true =>
     have step:bM (fM [3,4,5]) JE ((s::ss).map fF) [.sh (aS w),.sh (aU ks),.sh (qD w q),x3,x4,x5]=bM (fM [3,4,5]) JE (ss.map fF) [.sh (aS w),.sh (aU ks),.sh (qD w q),.sh (.int (s.n:Int)),.sh (.str s.a),.sh (.str s.b)]:=by
      rw[List.map_cons,c3 (ρ1:=[.sh (aS w),.sh (aU ks),.sh (qD w q),.sh (.int (s.n:Int)),.sh (.str s.a),.sh (.str s.b)]) (ρ2:=[.sh (aS w),.sh (aU ks),.sh (qD w q),.sh (.int (s.n:Int)),.sh (.str s.a),.sh (.str s.b)]) rfl];open_line with[i1,h1,h3,jR wa,jR wb,hlet]
     rw[step];rcases ih (λu hu=>hm u (List.mem_cons_of_mem _ hu)) (.sh (.int (s.n:Int))) (.sh (.str s.a)) (.sh (.str s.b)) with e|⟨e,hl⟩
     .exact .inl e
     .refine .inr ⟨e,λu hu=>?_⟩
      rcases List.mem_cons.mp hu with rfl|hu
      .intro x hx t' ht'
       rw[t1] at ht';cases ht';exact hb rfl x hx
      .exact hl u hu
  rcases loop (aX w ks) (λ_ h=>h) .no .no .no with e|⟨⟨y3,y4,y5,e⟩,hl⟩
  .refine⟨false,?_,λh=>by cases h⟩
   unfold JE at e;open_line with[K17.m_lets_prices,K17.b_lets_prices,ht,i0,hj,i2,hg,hne,hs,e]
  .refine⟨true,?_,λ_=>⟨h0,hl⟩⟩
   unfold JE at e;open_line with[K17.m_lets_prices,K17.b_lets_prices,ht,i0,hj,i2,hg,hne,hs,e]
 .refine⟨false,?_,λh=>by cases h⟩
  have hne:jE (aM (q w.fi)) (.tup [.int 0,.int 1])=.ok (.bl true):=by
   cases hq:q w.fi with
   |none=>rfl
   |some x =>
    have:=Kv (x:=x) (y:=(0,1));rw[decide_eq_false (λz=>h0 (by rw[hq,z]))] at this;exact this
  open_line with[K17.m_lets_prices,K17.b_lets_prices,ht,i0,hj,i2,hg,hne]
end
theorem vp{w:cq}{ks:List Nat}{q:Str->Option cw}(h0:q w.fi=some (0,1))(hl:∀s∈aX w ks,Lf w q s){y:List Nat}{b:Str}(g:eu w ks w.fi y b):∃x,q b=some x/\val x<=cM w y:=by
 induction g with
 |nil =>
  refine⟨(0,1),h0,?_⟩;have:val (0,1)=0:=by unfold val;grind
  rw[this];simp [cM]
 |@snoc y b c n g1 g2 ih =>
  obtain⟨x,x1,x2⟩:=ih;obtain⟨t,t1,t2,t3⟩:=g2;obtain⟨z,z1,z2⟩:=hl ⟨n,b,c⟩ (cP.mpr ⟨t,t1,t2,t3⟩) x x1 t t1;refine⟨z,z1,?_⟩;rw[sW,K12.lenAt_of t1];grind
structure vi (w:cq) (ks:List Nat) (xs:List cw):Prop where
 n:xs.length<=111111
 s:∀x∈xs,Low x/\Bd x 2000/\∃y,eu w ks w.fi y w.la/\val x=cM w y
 c:∀y,eu w ks w.fi y w.la->∃x∈xs,val x<=cM w y
section
variable {w:cq}(W:bT w) {ks:List Nat}(T:mF w ks) {q:Str->Option cw}(h:∀p∈w.ps,∀x,q p=some x->ue x) {xs:List cw}(L:vi w ks xs)
include W T h L
theorem wG:b4 [aS w,aU ks,qD w q,.lst (xs.map fr)]=.ok (.bl true):=by
 obtain⟨b,hb,hB⟩:=Dk W T h;have hb:m_lets_prices [aS w,aU ks,qD w q]=.ok (.bl b):=hb;cases b with
 |false=>open_line with[b4,fz,hb]
 |true =>
  obtain⟨h0,hl⟩:=hB rfl;have i3:aN (aS w) (.int 3)=.ok (.str w.la):=rfl;have hg:=jR (q:=q) W.la;have he:iD (.lst []) (.lst [])=.ok (.bl true):=rfl;cases hq:q w.la with
  |none =>
   rw[hq] at hg;have hn:gz (aM none) .non=.ok (.bl true):=rfl;have:xs=[]:=by
    cases xs with
    |nil=>rfl
    |cons x r =>
     obtain⟨_,_,y,hy,_⟩:=L.s x List.mem_cons_self;obtain⟨z,z1,_⟩:=vp h0 hl hy;rw[hq] at z1;cases z1
   subst this;rw[List.map_nil];open_line with[b4,fz,hb,i3,hg,hn,he]
  |some x =>
   rw[hq] at hg;have hg:bV (qD w q) (.str w.la)=.ok (fr x):=hg;have hn:gz (fr x) .non=.ok (.bl false):=rfl;have hc:∀A B,fQ 1 [2,0] (bw 0) (au (ai (ae 0) (ai (aa (ae 1) (aa (ae 2) (dC (.int 3)) aN) bV) aE)) bh) (ae 0) [.sh (aS w),A,.sh (qD w q),B] (xs.map fr)=.ok (.lst []):=λA B=>by
    rw[K51.comp_pick (α:=cw) fr (λ_=>none) (L:=xs) (by have:=L.n;omega)]
    .rw[List.filterMap_eq_nil_iff.mpr λ_ _=>rfl]
    .intro u hu
     refine⟨[.sh (fr u),.sh (qD w q),.sh (aS w)],rfl,.inl ⟨rfl,?_⟩⟩;obtain⟨_,u2,y,hy,hv⟩:=L.s u hu;obtain⟨z,z1,z2⟩:=vp h0 hl hy;rw[hq] at z1;cases z1;have px:=h w.la W.la x hq;have hle:bh [fr u,fr x]=.ok (.bl (flt u x)):=K51.lless_bd u2 px.b (by decide) (by decide);have hf:flt u x=false:=by
      rw[eF u2.q0 px.q];exact decide_eq_false λc=>absurd c (Rat.not_lt.mpr (by rw[hv];exact z2))
     rw[hf] at hle;open_line with[i3,hg,hle]
   open_line with[b4,fz,hb,i3,hg,hn,ie,hc,he]
end
end K15
namespace K15
open PySem L2 DL Com Bor Pth Bfd
open K51 (Bd pl)
noncomputable def CB(i:Nat) (f k:Ev->List D->aj (D×List D)) (ρ:Ev) (st:List D) (s:Option Sl):aj df:=match s with
 |some (.ow (.dic ks ds))=>(f ρ st).bind λp=>(k ρ p.2).bind (gV i ρ ks ds p.1)
 |_=>.stuck
theorem An{i:Nat}{f k:Ev->List D->aj (D×List D)}{ρ:Ev}{st:List D}:sT i f k ρ st=CB i f k ρ st ρ[i]?:=by
 unfold sT CZ CB;rfl
noncomputable def GJ(i:Nat) (k:Ev->List D->aj (D×List D)) (ρ:Ev) (ks:List Str) (ds:List D) (p:D×List D):aj df:=(k ρ p.2).bind (gV i ρ ks ds p.1)
theorem xh{i:Nat}{f k:Ev->List D->aj (D×List D)}{ρ:Ev}{st:List D}{ks:List Str}{ds:List D}:CB i f k ρ st (some (.ow (.dic ks ds)))=(f ρ st).bind (GJ i k ρ ks ds):=aH rfl
theorem xg{i:Nat}{k:Ev->List D->aj (D×List D)}{ρ:Ev}{st:List D}{ks:List Str}{ds:List D}{d:D}:GJ i k ρ ks ds (d,st)=(k ρ st).bind (gV i ρ ks ds d):=aH rfl
theorem xf{i:Nat}{ρ:Ev}{st:List D}{ks:List Str}{ds:List D}{d:D}{x:Str}(h:decide (ks.length<=900)=true):gV i ρ ks ds d (.str x,st)=.ok (.nx (ρ.set i (.ow (jK ks ds x d))) st):=if_pos (Nat.lt_of_le_of_lt (of_decide_eq_true h) (by decide))
theorem vF{k:Str}{d e:D}:∀{ks:List Str}{ds:List D},k∉ks->ks.length=ds.length->pq (ks++[k]) (ds++[e]) k d=ds++[d]
 |[],[],_,_=>by simp [pq]
 |[],d::ds,_,h=>by simp at h
 |x::ks,[],_,h=>by simp at h
 |x::ks,c::ds,hk,h=>by
  have h1:x≠k:=λz=>hk (by rw[z];exact List.mem_cons_self);have h2:=vF (k:=k) (d:=d) (e:=e) (ks:=ks) (ds:=ds) (λz=>hk (List.mem_cons_of_mem _ z)) (by simpa using h);show pq (x::(ks++[k])) (c::(ds++[e])) k d=c::(ds++[d]);unfold pq;simp only[if_neg h1,h2]
noncomputable abbrev sB(a:Addr):Ev->List D->aj df :=
 (aW (cJ (iA 4 (dC (.non)) (ae 5)))
 (aW (cJ (dW (aa (ae 5) (ae 2) jN)
 (aw (iA 4 (au (ai (aa (aa (ae 2) (ae 5) bV) (dC (.int 0)) aN) (ai (aa (aa (aa (ae 2) (ae 5) bV) (dC (.int 1)) aN) (ae 3) b3) aE)) bI) (ae 5))
 ar)
 ar))
 (aW (sC (mB (bD 0 a (aQ (mP (dC (.int 5))) bU) aF) (mP (dC (.int 0))) iD)
 (aW (sT 4 (mB (mA (aQ (mP (dC (.non))) (aQ (bD 0 a (aQ (mP (dC (.int 0))) bU) b6) bU)) cu) (bD 0 a (aQ (mP (dC (.int 2))) bU) aF) aN) (mP (ae 5)))
 bg)
 bg)
 bg)))
theorem Gk{x:cw}(h:Lj x):ue x:=by
 have l:=h.lo;have q1:=l.q1;refine⟨h.lo,h.p0,by omega,?_,?_⟩
 .have h1:=h.p1
  have h0:=h.p0;exact Nat.lt_of_lt_of_le (show x.1.natAbs<2 ^ 60 by omega) (Nat.pow_le_pow_right (by decide) (by decide))
 .have h1:=h.q1
  exact Nat.lt_of_lt_of_le (show x.2.natAbs<2 ^ 60 by omega) (Nat.pow_le_pow_right (by decide) (by decide))
section
variable {w:cq}(W:bT w) (hw:∀t∈w.ts,gD t) {tk:List Nat}{S:BS}(K:dU w tk S)
include W hw K
theorem Bw{p:Str}(hp:p∈S.ks){c:Int}(hc:1<=c/\c<=3):∃x,bI [.int (cQ (S.Z p) (lB w)).1,.int ((cQ (S.Z p) (lB w)).2*c)]=.ok (fr x)/\ue x/\dG (cQ (S.Z p) (lB w)).2 c=true:=by
 obtain⟨z0,z1⟩:=um W hw K hp;obtain⟨b0,b1⟩:=Vlu.lB60 W hw;have hb:Bd (cQ (S.Z p) (lB w)) 130:=by
  refine K51.low_bd b0 ?_ ?_
  .have:(6:Int)*xK<2 ^ 130:=by unfold xK;decide
   omega
  .have:(60:Int) ^ 14<2 ^ 130:=by decide
   omega
 generalize hx:cQ (S.Z p) (lB w)=x at hb;have x0:0<=x.1:=by
  rw[←hx];unfold cQ;exact Int.ediv_nonneg z0 (by omega)
 have hq:=hb.q0;have a1:=hb.a;have a2:=hb.b;have hq2:0<x.2*c:=Int.mul_pos hq (by omega);have h2:(x.2*c).natAbs<2 ^ 132:=by
  rw[Int.natAbs_mul];have:c.natAbs<=3:=by omega
  calc x.2.natAbs*c.natAbs<=x.2.natAbs*3:=Nat.mul_le_mul_left _ this
   _<2 ^ 132:=by omega
 have hB:(2:Nat) ^ 132<nY:=by unfold nY;exact Nat.pow_lt_pow_right (by decide) (by decide)
 refine⟨cQ x.1 (x.2*c),Cod.low_ok hq2 (Nat.lt_of_lt_of_le a1 (Nat.le_trans (Nat.pow_le_pow_right (by decide) (by decide)) (Nat.le_of_lt hB))) (Nat.lt_trans h2 hB),⟨dz hq2,?_,K51.low_bd hq2 ?_ ?_⟩,?_⟩
 .unfold cQ
  exact Int.ediv_nonneg x0 (by omega)
 .exact Nat.lt_of_lt_of_le a1 (Nat.pow_le_pow_right (by decide) (by decide))
 .exact Nat.lt_of_lt_of_le h2 (Nat.pow_le_pow_right (by decide) (by decide))
 .exact d9 ((Bd.c60 hb (by decide)).2) (Nat.lt_of_le_of_lt (show c.natAbs<=(3:Int).natAbs by omega) (Bd.c60 (x:=(3,1)) (n:=3) ⟨by decide,by decide,by decide⟩ (by decide)).1)
theorem AZ(a:Addr){done:List Str}{ds:List D}{p:Str}(hp:p∉done)(hl:done.length<=7)(hd:done.length=ds.length){c:Int}(hc:1<=c/\c<=3){st:List D}(S0:St st) :
  ∃o st',(∀x,o=some x->ue x)/\St st'/\sB a [.pt a,.sh (aS w),.sh (dD w S),.sh (.int c),.ow (.dic done ds),.sh (.str p)] st=.ok (.nx [.pt a,.sh (aS w),.sh (dD w S),.sh (.int c),.ow (.dic (done++[p]) (ds++[aM o])),.sh (.str p)] st'):=by
 have h9:decide (done.length<=900)=true:=decide_eq_true (by omega);have h9':decide ((done++[p]).length<=900)=true:=decide_eq_true (by rw[List.length_append];simp;omega);have hput:∀d,jK done ds p d=.dic (done++[p]) (ds++[d]):=λd=>by unfold jK;rw[if_neg hp]
 have hput2:∀e d,jK (done++[p]) (ds++[e]) p d=.dic (done++[p]) (ds++[d]):=λe d=>by
  unfold jK;rw[if_pos (List.mem_append_right _ (List.mem_singleton.mpr rfl)),vF hp hd]
 have hin:=D9 (w:=w) (S:=S) (p:=p);obtain⟨g,st1,t1,g0,g1,S1⟩:=bN a (n:=5) (by decide) (by decide) S0;obtain⟨x,st2,t2,_,_,_,hx,S2⟩:=kG a (l:=0) (.inl rfl) S1;obtain⟨u,st3,t3,u0,u1,S3⟩:=bN a (n:=2) (by decide) (by decide) S2;have px:=Gk hx;have hu:∃o,(o=none∨o=some x)/\aN (.lst [.non,fr x]) (.int u)=.ok (aM o):=by
  have:u=0∨u=1:=by omega
  rcases this with rfl|rfl
  .exact⟨none,.inl rfl,rfl⟩
  .exact⟨some x,.inr rfl,rfl⟩
 obtain⟨o,ho,hu⟩:=hu;have hO:∀y,o=some y->ue y:=λy hy=>by
  rcases ho with rfl|rfl
  .cases hy
  .cases hy;exact px
 by_cases hk:p∈S.ks
 .rw[decide_eq_true hk] at hin
  obtain⟨z,z1,z2,z3⟩:=Bw W hw K hk hc;have hget:=u5 (w:=w) hk;have j0:aN (fr (cQ (S.Z p) (lB w))) (.int 0)=.ok (.int (cQ (S.Z p) (lB w)).1):=rfl;have j1:aN (fr (cQ (S.Z p) (lB w))) (.int 1)=.ok (.int (cQ (S.Z p) (lB w)).2):=rfl;have hm:=cm z3;cases hg:(g==0) with
  |true =>
   refine⟨o,st3,hO,S3,?_⟩;open_line with[ij,gr,fv,ee h9,ee h9',hin,hput,hput2,hget,j0,j1,hm,z1,t1,hg,An,xh,xg,xf h9',t2,t3,hu]
  |false =>
   refine⟨some z,st1,(λy hy=>by cases hy;exact z2),S1,?_⟩;have hw1:aM (some z)=fr z:=rfl;rw[hw1];open_line with[ij,gr,fv,ee h9,ee h9',hin,hput,hput2,hget,j0,j1,hm,z1,t1,hg]
 .rw[decide_eq_false hk] at hin
  cases hg:(g==0) with
  |true =>
   refine⟨o,st3,hO,S3,?_⟩;open_line with[ij,gr,fv,ee h9,hin,hput,hput2,t1,hg,An,xh,xg,xf h9',t2,t3,hu]
  |false =>
   refine⟨none,st1,(λy hy=>by cases hy),S1,?_⟩;have hw1:aM none=.non:=rfl;rw[hw1];open_line with[ij,gr,fv,ee h9,hin,hput,hput2,t1,hg]
theorem sO(a:Addr){c:Int}(hc:1<=c/\c<=3):∀(rest done:List Str) (q:Str->Option cw) (x5:Sl) (st:List D),(done++rest).Nodup->(done++rest).length<=7->(∀p∈done,∀x,q p=some x->ue x)->St st ->
  ∃(q':Str->Option cw) (y5:Sl) (st':List D),(∀p∈done++rest,∀x,q' p=some x->ue x)/\St st'/\DL.forM (bw 5) (sB a) (rest.map D.str) [.pt a,.sh (aS w),.sh (dD w S),.sh (.int c),.ow (.dic done (done.map λp=>aM (q p))),x5] st=.ok (.nx [.pt a,.sh (aS w),.sh (dD w S),.sh (.int c),.ow (.dic (done++rest) ((done++rest).map λp=>aM (q' p))),y5] st')
 |[],done,q,x5,st,_,_,hq,S0=>⟨q,x5,st,by rw[List.append_nil];exact hq,S0,by rw[List.append_nil];rfl⟩
 |p::rest,done,q,x5,st,nd,hl,hq,S0=>by
  have e0:done++p::rest=(done++[p])++rest:=by rw[List.append_assoc];rfl
  rw[e0] at nd hl ⊢;have hp:p∉done:=λz=>by
   have:=(List.nodup_append.mp nd).1;have:=(List.nodup_append.mp this).2.2 p z p (List.mem_singleton.mpr rfl);exact this rfl
  obtain⟨o,st1,ho,S1,e⟩:=AZ W hw K a (ds:=done.map λp=>aM (q p)) hp (by rw[List.length_append,List.length_append] at hl;omega) (by rw[List.length_map]) hc S0;have hm:(done.map λp=>aM (q p))++[aM o]=(done++[p]).map λr=>aM ((λr=>if r=p then o else q r) r):=by
   rw[List.map_append]
   congr 1
   .refine List.map_congr_left λr hr=>?_
    simp only;rw[if_neg (λz=>hp (by rw[←z];exact hr))]
   .simp
  rw[hm] at e;obtain⟨q',y5,st',h1,h2,h3⟩:=sO a hc rest (done++[p]) (λr=>if r=p then o else q r) (.sh (.str p)) st1 nd hl (λr hr x hx=>by
   have hx:(if r=p then o else q r)=some x:=hx
   by_cases hrp:r=p
   .rw[if_pos hrp] at hx;exact ho x hx
   .rw[if_neg hrp] at hx
    rcases List.mem_append.mp hr with hr|hr
    .exact hq r hr x hx
    .exact absurd (List.mem_singleton.mp hr) hrp) S1
  refine⟨q',y5,st',h1,h2,?_⟩;rw[List.map_cons,DZ];show Lp (bw 5) (sB a) (rest.map D.str) st [.pt a,.sh (aS w),.sh (dD w S),.sh (.int c),.ow (.dic done (done.map λp=>aM (q p))),.sh (.str p)]=_;rw[DY,e,iC,DX];exact h3
theorem E7(a:Addr){st:List D}(S0:St st):∃(q:Str->Option cw) (st':List D),(∀p∈w.ps,∀x,q p=some x->ue x)/\St st'/\eQ a st [aS w,dD w S]=.ok (qD w q,st'):=by
 obtain⟨g,st1,t1,g0,g1,S1⟩:=bN a (n:=4) (by decide) (by decide) S0;obtain⟨c,hc,hi⟩:∃c:Int,(1<=c/\c<=3)/\aN (.lst [.int 1,.int 1,.int 2,.int 3]) (.int g)=.ok (.int c):=by
  have:g=0∨g=1∨g=2∨g=3:=by omega
  rcases this with rfl|rfl|rfl|rfl
  .exact⟨1,by decide,rfl⟩
  .exact⟨1,by decide,rfl⟩
  .exact⟨2,by decide,rfl⟩
  .exact⟨3,by decide,rfl⟩
 obtain⟨q,y5,st2,h1,h2,h3⟩:=sO W hw K a hc w.ps [] (λ_=>none) .no st1 (by simpa using W.nm.1) (by simpa using W.n7) (λp hp=>by cases hp) S1;rw[List.nil_append,List.map_nil] at h3;rw[List.nil_append] at h1;refine⟨q,st2,h1,h2,?_⟩;have i0:aN (aS w) (.int 0)=.ok (.lst (w.ps.map D.str)):=rfl;have hqd:qD w q=.dic w.ps (w.ps.map λp=>aM (q p)):=rfl;rw[hqd];unfold sB at h3;open_line with[eQ,nS,t1,hi,nq,mn,i0,h3]
end
open K51 (Bd pl)
open K11 (bJ)
theorem ES{x y:cw}(hx:Low x)(hy:Low y)(h:val x=val y):x=y:=by
 have qx:0<x.2:=by have:=hx.q1;omega
 have qy:0<y.2:=by have:=hy.q1;omega
 have h1:=eF qx qy;have h2:=eF qy qx;rw[decide_eq_false (by rw[h];exact Rat.lt_irrefl)] at h1;rw[decide_eq_false (by rw[h];exact Rat.lt_irrefl)] at h2;unfold flt at h1 h2;have h1:=of_decide_eq_false h1;have h2:=of_decide_eq_false h2;exact pO hx hy (by omega)
theorem En{v:cw}:∀{xs:List cw},((xs.map fr).any λd=>cC d (fr v))=decide (v∈xs)
 |[]=>by simp
 |x::xs=>by
  rw[List.map_cons,List.any_cons,En];have h1:iD (fr x) (fr v)=.ok (.bl (cC (fr x) (fr v))):=if_pos ⟨rfl,rfl⟩;have h2:=Vlx.eq_fr (x:=x) (y:=v);rw[h1] at h2;injection h2 with h2;injection h2 with h2;rw[h2]
  by_cases e:x=v
  .subst e;simp
  .have e':¬v=x:=λz=>e z.symm
   simp [e,e']
theorem vA{n:Nat}{xs:List cw}:(xs.map fr).all (bo (n+1))=true:=List.all_eq_true.mpr λd hd=>by
 obtain⟨x,_,rfl⟩:=List.mem_map.mp hd;cases n<;>rfl
theorem C5{v:cw}{xs:List cw}:cj (fr v) (.lst (xs.map fr))=.ok (.bl (!(decide (v∈xs)))):=by
 have e:Du (fr v) (.lst (xs.map fr))=some (decide (v∈xs)):=(if_pos ⟨rfl,vA⟩).trans (congrArg some En);unfold cj;rw[e]
theorem IM{xs:List cw}:iD (.lst (xs.map fr)) (.lst [])=.ok (.bl (decide (xs=[]))):=by
 have:iD (.lst (xs.map fr)) (.lst [])=.ok (.bl (cC (.lst (xs.map fr)) (.lst []))):=if_pos ⟨vA (n:=38),rfl⟩;rw[this];cases xs with|nil|cons x xs=>rfl
section
variable {w:cq}(W:bT w) (p6:w.ps.length<=6) (t10:w.ts.length<=10) {ks:List Nat}
include W p6 t10
theorem Dj:∃F xs,cx [aS w,aU ks]=.ok (.lst F)/\vi w ks xs/\∀A B C D' E G H,fQ 1 [3] (bw 0) mYes (au (ai (ae 1) (ai (ae 0) aE)) cA) [A,B,C,.sh (aS w),D',E,G,H,.no] F=.ok (.lst (xs.map fr)):=by
 classical
 obtain⟨F,h1,h2,h3,h4⟩:=EM W p6 t10 (ks:=ks);have hx:∀y∈F,∃x,cA [aS w,.lst (bJ y)]=.ok (fr x)/\Low x/\Bd x 2000/\val x=cM w y:=λy hy =>
  FL W (λn hn=>(oZ (h2 y hy).1 n hn).1) (h2 y hy).2
 obtain⟨f,hf⟩:∃f:List Nat->cw,∀y∈F,cA [aS w,.lst (bJ y)]=.ok (fr (f y))/\Low (f y)/\Bd (f y) 2000/\val (f y)=cM w y :=
  ⟨λy=>if h:∃x,cA [aS w,.lst (bJ y)]=.ok (fr x)/\Low x/\Bd x 2000/\val x=cM w y then Classical.choose h else(0,1),λy hy=>by
   dsimp only;rw[dif_pos (hx y hy)];exact Classical.choose_spec (hx y hy)⟩
 refine⟨_,F.map f,h1,⟨by rw[List.length_map];exact h3,λx hx=>?_,λy hy=>?_⟩,λA B C D' E G H=>?_⟩
 .obtain⟨y,hy,rfl⟩:=List.mem_map.mp hx
  obtain⟨_,g2,g3,g4⟩:=hf y hy;exact⟨g2,g3,y,(h2 y hy).1,g4⟩
 .obtain⟨y',g1,g2⟩:=cut W y.length y (Nat.le_refl _) hy
  have hm:=h4 y' g1;refine⟨f y',List.mem_map.mpr ⟨y',hm,rfl⟩,?_⟩;rw[(hf y' hm).2.2.2];exact g2
 .rw[K51.comp_pick (α:=List Nat) (λy=>.lst (bJ y)) (λy=>some (fr (f y))) (L:=F) (by omega)]
  .rw[List.map_map,←List.filterMap_eq_map];rfl
  .intro y hy
   have hl:=(hf y hy).1;refine⟨[.sh (.lst (bJ y)),.sh (aS w)],rfl,.inr ⟨_,rfl,rfl,?_⟩⟩;open_line with[hl]
end
section
variable {w:cq}(W:bT w) {ks:List Nat}{xs:List cw}(L:vi w ks xs) {F:List dY}{m:Int}(R:sG w ks (lz w) F m) (S:vh w ks F)
include W L R S
theorem AV(h:xs=[]):get F w.la=none:=by
 cases hg:get F w.la with
 |none=>rfl
 |some e =>
  obtain⟨e1,e2⟩:=dQ hg;have:=(R.wy e e1).1;rw[e2] at this;obtain⟨x,hx,_⟩:=L.c _ this;rw[h] at hx;cases hx
theorem sL(h:xs≠[]):∃e,get F w.la=some e/\cQ e.z (lB w)∈xs/\∀x∈xs,K51.bh [fr x,fr (cQ e.z (lB w))]=.ok (.bl false):=by
 obtain⟨x,hx⟩:∃x,x∈xs:=by
  cases xs with|nil=>exact absurd rfl h|cons x r=>exact⟨x,List.mem_cons_self⟩
 obtain⟨_,_,y,hy,_⟩:=L.s x hx;obtain⟨e,e1,e2,_⟩:=K8 W R S hy;have pe:=Ae W R e1;have le:∀x∈xs,val (cQ e.z (lB w))<=val x:=λx hx=>by
  obtain⟨_,_,y,hy,hv⟩:=L.s x hx;obtain⟨e',_,e3,e4⟩:=K8 W R S hy;rw[e2] at e3;cases e3;rw[hv];exact e4
 refine⟨e,e2,?_,λx hx=>?_⟩
 .obtain⟨g1,g2⟩:=dQ e2
  have wk:=(R.wy e g1).1;rw[g2] at wk;obtain⟨x,hx,hv⟩:=L.c _ wk;have h1:=le x hx;have h2:=(oN W R e1).2;have:val (cQ e.z (lB w))=val x:=by rw[←h2] at hv;exact Rat.le_antisymm h1 hv
  rw[ES pe.lo (L.s x hx).1 this];exact hx
 .obtain⟨_,b,_⟩:=L.s x hx
  have:=K51.lless_bd b pe.b (by decide) (by decide);rw[this,eF b.q0 pe.q];rw[decide_eq_false (Rat.not_lt.mpr (le x hx))]
theorem AW(h:xs≠[]){e:dY}(he:get F w.la=some e):∀A B C D' E G H I,fQ 1 [6] (bw 0) (au (ai (ae 0) (ai (aa (ae 1) (dC (.int 1)) aN) aE)) bh) (ae 0) [A,B,C,D',E,G,.sh (iI w F),H,I] (xs.map fr)=.ok (.lst []):=λA B C D' E G H I=>by
 obtain⟨e',h1,h2,h3⟩:=sL W L R S h;rw[he] at h1;cases h1;have ho:aN (iI w F) (.int 1)=.ok (fr (cQ e.z (lB w))):=by unfold iI;rw[he];rfl
 rw[K51.comp_pick (α:=cw) fr (λ_=>none) (L:=xs) (by have:=L.n;omega)]
 .rw[List.filterMap_eq_nil_iff.mpr λ_ _=>rfl]
 .intro u hu
  refine⟨[.sh (fr u),.sh (iI w F)],rfl,.inl ⟨rfl,?_⟩⟩;have hl:bh [fr u,fr (cQ e.z (lB w))]=.ok (.bl false):=h3 u hu;open_line with[ho,hl]
end
open K51 (Bd pl)
open K11 (bJ)
theorem IP{f:Ev->List D->aj (D×List D)}{ρ:Ev}{st:List D}:Dg f ρ st=(f ρ st).bind Df:=aH rfl
theorem FY{b:Bool}{st:List D}:Df (.bl b,st)=.ok (.bl (!b),st):=aH rfl
noncomputable abbrev vB(a:Addr):Ev->List D->aj df :=
 (aW (sC (Dg (mA (aQ (mP (ae 3)) (aQ (mP (ae 4)) (aQ (bD 2 a (aQ (mP (ae 3)) (aQ (mP (ae 7)) bU)) eQ) (aQ (mP (ae 5)) bU)))) b4))
 (aW (eB (dC (.bl false)))
 bg)
 bg)
 bg)
noncomputable abbrev tB(a:Addr):Ev->List D->aj df :=
 (aW (dP 3 (bD 2 a (aQ (mP (dC (.int 6))) (aQ (mP (dC (.int 10))) bU)) cY))
 (aW (dP 4 (bD 2 a (aQ (mP (ae 3)) (aQ (mB (mP (dC (.int 2))) (bD 2 a (aQ (mP (dC (.int 6))) bU) aF) cb) bU)) cG))
 (aW (cJ (bG 5 (dh 1 [3] (jJ (au (ai (ae 3) (ai (ae 4) aE)) cx)) (bw 0) mYes (au (ai (ae 1) (ai (ae 0) aE)) cA))))
 (aW (cJ (bG 6 (au (ai (ae 3) (ai (ae 4) aE)) m_least_way)))
 (aW (sC (mT (aa (ae 5) (au aE cu) iD))
 (aW (sC (mT (iq (aa (aa (ae 6) (dC (.int 0)) aN) (dC (.non)) cU) (aa (aa (ae 6) (dC (.int 1)) aN) (dC (.non)) cU)))
 (aW (eB (dC (.bl false)))
 bg)
 bg)
 bg)
 (aW (sC (mT (iq (aa (aa (ae 6) (dC (.int 1)) aN) (ae 5) cj) (aa (dh 1 [6] (jJ (ae 5)) (bw 0) (au (ai (ae 0) (ai (aa (ae 1) (dC (.int 1)) aN) aE)) bh) (ae 0)) (au aE cu) jE)))
 (aW (eB (dC (.bl false)))
 bg)
 bg)
 bg))
 (aW (sC (mT (iq (cI (au (ai (ae 3) (ai (ae 4) (ai (aa (ae 6) (dC (.int 2)) aN) aE))) m_lets_prices)) (cI (au (ai (ae 3) (ai (ae 4) (ai (aa (ae 6) (dC (.int 2)) aN) (ai (ae 5) aE)))) b4))))
 (aW (eB (dC (.bl false)))
 bg)
 bg)
 (aW (dP 7 (mA (aQ (mP (ae 3)) (aQ (mB (mP (au (ai (ae 4) (ai (au aE cu) aE)) cu)) (bD 2 a (aQ (mP (dC (.int 2))) bU) aF) aN) bU)) cZ))
 (aW (k9 (uK (gb (dC (.int 6)))) (bw 8)
 (vB a))
 bg))))))))
section
variable {w:cq}(W:bT w) (hw:∀t∈w.ts,gD t) {ks tk:List Nat}(T:mF w ks) {xs:List cw}(L:vi w ks xs) {S:BS}(K:dU w tk S)
include W hw T L K
theorem tq(a:Addr){d0 d1 d6:D}:∀(ds:List D) (x8:Sl) (st:List D),St st->∃y8 st',St st'/\DL.forM (bw 8) (vB a) ds [.sh d0,.sh d1,.pt a,.sh (aS w),.sh (aU ks),.sh (.lst (xs.map fr)),.sh d6,.sh (dD w S),x8] st=.ok (.nx [.sh d0,.sh d1,.pt a,.sh (aS w),.sh (aU ks),.sh (.lst (xs.map fr)),.sh d6,.sh (dD w S),y8] st')
 |[],x8,st,S0=>⟨x8,st,S0,rfl⟩
 |d::ds,x8,st,S0=>by
  obtain⟨q,st1,hq,S1,h1⟩:=E7 W hw K a S0;have h2:=wG W T hq L;obtain⟨y8,st',S',e⟩:=tq a (d0:=d0) (d1:=d1) (d6:=d6) ds (.sh d) st1 S1;refine⟨y8,st',S',?_⟩;have hb:vB a [.sh d0,.sh d1,.pt a,.sh (aS w),.sh (aU ks),.sh (.lst (xs.map fr)),.sh d6,.sh (dD w S),.sh d] st=.ok (.nx [.sh d0,.sh d1,.pt a,.sh (aS w),.sh (aU ks),.sh (.lst (xs.map fr)),.sh d6,.sh (dD w S),.sh d] st1):=by
   unfold vB;open_line with[IP,FY,h1,h2]
  rw[DZ];show Lp (bw 8) (vB a) ds st [.sh d0,.sh d1,.pt a,.sh (aS w),.sh (aU ks),.sh (.lst (xs.map fr)),.sh d6,.sh (dD w S),.sh d]=_;rw[DY,hb,iC,DX];exact e
end
theorem Ca(a:Addr){d0 d1:D}{st:List D}(S0:St st):∃ρ st',tB a [.sh d0,.sh d1,.pt a,.no,.no,.no,.no,.no,.no] st=.ok (.nx (.sh d0::.sh d1::.pt a::ρ) st')/\ρ.length=6:=by
 obtain⟨w,st1,t1,W,hw,S1,p6,t10⟩:=B2 a (p:=6) (q:=10) ⟨by decide,by decide⟩ (by decide) S0;obtain⟨r,st2,t2,r0,r1,S2⟩:=bN a (n:=6) (by decide) (by decide) S1;obtain⟨ks,st3,t3,T,S3⟩:=taking_ok a W (r:=2+r) ⟨by omega,by omega⟩ S2;obtain⟨A,xs,h1,L,h2⟩:=Dj W p6 t10 (ks:=ks);obtain⟨F,m,R,S,h3⟩:=Dm W T;have h3:m_least_way [aS w,aU ks]=.ok (iI w F):=h3;have hpr:qD w (pf w F)=GL w F:=rfl;have h4:m_lets_prices [aS w,aU ks,GL w F]=.ok (.bl true):=by
  rw[←hpr];exact Bm W T (CS W R) (Ki W R) (λs hs=>HW W R S hs)
 have h5:b4 [aS w,aU ks,GL w F,.lst (xs.map fr)]=.ok (.bl true):=by
  rw[←hpr];exact wG W T (CS W R) L
 obtain⟨g,st4,t4,g0,g1,S4⟩:=bN a (n:=2) (by decide) (by decide) S3;obtain⟨tk,hi⟩:∃tk,aN (.lst [aU ks,.lst []]) (.int g)=.ok (aU tk):=by
  have:g=0∨g=1:=by omega
  rcases this with rfl|rfl
  .exact⟨ks,rfl⟩
  .exact⟨[],rfl⟩
 obtain⟨B,K,_,h6⟩:=II W hw (tk:=tk);have h6:cZ [aS w,aU tk]=.ok (dD w B):=h6;obtain⟨y8,st5,S5,h7⟩:=tq W hw T L K a (d0:=d0) (d1:=d1) (d6:=iI w F) (DL.intsFrom 0 6) .no st4 S4;have hs:∀ρ,gb (dC (.int 6)) ρ=.ok (DL.intsFrom 0 6):=λ_=>rfl;have h0:=IM (xs:=xs);have t1:cY a st [.int 6,.int 10]=.ok (aS w,st1):=t1;have hcomp:=h2 (.sh d0) (.sh d1) (.pt a) (.sh (aU ks)) .no .no .no;have o2:aN (iI w F) (.int 2)=.ok (GL w F):=by unfold iI;split<;>rfl
 refine⟨[.sh (aS w),.sh (aU ks),.sh (.lst (xs.map fr)),.sh (iI w F),.sh (dD w B),y8],st5,?_,rfl⟩;unfold vB at h7
 by_cases hx:xs=[]
 .have hn:=AV W L R S hx
  have o0:aN (iI w F) (.int 0)=.ok .non:=by unfold iI;rw[hn];rfl
  have o1:aN (iI w F) (.int 1)=.ok .non:=by unfold iI;rw[hn];rfl
  rw[decide_eq_true hx] at h0;open_line with[t1,t2,t3,ie,h1,hcomp,h3,h0,o0,o1,o2,h4,h5,t4,hi,h6,hs,h7]
 .obtain⟨e,e1,e2,e3⟩:=sL W L R S hx
  have o1:aN (iI w F) (.int 1)=.ok (fr (cQ e.z (lB w))):=by unfold iI;rw[e1];rfl
  rw[decide_eq_false hx] at h0;have hin:=C5 (v:=cQ e.z (lB w)) (xs:=xs);rw[decide_eq_true e2] at hin;have hc2:=AW W L R S hx e1 (.sh d0) (.sh d1) (.pt a) (.sh (aS w)) (.sh (aU ks)) (.sh (.lst (xs.map fr))) .no .no;have hne:jE (.lst []) (.lst [])=.ok (.bl false):=rfl;open_line with[t1,t2,t3,ie,h1,hcomp,h3,h0,o1,hin,hc2,hne,o2,h4,h5,t4,hi,h6,hs,h7]
theorem Dn(ns:List Int)(hn:ns.length<=63):m_law [.lst (ns.map D.int)]=.ok (.bl true):=by
 obtain⟨q,m,hm,h1,hq⟩:∃(q:Int) (m:Nat),m<=8/\Gb (.int ns.length) (.int 8)=.ok (.int q)/\(if q > 1 then q else 1)=(m:Int):=by
  have h1:Gb (.int ns.length) (.int 8)=.ok (.int (if(8:Int)<ns.length then 8 else ns.length)):=rfl;refine⟨_,(if(if(8:Int)<ns.length then 8 else(ns.length:Int)) > 1 then(if(8:Int)<ns.length then 8 else(ns.length:Int)) else 1).toNat,?_,h1,?_⟩
  .split<;>split<;>omega
  .split<;>split<;>omega
 have hstep:∀k,k<m->∀ρ:Ev,(∃s,ρ=[.sh (.lst (ns.map D.int)),s,.no,.no,.no,.no,.no,.no,.no]) ->
   ∃ρ2,(kg 2 (au (ai (ae 0) (ai (ae 1) aE)) b5) λa=>tB a) (ρ.set 1 (.sh (.int (k:Int))))=.ok (.nx ρ2)/\∃s,ρ2=[.sh (.lst (ns.map D.int)),s,.no,.no,.no,.no,.no,.no,.no]:=by
  rintro k hk ρ ⟨s,rfl⟩;obtain⟨st,hb,S⟩:=Ek ns k (by omega) hn;refine⟨[.sh (.lst (ns.map D.int)),.sh (.int (k:Int)),.no,.no,.no,.no,.no,.no,.no],?_,_,rfl⟩;have h1:(au (ai (ae 0) (ai (ae 1) aE)) b5) [.sh (.lst (ns.map D.int)),.sh (.int (k:Int)),.no,.no,.no,.no,.no,.no,.no]=.ok (.lst st):=by
   open_line with[hb]
  show kg 2 _ _ [.sh (.lst (ns.map D.int)),.sh (.int (k:Int)),.no,.no,.no,.no,.no,.no,.no]=_;unfold kg;rw[h1,iC];unfold uV;show(if _ then _ else _)=_;rw[if_pos ⟨rfl,(by show 2<9;decide)⟩];refine FI λa=>?_;obtain⟨ρ',st',e,hl⟩:=Ca a (d0:=.lst (ns.map D.int)) (d1:=.int (k:Int)) S
  match ρ',hl with
  |[x3,x4,x5,x6,x7,x8],_ =>
   show zY 2 (tB a [.sh (.lst (ns.map D.int)),.sh (.int (k:Int)),.pt a,.no,.no,.no,.no,.no,.no] st)=_;rw[e];rfl
 obtain⟨ρ',hf,s,rfl⟩:=uR (i:=1) (body:=(kg 2 (au (ai (ae 0) (ai (ae 1) aE)) b5) λa=>tB a)) (λ_ ρ=>∃s,ρ=[.sh (.lst (ns.map D.int)),s,.no,.no,.no,.no,.no,.no,.no]) (n:=m) hstep (ρ:=[.sh (.lst (ns.map D.int)),.no,.no,.no,.no,.no,.no,.no,.no]) ⟨.no,rfl⟩;have hfr:=λs:Ev->aj Fl=>iX (tg:=bw 1) (s:=s) (ρ:=[.sh (.lst (ns.map D.int)),.no,.no,.no,.no,.no,.no,.no,.no]) (k:=m) (by omega);unfold m_law Hh;open_line with[List.length_map,h1,hq,hfr,hf]
end K15
namespace K15
open PySem L2 DL
theorem sp_law(K:W.Frag)(H:Hp)(a:Addr)(ns:List Int)(hl:ns.length<=63)(hS:eZ K H a (ns.map V.int)):spD K 1 m_law [.ref a] H (λv _=>v=.bl true) λ_ _ _=>False:=by
 refine⟨rfl,H,[.lst (ns.map D.int)],aC.refl _,Reps.cons (aG.mpr ⟨a,_,rfl,hS,ud ns⟩) Reps.nil,?_⟩;rw[Dn ns hl];exact λv H' Ha' _ r=>aK.mp r
end K15
namespace PySem.W.Fast
def tw10536662879899899687:=0
def tw9915527447933935176:=0
def tw2319312545746491205:=0
def tw6890787357796992855:=0
def tw7243548927339002711:=0
def tw7697643678218867284:=0
def tw6503970276535720618:=0
def tw14853215702757257814:=0
def tw177397579023057635:=0
def tw7611901094930698627:=0
def tw12569549040377045240:=0
def tw11198775635471502744:=0
def tw10973010598283082502:=0
def tw18281214440398235978:=0
def tw3562238694010143139:=0
def tw9732313724809605476:=0
def tw13370412840891577296:=0
def tw15595140239760468680:=0
def tw11329891568591389991:=0
def tw9348701893934384445:=0
def tw4867297294290742582:=0
def tw4171388621347853332:=0
def tw3927983487534354679:=0
def tw6494530553025937495:=0
def tw10343083934800165419:=0
def tw14369905650127057538:=0
def tw1656545341131545847:=0
def tw9833710324388149887:=0
def tw16595350546679034689:=0
def tw2757111888849198754:=0
def tw11315769436244533468:=0
def tw11559207389353075014:=0
end PySem.W.Fast
open PySem PySem.W PyProof.Rows
set_option maxRecDepth 100000 in
set_option maxHeartbeats 0 in
theorem PySem.Challenge.cw_farthestcut_k15_whole_no_way_is_shorter_holds : PySem.Challenge.rw_farthestcut_k15_whole_no_way_is_shorter.Holds := by
 w_on;o_law;k_head;(case hw=>w_witness2)
 k_fill
 refine L2.walk_ofK (l:=PySem.Challenge.rw_farthestcut_k15_whole_no_way_is_shorter) (n:=63) (k:=10) (x:="_law_script") (CX:=L2.CX0) (sp:=fun K=>DL.spD K 1 K15.m_law) ?I rfl (by decide) rfl ⟨rfl,by decide,by decide,rfl⟩ (fun w h Y=>W.kIn_of Y) ?F ?S ?C
 case S=>exact fun K H a ns hl _ hS=>K15.sp_law K H a ns hl hS
 case C=>exact fun _ _ _ _ h=>h
 case I=>rfl
 case F =>
  intro w mg fa h KX G hmg;have T:∃ t:K15.Adr,K15.Txt (L2.KOf KX) mg t/\mg "law"=some (.ref (t.A 46))/\∃ kV doc pm an cdv ct,t.Q 46=W.fnOf "law" "law" (L2.defArgs (K15.top 77)) (L2.defBody (K15.top 77)) (L2.defScope (K15.top 77)) .none kV doc pm an cdv ct:=by
   dsimp only[L2.KOf];refine' K15.txt_wr (K15.txt_mk KX G ?QS ?_ ?_ ?_ ?_ ?_ ?_ ?_ ?_ ?_ ?_ ?_ ?_ ?_ ?_ ?_ ?_ ?_ ?_ ?_ ?_ ?_ ?_ ?_ ?_ ?_ ?_ ?_ ?_ ?_ ?_ ?_ ?_ ?_ ?_)
   case' QS=>iterate 47 refine DL.QAs.cons ⟨by k_is,by k_is,_,_,_,_,_,_,_,_,_,by k_is,by k_is⟩ ?_
   case QS=>trivial
   all_goals try first |k_is |k_exc |rfl
   exact⟨_,_,_,_,[.int 0,.int 1],rfl,.cons ⟨_,rfl⟩ (.cons ⟨_,rfl⟩ (.nil)),by decide,fun H=>DL.Reps.cons (DL.ri _) (DL.Reps.cons (DL.ri _) (DL.Reps.nil))⟩;exact⟨_,_,_,_,[.str "one",.str "both"],rfl,.cons ⟨_,rfl⟩ (.cons ⟨_,rfl⟩ (.nil)),by decide,fun H=>DL.Reps.cons (DL.Rep.str_iff.mpr rfl) (DL.Reps.cons (DL.Rep.str_iff.mpr rfl) (DL.Reps.nil))⟩
  obtain⟨t,T,e0,kV,doc,pm,an,cdv,ct,ed⟩:=T;have e1:=hmg.symm.trans e0;cases e1;refine⟨t.Q 46,fun s u=>?_,fun base kb nb=>(K15.ok_law T).F⟩;rw[ed];exact .of_eq rfl
