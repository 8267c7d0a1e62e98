import PyProof.Rows.All
import Wide.All
import OpenK.AllK
import Wide.FinOn
import PyProof.EqAt
import PyProof.EqKinds
import PyProof.NeKinds
import PyProof.TupleCall
import PyProof.StrWalks
import PyProof.EnumMake
import PyProof.WalksEnum
import PyProof.ZipIter
import PyProof.Rows.ZipGen
import PyProof.Rows.SortWalk
import KE.KSortedM
import PyProof.StrLawsIdx
import PyProof.StrLawsNeg
import PyProof.ExcInit
import PyProof.InstStoreFacts
import PyProof.AttrMissHeap
import PyProof.FactsAll.enumerate
import PyProof.FactsAll.dict_1
import KE.KDictOf
import KE.KItemsList
import PyProof.ReprRoads
import PyProof.FitsInt
import PySem.Challenge.RW_farthestcut_k20_most_valued
set_option compiler.extract_closed false
set_option bootstrap.genMatcherCode false
set_option autoImplicit true
set_option Elab.async false
set_option linter.all false
set_option maxRecDepth 100000
set_option maxHeartbeats 4000000
noncomputable section
namespace L2
open PySem PySem.Spec PyProof.Rows
noncomputable abbrev eS:=Sum Int Str
noncomputable def rL:eS->Value->Bool
 |.inl k,v=>Value.isInt k v
 |.inr x,v=>Value.isStrOf x v
noncomputable def KO(w:World):eS->Int
 |.inl k=>hashInt k
 |.inr x=>hashStr w x
theorem cp:∀{k:eS}{v:Value},rL k v=true->(∃i t,k=Sum.inl i/\v=Value.int i t)∨(∃x t,k=Sum.inr x/\v=Value.str x t)
 |.inl i,v,h=>by
  obtain⟨t,e⟩:=Value.isInt_shape (k:=i) (v:=v) h;exact .inl ⟨i,t,rfl,e⟩
 |.inr x,v,h=>by
  obtain⟨t,e⟩:=Value.isStrOf_shape (x:=x) (v:=v) h;exact .inr ⟨x,t,rfl,e⟩
theorem Ao(i:Int)(t:Tok):rL (.inl i) (.int i t)=true:=by simp [rL,Value.isInt]
theorem An(x:Str)(t:Tok):rL (.inr x) (.str x t)=true:=by simp [rL,Value.isStrOf]
theorem G0(a b:Int):decide ((Sum.inl a:eS)=Sum.inl b)=(a==b):=by
 by_cases e:a=b
 .subst e;simp
 .have h:¬(Sum.inl a:eS)=Sum.inl b:=λq=>e (Sum.inl.inj q)
  rw[decide_eq_false h];exact(beq_eq_false_iff_ne.mpr e).symm
theorem GX(a b:Str):decide ((Sum.inr a:eS)=Sum.inr b)=decide (a=b):=by
 by_cases e:a=b
 .subst e;simp
 .have h:¬(Sum.inr a:eS)=Sum.inr b:=λq=>e (Sum.inr.inj q)
  rw[decide_eq_false h,decide_eq_false e]
theorem GZ(a:Int)(b:Str):decide ((Sum.inl a:eS)=Sum.inr b)=false:=decide_eq_false (λq=>nomatch q)
theorem GY(a:Str)(b:Int):decide ((Sum.inr a:eS)=Sum.inl b)=false:=decide_eq_false (λq=>nomatch q)
noncomputable def b4(prog:Program) (w:World):PySem.KeyKind prog w eS where
 is:=rL
 hash:=KO w
 inj:=λv a b ha hb=>by
  rcases cp ha with⟨i,t,rfl,rfl⟩|⟨x,t,rfl,rfl⟩
  .rcases cp hb with⟨j,u,rfl,e⟩|⟨y,u,rfl,e⟩
   .injection e with e1 _;rw[e1]
   .exact nomatch e
  .rcases cp hb with⟨j,u,rfl,e⟩|⟨y,u,rfl,e⟩
   .exact nomatch e
   .injection e with e1 _;rw[e1]
 byValue:=λk v h=>by
  rcases cp h with⟨i,t,rfl,rfl⟩|⟨x,t,rfl,rfl⟩<;>rfl
 pyHash:=λhv h=>by
  rcases cp hv with⟨i,t,rfl,rfl⟩|⟨x,t,rfl,rfl⟩
  .exact wpAny_pyHash_int h
  .exact wpAny_pyHash_str h
 eqBool:=λhu hv h=>by
  rcases cp hu with⟨i,t,rfl,rfl⟩|⟨x,t,rfl,rfl⟩
  .rcases cp hv with⟨j,u,rfl,rfl⟩|⟨y,u,rfl,rfl⟩
   .rw[G0] at h;exact wpAny_eqBool_int h
   .rw[GZ] at h;exact SeqAt.EqAt.int_str i t y u _ _ _ _ h
  .rcases cp hv with⟨j,u,rfl,rfl⟩|⟨y,u,rfl,rfl⟩
   .rw[GY] at h;exact SeqAt.EqAt.str_int x t j u _ _ _ _ h
   .rw[GX] at h;exact wpAny_eqBool_str h
 «strs»:=λk x t v h=>by
  rcases cp h with⟨i,u,rfl,e⟩|⟨y,u,rfl,e⟩
  .exact nomatch e
  .injection e with e1 _
   subst e1;cases v<;>rfl
theorem vi(prog:Program)(w:World)(i:Int)(t:Tok):(b4 prog w).is (.inl i) (.int i t)=true:=Ao i t
theorem vh(prog:Program)(w:World)(x:Str)(t:Tok):(b4 prog w).is (.inr x) (.str x t)=true:=An x t
inductive V where
 |non|bl (b:Bool)|int (i:Int)|str (x:Str)|byt (b:Array UInt8)|flt (b:UInt64)|ref (a:Addr)|ty (n:String)
 deriving DecidableEq
noncomputable def aX:V->Value->Prop
 |.non,u=>u=Value.none
 |.bl b,u=>u=Value.bool b
 |.int i,u=>∃t,u=Value.int i t
 |.str x,u=>∃t,u=Value.str x t
 |.byt b,u=>∃t,u=Value.bytes b t
 |.flt b,u=>∃t,u=Value.float b t
 |.ref a,u=>u=Value.ref a
 |.ty n,u=>u=Value.type n
noncomputable abbrev bz:List V->List Value->Prop:=Paired aX
theorem bz.length(r:bz xs us):xs.length=us.length:=Paired.length r
theorem bz.get:∀{xs:List V}{us:List Value}{i:Nat}{x:V},bz xs us->xs[i]?=some x->∃u,us[i]?=some u/\aX x u
 |_,_,_,_,.nil,e=>by simp at e
 |_,_,0,_,.cons r _,e=>by simp at e;subst e;exact⟨_,rfl,r⟩
 |_,_,i+1,x,.cons _ t,e=>by
  obtain⟨u,h1,h2⟩:=bz.get (i:=i) (x:=x) t (by simpa using e);exact⟨u,by simpa using h1,h2⟩
theorem bz.set(r:aX x u):∀{xs:List V}{us:List Value}(i:Nat),bz xs us->bz (xs.set i x) (us.set i u)
 |_,_,_,.nil=>.nil
 |_,_,0,.cons _ t=>.cons r t
 |_,_,i+1,.cons q t=>.cons q (bz.set r i t)
theorem bz.append:∀{xs ys:List V}{us ws:List Value},bz xs us->bz ys ws->bz (xs++ys) (us++ws)
 |_,_,_,_,.nil,s=>s
 |_,_,_,_,.cons r t,s=>.cons r (bz.append t s)
theorem bz.take:∀{xs:List V}{us:List Value}(n:Nat),bz xs us->bz (xs.take n) (us.take n)
 |_,_,0,_=>.nil
 |_,_,_+1,.nil=>.nil
 |_,_,n+1,.cons r t=>.cons r (bz.take n t)
theorem bz.drop:∀{xs:List V}{us:List Value}(n:Nat),bz xs us->bz (xs.drop n) (us.drop n)
 |_,_,0,r=>r
 |_,_,_+1,.nil=>.nil
 |_,_,n+1,.cons _ t=>bz.drop n t
noncomputable def rg:Option V->Option Value->Prop
 |some v,some u=>aX v u
 |none,none=>True
 |_,_=>False
noncomputable def KV{κ:Type}:List (κ×V)->List (κ×Value)->Prop:=Paired λ(p:κ×V) (q:κ×Value)=>p.1=q.1/\aX p.2 q.2
noncomputable def kV:eS->V
 |.inl i=>.int i
 |.inr x=>.str x
inductive HO where
 |lst (xs:List V)
 |tup (xs:List V)
 |dK (kvs:List (eS×V))|dT (kvs:List (List eS×V))
 |set (S:Int->Bool) (n:Nat)
 |ins (C dx:Addr) (fs:List (Str×V))
 |own (x:Addr)
 |xd (fs:List (Str×V))
 |met (f x:Addr)
 |rng (lo hi:Int)
 |frz (o:Obj) (u:HO)
 |tbl (ps:Array Value)
 |ext (φ:Heap->Prop)
noncomputable abbrev Hp:=Addr->Option HO
noncomputable def upd(H:Hp) (a:Addr) (o:HO):Hp:=λb=>if b=a then some o else H b
theorem aB:upd H a o a=some o:=by unfold upd;rw[if_pos rfl]
theorem av(h:b≠a):upd H a o b=H b:=by unfold upd;rw[if_neg h]
theorem Jk{H:Hp}(h:H a=some o)(h':H b=some u)(d:o≠u):a≠b:=by
 intro e;subst e;rw[h] at h';exact d (Option.some.inj h')
theorem bh{H:Hp}(h:H a=some o)(h':H b=none):a≠b:=by
 intro e;subst e;rw[h] at h';cases h'
section
variable (P:Program) (w:World)
noncomputable def cF(H:Hp) (h:Heap) (a:Addr):HO->Prop
 |.lst xs=>xs.length<=sizeLine/\∃(its:List Value) (n:Nat),bz xs its/\h.get? a=some { cls:=.type "list",data:=.seq its.toArray n }
 |.tup xs=>xs.length<=sizeLine/\∃its:List Value,bz xs its/\IsTup h a its.toArray
 |.dK kvs=>kvs.length<=sizeLine/\(a==sysModules)=false/\∃vs,KV kvs vs/\h.DictOf (b4 P w) a vs
 |.dT kvs=>kvs.length<=sizeLine/\(a==sysModules)=false/\∃xs:List (List eS×Addr×Value),
   Paired (λ(p:List eS×V) (q:List eS×Addr×Value)=>p.1=q.1/\H q.2.1=some (.tup (p.1.map kV))/\aX p.2 q.2.2) kvs xs /\
   ∃o es ep,h.get? a=some o/\o.ExactDict/\o.data=.dict es ep/\es.toList=xs.map (entryOfKey (tupleKind (b4 P w)))/\(xs.map (·.1)).Nodup
 |.set S n=>h.SetOf (intKind P w) a S n
 |.ins C dx fs=>H dx=some (.own a)/\fs.length<=1000/\dx≠a/\h.get? a=some (W.instObj C dx) /\
   ∃mA,h.Ns1 dx mA/\(∀f,rg (fs.lookup f) (mA f))/\PySem.Within mA (fs.map (·.1))
 |.own _=>∃o,h.get? a=some o
 |.xd fs=>∃mA,h.Ns1 a mA/\∀f,rg (fs.lookup f) (mA f)
 |.rng lo hi=>∃t u v,h.get? a=some { cls:=.type "range",data:=.fields #[.int lo t,.int hi u,.int 1 v] }
 |.frz o u=>h.get? a=some o/\cF H h a u
 |.tbl ps=>h.get? a=some { cls:=.none,data:=.fields ps }
 |.met f x=>h.get? a=some (W.methodObj (.ref f) (.ref x))
 |.ext φ=>φ h/\(∃o,h.get? a=some o)/\∀h1 h2:Heap,φ h1->(∀o,h1.get? a=some o->h2.get? a=some o)->φ h2
noncomputable def jM(H:Hp) (h:Heap):Prop:=∀a o,H a=some o->cF P w H h a o
end
section
variable {P:Program}{w:World}{H H':Hp}{h h':Heap}{a:Addr}{o:HO}
theorem cF.lt(x:cF P w H h a o):a<h.objs.size:=by
 cases o with|lst xs=>obtain⟨_,_,_,_,e⟩:=x;exact Heap.lt_size e|tup xs=>obtain⟨_,_,_,p⟩:=x;exact p.lt|dK kvs|dT kvs=>obtain⟨_,_,_,_,o,_,_,e,_⟩:=x;exact Heap.lt_size e|set S n=>obtain⟨o,_,_,_,e,_⟩:=x;exact Heap.lt_size e|ins C dx fs=>obtain⟨_,_,_,e,_⟩:=x;exact Heap.lt_size e|own y=>obtain⟨_,e⟩:=x;exact Heap.lt_size e|xd fs=>obtain⟨_,⟨_,_,_,e,_⟩,_⟩:=x;exact Heap.lt_size e|rng lo hi=>obtain⟨_,_,_,e⟩:=x;exact Heap.lt_size e|frz ob u=>obtain⟨e,_⟩:=x;exact Heap.lt_size e|tbl ps|met f y=>exact Heap.lt_size (show h.get? a=some _ from x)|ext φ=>obtain⟨_,⟨_,e⟩,_⟩:=x;exact Heap.lt_size e
theorem iK{α β:Type}{F G:α->β->Prop}:∀{lb:List α}{lc:List β},Paired F lb lc->(∀a b,F a b->G a b)->Paired G lb lc
 |_,_,.nil,_=>.nil
 |_,_,.cons r t,f=>.cons (f _ _ r) (iK t f)
theorem cF.stay(x:cF P w H h a o)(k:∀b u,(b=a∨H b=some (.own a))->h.get? b=some u->h'.get? b=some u)
  (ho:∀b,H b=some (.own a)->H' b=some (.own a))(ht:∀b xs,H b=some (.tup xs)->H' b=some (.tup xs)):cF P w H' h' a o:=by
 induction o with
 |lst xs=>obtain⟨z,its,n,r,e⟩:=x;exact⟨z,its,n,r,k _ _ (.inl rfl) e⟩|tup xs=>obtain⟨z,its,r,ob,e,c⟩:=x;exact⟨z,its,r,ob,k _ _ (.inl rfl) e,c⟩|dK kvs=>obtain⟨z,y,vs,r,ob,es,ep,e,c⟩:=x;exact⟨z,y,vs,r,ob,es,ep,k _ _ (.inl rfl) e,c⟩
 |dT kvs =>
  obtain⟨z,y,xs,r,ob,es,ep,e,c⟩:=x;exact⟨z,y,xs,iK r λp q z=>⟨z.1,ht _ _ z.2.1,z.2.2⟩,ob,es,ep,k _ _ (.inl rfl) e,c⟩
 |set S n=>obtain⟨ob,es,ep,t,e,c⟩:=x;exact⟨ob,es,ep,t,k _ _ (.inl rfl) e,c⟩
 |ins C dx fs =>
  obtain⟨d,z,ne,e,mA,⟨od,es,ep,e2,c⟩,r⟩:=x;exact⟨ho _ d,z,ne,k _ _ (.inl rfl) e,mA,⟨od,es,ep,k _ _ (.inr d) e2,c⟩,r⟩
 |own y=>obtain⟨ob,e⟩:=x;exact⟨ob,k _ _ (.inl rfl) e⟩|xd fs=>obtain⟨mA,⟨od,es,ep,e,c⟩,r⟩:=x;exact⟨mA,⟨od,es,ep,k _ _ (.inl rfl) e,c⟩,r⟩|rng lo hi=>obtain⟨t,u,v,e⟩:=x;exact⟨t,u,v,k _ _ (.inl rfl) e⟩|frz ob u ih=>obtain⟨e,q⟩:=x;exact⟨k _ _ (.inl rfl) e,ih q⟩
 |tbl ps =>
  have e:h.get? a=some { cls:=.none,data:=.fields ps }:=x;show h'.get? a=some { cls:=.none,data:=.fields ps };exact k a _ (.inl rfl) e
 |met f y =>
  have e:h.get? a=some (W.methodObj (.ref f) (.ref y)):=x;show h'.get? a=some (W.methodObj (.ref f) (.ref y));exact k a _ (.inl rfl) e
 |ext φ=>obtain⟨p,⟨o,e⟩,st⟩:=x;exact⟨st _ _ p λo q=>k _ _ (.inl rfl) q,⟨o,k _ _ (.inl rfl) e⟩,st⟩
theorem jM.lt(x:jM P w H h)(e:H a=some o):a<h.objs.size:=(x a o e).lt
theorem jM.fresh(x:jM P w H h)(e:h.objs.size<=a):H a=none:=by
 cases q:H a with|none=>rfl|some u=>exact absurd (Nat.lt_of_lt_of_le (x.lt q) e) (Nat.lt_irrefl _)
theorem jM.kept(x:jM P w H h)(k:∀b u,h.get? b=some u->h'.get? b=some u):jM P w H h':=λa o e =>
 (x a o e).stay (λb u _ q=>k b u q) (λ_ q=>q) λ_ _ q=>q
theorem jM.laid(x:jM P w H h)(k:∀b u,h.get? b=some u->h'.get? b=some u)(hp:h.objs.size<=a)(new:cF P w (upd H a o) h' a o):jM P w (upd H a o) h':=λb u e=>by
 have hn:=x.fresh hp
 by_cases hb:b=a
 .subst hb;rw[aB] at e;cases e;exact new
 .rw[av hb] at e
  exact(x b u e).stay (λc v _ q=>k c v q) (λc q=>by rw[av (bh q hn)];exact q) λc xs q=>by rw[av (bh q hn)];exact q
end
noncomputable def Rd(H:Hp) (a:Addr) (u:HO):Prop:=H a=some u∨∃o,H a=some (.frz o u)
theorem Rd.ok{h:Heap}(r:Rd H a u)(x:jM P w H h):cF P w H h a u:=by
 rcases r with r|⟨o,r⟩
 .exact x a u r
 .obtain⟨_,q⟩:=x a _ r
  exact q
noncomputable def JT:Option HO->Prop
 |some (.lst _)=>True
 |some (.dK _)=>True
 |some (.dT _)=>True
 |some (.set _ _)=>True
 |some (.ins _ _ _)=>True
 |some (.ext _)=>True
 |_=>False
section
variable {P:Program}{w:World}{H:Hp}{h h':Heap}{x e:Addr}{o':HO}
theorem jM.write(ok:jM P w H h)(mu:JT (H x))(he:e=x∨H e=some (.own x))(k:∀b u,b≠e->h.get? b=some u->h'.get? b=some u)(heo:∃u,h'.get? e=some u)
  (new:cF P w (upd H x o') h' x o'):jM P w (upd H x o') h':=λb u q=>by
 have nown:∀c y,H c=some (.own y)->c≠x:=λc y r z=>by subst z;rw[r] at mu;exact mu
 have ntup:∀c xs,H c=some (.tup xs)->c≠x:=λc xs r z=>by subst z;rw[r] at mu;exact mu
 by_cases hb:b=x
 .subst hb;rw[aB] at q;cases q;exact new
 .rw[av hb] at q
  by_cases hbe:b=e
  .have q':H b=some (.own x):=by
    rcases he with z|z
    .exact absurd (hbe.trans z) hb
    .rw[hbe];exact z
   rw[q] at q';cases q';obtain⟨v,hv⟩:=heo;exact⟨v,by rw[hbe];exact hv⟩
  .refine(ok b u q).stay (λc v hc r=>k c v ?_ r) (λc r=>by rw[av (nown c b r)];exact r) λc xs r=>by rw[av (ntup c xs r)];exact r
   rcases hc with rfl|hc
   .exact hbe
   .rintro rfl
    rcases he with z|z
    .exact nown c b hc z
    .rw[hc] at z;cases z;exact hb rfl
end
structure Un (fs ex:List Addr) (H H':Hp) (h h':Heap):Prop where
 keep:∀b o,h.get? b=some o->H b=none->b∉fs->b∉ex->h'.get? b=some o
 slot:∀b o,h.get? b=some o->H b=none->b∈fs->b∉ex->∃sl,h'.get? b=some { o with slots:=sl }
 free:∀b o,h.get? b=some o->H b=none->b∉ex->H' b=none
 there:∀b o,h.get? b=some o->b∉ex->∃o',h'.get? b=some o'
 tups:∀b xs,H b=some (.tup xs)->H' b=some (.tup xs)
 frzs:∀b o u,H b=some (.frz o u)->H' b=some (.frz o u)
 tbls:∀b ps,H b=some (.tbl ps)->∃more,H' b=some (.tbl (ps++more))
section
variable {fs fs' ex ex':List Addr}{H H1 H2:Hp}{h h1 h2 h':Heap}{a x e:Addr}{o:HO}
theorem Un.any(u:Un fs ex H H1 h h1)(q:h.get? b=some ob)(n:H b=none)(hx:b∉ex):∃sl,h1.get? b=some { ob with slots:=sl }:=by
 by_cases hb:b∈fs
 .exact u.slot b ob q n hb hx
 .exact⟨ob.slots,u.keep b ob q n hb hx⟩
theorem Un.kept(k:∀b u,h.get? b=some u->h'.get? b=some u):Un fs ex H H h h' :=
 ⟨λb ob q _ _ _=>k b ob q,λb ob q _ _ _=>⟨ob.slots,k b ob q⟩,λ_ _ _ n _=>n,λb ob q _=>⟨ob,k b ob q⟩,λ_ _ q=>q,λ_ _ _ q=>q,λ_ ps q=>⟨#[],by rw[q];simp⟩⟩
theorem Un.refl:Un fs ex H H h h:=Un.kept λ_ _ q=>q
theorem Un.laid(k:∀b u,h.get? b=some u->h'.get? b=some u)(hp:h.objs.size<=a)(hn:H a=none):Un fs ex H (upd H a o) h h' where
 keep:=λb u q _ _ _=>k b u q
 slot:=λb u q _ _ _=>⟨u.slots,k b u q⟩
 free:=λb u q n _=>by rw[av (Nat.ne_of_lt (Nat.lt_of_lt_of_le (Heap.lt_size q) hp))];exact n
 there:=λb u q _=>⟨u,k b u q⟩
 tups:=λb xs q=>by rw[av (bh q hn)];exact q
 frzs:=λb u xs q=>by rw[av (bh q hn)];exact q
 tbls:=λb ps q=>⟨#[],by rw[av (bh q hn),q];simp⟩
theorem Un.write(mu:JT (H x))(he:e=x∨H e=some (.own x))(k:∀b u,b≠e->h.get? b=some u->h'.get? b=some u)(heo:∃u,h'.get? e=some u):Un fs ex H (upd H x o) h h':=by
 have hx:∀b,H b=none->b≠x:=λb n z=>by subst z;rw[n] at mu;exact mu
 have hb:∀b,H b=none->b≠e:=λb n z=>by
  subst z;rcases he with r|r
  .exact hx b n r
  .rw[n] at r;cases r
 have hm:∀b u,H b=some u->¬JT (some u)->b≠x:=λb u q nm z=>by subst z;rw[q] at mu;exact nm mu
 refine⟨λb u q n _ _=>k b u (hb b n) q,λb u q n _ _=>⟨u.slots,k b u (hb b n) q⟩,λb u q n _=>by rw[av (hx b n)];exact n,λb u q _=>?_,
  λb xs q=>by rw[av (hm b _ q λz=>z)];exact q,λb u xs q=>by rw[av (hm b _ q λz=>z)];exact q,λb ps q=>⟨#[],by rw[av (hm b _ q λz=>z),q];simp⟩⟩
 by_cases hbe:b=e
 .subst hbe;exact heo
 .exact⟨u,k b u hbe q⟩
end
noncomputable def J0(h:Heap) (H:Hp):List Addr:=(List.range h.objs.size).filter λa=>(H a).isSome
noncomputable def tT(h:Heap) (H:Hp):Heap:=W.hideAll h (J0 h H)
theorem Ar(h:Heap)(H:Hp):(tT h H).objs.size=h.objs.size:=W.hideAll_size _ _
theorem Cf{h:Heap}(e:h.get? b=some o)(n:H b=none):(tT h H).get? b=some o :=
 W.hideAll_get _ e λhm=>by
  have q:(H b).isSome=true:=(List.mem_filter.mp hm).2;rw[n] at q;simp at q
theorem Ec{h:Heap}(e:(tT h H).get? b=some o):h.get? b=some o/\H b=none:=by
 have e':h.get? b=some o:=W.of_hideAll (J0 h H) e;refine⟨e',?_⟩;cases q:H b with
 |none=>rfl
 |some x =>
  have hm:b∈J0 h H:=List.mem_filter.mpr ⟨List.mem_range.mpr (Heap.lt_size e'),by simp [q]⟩;have z:(tT h H).get? b=none:=W.hideAll_none (J0 h H) hm;rw[z] at e;cases e
structure Mod (K:W.Frag) (mg:Str->Option Value) (base:Heap):Prop where
 kin:K.In base
 glob:base.Ns mainGlobals mg
 blt:∃mb,base.Ns builtinsNs mb/\∀x:Str,x≠"__name__"->mb x=bootBuiltins x
 nolimit:base.NoLimit
 sm:∃mm,base.Ns sysModules mm
structure Cx where
 prog:Program
 w:World
 K:W.Frag
 mg:Str->Option Value
 base:Heap
 A:Around
 N:List Str
 sf:Shared
 Ha:Hp
 env:Env
 outer:List Env
 stack:List Env
 ex:List Addr
 fn:Str->Bool
 calm:Bool
 pn:List (Addr×Obj)
 xe:Value->Shared->Prop
noncomputable def AQ(l:List Env):List Addr:=l.filterMap (·.frame)
noncomputable abbrev Cx.fs(X:Cx):List Addr:=AQ X.outer
noncomputable def CZ(sc:Scope) (x:Str):Prop:=sc.names.lookup x=some .local ∨ sc.names.lookup x=some .cell∨sc.names.lookup x=some .free
noncomputable def AS(sc:Scope) (x:Str):Prop:=sc.names.lookup x=some .local ∨ sc.names.lookup x=some .cell
noncomputable def Lg(env:Env) (h:Heap) (m:Str->Option Value) (x:Str) (u:Value):Prop :=
 (env.kindOf x=some .local /\ m x=some u)∨((env.kindOf x=some .cell∨env.kindOf x=some .free)/\∃c,env.cells.lookup x=some c/\h.IsCell c (some u))
structure Cx.Ok (X:Cx):Prop where
 mod:Mod X.K X.mg X.base
 kind:X.env.scope.kind=.function
 glob:X.env.globals=mainGlobals
 blt:X.env.builtins=builtinsNs
 above:X.sf.heap.objs.size<=X.env.locals
 inj:∀x y c,X.env.cells.lookup x=some c->X.env.cells.lookup y=some c->x=y
 has:∀x,(X.env.kindOf x=some .cell∨X.env.kindOf x=some .free)->∃c,X.env.cells.lookup x=some c
 cab:∀x c,X.fn x=true->X.env.cells.lookup x=some c->X.sf.heap.objs.size<=c
 hd:X.calm=true->X.A.handled=none
 frames:X.A.frames=some X.stack
 stk:X.stack=X.outer∨(X.stack=X.env::X.outer/\X.env.frame=some X.env.locals)
 exf:∀b∈X.ex,b≠X.env.locals/\∀x c,X.env.cells.lookup x=some c->c≠b
 bs:∀b o,X.base.get? b=some o->X.sf.heap.get? b=some o/\X.Ha b=none
 bsz:X.base.objs.size<=X.sf.heap.objs.size
 noex:∀b o,X.base.get? b=some o->b∉X.ex
 exfs:∀b∈X.ex,b∉X.fs
 funs:X.sf.heap.FunFrames X.base X.outer
 frf:∀b∈X.fs,X.Ha b=none
structure Inv (X:Cx) (pins:List (Addr×Obj)) (σ:List (Option V)) (H:Hp) (s:Shared):Prop where
 ok:X.Ok
 os:s.os=X.sf.os
 bare:AllBare s.gens
 base:Un X.fs X.ex X.Ha H X.sf.heap s.heap
 loc:∃m,s.heap.Ns X.env.locals m/\∀(i:Nat) (x:Str) (v:V),X.N[i]?=some x->σ[i]?=some (some v)->CZ X.env.scope x->∃u,aX v u/\Lg X.env s.heap m x u
 cell:∀x c,X.env.cells.lookup x=some c->∃v,s.heap.IsCell c v
 free:H X.env.locals=none
 freeC:∀x c,X.env.cells.lookup x=some c->H c=none
 pin:∀p∈X.pn++pins,s.heap.get? p.1=some p.2/\H p.1=none/\p.1≠X.env.locals/\p.1∉X.fs/\∀v,p.2.data≠.cell v
 hok:jM X.prog X.w H s.heap
 len:σ.length=X.N.length
section
variable {X:Cx}{pins:List (Addr×Obj)}{σ:List (Option V)}{H H':Hp}{s:Shared}{h':Heap}
theorem Cx.Ok.nofr(ok:X.Ok)(e:X.base.get? b=some o):b∉X.fs:=λhb=>by
 have:=(ok.funs.mem hb).1;rw[e] at this;cases this
theorem Inv.bs(I:Inv X pins σ H s):∀b o,X.base.get? b=some o->s.heap.get? b=some o/\H b=none:=λb o e =>
 ⟨I.base.keep b o (I.ok.bs b o e).1 (I.ok.bs b o e).2 (I.ok.nofr e) (I.ok.noex b o e),I.base.free b o (I.ok.bs b o e).1 (I.ok.bs b o e).2 (I.ok.noex b o e)⟩
theorem Inv.bk(I:Inv X pins σ H s):∀b o,X.base.get? b=some o->s.heap.get? b=some o:=λb o e=>(I.bs b o e).1
theorem Inv.mod(I:Inv X pins σ H s):Mod X.K X.mg X.base:=I.ok.mod
theorem Inv.kIn(I:Inv X pins σ H s):X.K.In s.heap:=I.ok.mod.kin.keeps I.bk
theorem Inv.lt(I:Inv X pins σ H s):X.env.locals<s.heap.objs.size:=let ⟨_,hn,_⟩:=I.loc;hn.lt
theorem Inv.sz(I:Inv X pins σ H s):X.sf.heap.objs.size<=s.heap.objs.size:=Nat.le_trans I.ok.above (Nat.le_of_lt I.lt)
theorem Inv.nofs(I:Inv X pins σ H s)(h:s.heap.objs.size<=a):a∉X.fs:=λhb=>by
 obtain⟨_,o,ho,_⟩:=I.ok.funs.mem hb;exact absurd (Nat.lt_of_lt_of_le (Heap.lt_size ho) (Nat.le_trans I.sz h)) (Nat.lt_irrefl _)
theorem Inv.cne(I:Inv X pins σ H s):∀x c,X.env.cells.lookup x=some c->c≠X.env.locals:=λx c e z=>by
 obtain⟨v,o,ho,hd⟩:=I.cell x c e;obtain⟨m,⟨o',es,ep,ho',hd',_⟩,_⟩:=I.loc;rw[z,ho'] at ho;cases ho;rw[hd'] at hd;cases hd
theorem Inv.funs(I:Inv X pins σ H s):s.heap.FunFrames X.base X.outer:=by
 have all:∀(l:List Env),(∀b∈AQ l,b∈X.fs)->X.sf.heap.FunFrames X.base l->s.heap.FunFrames X.base l:=by
  intro l
  induction l with
  |nil=>intro _ _;trivial
  |cons env r ih =>
   intro hs hl;obtain⟨hk,⟨L,o,hf,hn,ho,hd⟩,hr⟩:=hl;have hL:L∈X.fs:=hs L (by unfold AQ;rw[List.filterMap_cons,hf];exact List.mem_cons_self);obtain⟨sl,e⟩:=I.base.slot L o ho (I.ok.frf L hL) hL λz=>I.ok.exfs L z hL;exact⟨hk,⟨L,_,hf,hn,e,hd⟩,ih (λb hb=>hs b (by unfold AQ;rw[List.filterMap_cons,hf];exact List.mem_cons_of_mem _ hb)) hr⟩
 exact all X.outer (λ_ hb=>hb) I.ok.funs
theorem Inv.stack(I:Inv X pins σ H s):s.heap.FunFrames X.base X.stack:=by
 rcases I.ok.stk with e|⟨e,hf⟩
 .rw[e];exact I.funs
 .rw[e]
  obtain⟨m,hn,_⟩:=I.loc;refine .cons (by rw[I.ok.kind];decide) hf hn ?_ I.funs;exact Heap.get?_none_of_le (Nat.le_trans I.ok.bsz I.ok.above)
theorem Inv.stkSub(I:Inv X pins σ H s):∀b∈AQ X.stack,b∈X.env.locals::X.fs:=λb hb=>by
 rcases I.ok.stk with e|⟨e,hf⟩
 .rw[e] at hb;exact List.mem_cons_of_mem _ hb
 .rw[e] at hb
  unfold AQ at hb;rw[List.filterMap_cons,hf] at hb;exact hb
theorem Inv.stkFree(I:Inv X pins σ H s):∀b∈AQ X.stack,H b=none:=λb hb=>by
 rcases List.mem_cons.mp (I.stkSub b hb) with e|hb
 .rw[e];exact I.free
 .obtain⟨_,o,ho,_⟩:=I.ok.funs.mem hb
  exact I.base.free b o ho (I.ok.frf b hb) λz=>I.ok.exfs b z hb
theorem Inv.step{ch:List Addr}(I:Inv X pins σ H s)
  (hch:∀b∈ch,(b∈X.ex∨X.sf.heap.objs.size<=b)/\b≠X.env.locals/\(∀x c,X.env.cells.lookup x=some c->c≠b)/\∀p∈X.pn++pins,p.1≠b)
  (keep:∀b o,b≠X.env.locals->b∉X.fs->b∉ch->s.heap.get? b=some o->H b=none->h'.get? b=some o)
  (slot:∀b o,b≠X.env.locals->b∈X.fs->b∉ch->s.heap.get? b=some o->H b=none->∃sl,h'.get? b=some { o with slots:=sl })(free:∀b o,b∉ch->s.heap.get? b=some o->H b=none->H' b=none)
  (there:∀b o,b∉ch->s.heap.get? b=some o->∃o',h'.get? b=some o')
  (tups:∀b xs,H b=some (.tup xs)->H' b=some (.tup xs))(frzs:∀b o u,H b=some (.frz o u)->H' b=some (.frz o u))(tbls:∀b ps,H b=some (.tbl ps)->∃more,H' b=some (.tbl (ps++more)))
  (ns:∀m,s.heap.Ns X.env.locals m->h'.Ns X.env.locals m)(hok:jM X.prog X.w H' h')(hg:AllBare g') :
  Inv X pins σ H' { s with heap:=h',gens:=g',drawn:=d',toks:=t' }:=by
 have neL:∀b o,X.sf.heap.get? b=some o->b≠X.env.locals:=λb o e=>Nat.ne_of_lt (Nat.lt_of_lt_of_le (Heap.lt_size e) I.ok.above);have neC:∀b o,X.sf.heap.get? b=some o->b∉X.ex->b∉ch:=λb o e hx hb=>by
  rcases(hch b hb).1 with z|z
  .exact hx z
  .exact absurd (Nat.lt_of_lt_of_le (Heap.lt_size e) z) (Nat.lt_irrefl _)
 have cellK:∀x c,X.env.cells.lookup x=some c->∀v,s.heap.IsCell c v->h'.IsCell c v:=λx c e v ⟨o,ho,hd⟩=>by
  have nch:c∉ch:=λz=>(hch c z).2.2.1 x c e rfl
  by_cases hc:c∈X.fs
  .obtain⟨sl,q⟩:=slot c o (I.cne x c e) hc nch ho (I.freeC x c e)
   exact⟨_,q,hd⟩
  .exact⟨o,keep c o (I.cne x c e) hc nch ho (I.freeC x c e),hd⟩
 refine⟨I.ok,I.os,hg,⟨λb o e n hb hx=>?_,λb o e n hb hx=>?_,λb o e n hx=>?_,λb o e hx=>?_,λb xs e=>tups b xs (I.base.tups b xs e),λb o xs e=>frzs b o xs (I.base.frzs b o xs e),λb ps e=>?_⟩,?_,λx c e=>?_,?_,λx c e=>?_,λp hp=>?_,hok,I.len⟩
 .exact keep b o (neL b o e) hb (neC b o e hx) (I.base.keep b o e n hb hx) (I.base.free b o e n hx)
 .obtain⟨sl,e1⟩:=I.base.slot b o e n hb hx
  obtain⟨sl',e2⟩:=slot b _ (neL b o e) hb (neC b o e hx) e1 (I.base.free b o e n hx);exact⟨sl',e2⟩
 .obtain⟨o',e1⟩:=I.base.there b o e hx
  exact free b o' (neC b o e hx) e1 (I.base.free b o e n hx)
 .obtain⟨o',e1⟩:=I.base.there b o e hx
  exact there b o' (neC b o e hx) e1
 .obtain⟨m1,e1⟩:=I.base.tbls b ps e
  obtain⟨m2,e2⟩:=tbls b _ e1;exact⟨m1++m2,by rw[e2,Array.append_assoc]⟩
 .obtain⟨m,hn,hl⟩:=I.loc
  refine⟨m,ns m hn,λi x v e1 e2 e3=>?_⟩;obtain⟨u,r,l⟩:=hl i x v e1 e2 e3;refine⟨u,r,?_⟩;rcases l with l|⟨k,c,e,z⟩
  .exact .inl l
  .exact .inr ⟨k,c,e,cellK x c e _ z⟩
 .obtain⟨v,z⟩:=I.cell x c e
  exact⟨v,cellK x c e v z⟩
 .obtain⟨m,⟨o,_,_,ho,_⟩,_⟩:=I.loc
  exact free _ o (λz=>(hch _ z).2.1 rfl) ho I.free
 .obtain⟨v,o,ho,hd⟩:=I.cell x c e
  exact free c o (λz=>(hch c z).2.2.1 x c e rfl) ho (I.freeC x c e)
 .obtain⟨e,n,ne,nf,d⟩:=I.pin p hp
  have nch:p.1∉ch:=λz=>(hch p.1 z).2.2.2 p hp rfl;exact⟨keep p.1 p.2 ne nf nch e n,free p.1 p.2 nch e n,ne,nf,d⟩
theorem Inv.un(I:Inv X pins σ H s)(u:Un X.fs [] H H' s.heap h')(hok:jM X.prog X.w H' h'):Inv X pins σ H' { s with heap:=h',toks:=t' }:=by
 obtain⟨m,⟨o,es,ep,ho,r⟩,_⟩:=id I.loc;obtain⟨sl,hL⟩:=u.any ho I.free (by simp);exact I.step (g':=s.gens) (d':=s.drawn) (ch:=[]) (λ_ z=>nomatch z) (λb o _ hb _ e n=>u.keep b o e n hb (by simp)) (λb o _ hb _ e n=>u.slot b o e n hb (by simp)) (λb o _ e n=>u.free b o e n (by simp)) (λb o _ e=>u.there b o e (by simp)) u.tups u.frzs u.tbls (λm' hm=>by
  obtain⟨o',es',ep',ho',r'⟩:=hm;rw[ho] at ho';cases ho';exact⟨_,es',ep',hL,r'⟩) hok I.bare
theorem Inv.call(I:Inv X pins σ H s)(u:Un (AQ X.stack) ch H H' s.heap h')(hok:jM X.prog X.w H' h')(hg:AllBare g')
  (hch:∀b∈ch,(b∈X.ex∨X.sf.heap.objs.size<=b)/\b≠X.env.locals/\(∀x c,X.env.cells.lookup x=some c->c≠b)/\∀p∈X.pn++pins,p.1≠b) :
  Inv X pins σ H' { s with heap:=h',gens:=g',drawn:=d',toks:=t' }:=by
 obtain⟨m,⟨o,es,ep,ho,r⟩,_⟩:=id I.loc;obtain⟨sl,hL⟩:=u.any ho I.free λz=>(hch _ z).2.1 rfl;exact I.step (ch:=ch) hch (λb o hL hb hc e n=>u.keep b o e n (λz=>(List.mem_cons.mp (I.stkSub b z)).elim hL hb) hc) (λb o _ _ hc e n=>u.any e n hc) (λb o hc e n=>u.free b o e n hc) (λb o hc e=>u.there b o e hc) u.tups u.frzs u.tbls (λm' hm=>by
  obtain⟨o',es',ep',ho',r'⟩:=hm;rw[ho] at ho';cases ho';exact⟨_,es',ep',hL,r'⟩) hok hg
theorem Inv.turned(I:Inv X pins σ H s)(k:∀b o,b≠it->s.heap.get? b=some o->h'.get? b=some o)(hn:H it=none)(hL:it≠X.env.locals)
  (h1:it∈X.ex∨X.sf.heap.objs.size<=it)(h2:∀x c,X.env.cells.lookup x=some c->c≠it)(h3:∀p∈X.pn++pins,p.1≠it):Inv X pins σ H { s with heap:=h',toks:=t' }:=by
 have nit:∀b u,H b=some u->b≠it:=λb u e z=>by rw[z,hn] at e;cases e
 refine I.step (g':=s.gens) (d':=s.drawn) (ch:=[it]) (λb hb=>?_) (λb o _ _ hc e _=>k b o (λz=>hc (by simp [z])) e) (λb o _ _ hc e _=>⟨o.slots,k b o (λz=>hc (by simp [z])) e⟩) (λ_ _ _ _ n=>n)
  (λb o hc e=>⟨o,k b o (λz=>hc (by simp [z])) e⟩) (λ_ _ e=>e) (λ_ _ _ e=>e) (λb ps e=>⟨#[],by rw[e];simp⟩) (λm hm=>?_) (λb u e=>?_) I.bare
 .have e:b=it:=by simpa using hb
  subst e;exact⟨h1,hL,h2,h3⟩
 .obtain⟨o,es,ep,ho,r⟩:=hm
  exact⟨o,es,ep,k _ o (Ne.symm hL) ho,r⟩
 .refine(I.hok b u e).stay (λc v hc q=>k c v ?_ q) (λ_ q=>q) λ_ _ q=>q
  rcases hc with z|z
  .rw[z];exact nit b u e
  .exact nit c _ z
theorem Inv.tok(I:Inv X pins σ H s)(t:Nat):Inv X pins σ H { s with toks:=t }:=I.un (h':=s.heap) (t':=t) Un.refl I.hok
theorem Inv.kept(I:Inv X pins σ H s)(k:∀b u,s.heap.get? b=some u->h'.get? b=some u):Inv X pins σ H { s with heap:=h',toks:=t' }:=I.un (Un.kept k) (I.hok.kept k)
theorem Inv.laid(I:Inv X pins σ H s)(k:∀b u,s.heap.get? b=some u->h'.get? b=some u)(hp:s.heap.objs.size<=a)(new:cF X.prog X.w (upd H a o) h' a o) :
  Inv X pins σ (upd H a o) { s with heap:=h',toks:=t' }:=I.un (Un.laid k hp (I.hok.fresh hp)) (I.hok.laid k hp new)
theorem Inv.write(I:Inv X pins σ H s)(mu:JT (H x))(he:e=x∨H e=some (.own x))(k:∀b u,b≠e->s.heap.get? b=some u->h'.get? b=some u)(heo:∃u,h'.get? e=some u)
  (new:cF X.prog X.w (upd H x o) h' x o):Inv X pins σ (upd H x o) { s with heap:=h',toks:=t' }:=I.un (Un.write mu he k heo) (I.hok.write mu he k heo new)
theorem Inv.pins_of(I:Inv X pins σ H s)(h:∀p∈pins',s.heap.get? p.1=some p.2/\H p.1=none/\p.1≠X.env.locals/\p.1∉X.fs/\∀v,p.2.data≠.cell v):Inv X pins' σ H s :=
 ⟨I.ok,I.os,I.bare,I.base,I.loc,I.cell,I.free,I.freeC,λp hp=>(List.mem_append.mp hp).elim (λz=>I.pin p (List.mem_append_left _ z)) (h p),I.hok,I.len⟩
theorem vd{N:List Str}(hN:N.Nodup){i j:Nat}(a:N[i]?=some x)(b:N[j]?=some x):i=j:=by
 obtain⟨h1,e1⟩:=List.getElem?_eq_some_iff.mp a;obtain⟨h2,e2⟩:=List.getElem?_eq_some_iff.mp b;exact(List.getElem_inj hN).mp (e1.trans e2.symm)
theorem lN(I:Inv X pins σ H s)(hN:X.N.Nodup)(hi:X.N[i]?=some x)(hx:AS X.env.scope x)(r:aX v u)
  (h:∀s',Inv X pins (σ.set i (some v)) H s'->(∃a,Heap.SameBut a s.heap s'.heap/\(a=X.env.locals∨X.env.cells.lookup x=some a))->Q () s')(hf:X.fn x=true∨X.env.scope.names.lookup x=some .local := by first|exact .inl rfl|exact .inr rfl|assumption):wpAny M A (storeName X.env x u) Q E s:=by
 obtain⟨m,hn,hl⟩:=id I.loc;have hcls:(X.env.scope.kind==.class||(X.env.scope.kind==.module&&X.env.locals != X.env.globals))=false:=by rw[I.ok.kind];rfl
 have hiσ:i<σ.length:=by rw[I.len];exact(List.getElem?_eq_some_iff.mp hi).1
 have cne:=I.cne;have tracked:∀{a:Addr}{h':Heap},(∃o,s.heap.get? a=some o/\H a=none)->Heap.SameBut a s.heap h'->jM X.prog X.w H h':=λ{a h'} ha hs b ob e=>by
  obtain⟨_,_,hfree⟩:=ha;refine(I.hok b ob e).stay (λc w' hc q=>(hs.2 c ?_).trans q) (λ_ q=>q) λ_ _ q=>q;rintro rfl;rcases hc with rfl|hc
  .rw[hfree] at e;cases e
  .rw[hfree] at hc;cases hc
 rcases hx with hk|hk
 .refine wpAny_storeName_local hk hn (λh' hn' hs=>?_) hcls
  obtain⟨oL,_,_,hoL,_⟩:=id hn;refine h _ ⟨I.ok,I.os,I.bare,⟨λb o e n hb hx=>?_,λb o e n hb hx=>?_,I.base.free,λb o e hx=>?_,I.base.tups,I.base.frzs,I.base.tbls⟩,⟨_,hn',λj y v' e1 e2 e3=>?_⟩,λy c e=>?_,I.free,I.freeC,λp hp=>?_,tracked ⟨oL,hoL,I.free⟩ hs,by simpa using I.len⟩ ⟨_,hs,.inl rfl⟩
  .exact(hs.2 b (Nat.ne_of_lt (Nat.lt_of_lt_of_le (Heap.lt_size e) I.ok.above))).trans (I.base.keep b o e n hb hx)
  .obtain⟨sl,e1⟩:=I.base.slot b o e n hb hx
   exact⟨sl,(hs.2 b (Nat.ne_of_lt (Nat.lt_of_lt_of_le (Heap.lt_size e) I.ok.above))).trans e1⟩
  .obtain⟨o',e1⟩:=I.base.there b o e hx
   exact⟨o',(hs.2 b (Nat.ne_of_lt (Nat.lt_of_lt_of_le (Heap.lt_size e) I.ok.above))).trans e1⟩
  .by_cases hj:j=i
   .subst hj
    rw[hi] at e1;cases e1;rw[List.getElem?_set_self hiσ] at e2;cases e2;exact⟨u,r,.inl ⟨hk,by simp⟩⟩
   .rw[List.getElem?_set_ne (Ne.symm hj)] at e2
    obtain⟨u',r',q⟩:=hl j y v' e1 e2 e3;refine⟨u',r',?_⟩;rcases q with⟨k,e⟩|⟨k,c,e,z⟩
    .refine .inl ⟨k,?_⟩
     have:y≠x:=λe=>hj (vd hN e1 (e▸hi));simp [this,e]
    .exact .inr ⟨k,c,e,z.sameBut hs (cne y c e)⟩
  .obtain⟨w',z⟩:=I.cell y c e
   exact⟨w',z.sameBut hs (cne y c e)⟩
  .obtain⟨e,n,ne,nf,d⟩:=I.pin p hp
   exact⟨(hs.2 p.1 ne).trans e,n,ne,nf,d⟩
 .have hfn:X.fn x=true:=by
   rcases hf with z|z
   .exact z
   .rw[z] at hk;cases hk
  obtain⟨c,hc⟩:=I.ok.has x (.inl hk);obtain⟨w',z⟩:=I.cell x c hc;refine wpAny_storeName_cell I.ok.kind hk hc z (λh' hc' hs=>?_);obtain⟨oc,hoc,hocd⟩:=id z;refine h { s with heap:=h' } ⟨I.ok,I.os,I.bare,⟨λb o e n hb hx=>?_,λb o e n hb hx=>?_,I.base.free,λb o e hx=>?_,I.base.tups,I.base.frzs,I.base.tbls⟩,⟨m,hn.sameBut hs (Ne.symm (cne x c hc)),λj y v' e1 e2 e3=>?_⟩,λy c' e=>?_,I.free,I.freeC,λp hp=>?_,tracked ⟨oc,hoc,I.freeC x c hc⟩ hs,by simpa using I.len⟩ ⟨c,hs,.inr hc⟩
  .exact(hs.2 b (Nat.ne_of_lt (Nat.lt_of_lt_of_le (Heap.lt_size e) (I.ok.cab x c hfn hc)))).trans (I.base.keep b o e n hb hx)
  .obtain⟨sl,e1⟩:=I.base.slot b o e n hb hx
   exact⟨sl,(hs.2 b (Nat.ne_of_lt (Nat.lt_of_lt_of_le (Heap.lt_size e) (I.ok.cab x c hfn hc)))).trans e1⟩
  .obtain⟨o',e1⟩:=I.base.there b o e hx
   exact⟨o',(hs.2 b (Nat.ne_of_lt (Nat.lt_of_lt_of_le (Heap.lt_size e) (I.ok.cab x c hfn hc)))).trans e1⟩
  .by_cases hj:j=i
   .subst hj
    rw[hi] at e1;cases e1;rw[List.getElem?_set_self hiσ] at e2;cases e2;exact⟨u,r,.inr ⟨.inl hk,c,hc,hc'⟩⟩
   .rw[List.getElem?_set_ne (Ne.symm hj)] at e2
    obtain⟨u',r',q⟩:=hl j y v' e1 e2 e3;refine⟨u',r',?_⟩;rcases q with q|⟨k,c',e,z'⟩
    .exact .inl q
    .refine .inr ⟨k,c',e,z'.sameBut hs ?_⟩
     rintro rfl;exact hj (vd hN e1 (I.ok.inj _ _ _ e hc▸hi))
  .by_cases hcc:c'=c
   .subst hcc;exact⟨_,hc'⟩
   .obtain⟨w2,z2⟩:=I.cell y c' e
    exact⟨w2,z2.sameBut hs hcc⟩
  .obtain⟨e,n,ne,nf,d⟩:=I.pin p hp
   refine⟨(hs.2 p.1 ?_).trans e,n,ne,nf,d⟩;intro q;rw[q,hoc] at e;have q':oc=p.2:=Option.some.inj e;exact d w' (by rw[←q'];exact hocd)
theorem jO(I:Inv X pins σ H s)(hN:X.N.Nodup)(hi:X.N[i]?=some x)(hx:AS X.env.scope x)(r:aX v u)
  (h:∀s',Inv X pins (σ.set i (some v)) H s'->Q () s')(hf:X.fn x=true∨X.env.scope.names.lookup x=some .local := by first|exact .inl rfl|exact .inr rfl|assumption):wpAny M A (storeName X.env x u) Q E s :=
 lN I hN hi hx r (λs' I' _=>h s' I') hf
theorem Inv.call'(I:Inv X pins σ H s)(ho:s'.os=s.os)(u:Un (AQ X.stack) ch H H' s.heap s'.heap)(hok:jM X.prog X.w H' s'.heap)(hg:AllBare s'.gens)
  (hch:∀b∈ch,(b∈X.ex∨X.sf.heap.objs.size<=b)/\b≠X.env.locals/\(∀x c,X.env.cells.lookup x=some c->c≠b)/\∀p∈X.pn++pins,p.1≠b):Inv X pins σ H' s':=by
 obtain⟨h',g',d',t',o'⟩:=s';have e:o'=s.os:=ho;subst e;exact I.call (g':=g') (t':=t') (d':=d') u hok hg hch
end
noncomputable abbrev XK:=Value->Option Addr->Hp->Prop
noncomputable abbrev St:=List (Option V)
noncomputable abbrev VK:=V->Hp->Prop
noncomputable abbrev TE:=St->Hp->VK->Prop
noncomputable abbrev TT:=St->Hp->(Bool->Hp->Prop)->Prop
noncomputable abbrev TA:=St->Hp->(List V->Hp->Prop)->Prop
structure lK where
 nx:St->Hp->Prop
 rt:VK
 bk:St->Hp->Prop:=λ_ _=>False
 ct:St->Hp->Prop:=λ_ _=>False
noncomputable abbrev TS:=lK->St->Hp->Prop
noncomputable def EP(X:Cx) (pins:List (Addr×Obj)) (σ:St) (Q:VK) (u:Value) (s':Shared):Prop:=∃v H',Inv X pins σ H' s'/\aX v u/\Q v H'
noncomputable def TP(X:Cx) (pins:List (Addr×Obj)) (σ:St) (Q:Bool->Hp->Prop) (b:Bool) (s':Shared):Prop:=∃H',Inv X pins σ H' s'/\Q b H'
noncomputable def AP(X:Cx) (pins:List (Addr×Obj)) (σ:St) (Q:List V->Hp->Prop) (us:List Value) (s':Shared):Prop:=∃vs H',Inv X pins σ H' s'/\bz vs us/\Q vs H'
noncomputable def SP(X:Cx) (pins:List (Addr×Obj)) (D:lK) (f:Flow) (s':Shared):Prop :=
 match f with
 |.next=>∃σ' H',Inv X pins σ' H' s'/\D.nx σ' H'
 |.brk=>∃σ' H',Inv X pins σ' H' s'/\D.bk σ' H'
 |.cont=>∃σ' H',Inv X pins σ' H' s'/\D.ct σ' H'
 |.ret u=>∃v σ' H',Inv X pins σ' H' s'/\aX v u/\D.rt v H'
noncomputable def PE(X:Cx) (e:Expr) (t:TE):Prop :=
 ∀(pins:List (Addr×Obj)) (s:Shared) (σ:St) (H:Hp) (Q:VK),Inv X pins σ H s->t σ H Q->wpAny (model X.prog X.w) X.A (eval e X.env) (EP X pins σ Q) X.xe s
noncomputable def PT(X:Cx) (e:Expr) (t:TT):Prop :=
 ∀(pins:List (Addr×Obj)) (s:Shared) (σ:St) (H:Hp) (Q:Bool->Hp->Prop),Inv X pins σ H s->t σ H Q->wpAny (model X.prog X.w) X.A (isTrue e X.env (eval e X.env)) (TP X pins σ Q) X.xe s
noncomputable def PW(X:Cx) (e:Expr) (t:TT):Prop :=
 ∀(whole:Sem Value) (pins:List (Addr×Obj)) (s:Shared) (σ:St) (H:Hp) (Q:Bool->Hp->Prop),Inv X pins σ H s->t σ H Q->wpAny (model X.prog X.w) X.A (isTrue e X.env whole) (TP X pins σ Q) X.xe s
theorem PW.pt(h:PW X e t):PT X e t:=h _
noncomputable def PA(X:Cx) (es:List Expr) (t:TA):Prop :=
 ∀(pos:Pos) (pins:List (Addr×Obj)) (s:Shared) (σ:St) (H:Hp) (Q:List V->Hp->Prop),Inv X pins σ H s->t σ H Q->wpAny (model X.prog X.w) X.A (spliced (backTo pos (starEach es X.env))) (AP X pins σ Q) X.xe s
noncomputable def PS(X:Cx) (st:Stmt) (t:TS):Prop :=
 ∀(pins:List (Addr×Obj)) (s:Shared) (σ:St) (H:Hp) (D:lK),Inv X pins σ H s->t D σ H->wpAny (model X.prog X.w) X.A (exec st X.env) (SP X pins D) X.xe s
noncomputable def uB(X:Cx) (st:List Stmt) (t:TS):Prop :=
 ∀(pins:List (Addr×Obj)) (s:Shared) (σ:St) (H:Hp) (D:lK),Inv X pins σ H s->t D σ H->wpAny (model X.prog X.w) X.A (execs st X.env) (SP X pins D) X.xe s
theorem cw{Q Q':α->Shared->Prop}(h:wpAny M A t Q E s)(hQ:∀a s,Q a s->Q' a s):wpAny M A t Q' E s:=wpAny_mono h hQ λ_ _ x=>x
section
variable {X:Cx}
theorem Mh(ha:PE X a ta)(hb:PE X b tb){R:V->V->Hp->Prop}(I:Inv X pins σ H s)(h:ta σ H λx H1=>tb σ H1 λy H2=>R x y H2)
  {f:Value->Value->Sem α}
  (hf:∀v u s2 x y H2,Inv X pins σ H2 s2->aX x v->aX y u->R x y H2->wpAny (model X.prog X.w) X.A (f v u) Q X.xe s2) :
  wpAny (model X.prog X.w) X.A (eval a X.env) (λv sg=>wpAny (model X.prog X.w) X.A (eval b X.env) (λu si=>wpAny (model X.prog X.w) X.A (f v u) Q X.xe si) X.xe sg) X.xe s:=by
 refine cw (ha pins s σ H _ I h) λv s1 ⟨x,H1,I1,r1,q1⟩=>?_;refine cw (hb pins s1 σ H1 _ I1 q1) λu s2 ⟨y,H2,I2,r2,q2⟩=>?_;exact hf v u s2 x y H2 I2 r1 r2 q2
noncomputable def Kn(i:Nat):TE:=λσ H Q=>∃v,σ[i]?=some (some v)/\Q v H
noncomputable def tC(v:V):TE:=λ_ H Q=>Q v H
theorem ju(hN:X.N[i]?=some x)(hv:CZ X.env.scope x)(hd:(x==("__debug__":Str))=false:=by decide)(hcd:(x==("__classdict__":Str))=false:=by decide):PE X (.Name x pos) (Kn i):=by
 intro pins s σ H Q I h;obtain⟨v,e,h⟩:=h;obtain⟨m,hn,hl⟩:=I.loc;obtain⟨u,r,l⟩:=hl i x v hN e hv;have fin:EP X pins σ Q u s:=⟨v,H,I,r,h⟩
 rcases l with⟨hk,hm⟩|⟨hk,c,hc,hcell⟩
 .exact wpAny_Name (wpAny_loadName_local I.ok.kind hk hn hm fin) hd
 .rcases hk with hk|hk
  .exact wpAny_Name (wpAny_loadName_cell I.ok.kind hk hc hcell fin) hd
  .exact wpAny_Name (wpAny_loadName_free I.ok.kind hk hc hcell fin hcd) hd
theorem GJ{i j pos}:PE X (.Constant (.int i) j pos) (tC (.int i)):=λ_ _ _ H _ I h=>wpAny_Constant_int ⟨.int i,H,I.tok _,⟨_,rfl⟩,h⟩
theorem IZ{b j pos}:PE X (.Constant (.bool b) j pos) (tC (.bl b)):=λ_ _ _ H _ I h=>Constant_bool ⟨.bl b,H,I,rfl,h⟩
theorem GI{j pos}:PE X (.Constant .none j pos) (tC .non):=λ_ _ _ H _ I h=>Constant_none ⟨.non,H,I,rfl,h⟩
theorem GF{x j pos}:PE X (.Constant (.str x) j pos) (tC (.str x)):=λ_ _ _ H _ I h=>Calls.Constant_str ⟨.str x,H,I.tok _,⟨_,rfl⟩,h⟩
noncomputable def Gl(X:Cx) (x:Str):Prop:=X.env.kindOf x=some .globalImplicit
theorem yI(I:Inv X pins σ H s)(hg:Gl X x)(hm:X.mg x=some u)(h:Q u s)
  (hd:(x==("__debug__":Str))=false:=by decide):wpAny (model X.prog X.w) X.A (eval (.Name x pos) X.env) Q E s :=
 Calls.Name_function_global I.ok.kind hg (Calls.loadGlobal_global (by rw[I.ok.glob];exact I.mod.glob.keeps I.bk) hm h) hd
theorem oJ(I:Inv X pins σ H s)(hg:Gl X x)(hm:X.mg x=none)(hv:bootBuiltins x=some u)(h:Q u s)
  (hn:x≠"__name__":=by decide)(hd:(x==("__debug__":Str))=false:=by decide):wpAny (model X.prog X.w) X.A (eval (.Name x pos) X.env) Q E s:=by
 obtain⟨mb,h1,h2⟩:=I.mod.blt;exact Calls.Name_function_global I.ok.kind hg (Calls.loadGlobal_builtin (by rw[I.ok.glob];exact I.mod.glob.keeps I.bk) hm (by rw[I.ok.blt];exact h1.keeps I.bk) ((h2 x hn).trans hv) h) hd
theorem D4(hg:Gl X x)(hm:X.mg x=some u)(r:aX v u)(hd:(x==("__debug__":Str))=false:=by decide):PE X (.Name x pos) (tC v) :=
 λ_ _ _ H _ I h=>yI I hg hm ⟨v,H,I,r,h⟩ hd
theorem D7(hg:Gl X x)(hm:X.mg x=none)(hv:bootBuiltins x=some u)(r:aX v u)(hn:x≠"__name__":=by decide)(hd:(x==("__debug__":Str))=false:=by decide):PE X (.Name x pos) (tC v) :=
 λ_ _ _ H _ I h=>oJ I hg hm hv ⟨v,H,I,r,h⟩ hn hd
variable {a b:Expr}{ta tb:TE}{pos:Pos}
noncomputable def PC(X:Cx) (op:CmpOp) (a b:Expr) (t:TE):Prop :=
 ∀(pins:List (Addr×Obj)) (s:Shared) (σ:St) (H:Hp) (Q:VK),Inv X pins σ H s->t σ H Q ->
  wpAny (model X.prog X.w) X.A (eval a X.env) (λv sg=>wpAny (model X.prog X.w) X.A (eval b X.env) (λu si=>wpAny (model X.prog X.w) X.A (compareOp op v u) (EP X pins σ Q) X.xe si) X.xe sg) X.xe s
theorem ve(b:Expr)(h:op≠.In)(h2:op≠.NotIn):behindInMarks op b=false:=by
 have e1:(op==CmpOp.In)=false:=by cases op<;>first|rfl|exact absurd rfl h
 have e2:(op==CmpOp.NotIn)=false:=by cases op<;>first|rfl|exact absurd rfl h2
 cases b<;>simp [behindInMarks,e1,e2]
noncomputable def tB(t:TE):TT:=λσ H Q=>t σ H λx H1=>∃c,x=.bl c/\Q c H1
theorem KJ(h:PC X op a b t)(h1:behindInMarks op b=false:=by first|exact ve _ (by decide) (by decide)|rfl):PT X (.Compare a [op] [b] pos) (tB t):=by
 intro pins s σ H Q I hw;refine wpAny_isTrue_Compare1 (cw (h pins s σ H _ I hw) λv s1 h1=>cw h1 λu s2 h2=>cw h2 λc s3 ⟨x,H1,I1,r1,q1⟩=>?_) h1;obtain⟨d,rfl,q⟩:=q1;cases r1;exact wpAny_truthy_bool ⟨H1,I1,q⟩
theorem Gu(h:PE X e t)(he:∀whole,isTrue e X.env whole=(do let v ←whole;standAt e.pos;holding [v] (truthy v)):=by intro _;rfl):PT X e (tB t):=by
 intro pins s σ H Q I hw;refine isTrue_plain (cw (h pins s σ H _ I hw) λv s1 ⟨x,H1,I1,r1,q1⟩=>?_) (he _);obtain⟨d,rfl,q⟩:=q1;cases r1;exact wpAny_truthy_bool ⟨H1,I1,q⟩
variable {tA tB':TT}{rest:List Expr}
noncomputable def KC(t u:TT):TT:=λσ H Q=>t σ H λc H1=>if c=true then u σ H1 Q else Q false H1
noncomputable def LU(t u:TT):TT:=λσ H Q=>t σ H λc H1=>if c=true then Q true H1 else u σ H1 Q
noncomputable def Kt(t:TT):TT:=λσ H Q=>t σ H λc H1=>Q (!c) H1
theorem DQ(ha:PT X a tA):PW X (.BoolOp .And [a] pos) tA:=by
 intro wh pins s σ H Q I h;refine isTrue_and (cw (ha pins s σ H Q I h) λc s1 e=>?_);cases c with|true=>exact isTrue_and_nil e|false=>exact e
theorem Gr(ha:PT X a tA):PW X (.BoolOp .Or [a] pos) tA:=by
 intro wh pins s σ H Q I h;refine isTrue_or (cw (ha pins s σ H Q I h) λc s1 e=>?_);cases c with|false=>exact isTrue_or_nil e|true=>exact e
theorem Gs(ha:PT X a tA)(hb:PW X (.BoolOp .And (b::rest) pos) tB'):PW X (.BoolOp .And (a::b::rest) pos) (KC tA tB'):=by
 intro wh pins s σ H Q I h;refine isTrue_and (cw (ha pins s σ H _ I h) λc s1 ⟨H1,I1,q1⟩=>?_);cases c with|true=>exact hb wh pins s1 σ H1 Q I1 q1|false=>exact⟨H1,I1,q1⟩
theorem IQ(ha:PT X a tA)(hb:PW X (.BoolOp .Or (b::rest) pos) tB'):PW X (.BoolOp .Or (a::b::rest) pos) (LU tA tB'):=by
 intro wh pins s σ H Q I h;refine isTrue_or (cw (ha pins s σ H _ I h) λc s1 ⟨H1,I1,q1⟩=>?_);cases c with|true=>exact⟨H1,I1,q1⟩|false=>exact hb wh pins s1 σ H1 Q I1 q1
theorem Gv(ha:PT X a tA):PT X (.UnaryOp .Not a pos) (Kt tA):=by
 intro pins s σ H Q I h;exact isTrue_not (ha pins s σ H (λc H1=>Q (!c) H1) I h)
noncomputable def Iz(ta tb:TE):TE:=λσ H Q=>ta σ H λx H1=>∃c,x=.bl c/\if c=true then tb σ H1 Q else Q (.bl false) H1
noncomputable def Ks(ta tb:TE):TE:=λσ H Q=>ta σ H λx H1=>∃c,x=.bl c/\if c=true then Q (.bl true) H1 else tb σ H1 Q
noncomputable def Ip(ta:TE):TE:=λσ H Q=>ta σ H λx H1=>∃c,x=.bl c/\Q (.bl (!c)) H1
theorem GG{op}(h:PE X a t):PE X (.BoolOp op [a] pos) t:=λpins s σ H Q I hw=>BoolOp_one (h pins s σ H Q I hw)
theorem GK(ha:PE X a ta)(hb:PE X (.BoolOp .And (b::rest) pos) tb):PE X (.BoolOp .And (a::b::rest) pos) (Iz ta tb):=by
 intro pins s σ H Q I h;refine BoolOp_and (cw (ha pins s σ H _ I h) λv s1 ⟨x,H1,I1,r1,q1⟩=>?_);obtain⟨c,rfl,q1⟩:=q1;cases r1;refine wpAny_truthy_bool ?_;cases c with|true=>exact hb pins s1 σ H1 Q I1 q1|false=>exact⟨.bl false,H1,I1,rfl,q1⟩
theorem IY(ha:PE X a ta)(hb:PE X (.BoolOp .Or (b::rest) pos) tb):PE X (.BoolOp .Or (a::b::rest) pos) (Ks ta tb):=by
 intro pins s σ H Q I h;refine BoolOp_or (cw (ha pins s σ H _ I h) λv s1 ⟨x,H1,I1,r1,q1⟩=>?_);obtain⟨c,rfl,q1⟩:=q1;cases r1;refine wpAny_truthy_bool ?_;cases c with|false=>exact hb pins s1 σ H1 Q I1 q1|true=>exact⟨.bl true,H1,I1,rfl,q1⟩
theorem GH(ha:PE X a ta):PE X (.UnaryOp .Not a pos) (Ip ta):=by
 intro pins s σ H Q I h;refine UnaryOp_ (cw (ha pins s σ H _ I h) λv s1 ⟨x,H1,I1,r1,q1⟩=>?_);obtain⟨c,rfl,q1⟩:=q1;cases r1;exact not_of (wpAny_truthy_bool ⟨.bl (!c),H1,I1,rfl,q1⟩)
noncomputable def LY(t:TT) (ta tb:TE):TE:=λσ H Q=>t σ H λc H1=>if c=true then ta σ H1 Q else tb σ H1 Q
theorem BL(hc:PT X c tA)(ha:PE X a ta)(hb:PE X b tb):PE X (.IfExp c a b pos) (LY tA ta tb):=by
 intro pins s σ H Q I h;refine wpAny_IfExp (cw (hc pins s σ H _ I h) λd s1 ⟨H1,I1,q1⟩=>?_);cases d with|true=>exact ha pins s1 σ H1 Q I1 q1|false=>exact hb pins s1 σ H1 Q I1 q1
end
noncomputable def eD(K:W.Frag) (H:Hp) (a:Addr) (xs:List V):Prop :=
 Rd H a (.lst xs) ∨
  ∃(o:Obj) (its:Array Value) (n:Nat),K.lookup a=some o/\o.cls=.type "list"/\o.dict=none/\o.data=.seq its n/\its.size<=sizeLine/\bz xs its.toList
noncomputable def jc(K:W.Frag) (H:Hp) (a:Addr) (xs:List V):Prop :=
 Rd H a (.tup xs) ∨
  ∃(o:Obj) (its:Array Value) (n:Nat),K.lookup a=some o/\o.cls=.type "tuple"/\o.data=.seq its n/\its.size<=sizeLine/\bz xs its.toList
noncomputable def K8:Value->Option V
 |.none=>some .non
 |.bool b=>some (.bl b)
 |.int i _=>some (.int i)
 |.str x _=>some (.str x)
 |.bytes b _=>some (.byt b)
 |.float b _=>some (.flt b)
 |.ref a=>some (.ref a)
 |.type n=>some (.ty n)
 |_=>none
theorem aX.abs(r:aX x u):K8 u=some x:=by
 cases x with|non|bl _=>cases r;rfl|int _|str _|byt _|flt _=>obtain⟨t,rfl⟩:=r;rfl|ref _|ty _=>cases r;rfl
theorem aX.inj(r:aX x u)(q:aX y u):x=y:=Option.some.inj (r.abs.symm.trans q.abs)
theorem bz.inj:∀{xs ys:List V}{us:List Value},bz xs us->bz ys us->xs=ys
 |_,_,_,.nil,.nil=>rfl
 |_,_,_,.cons r t,.cons r' t'=>by rw[r.inj r',bz.inj t t']
section
variable {X:Cx}{pins:List (Addr×Obj)}{σ:St}{H:Hp}{s:Shared}{a:Addr}{xs ys:List V}
theorem eD.of{K:W.Frag}(h:H a=some (.lst xs)):eD K H a xs:=.inl (.inl h)
theorem jc.of{K:W.Frag}(h:H a=some (.tup xs)):jc K H a xs:=.inl (.inl h)
theorem Inv.list(I:Inv X pins σ H s)(h:eD X.K H a xs):∃its:List Value,bz xs its/\PlainL s.heap a its.toArray/\xs.length<=sizeLine:=by
 rcases h with h|⟨o,its,n,hk,hc,hd,hs,hz,r⟩
 .obtain⟨z,its,n,r,e⟩:=h.ok I.hok
  exact⟨its,r,⟨_,n,e,rfl,rfl,rfl⟩,z⟩
 .refine⟨its.toList,r,⟨o,n,I.kIn a o hk,hc,hd,by simpa using hs⟩,?_⟩
  have e:=r.length;simp only[Array.length_toList] at e;omega
theorem Inv.tuple(I:Inv X pins σ H s)(h:jc X.K H a xs):∃its:List Value,bz xs its/\IsTup s.heap a its.toArray/\xs.length<=sizeLine:=by
 rcases h with h|⟨o,its,n,hk,hc,hs,hz,r⟩
 .obtain⟨z,its,r,p⟩:=h.ok I.hok
  exact⟨its,r,p,z⟩
 .refine⟨its.toList,r,⟨o,I.kIn a o hk,hc,n,by simpa using hs⟩,?_⟩
  have e:=r.length;simp only[Array.length_toList] at e;omega
theorem Inv.list_inj(I:Inv X pins σ H s)(h:eD X.K H a xs)(h':eD X.K H a ys):xs=ys:=by
 obtain⟨its,r,⟨o,n,e,_,_,d⟩,_⟩:=I.list h;obtain⟨its',r',⟨o',n',e',_,_,d'⟩,_⟩:=I.list h';rw[e] at e';cases e';rw[d] at d';injection d' with d1 _;have:its=its':=by simpa using congrArg Array.toList d1
 subst this;exact r.inj r'
theorem Inv.tuple_inj(I:Inv X pins σ H s)(h:jc X.K H a xs)(h':jc X.K H a ys):xs=ys:=by
 obtain⟨its,r,⟨o,e,_,n,d⟩,_⟩:=I.tuple h;obtain⟨its',r',⟨o',e',_,n',d'⟩,_⟩:=I.tuple h';rw[e] at e';cases e';rw[d] at d';injection d' with d1 _;have:its=its':=by simpa using congrArg Array.toList d1
 subst this;exact r.inj r'
end
noncomputable abbrev Cx.wish(X:Cx) (E:Value->Shared->Prop):Cx:={ X with xe:=E }
noncomputable abbrev Cx.nox(X:Cx):Cx:=X.wish λ_ _=>False
theorem Cx.Ok.wish{X:Cx}(ok:X.Ok)(E:Value->Shared->Prop):(X.wish E).Ok :=
 ⟨ok.mod,ok.kind,ok.glob,ok.blt,ok.above,ok.inj,ok.has,ok.cab,ok.hd,ok.frames,ok.stk,ok.exf,ok.bs,ok.bsz,ok.noex,ok.exfs,ok.funs,ok.frf⟩
theorem Cx.Ok.unwish{X:Cx}(ok:(X.wish E).Ok):X.Ok :=
 ⟨ok.mod,ok.kind,ok.glob,ok.blt,ok.above,ok.inj,ok.has,ok.cab,ok.hd,ok.frames,ok.stk,ok.exf,ok.bs,ok.bsz,ok.noex,ok.exfs,ok.funs,ok.frf⟩
section
variable {X:Cx}{pins:List (Addr×Obj)}{σ:St}{H:Hp}{s:Shared}{E:Value->Shared->Prop}
theorem Inv.wish(I:Inv X pins σ H s)(E:Value->Shared->Prop):Inv (X.wish E) pins σ H s:=⟨I.ok.wish E,I.os,I.bare,I.base,I.loc,I.cell,I.free,I.freeC,I.pin,I.hok,I.len⟩
theorem Inv.unwish(I:Inv (X.wish E) pins σ H s):Inv X pins σ H s:=⟨I.ok.unwish,I.os,I.bare,I.base,I.loc,I.cell,I.free,I.freeC,I.pin,I.hok,I.len⟩
theorem SP.unwish{D:lK}(h:SP (X.wish E) pins D f s'):SP X pins D f s':=by
 cases f with|next|brk|cont=>obtain⟨σ',H',I,q⟩:=h;exact⟨σ',H',I.unwish,q⟩|ret u=>obtain⟨v,σ',H',I,r,q⟩:=h;exact⟨v,σ',H',I.unwish,r,q⟩
theorem uB.nox{st:List Stmt}(h:uB X.nox st t):uB X st t:=λpins s σ H D I hw =>
 wpAny_mono (h pins s σ H D (I.wish _) hw) (λ_ _ q=>q.unwish) λ_ _ z=>False.elim z
end
section
variable {X:Cx}{st:Stmt}{rest:List Stmt}{t u:TS}{e:Expr}{te:TE}{pos:Pos}
noncomputable def Iq:TS:=λD σ H=>D.nx σ H
noncomputable def Kp(t u:TS):TS:=λD σ H=>t { D with nx:=u D } σ H
theorem nv:uB X [] Iq:=λ_ _ σ H _ I h=>wpAny_execs_nil ⟨σ,H,I,h⟩
theorem fQ(h1:PS X st t)(h2:uB X rest u):uB X (st::rest) (Kp t u):=by
 intro pins s σ H D I h;refine wpAny_execs_cons (cw (h1 pins s σ H { D with nx:=u D } I h) λf s1 q=>?_);cases f with
 |next =>
  obtain⟨σ',H',I',q⟩:=q;exact h2 pins s1 σ' H' D I' q
 |ret v|brk|cont=>exact q
theorem Inv.quiet(I:Inv X pins σ H s):interactive X.env=false:=by simp [interactive,I.ok.kind]
noncomputable def Ir(te:TE):TS:=λD σ H=>te σ H λ_ H1=>D.nx σ H1
theorem tm(he:PE X e te)(hs:swapsWith e none pos.line X.env=pure false:=by rfl):PS X (.Expr e pos) (Ir te):=by
 intro pins s σ H D I h;exact wpAny_Expr_any (cw (he pins s σ H _ I h) λv s1 ⟨x,H1,I1,r1,q1⟩=>⟨σ,H1,I1,q1⟩) I.quiet hs
noncomputable def Kq(te:TE):TS:=λD σ H=>te σ H D.rt
theorem tf(he:PE X e te):PS X (.Return (some e) pos) (Kq te):=by
 intro pins s σ H D I h;exact wpAny_Return_some (cw (he pins s σ H _ I h) λv s1 ⟨x,H1,I1,r1,q1⟩=>⟨x,σ,H1,I1,r1,q1⟩)
noncomputable def Kx(c:TT) (t u:TS):TS:=λD σ H=>c σ H λb H1=>if b=true then t D σ H1 else u D σ H1
theorem BC(hc:PT X c tc)(ha:uB X a t)(hb:uB X b u):PS X (.If c a b pos) (Kx tc t u):=by
 intro pins s σ H D I h;refine wpAny_If (cw (hc pins s σ H _ I h) λd s1 ⟨H1,I1,q1⟩=>?_);cases d with|true=>exact ha pins s1 σ H1 D I1 q1|false=>exact hb pins s1 σ H1 D I1 q1
noncomputable def F6:TS:=λ_ _ _=>False
theorem BB:PS X st F6:=λ_ _ _ _ _ _ h=>h.elim
end
noncomputable abbrev TG:=V->St->Hp->(St->Hp->Prop)->Prop
noncomputable abbrev Ie:=List V->St->Hp->(St->Hp->Prop)->Prop
noncomputable def PG(X:Cx) (target:Expr) (t:TG):Prop :=
 ∀(pins:List (Addr×Obj)) (s:Shared) (σ:St) (H:Hp) (v:V) (u:Value) (Q:St->Hp->Prop),Inv X pins σ H s->aX v u->t v σ H Q ->
  wpAny (model X.prog X.w) X.A (assign target X.env u) (λ_ s'=>∃σ' H',Inv X pins σ' H' s'/\Q σ' H') X.xe s
noncomputable def AR(X:Cx) (ts:List Expr) (t:Ie):Prop :=
 ∀(pins:List (Addr×Obj)) (s:Shared) (σ:St) (H:Hp) (vs:List V) (us:List Value) (Q:St->Hp->Prop),Inv X pins σ H s->bz vs us->t vs σ H Q ->
  wpAny (model X.prog X.w) X.A (assignInOrder ((assignEach ts X.env).map (·.2)) us) (λ_ s'=>∃σ' H',Inv X pins σ' H' s'/\Q σ' H') X.xe s
noncomputable abbrev JP:=V->V->V->Hp->(Hp->Prop)->Prop
noncomputable def JR(X:Cx) (t:JP):Prop :=
 ∀(pins:List (Addr×Obj)) (s:Shared) (σ:St) (H:Hp) (o i v:V) (ov iv u:Value) (Q:Hp->Prop),Inv X pins σ H s->aX o ov->aX i iv->aX v u->t o i v H Q ->
  wpAny (model X.prog X.w) X.A (setItem ov iv u) (λ_ s'=>∃H',Inv X pins σ H' s'/\Q H') X.xe s
section
variable {X:Cx}{pos:Pos}
noncomputable def yU(i:Nat):TG:=λv σ H Q=>Q (σ.set i (some v)) H
theorem yq(hN:X.N.Nodup)(hi:X.N[i]?=some x)(hx:AS X.env.scope x)(hf:X.fn x=true∨X.env.scope.names.lookup x=some .local := by first|exact .inl rfl|exact .inr rfl|assumption):PG X (.Name x pos) (yU i):=by
 intro pins s σ H v u Q I r h;exact wpAny_assign_Name (jO I hN hi hx r (λs' I'=>⟨_,H,I',h⟩) hf)
noncomputable def KY:Ie:=λvs σ H Q=>vs=[]/\Q σ H
noncomputable def Jz(t:TG) (u:Ie):Ie:=λvs σ H Q=>∃v r,vs=v::r/\t v σ H λσ' H'=>u r σ' H' Q
theorem D2:AR X [] KY:=by
 intro pins s σ H vs us Q I r h;obtain⟨e,h⟩:=h;subst e;cases r;exact assignInOrder_nil ⟨σ,H,I,h⟩
theorem BI(h1:PG X e t)(h2:AR X es u)
  (hs:(assignEach (e::es) X.env).map (·.2)=assign e X.env::(assignEach es X.env).map (·.2):=by rfl):AR X (e::es) (Jz t u):=by
 intro pins s σ H vs us Q I r h;obtain⟨v,vr,e1,h⟩:=h;subst e1;cases r with
 |cons r rr =>
  rw[hs];refine assignInOrder_cons (cw (h1 pins s σ H _ _ _ I r h) λ_ s1 ⟨σ1,H1,I1,q1⟩=>?_);exact h2 pins s1 σ1 H1 _ _ Q I1 rr q1
noncomputable def KU(K:W.Frag) (n:Nat) (t:Ie):TG:=λv σ H Q=>∃a xs,v=.ref a/\jc K H a xs/\xs.length=n/\t xs σ H Q
theorem GB{k:Nat}(hc:X.calm=true)(h:AR X es t)
  (hn:(assignEach es X.env).length=n:=by rfl)(hst:(assignEach es X.env).findIdx? (·.1)=none:=by rfl):PG X (.Tuple es k pos) (KU X.K n t):=by
 intro pins s σ H v u Q I r hw;obtain⟨a,xs,e1,hq,hl,hw⟩:=hw;subst e1;cases r;obtain⟨its,rv,ht,hz⟩:=I.tuple hq;refine assign_Tuple_tuple (I.ok.hd hc) ht (by simp [hn,←hl,rv.length]) hst λh' hx=>?_;have I1:Inv X pins σ H { s with heap:=h' }:=I.kept (t':=s.toks) λb o e=>hx b o (Nat.ne_of_lt (Heap.lt_size e)) e;exact h pins _ σ H xs _ Q I1 (by simpa using rv) hw
noncomputable def KW(to ti:TE) (t:JP):TG:=λv σ H Q=>to σ H λo H1=>ti σ H1 λi H2=>t o i v H2 λH3=>Q σ H3
theorem BJ(ho:PE X o to)(hi:PE X i ti)(hs:JR X t)
  (ha:∀v,assign (.Subscript o i pos) X.env v=(do
   let ov ←holding [v] (eval o X.env)
   let iv ←holding [v,ov] (eval i X.env)
   standAt pos
   holding [v,ov,iv] (setItem ov iv v)
   release [v,ov,iv] []):=by intro _;rfl):PG X (.Subscript o i pos) (KW to ti t):=by
 intro pins s σ H v u Q I r h;rw[ha];refine wpAny_bind (wpAny_holding (cw (ho pins s σ H _ I h) λov s1 ⟨x,H1,I1,r1,q1⟩=>?_));refine wpAny_bind (wpAny_holding (cw (hi pins s1 σ H1 _ I1 q1) λiv s2 ⟨y,H2,I2,r2,q2⟩=>?_));refine wpAny_bind (wpAny_standAt (wpAny_bind (wpAny_holding (cw (hs pins s2 σ H2 x y v ov iv u _ I2 r1 r2 r q2) λ_ s3 ⟨H3,I3,q3⟩=>?_))));exact wpAny_release ⟨σ,H3,I3,q3⟩
noncomputable def Dv(te:TE) (g:TG):TS:=λD σ H=>te σ H λx H1=>g x σ H1 D.nx
theorem BD(he:PE X e te)(hg:PG X tg g)(hs:swapsWithSole [tg] e pos.line X.env=pure false:=by rfl)(hw:swappedStores [tg] e X.env=pure none:=by rfl)
  (h1:(assignEach [tg] X.env).map (·.2)=[assign tg X.env]:=by rfl):PS X (.Assign [tg] e pos) (Dv te g):=by
 intro pins s σ H D I h;refine wpAny_Assign_stores (cw (he pins s σ H _ I h) λv s1 ⟨x,H1,I1,r1,q1⟩=>?_) hs hw;rw[h1];exact cw (hg pins s1 σ H1 x v _ I1 r1 q1) λ_ s2 q=>q
theorem lQ(hN:X.N.Nodup)(hi:X.N[i]?=some x)(hx:AS X.env.scope x)(he:PE X e te)(hs:swapsWith e (some (.Name x pos')) pos.line X.env=pure false:=by rfl)(hf:X.fn x=true∨X.env.scope.names.lookup x=some .local := by first|exact .inl rfl|exact .inr rfl|assumption) :
  PS X (.Assign [.Name x pos'] e pos) (Dv te (yU i)):=by
 intro pins s σ H D I h;refine wpAny_Assign_Name (cw (he pins s σ H _ I h) λv s1 ⟨y,H1,I1,r1,q1⟩=>?_) hs;exact jO I1 hN hi hx r1 (λs2 I2=>⟨_,H1,I2,q1⟩) hf
noncomputable def Kr(i j:Nat) (ta:TA):TS:=λD σ H=>ta σ H λvs H1=>∃v w,vs=[v,w]/\D.nx ((σ.set i (some v)).set j (some w)) H1
theorem Gw{px py pt:Pos}{kt k2 pt2}(hc:X.calm=true)(hN:X.N.Nodup)(hi:X.N[i]?=some x)(hj:X.N[j]?=some y)(hij:i≠j)
  (hx:X.env.scope.names.lookup x=some .local)(hy:X.env.scope.names.lookup y=some .local)(ha:PA X [a,b] ta)
  (hw:swappedStores [.Tuple [.Name x px,.Name y py] kt pt] (.Tuple [a,b] k2 pt2) X.env=pure (some [x,y]))
  (hs:swapsWithSole [.Tuple [.Name x px,.Name y py] kt pt] (.Tuple [a,b] k2 pt2) pos.line X.env=pure false:=by rfl) :
  PS X (.Assign [.Tuple [.Name x px,.Name y py] kt pt] (.Tuple [a,b] k2 pt2) pos) (Kr i j ta):=by
 intro pins s σ H D I h;rw[exec_Assign_arm];refine wpAny_bind (wpAny_standAt ?_);rw[hs];refine wpAny_bind (wpAny_pure ?_);rw[if_neg (by decide)];refine wpAny_bind (Tuple_ (cw (ha _ pins s σ H _ I h) λus s1 ⟨vs,H1,I1,r1,q1⟩=>?_));obtain⟨v,w,e1,q1⟩:=q1;subst e1;obtain⟨u1,u2,rfl,rv,rw'⟩:∃u1 u2,us=[u1,u2]/\aX v u1/\aX w u2:=by
  cases r1 with
  |cons p q =>
   cases q with
   |cons p' q' =>
    cases q';exact⟨_,_,rfl,p,p'⟩
 refine wpAny_newObj_type ?_ (by show 2<=sizeLine;decide);have I2:Inv X pins σ H1 { s1 with heap:=s1.heap.push { cls:=.type "tuple",data:=.seq [u1,u2].toArray } }:=I1.kept (t':=s1.toks) λb o e=>Heap.get?_push_of_some _ e;rw[hw];refine wpAny_bind (wpAny_pure ?_);show wpAny (model X.prog X.w) X.A (do rule "assign.swapped-stores";let items ←unpackItems (.ref s1.heap.objs.size) 2 none;assignInOrder [λv=>bindName X.env y v,λv=>bindName X.env x v] items.reverse;pure Flow.next) _ _ _;refine wpAny_bind (wpAny_rule (wpAny_bind (unpackItems_tuple (items:=#[u1,u2]) (I.ok.hd hc) (IsTup.new s1.heap _) λh' hx'=>?_)));have I3:=I2.kept (h':=h') (t':=s1.toks) λb o e=>hx' b o (Nat.ne_of_lt (Heap.lt_size e)) e;show wpAny _ _ (assignInOrder [λv=>bindName X.env y v,λv=>bindName X.env x v] [u2,u1] >>= λ_=>pure Flow.next) _ _ _;refine wpAny_bind (assignInOrder_cons (wpAny_bindName (jO I3 hN hj (.inl hy) rw' (λs2 I4=>?_) (.inr hy))));refine assignInOrder_cons (wpAny_bindName (jO I4 hN hi (.inl hx) rv (λs3 I5=>assignInOrder_nil (wpAny_pure ?_)) (.inr hx)));rw[List.set_comm _ _ (Ne.symm hij)] at I5;exact⟨_,H1,I5,q1⟩
end
section
variable {X:Cx}{pos:Pos}
noncomputable def F5(c:TT) (tb:TS):TS:=λD σ H=>∃W:Nat->St->Hp->Prop,(∃m,W m σ H)/\∀m σ H,W m σ H ->
 c σ H λb H1=>if b=true then ∃N:St->Hp->Prop,(∀σ' H',N σ' H'->∃m',m' < m/\W m' σ' H')/\tb { D with nx:=N,ct:=N,bk:=D.nx } σ H1 else D.nx σ H1
theorem BA(hp:PassesOwn (model X.prog X.w) X.A X.env X.xe)(hc:PT X c tc)(hb:uB X body tb):PS X (.While c body [] pos) (F5 tc tb):=by
 intro pins s σ H D I h;obtain⟨W,⟨m0,w0⟩,turn⟩:=h;refine wpAny_While (codeAny_whileLoop (λn s'=>∃σ' H',Inv X pins σ' H' s'/\W n σ' H') ?_ m0 ⟨σ,H,I,w0⟩);rintro n s1 ⟨σ1,H1,I1,w1⟩;refine wpAny_passesOwn hp (cw (hc pins s1 σ1 H1 _ I1 (turn n σ1 H1 w1)) λb s2 ⟨H2,I2,q2⟩=>?_);cases b with
 |true =>
  obtain⟨N,hN,q2⟩:=q2;rw[if_pos rfl];refine wpAny_passesOwn hp (cw (hb pins s2 σ1 H2 _ I2 q2) λf s3 q3=>?_);cases f with
  |next =>
   obtain⟨σ3,H3,I3,n3⟩:=q3;obtain⟨m',hm,w3⟩:=hN σ3 H3 n3;exact⟨m',hm,σ3,H3,I3,w3⟩
  |cont =>
   obtain⟨σ3,H3,I3,n3⟩:=q3;obtain⟨m',hm,w3⟩:=hN σ3 H3 n3;exact⟨m',hm,σ3,H3,I3,w3⟩
  |brk|ret v=>exact q3
 |false =>
  rw[if_neg Bool.false_ne_true];exact wpAny_execs_nil ⟨σ1,H2,I2,q2⟩
end
structure It where
 go:Nat->Hp->Prop
 yld:Nat->Hp->V->Hp->Prop
 stop:Nat->Hp->Prop
noncomputable def lJ(X:Cx) (pins:List (Addr×Obj)) (H:Hp) (b:Addr):Prop :=
 H b=none/\b≠X.env.locals/\b∉X.fs/\(b∈X.ex∨X.sf.heap.objs.size<=b)/\(∀x c,X.env.cells.lookup x=some c->c≠b)/\∀p∈X.pn++pins,p.1≠b
theorem Inv.fpOk(I:Inv X pins σ H s)(hb:s.heap.objs.size<=b)(hn:H' b=none):lJ X pins H' b:=by
 refine⟨hn,Nat.ne_of_gt (Nat.lt_of_lt_of_le I.lt hb),I.nofs hb,.inr (Nat.le_trans I.sz hb),λx c e z=>?_,λp hp z=>?_⟩
 .obtain⟨v,q⟩:=I.cell x c e
  exact absurd (Nat.lt_of_lt_of_le q.lt (by rw[z];exact hb)) (Nat.lt_irrefl _)
 .exact absurd (Nat.lt_of_lt_of_le (Heap.lt_size (I.pin p hp).1) (by rw[z];exact hb)) (Nat.lt_irrefl _)
structure xW (P:Program) (w:World) (K:W.Frag) (tg:Expr) (J:It) (fp:List Addr) (it:Addr) (tn:Nat->Heap->Prop):Prop where
 mem:it∈fp
 obj:∀i h,tn i h->∀b∈fp,∃o,h.get? b=some o/\∀v,o.data≠.cell v
 keep:∀i h h',tn i h->(∀b∈fp,∀o,h.get? b=some o->h'.get? b=some o)->tn i h'
 item:∀(X:Cx),X.prog=P->X.w=w->X.K=K->X.calm=true->∀(i:Nat) (pins:List (Addr×Obj)) (s:Shared) (σ:St) (H:Hp) (E:Value->Shared->Prop),Inv X pins σ H s->(∀b∈fp,lJ X pins H b)->tn i s.heap->J.go i H ->
  wpAny (model P w) X.A (pyNext (.ref it)) (λr s1=>∃u,r=some u /\
   wpAny (model P w) X.A (letOwnedTupleGo tg (.ref it) u) (λ_ s2=>∃x H',Inv X pins σ H' s2/\aX x u/\J.yld i H x H'/\tn (i+1) s2.heap/\∀b∈fp,H' b=none) E s1) E s
 done:∀(X:Cx),X.prog=P->X.w=w->X.K=K->X.calm=true->∀(i:Nat) (pins:List (Addr×Obj)) (s:Shared) (σ:St) (H:Hp) (E:Value->Shared->Prop),Inv X pins σ H s->(∀b∈fp,lJ X pins H b)->tn i s.heap->J.stop i H ->
  wpAny (model P w) X.A (pyNext (.ref it)) (λr s1=>r=none/\Inv X pins σ H s1) E s
 self:∀(A:Around) (i:Nat) (s:Shared) (Q:Value->Shared->Prop) (E:Value->Shared->Prop),tn i s.heap->Q (.ref it) s->wpAny (model P w) A (pyIter (.ref it)) Q E s
noncomputable abbrev TI:=St->Hp->(It->Hp->Prop)->Prop
noncomputable def Ld(X:Cx) (pins:List (Addr×Obj)) (σ:St) (tg:Expr) (R:It->Hp->Prop) (itv:Value) (s2:Shared):Prop :=
 ∃(it:Addr) (fp:List Addr) (tn:Nat->Heap->Prop) (J:It) (H':Hp),itv=.ref it/\Inv X pins σ H' s2/\xW X.prog X.w X.K tg J fp it tn/\tn 0 s2.heap/\(∀b∈fp,lJ X pins H' b)/\R J H'
noncomputable def PI(X:Cx) (tg iter:Expr) (wi:TI):Prop :=
 ∀(pins:List (Addr×Obj)) (s:Shared) (σ:St) (H:Hp) (R:It->Hp->Prop),Inv X pins σ H s->wi σ H R ->
  wpAny (model X.prog X.w) X.A (eval iter X.env) (λv s1=>wpAny (model X.prog X.w) X.A (pyIter v) (Ld X pins σ tg R) X.xe s1) X.xe s
theorem vy{vs:Array Value}(ho:s.heap.get? it=some o)(hc:o.cls=.type n)(hd:o.data=.fields vs)
  (hn:["enumerate","zip","dict_itemiterator","dict_reverseitemiterator","odict_iterator","itertools.zip_longest","itertools.pairwise"].contains n=false)(hQ:Q () s):wpAny M A (letOwnedTupleGo tg (.ref it) u) Q E s:=by
 unfold letOwnedTupleGo;cases tg<;>first
  |exact wpAny_pure hQ
  |(cases u<;>first
    |exact wpAny_pure hQ
    |(refine wpAny_bind (wpAny_load ho ?_);rw[hc,hd];show wpAny M A (if(["enumerate","zip","dict_itemiterator","dict_reverseitemiterator","odict_iterator","itertools.zip_longest","itertools.pairwise"].contains n&&vs[0]?==some (rawInt _))=true then _ else _) Q E s;rw[if_neg (by intro h;rw[hn,Bool.false_and] at h;cases h)];exact wpAny_pure hQ))
noncomputable def JW(K:W.Frag) (a:Addr):It :=
 ⟨λi H=>∃xs x,eD K H a xs/\xs[i]?=some x,λi H x H'=>H'=H/\∀xs,eD K H a xs->xs[i]?=some x,λi H=>∃xs,eD K H a xs/\xs.length<=i⟩
noncomputable def LK(K:W.Frag) (a:Addr):It :=
 ⟨λi H=>∃xs x,jc K H a xs/\xs[i]?=some x,λi H x H'=>H'=H/\∀xs,jc K H a xs->xs[i]?=some x,λi H=>∃xs,jc K H a xs/\xs.length<=i⟩
noncomputable def HS(lo:Int) (n:Nat):It:=⟨λi _=>i<n,λi H x H'=>H'=H/\x=.int (lo+i),λi _=>n<=i⟩
theorem zR{P:Program}{w:World}{K:W.Frag}{tg:Expr}(a it:Addr):xW P w K tg (JW K a) [it] it (λi h=>h.IsListIter it a i) where
 mem:=by simp
 obj:=λi h st b hb=>by
  have e:b=it:=by simpa using hb
  subst e;obtain⟨o,e,c,d⟩:=st;exact⟨o,e,λv z=>by rw[d] at z;cases z⟩
 keep:=λi h h' st k=>st.at λo e=>k it (by simp) o e
 item:=by
  intro X hP hw hK hc i pins s σ H E I hf st hg;subst hP hw hK;obtain⟨xs,x,hq,hx⟩:=hg;obtain⟨its,rv,p,hz⟩:=I.list hq;obtain⟨u,hu,ru⟩:=rv.get hx;obtain⟨f0,f1,f2,f3,f4,f5⟩:=hf it (by simp);refine wpAny_pyNext_list_item st p.isList (x:=u) (by simpa using hu) λh' st' sb=>?_;have I1:Inv X pins σ H { s with heap:=h' }:=I.turned (t':=s.toks) (λb o hb e=>(sb.2 b hb).trans e) f0 f1 f3 f4 f5;obtain⟨o,e,c,d⟩:=id st';exact⟨u,rfl,vy (s:={ s with heap:=h' }) e c d (by decide) ⟨x,H,I1,ru,⟨rfl,λys hy=>by rw[I.list_inj hy hq];exact hx⟩,st',λb hb=>(hf b hb).1⟩⟩
 done:=by
  intro X hP hw hK hc i pins s σ H E I hf st hg;subst hP hw hK;obtain⟨xs,hq,hx⟩:=hg;obtain⟨its,rv,p,hz⟩:=I.list hq;obtain⟨f0,f1,f2,f3,f4,f5⟩:=hf it (by simp);have hl:=rv.length;exact wpAny_pyNext_list_end (I.ok.hd hc) st p.isList (by simp;omega) λh' eb=>⟨rfl,I.turned (t':=s.toks) (λb o hb e=>eb b o hb e) f0 f1 f3 f4 f5⟩
 self:=λ_ _ _ _ _ st h=>wpAny_pyIter_listiter st h
theorem wO{P:Program}{w:World}{K:W.Frag}{tg:Expr}(a it:Addr):xW P w K tg (LK K a) [it] it (λi h=>h.IsTupleIter it a i) where
 mem:=by simp
 obj:=λi h st b hb=>by
  have e:b=it:=by simpa using hb
  subst e;obtain⟨o,e,c,d⟩:=st;exact⟨o,e,λv z=>by rw[d] at z;cases z⟩
 keep:=λi h h' st k=>st.at λo e=>k it (by simp) o e
 item:=by
  intro X hP hw hK hc i pins s σ H E I hf st hg;subst hP hw hK;obtain⟨xs,x,hq,hx⟩:=hg;obtain⟨its,rv,p,hz⟩:=I.tuple hq;obtain⟨u,hu,ru⟩:=rv.get hx;obtain⟨f0,f1,f2,f3,f4,f5⟩:=hf it (by simp);refine wpAny_pyNext_tuple_item st (show s.heap.IsTuple a its.toArray from p) (x:=u) (by simpa using hu) λh' st' sb=>?_;have I1:Inv X pins σ H { s with heap:=h' }:=I.turned (t':=s.toks) (λb o hb e=>(sb.2 b hb).trans e) f0 f1 f3 f4 f5;obtain⟨o,e,c,d⟩:=id st';exact⟨u,rfl,vy (s:={ s with heap:=h' }) e c d (by decide) ⟨x,H,I1,ru,⟨rfl,λys hy=>by rw[I.tuple_inj hy hq];exact hx⟩,st',λb hb=>(hf b hb).1⟩⟩
 done:=by
  intro X hP hw hK hc i pins s σ H E I hf st hg;subst hP hw hK;obtain⟨xs,hq,hx⟩:=hg;obtain⟨its,rv,p,hz⟩:=I.tuple hq;obtain⟨f0,f1,f2,f3,f4,f5⟩:=hf it (by simp);have hl:=rv.length;exact wpAny_pyNext_tuple_end (I.ok.hd hc) st (show s.heap.IsTuple a its.toArray from p) (by simp;omega) λh' eb=>⟨rfl,I.turned (t':=s.toks) (λb o hb e=>eb b o hb e) f0 f1 f3 f4 f5⟩
 self:=λ_ _ _ _ _ st h=>wpAny_pyIter_tupleiter st h
theorem wQ{P:Program}{w:World}{K:W.Frag}{tg:Expr}(it:Addr)(lo:Int)(n:Nat):xW P w K tg (HS lo n) [it] it (λi h=>IsRangeIter h it (lo+(i:Nat)*1) ((n:Int)-(i:Nat)) 1) where
 mem:=by simp
 obj:=λi h st b hb=>by
  have e:b=it:=by simpa using hb
  subst e;exact⟨_,st,λv z=>by
   have z':Data.fields _=Data.cell v:=z;cases z'⟩
 keep:=λi h h' st k=>k it (by simp) _ st
 item:=by
  intro X hP hw hK hc i pins s σ H E I hf st hg;subst hP hw hK;obtain⟨f0,f1,f2,f3,f4,f5⟩:=hf it (by simp);have W:=Walks.range (prog:=X.prog) (w:=X.w) (I.ok.hd hc) it lo 1 n;refine W.item i s _ _ hg st λv h' tk hv st' kk=>?_;obtain⟨t,rfl⟩:=hv;have I1:Inv X pins σ H { s with heap:=h',toks:=tk }:=I.turned (λb o hb e=>kk b o (by simpa using hb) e) f0 f1 f3 f4 f5;refine⟨_,rfl,vy (s:={ s with heap:=h',toks:=tk }) (n:="range_iterator") st' rfl rfl (by decide) ⟨.int (lo+i),H,I1,⟨t,?_⟩,⟨rfl,rfl⟩,st',λb hb=>(hf b hb).1⟩⟩;rw[Int.mul_one]
 done:=by
  intro X hP hw hK hc i pins s σ H E I hf st hg;subst hP hw hK;obtain⟨f0,f1,f2,f3,f4,f5⟩:=hf it (by simp);exact wpAny_pyNext_range_end (I.ok.hd hc) st (by have:n<=i:=hg;omega) λh' eb=>⟨rfl,I.turned (t':=s.toks) (λb o hb e=>eb b o hb e) f0 f1 f3 f4 f5⟩
 self:=λ_ _ _ _ _ st h=>wpAny_pyIter_rangeiter st h
section
variable {X:Cx}{tg:Expr}
noncomputable def Jx(K:W.Frag) (tl:TE):TI:=λσ H R=>tl σ H λx H1=>∃a,x=.ref a/\(∃xs,eD K H1 a xs)/\R (JW K a) H1
noncomputable def KR(K:W.Frag) (tl:TE):TI:=λσ H R=>tl σ H λx H1=>∃a,x=.ref a/\(∃xs,jc K H1 a xs)/\R (LK K a) H1
theorem yp(hl:PE X l tl):PI X tg l (Jx X.K tl):=by
 intro pins s σ H R I h;refine cw (hl pins s σ H _ I h) λv s1 ⟨x,H1,I1,r1,q1⟩=>?_;obtain⟨a,e,⟨xs,hq⟩,q⟩:=q1;subst e;cases r1;obtain⟨its,rv,p,hz⟩:=I1.list hq;refine wpAny_pyIter_list p.isList ?_;refine⟨s1.heap.objs.size,[s1.heap.objs.size],_,_,H1,rfl,I1.kept (t':=s1.toks) λb o e=>Heap.get?_push_of_some _ e,zR a _,⟨_,Heap.get?_push_size _ rfl,rfl,rfl⟩,λb hb=>?_,q⟩;have e:b=s1.heap.objs.size:=by simpa using hb
 subst e;exact I1.fpOk (Nat.le_refl _) (I1.hok.fresh (Nat.le_refl _))
theorem Gz(hl:PE X l tl):PI X tg l (KR X.K tl):=by
 intro pins s σ H R I h;refine cw (hl pins s σ H _ I h) λv s1 ⟨x,H1,I1,r1,q1⟩=>?_;obtain⟨a,e,⟨xs,hq⟩,q⟩:=q1;subst e;cases r1;obtain⟨its,rv,p,hz⟩:=I1.tuple hq;refine wpAny_pyIter_tuple (show s1.heap.IsTuple a its.toArray from p) ?_;refine⟨s1.heap.objs.size,[s1.heap.objs.size],_,_,H1,rfl,I1.kept (t':=s1.toks) λb o e=>Heap.get?_push_of_some _ e,wO a _,⟨_,Heap.get?_push_size _ rfl,rfl,rfl⟩,λb hb=>?_,q⟩;have e:b=s1.heap.objs.size:=by simpa using hb
 subst e;exact I1.fpOk (Nat.le_refl _) (I1.hok.fresh (Nat.le_refl _))
theorem Bs{lo hi:Int}(I:Inv X pins σ H s)(h1:-(2 ^ 62)<=lo)(h2:lo<2 ^ 62)(h3:-(2 ^ 62)<=hi)(h4:hi<2 ^ 62)
  (q:R (HS lo (hi-lo).toNat) H):wpAny (model X.prog X.w) X.A (pyIter (.ref s.heap.objs.size)) (Ld X pins σ tg R) E { s with heap:=s.heap.push { cls:=.type "range",data:=.fields #[.int lo t,.int hi u,.int 1 v] },toks:=tk }:=by
 refine wpAny_pyIter_range (IsRange.new ..) (small_one h1 h2 h3 h4) ?_;have I1:Inv X pins σ H { s with heap:=s.heap.push { cls:=.type "range",data:=.fields #[.int lo t,.int hi u,.int 1 v] },toks:=tk }:=I.kept λb o e=>Heap.get?_push_of_some _ e;refine⟨(s.heap.push { cls:=.type "range",data:=.fields #[.int lo t,.int hi u,.int 1 v] }).objs.size,[(s.heap.push { cls:=.type "range",data:=.fields #[.int lo t,.int hi u,.int 1 v] }).objs.size],_,_,H,rfl,
  I1.kept (t':=tk) λb o e=>Heap.get?_push_of_some _ e,wQ _ lo (hi-lo).toNat,?_,λb hb=>?_,q⟩
 .have e1:lo+((0:Nat):Int)*1=lo:=by simp
  have e2:(((hi-lo).toNat:Nat):Int)-((0:Nat):Int)=Builtin.Range.rangeSize lo hi 1:=by rw[rangeSize_one];split<;>omega
  show IsRangeIter _ _ (lo+((0:Nat):Int)*1) ((((hi-lo).toNat:Nat):Int)-((0:Nat):Int)) 1;rw[e1,e2];exact Heap.get?_push_size _ rfl
 .have e:b=(s.heap.push { cls:=.type "range",data:=.fields #[.int lo t,.int hi u,.int 1 v] }).objs.size:=by simpa using hb
  subst e;exact I1.fpOk (Nat.le_refl _) (I1.hok.fresh (Nat.le_refl _))
noncomputable def Jw(ta:TA):TI:=λσ H R=>ta σ H λvs H1=>∃j:Int,vs=[.int j]/\-(2 ^ 62)<=j/\j<2 ^ 62/\R (HS 0 j.toNat) H1
theorem lR(hg:Gl X "range")(hm:X.mg "range"=none)(ha:PA X [a] ta)(hs:starEach [a] X.env=[(false,eval a X.env)]:=by rfl):PI X tg (.Call (.Name "range" p) [a] [] pos) (Jw ta):=by
 intro pins s σ H R I h;refine Call_ (oJ I hg hm boot_range (PyProof.Rows.callWith_type1 (cw (ha pos pins s σ H _ I h) λus s1 ⟨vs,H1,I1,r1,q1⟩=>?_) hs rfl));obtain⟨j,e,q1,q2,q⟩:=q1;subst e;cases r1 with
 |cons r rr =>
  cases rr;obtain⟨t,rfl⟩:=r;exact call_range_1 (Bs I1 (by omega) (by omega) q1 q2 (by simpa using q))
noncomputable def Kz(wi:TI) (g:TG) (tb:TS):TS:=λD σ H=>wi σ H λJ H1=>∃W:Nat->Nat->St->Hp->Prop,(∃m,W 0 m σ H1)/\∀i m σ H,W i m σ H ->
 (J.stop i H/\D.nx σ H)∨(J.go i H/\∃N:St->Hp->Prop,(∀σ' H',N σ' H'->∃m',m' < m/\W (i+1) m' σ' H')/\∀x H',J.yld i H x H'->g x σ H' λσ2 H2=>tb { D with nx:=N,ct:=N,bk:=D.nx } σ2 H2)
noncomputable def oi(fp:List Addr) (h:Heap):List (Addr×Obj):=fp.filterMap λb=>(h.get? b).map λo=>(b,o)
theorem gz{h:Heap}(hb:b∈fp)(e:h.get? b=some o):(b,o)∈oi fp h:=List.mem_filterMap.mpr ⟨b,hb,by rw[e];rfl⟩
theorem Ag{h:Heap}(hp:p∈oi fp h):p.1∈fp/\h.get? p.1=some p.2:=by
 obtain⟨b,hb,e⟩:=List.mem_filterMap.mp hp;cases q:h.get? b with
 |none=>rw[q] at e;cases e
 |some o =>
  rw[q] at e;have e':(b,o)=p:=Option.some.inj e;subst e';exact⟨hb,q⟩
theorem Inv.pinned(I:Inv X pins σ H s)(hf:∀b∈fp,lJ X pins H b)(ho:∀b∈fp,∃o,s.heap.get? b=some o/\∀v,o.data≠.cell v):Inv X (pins++oi fp s.heap) σ H s :=
 I.pins_of λp hp=>(List.mem_append.mp hp).elim (λz=>I.pin p (List.mem_append_right _ z)) λz=>by
  obtain⟨hb,e⟩:=Ag z;obtain⟨f0,f1,f2,_⟩:=hf p.1 hb;obtain⟨o,e',d⟩:=ho p.1 hb;rw[e] at e';cases e';exact⟨e,f0,f1,f2,d⟩
theorem Inv.unpinned{pins pl:List (Addr×Obj)}(I:Inv X (pins++pl) σ H s):Inv X pins σ H s:=I.pins_of λp hp=>I.pin p (List.mem_append_right _ (List.mem_append_left _ hp))
theorem tj(hp:PassesOwn (model X.prog X.w) X.A X.env X.xe)(hc:X.calm=true)(hi:PI X tg iter wi)(hg:PG X tg g)(hb:uB X body tb)
  (hs:∀x,foldedSetIterable iter X.env x=pure x:=by intro _;rfl):PS X (.For tg iter body [] pos) (Kz wi g tb):=by
 intro pins s σ H D I h;refine wpAny_For (cw (hi pins s σ H _ I h) λv s1 h1=>cw h1 λitv s2 h2=>?_) hs;obtain⟨it,fp,tn,J,H2,e,I2,T,st2,f2,W,⟨m0,w0⟩,turn⟩:=h2;subst e;have stat:∀{H':Hp},(∀b∈fp,H' b=none)->∀b∈fp,lJ X pins H' b:=λhn b hb=>⟨hn b hb,(f2 b hb).2⟩
 refine codeAny_forLoop_any (λn s'=>∃i σ' H',Inv X pins σ' H' s'/\tn i s'.heap/\(∀b∈fp,H' b=none)/\W i n σ' H') ?_ m0 ⟨0,σ,H2,I2,st2,λb hb=>(f2 b hb).1,w0⟩;rintro n s3 ⟨i,σ3,H3,I3,st3,fr3,w3⟩;rcases turn i n σ3 H3 w3 with⟨stop,qn⟩|⟨go,N,hN,step⟩
 .refine wpAny_passesOwn hp (cw (T.done X rfl rfl rfl hc i pins s3 σ3 H3 X.xe I3 (stat fr3) st3 stop) λr s4 ⟨hr,I4⟩=>?_)
  subst hr;exact wpAny_execs_nil ⟨σ3,H3,I4,qn⟩
 .refine wpAny_passesOwn hp (cw (T.item X rfl rfl rfl hc i pins s3 σ3 H3 X.xe I3 (stat fr3) st3 go) λr s4 ⟨u,hr,h4⟩=>?_)
  subst hr;refine wpAny_passesOwn hp (cw h4 λ_ s5 ⟨x,H5,I5,r5,y5,st5,fr5⟩=>?_);have I5':=I5.pinned (stat fr5) (T.obj _ _ st5);refine wpAny_passesOwn hp (cw (hg _ s5 σ3 H5 x u _ I5' r5 (step x H5 y5)) λ_ s6 ⟨σ6,H6,I6,q6⟩=>?_);refine wpAny_passesOwn hp (cw (hb _ s6 σ6 H6 _ I6 q6) λf s7 q7=>?_);have again:∀{σ7:St}{H7:Hp},Inv X (pins++oi fp s5.heap) σ7 H7 s7->N σ7 H7->∃m,m<n/\∃i σ' H',Inv X pins σ' H' s7/\tn i s7.heap/\(∀b∈fp,H' b=none)/\W i m σ' H':=λ{σ7 H7} I7 n7=>by
   obtain⟨m',hm,w7⟩:=hN σ7 H7 n7;refine⟨m',hm,i+1,σ7,H7,I7.unpinned,T.keep _ _ _ st5 λb hb o e=>(I7.pin (b,o) (List.mem_append_right _ (List.mem_append_right _ (gz hb e)))).1,λb hb=>?_,w7⟩;obtain⟨o,e,d⟩:=T.obj _ _ st5 b hb;exact(I7.pin (b,o) (List.mem_append_right _ (List.mem_append_right _ (gz hb e)))).2.1
  cases f with|next|cont=>obtain⟨σ7,H7,I7,n7⟩:=q7;exact again I7 n7|brk=>obtain⟨σ7,H7,I7,q7⟩:=q7;exact⟨σ7,H7,I7.unpinned,q7⟩|ret v=>obtain⟨x7,σ7,H7,I7,r7,q7⟩:=q7;exact⟨x7,σ7,H7,I7.unpinned,r7,q7⟩
end
theorem Cj{K:W.Frag}{g:TG}{tb:TS}{D:lK}(Pv:Nat->St->Hp->Prop)(h0:Pv 0 σ H)(hl:∀i σ H,i<=xs.length->Pv i σ H->eD K H a xs)
  (hs:∀i x σ H,xs[i]?=some x->Pv i σ H->g x σ H λσ2 H2=>tb { D with nx:=Pv (i+1),ct:=Pv (i+1),bk:=D.nx } σ2 H2)(hd:∀σ H,Pv xs.length σ H->D.nx σ H) :
  ∃W:Nat->Nat->St->Hp->Prop,(∃m,W 0 m σ H)/\∀i m σ H,W i m σ H ->
   ((JW K a).stop i H/\D.nx σ H)∨((JW K a).go i H/\∃N:St->Hp->Prop,(∀σ' H',N σ' H'->∃m',m' < m/\W (i+1) m' σ' H')/\∀x H',(JW K a).yld i H x H'->g x σ H' λσ2 H2=>tb { D with nx:=N,ct:=N,bk:=D.nx } σ2 H2):=by
 refine⟨λi m σ H=>m=xs.length-i/\i<=xs.length/\Pv i σ H,⟨xs.length,by simp,Nat.zero_le _,h0⟩,?_⟩;rintro i m σ H ⟨rfl,hi,p⟩;have q:=hl i σ H hi p
 by_cases hlt:i<xs.length
 .refine .inr ⟨⟨xs,xs[i],q,by simp [hlt]⟩,Pv (i+1),λσ' H' p'=>⟨xs.length-(i+1),by omega,rfl,hlt,p'⟩,λx H' y=>?_⟩
  obtain⟨e,y⟩:=y;subst e;exact hs i x σ _ (y xs q) p
 .have e:i=xs.length:=by omega
  subst e;exact .inl ⟨⟨xs,q,Nat.le_refl _⟩,hd σ H p⟩
theorem Av{lo:Int}{g:TG}{tb:TS}{D:lK}(Pv:Nat->St->Hp->Prop)(h0:Pv 0 σ H)
  (hs:∀i σ H,i<n->Pv i σ H->g (.int (lo+i)) σ H λσ2 H2=>tb { D with nx:=Pv (i+1),ct:=Pv (i+1),bk:=D.nx } σ2 H2)(hd:∀σ H,Pv n σ H->D.nx σ H) :
  ∃W:Nat->Nat->St->Hp->Prop,(∃m,W 0 m σ H)/\∀i m σ H,W i m σ H ->
   ((HS lo n).stop i H/\D.nx σ H)∨((HS lo n).go i H/\∃N:St->Hp->Prop,(∀σ' H',N σ' H'->∃m',m' < m/\W (i+1) m' σ' H')/\∀x H',(HS lo n).yld i H x H'->g x σ H' λσ2 H2=>tb { D with nx:=N,ct:=N,bk:=D.nx } σ2 H2):=by
 refine⟨λi m σ H=>m=n-i/\i<=n/\Pv i σ H,⟨n,by simp,Nat.zero_le _,h0⟩,?_⟩;rintro i m σ H ⟨rfl,hi,p⟩
 by_cases hlt:i<n
 .refine .inr ⟨hlt,Pv (i+1),λσ' H' p'=>⟨n-(i+1),by omega,rfl,hlt,p'⟩,λx H' y=>?_⟩
  obtain⟨e,y⟩:=y;subst e y;exact hs i σ _ hlt p
 .have e:i=n:=by omega
  subst e;exact .inl ⟨Nat.le_refl _,hd σ H p⟩
noncomputable abbrev R2:=V->V->Hp->VK->Prop
noncomputable def eE(X:Cx) (f:Value->Value->Sem Value) (r:R2):Prop :=
 ∀(pins:List (Addr×Obj)) (s:Shared) (σ:St) (H:Hp) (x y:V) (v u:Value) (Q:VK),Inv X pins σ H s->aX x v->aX y u->r x y H Q ->
  wpAny (model X.prog X.w) X.A (f v u) (EP X pins σ Q) X.xe s
noncomputable def Ka(X:Cx) (f:Value->Sem Value) (r:V->Hp->VK->Prop):Prop :=
 ∀(pins:List (Addr×Obj)) (s:Shared) (σ:St) (H:Hp) (x:V) (v:Value) (Q:VK),Inv X pins σ H s->aX x v->r x H Q ->
  wpAny (model X.prog X.w) X.A (f v) (EP X pins σ Q) X.xe s
noncomputable def iL(X:Cx) (f:Value) (r:List V->Hp->VK->Prop):Prop :=
 ∀(pins:List (Addr×Obj)) (s:Shared) (σ:St) (H:Hp) (xs:List V) (us:List Value) (Q:VK),Inv X pins σ H s->bz xs us->r xs H Q ->
  wpAny (model X.prog X.w) X.A (call f us) (EP X pins σ Q) X.xe s
noncomputable def La(X:Cx) (r:V->Hp->(Bool->Hp->Prop)->Prop):Prop :=
 ∀(pins:List (Addr×Obj)) (s:Shared) (σ:St) (H:Hp) (x:V) (v:Value) (Q:Bool->Hp->Prop),Inv X pins σ H s->aX x v->r x H Q ->
  wpAny (model X.prog X.w) X.A (truthy v) (TP X pins σ Q) X.xe s
noncomputable def HY(r:R2) (ta tb:TE):TE:=λσ H Q=>ta σ H λx H1=>tb σ H1 λy H2=>r x y H2 Q
noncomputable def LQ(r:V->Hp->VK->Prop) (ta:TE):TE:=λσ H Q=>ta σ H λx H1=>r x H1 Q
noncomputable def rI(C:Int->Int->Prop) (g:Int->Int->V):R2:=λx y H Q=>∃i j,x=.int i/\y=.int j/\C i j/\Q (g i j) H
noncomputable def C4(g:Int->Int->V):R2:=λx y H Q=>∃i j,x=.int i/\y=.int j/\Q (g i j) H
noncomputable def rU(g:Int->V):V->Hp->VK->Prop:=λx H Q=>∃i,x=.int i/\Q (g i) H
section
variable {X:Cx}{a b c:Expr}{ta tb tc:TE}{pos:Pos}
theorem HE(ha:PE X a ta)(hb:PE X b tb){R:V->V->Hp->Prop}(I:Inv X pins σ H s)
  (h:ta σ H λx H1=>tb σ H1 λy H2=>R x y H2){f:Value->Value->Sem Value}
  (hf:∀v u s2 x y H2,Inv X pins σ H2 s2->aX x v->aX y u->R x y H2->wpAny (model X.prog X.w) X.A (f v u) Q X.xe s2) :
  wpAny (model X.prog X.w) X.A (eval a X.env) (λv sg=>wpAny (model X.prog X.w) X.A (eval b X.env) (λu si=>wpAny (model X.prog X.w) X.A (f v u) Q X.xe si) X.xe sg) X.xe s:=by
 refine cw (ha pins s σ H _ I h) λv s1 ⟨x,H1,I1,r1,q1⟩=>?_;refine cw (hb pins s1 σ H1 _ I1 q1) λu s2 ⟨y,H2,I2,r2,q2⟩=>?_;exact hf v u s2 x y H2 I2 r1 r2 q2
theorem Fe(ho:eE X (binaryOp op) r)(ha:PE X a ta)(hb:PE X b tb):PE X (.BinOp a op b pos) (HY r ta tb):=by
 intro pins s σ H Q I h;exact wpAny_BinOp (HE ha hb I h λv u s2 x y H2 I2 rx ry q=>ho pins s2 σ H2 x y v u Q I2 rx ry q)
theorem IW(ho:Ka X (unaryOp op) r)(ha:PE X a ta):PE X (.UnaryOp op a pos) (LQ r ta):=by
 intro pins s σ H Q I h;exact UnaryOp_ (cw (ha pins s σ H _ I h) λv s1 ⟨x,H1,I1,r1,q1⟩=>ho pins s1 σ H1 x v Q I1 r1 q1)
theorem J6{g:Int->Int->Int}
  (rule:∀(i j:Int) (t u:Tok) (s:Shared) (Q:Value->Shared->Prop) (E:Value->Shared->Prop),C i j->Q (.int (g i j) s.toks) { s with toks:=s.toks+1 }->wpAny (model X.prog X.w) X.A (f (.int i t) (.int j u)) Q E s) :
  eE X f (rI C λi j=>.int (g i j)):=by
 intro pins s σ H x y v u Q I rx ry h;obtain⟨i,j,rfl,rfl,hc,q⟩:=h;obtain⟨t,rfl⟩:=rx;obtain⟨t',rfl⟩:=ry;exact rule i j t t' s _ _ hc ⟨.int (g i j),H,I.tok _,⟨_,rfl⟩,q⟩
theorem Je{g:Int->Int->Int}
  (rule:∀(i j:Int) (t u:Tok) (s:Shared) (Q:Value->Shared->Prop) (E:Value->Shared->Prop),Q (.int (g i j) s.toks) { s with toks:=s.toks+1 }->wpAny (model X.prog X.w) X.A (f (.int i t) (.int j u)) Q E s) :
  eE X f (C4 λi j=>.int (g i j)):=by
 intro pins s σ H x y v u Q I rx ry h;obtain⟨i,j,rfl,rfl,q⟩:=h;obtain⟨t,rfl⟩:=rx;obtain⟨t',rfl⟩:=ry;exact rule i j t t' s _ _ ⟨.int (g i j),H,I.tok _,⟨_,rfl⟩,q⟩
theorem Eb{g:Int->Int->Bool}
  (rule:∀(i j:Int) (t u:Tok) (s:Shared) (Q:Value->Shared->Prop) (E:Value->Shared->Prop),Q (.bool (g i j)) s->wpAny (model X.prog X.w) X.A (f (.int i t) (.int j u)) Q E s) :
  eE X f (C4 λi j=>.bl (g i j)):=by
 intro pins s σ H x y v u Q I rx ry h;obtain⟨i,j,rfl,rfl,q⟩:=h;obtain⟨t,rfl⟩:=rx;obtain⟨t',rfl⟩:=ry;exact rule i j t t' s _ _ ⟨.bl (g i j),H,I,rfl,q⟩
noncomputable def Lj(i j:Int):Prop:=0<=j/\j<=1000000/\i.natAbs<2 ^ 64
noncomputable def JY(i j:Int):Prop:=(-(2 ^ 64)<i/\i<2 ^ 64)∨(-(2 ^ 64)<j/\j<2 ^ 64)
theorem JY.ok(h:JY i j):IntMulOk i j:=by
 rcases h with⟨h1,h2⟩|⟨h1,h2⟩
 .exact .of_left (intBits_le_64 h1 h2)
 .exact .of_right (intBits_le_64 h1 h2)
theorem BU:eE X (binaryOp .Add) (C4 λi j=>.int (i+j)):=Je λ_ _ _ _ _ _ _ q=>add_int q
theorem GN:eE X (binaryOp .Sub) (C4 λi j=>.int (i-j)):=Je λ_ _ _ _ _ _ _ q=>sub_int q
theorem yx:eE X (binaryOp .Mod) (rI (λ_ j=>j≠0) λi j=>.int (i.fmod j)):=J6 λ_ _ _ _ _ _ _ hc q=>mod_int' hc q
theorem GO:eE X (binaryOp .Pow) (rI Lj λi j=>.int (i ^ j.toNat)):=J6 λ_ _ _ _ _ _ _ hc q=>pow_int_small hc.1 hc.2.1 hc.2.2 q
theorem LP{g:Int->Int}
  (rule:∀(i:Int) (t:Tok) (s:Shared) (Q:Value->Shared->Prop) (E:Value->Shared->Prop),Q (.int (g i) s.toks) { s with toks:=s.toks+1 }->wpAny (model X.prog X.w) X.A (f (.int i t)) Q E s) :
  Ka X f (rU λi=>.int (g i)):=by
 intro pins s σ H x v Q I rx h;obtain⟨i,rfl,q⟩:=h;obtain⟨t,rfl⟩:=rx;exact rule i t s _ _ ⟨.int (g i),H,I.tok _,⟨_,rfl⟩,q⟩
theorem F0:Ka X (unaryOp .USub) (rU λi=>.int (-i)):=LP λ_ _ _ _ _ q=>neg_int q
end
section
variable {X:Cx}{a b c:Expr}{ta tb tc:TE}{pos:Pos}
theorem xI{k k':Bool}(I:Inv X pins σ H s)(q:Q (.bl k) H)(e:k=k'):EP X pins σ Q (.bool k') s:=by
 subst e;exact⟨.bl k,H,I,rfl,q⟩
theorem uZ:eE X (compareOp .Lt) (C4 λi j=>.bl (decide (i<j))):=Eb λ_ _ _ _ _ _ _ q=>lt_int q
theorem yy:eE X (compareOp .LtE) (C4 λi j=>.bl (decide (i<=j))):=Eb λ_ _ _ _ _ _ _ q=>le_int q
theorem yz:eE X (compareOp .Gt) (C4 λi j=>.bl (decide (j<i))):=Eb λ_ _ _ _ _ _ _ q=>gt_int q
theorem BR:eE X (compareOp .GtE) (C4 λi j=>.bl (decide (j<=i))):=Eb λ_ _ _ _ _ _ _ q=>ge_int q
theorem Ae:eE X (compareOp .In) (λx y H Q=>∃i j,x=.str i/\y=.str j/\Q (.bl (!(Builtin.Str.occurrences j i 0 j.length 1).isEmpty)) H):=by
 intro pins s σ H x y v u Q I rx ry h;obtain⟨i,j,rfl,rfl,q⟩:=h;obtain⟨t,rfl⟩:=rx;obtain⟨t',rfl⟩:=ry;exact in_str (xI I q rfl)
theorem jv:eE X (compareOp .Is) (λx y H Q=>y=.non/\Q (.bl (decide (x=.non))) H):=by
 intro pins s σ H x y v u Q I rx ry h;obtain⟨rfl,q⟩:=h;cases ry;refine is_none_gen (xI I q ?_);cases x<;>first
  |(cases rx;rfl)
  |(obtain⟨t,rfl⟩:=rx;rfl)
theorem tE:eE X (compareOp .IsNot) (λx y H Q=>y=.non/\Q (.bl (!decide (x=.non))) H):=by
 intro pins s σ H x y v u Q I rx ry h;obtain⟨rfl,q⟩:=h;cases ry;refine isnot_none_gen (xI I q ?_);cases x<;>first
  |(cases rx;rfl)
  |(obtain⟨t,rfl⟩:=rx;rfl)
theorem eE.or(h:eE X f r)(h':eE X f r'):eE X f (λx y H Q=>r x y H Q∨r' x y H Q):=by
 intro pins s σ H x y v u Q I rx ry q;rcases q with q|q
 .exact h pins s σ H x y v u Q I rx ry q
 .exact h' pins s σ H x y v u Q I rx ry q
theorem yr(ho:eE X (compareOp op) r)(ha:PE X a ta)(hb:PE X b tb)(hm:behindInMarks op b=false):PE X (.Compare a [op] [b] pos) (HY r ta tb):=by
 intro pins s σ H Q I h;exact wpAny_Compare1 (HE ha hb I h λv u s2 x y H2 I2 rx ry q=>ho pins s2 σ H2 x y v u Q I2 rx ry q) hm
noncomputable def E5(t:TE):TT:=λσ H Q=>t σ H λx H'=>∃k,x=.bl k/\Q k H'
theorem ym(ho:eE X (compareOp op) r)(ha:PE X a ta)(hb:PE X b tb)(hm:behindInMarks op b=false):PT X (.Compare a [op] [b] pos) (E5 (HY r ta tb)):=by
 intro pins s σ H Q I h;refine wpAny_isTrue_Compare1 (cw (ha pins s σ H _ I h) λv s1 ⟨x,H1,I1,r1,q1⟩=>cw (hb pins s1 σ H1 _ I1 q1) λu s2 ⟨y,H2,I2,r2,q2⟩ =>
  cw (ho pins s2 σ H2 x y v u _ I2 r1 r2 q2) λc s3 ⟨z,H3,I3,r3,k,e,q3⟩=>?_) hm
 subst e;cases r3;exact wpAny_truthy_bool ⟨H3,I3,q3⟩
noncomputable def A9(r r':R2) (ta tb tc:TE):TE:=λσ H Q=>ta σ H λx H1=>tb σ H1 λy H2=>r x y H2 λz H3=>∃k,z=.bl k /\
 (if k=true then tc σ H3 λw' H4=>r' y w' H4 Q else Q (.bl false) H3)
theorem Bz(ho:eE X (compareOp op) r)(ho':eE X (compareOp op') r')(ha:PE X a ta)(hb:PE X b tb)(hc:PE X c tc)
  (hm:lastMarks [op,op'] [b,c]=false:=by with_unfolding_all rfl):PT X (.Compare a [op,op'] [b,c] pos) (E5 (A9 r r' ta tb tc)):=by
 intro pins s σ H Q I h;refine isTrue_chain (cw (ha pins s σ H _ I h) λv s1 ⟨x,H1,I1,r1,q1⟩=>test_link (cw (hb pins s1 σ H1 _ I1 q1) λu s2 ⟨y,H2,I2,r2,q2⟩ =>
  cw (ho pins s2 σ H2 x y v u _ I2 r1 r2 q2) λd s3 ⟨z,H3,I3,r3,k,e,q3⟩=>?_)) hm
 subst e;cases r3;refine wpAny_truthy_bool ?_;cases k with
 |false =>
  obtain⟨k',e',q'⟩:=q3;cases e';exact ite_ff ⟨H3,I3,q'⟩
 |true =>
  refine ite_tt (test_last (cw (hc pins s3 σ H3 _ I3 q3) λw' s4 ⟨z',H4,I4,r4,q4⟩=>cw (ho' pins s4 σ H4 y z' u w' _ I4 r2 r4 q4) λd' s5 ⟨z2,H5,I5,r5,k2,e2,q5⟩=>?_));subst e2;cases r5;exact wpAny_truthy_bool ⟨H5,I5,q5⟩
noncomputable def K9(K:W.Frag) (x:V) (H:Hp) (k:Bool):Prop :=
 match x with
 |.non=>k=false
 |.bl b=>k=b
 |.int i=>k=(i != 0)
 |.str y=>y.length<=sizeLine/\k=((y.length:Int) != 0)
 |.byt y=>y.size<=sizeLine/\k=((y.size:Int) != 0)
 |.ref p=>(∃xs,eD K H p xs/\k=!xs.isEmpty)∨(∃xs,jc K H p xs/\k=!xs.isEmpty)∨∃kvs,H p=some (.dK kvs)/\k=!kvs.isEmpty
 |_=>False
theorem xE{vs:List (κ×Value)}(r:KV kvs vs):(!vs.isEmpty)=!kvs.isEmpty:=by
 cases r<;>rfl
theorem oP(r:bz xs its):(!its.toArray.isEmpty)=!xs.isEmpty:=by
 cases r<;>simp
theorem lY:(sizeLine:Nat)<2 ^ 63:=by rw[sizeLine_eq];decide
theorem Kj:La X (λx H Q=>∃k,K9 X.K x H k/\Q k H):=by
 intro pins s σ H x v Q I rx h;obtain⟨k,e,q⟩:=h;have hl:=lY;have hs:sizeLine=16777216:=sizeLine_eq;cases x with
 |non =>
  cases rx;have e':k=false:=e;subst e';exact truthy_none ⟨H,I,q⟩
 |bl b =>
  cases rx;have e':k=b:=e;subst e';exact wpAny_truthy_bool ⟨H,I,q⟩
 |int i =>
  obtain⟨t,rfl⟩:=rx;have e':k=(i != 0):=e;subst e';exact PySem.P.truthy_int ⟨H,I,q⟩
 |str y =>
  obtain⟨t,rfl⟩:=rx;obtain⟨hy,e'⟩:y.length<=sizeLine/\k=((y.length:Int) != 0):=e;subst e';exact PySem.P.truthy_str (by omega) ⟨H,I.tok _,q⟩
 |byt y =>
  obtain⟨t,rfl⟩:=rx;obtain⟨hy,e'⟩:y.size<=sizeLine/\k=((y.size:Int) != 0):=e;subst e';exact W.truthy_bytes (by omega) ⟨H,I.tok _,q⟩
 |ref p =>
  cases rx;have e':(∃xs,eD X.K H p xs/\k=!xs.isEmpty)∨(∃xs,jc X.K H p xs/\k=!xs.isEmpty)∨∃kvs,H p=some (.dK kvs)/\k=!kvs.isEmpty:=e;rcases e' with⟨xs,hx,e'⟩|⟨xs,hx,e'⟩|⟨kvs,hx,e'⟩
  .subst e'
   obtain⟨its,r,pl,hz⟩:=I.list hx;have hlen:=r.length;exact wpAny_truthy_list pl.isList (by simp only[List.size_toArray];omega) ⟨H,I.tok _,by rw[oP r];exact q⟩
  .subst e'
   obtain⟨its,r,pl,hz⟩:=I.tuple hx;have hlen:=r.length;exact truthy_tuple pl (by simp only[List.size_toArray];omega) ⟨H,I.tok _,by rw[oP r];exact q⟩
  .subst e'
   obtain⟨hz,hS,vs,r,m⟩:kvs.length<=sizeLine/\(p==sysModules)=false/\∃vs,KV kvs vs/\s.heap.DictOf (b4 X.prog X.w) p vs:=I.hok p _ hx;have hlen:kvs.length=vs.length:=Paired.length r;exact wpAny_truthy_dict hS m (by omega) ⟨H,I.tok _,by rw[xE r];exact q⟩
 |_=>exact(show False from e).elim
theorem oo:eE X (binaryOp .Add) (λx y H Q=>∃i j,x=.str i/\y=.str j/\i.length+j.length<=sizeLine/\Q (.str (i++j)) H):=by
 intro pins s σ H x y v u Q I rx ry h;obtain⟨i,j,rfl,rfl,hz,q⟩:=h;obtain⟨t,rfl⟩:=rx;obtain⟨t',rfl⟩:=ry;exact add_str (λt' tk=>⟨.str (i++j),H,I.tok _,⟨_,rfl⟩,q⟩) hz
theorem rn(r:bz [x] us):∃u,us=[u]/\aX x u:=by
 cases r with|cons r1 r2=>cases r2;exact⟨_,rfl,r1⟩
theorem E2(r:bz [x,y] us):∃u w',us=[u,w']/\aX x u/\aX y w':=by
 cases r with
 |cons r1 r2 =>
  cases r2 with|cons r3 r4=>cases r4;exact⟨_,_,rfl,r1,r3⟩
theorem qr:iL X (.builtin "abs") (λxs H Q=>∃i,xs=[.int i]/\Q (.int (if i<0 then -i else i)) H):=by
 intro pins s σ H xs us Q I r h;obtain⟨i,rfl,q⟩:=h;obtain⟨u,rfl,t,rfl⟩:=rn r;exact call_abs_int λu tk=>⟨.int (if i<0 then -i else i),H,I.tok _,⟨_,rfl⟩,q⟩
theorem AG(hc:X.calm=true):iL X (.builtin "max") (λxs H Q=>∃i j,xs=[.int i,.int j]/\Q (.int (if j > i then j else i)) H):=by
 intro pins s σ H xs us Q I r h;obtain⟨i,j,rfl,q⟩:=h;obtain⟨u,w',rfl,⟨t,rfl⟩,⟨t',rfl⟩⟩:=E2 r;refine max_two_ints (I.ok.hd hc) λh' tk k=>⟨_,H,I.kept k,?_,q⟩
 by_cases hj:j > i
 .rw[if_pos hj,if_pos hj];exact⟨_,rfl⟩
 .rw[if_neg hj,if_neg hj];exact⟨_,rfl⟩
theorem AF(hc:X.calm=true):iL X (.builtin "min") (λxs H Q=>∃i j,xs=[.int i,.int j]/\Q (.int (if j<i then j else i)) H):=by
 intro pins s σ H xs us Q I r h;obtain⟨i,j,rfl,q⟩:=h;obtain⟨u,w',rfl,⟨t,rfl⟩,⟨t',rfl⟩⟩:=E2 r;refine min_two_ints (I.ok.hd hc) λh' tk k=>⟨_,H,I.kept k,?_,q⟩
 by_cases hj:j<i
 .rw[if_pos hj,if_pos hj];exact⟨_,rfl⟩
 .rw[if_neg hj,if_neg hj];exact⟨_,rfl⟩
theorem AH:iL X (.type "int") (λxs H Q=>(∃i,xs=[.int i]/\Q (.int i) H)∨∃k,xs=[.bl k]/\Q (.int (if k then 1 else 0)) H):=by
 intro pins s σ H xs us Q I r h;rcases h with⟨i,rfl,q⟩|⟨k,rfl,q⟩
 .obtain⟨u,rfl,t,rfl⟩:=rn r
  exact call_int_int ⟨.int i,H,I,⟨_,rfl⟩,q⟩
 .obtain⟨u,rfl,r1⟩:=rn r
  cases r1;exact call_int_bool ⟨.int (if k then 1 else 0),H,I.tok _,⟨_,rfl⟩,q⟩
noncomputable def JV(K:W.Frag) (x:V) (H:Hp) (n:Nat):Prop :=
 match x with
 |.str y=>y.length<=sizeLine/\n=y.length
 |.byt y=>y.size<=sizeLine/\n=y.size
 |.ref p=>(∃xs,eD K H p xs/\n=xs.length)∨∃xs,jc K H p xs/\n=xs.length
 |_=>False
theorem bZ:iL X (.builtin "len") (λxs H Q=>∃x n,xs=[x]/\JV X.K x H n/\Q (.int n) H):=by
 intro pins s σ H xs us Q I r h;obtain⟨x,n,rfl,e,q⟩:=h;obtain⟨u,rfl,rx⟩:=rn r;have hl:=lY;have hs:sizeLine=16777216:=sizeLine_eq;cases x with
 |str y =>
  obtain⟨t,rfl⟩:=rx;obtain⟨hy,e'⟩:y.length<=sizeLine/\n=y.length:=e;subst e';exact len_str (by omega) ⟨.int _,H,I.tok _,⟨_,rfl⟩,q⟩
 |byt y =>
  obtain⟨t,rfl⟩:=rx;obtain⟨hy,e'⟩:y.size<=sizeLine/\n=y.size:=e;subst e';exact W.len_bytes (by omega) ⟨.int _,H,I.tok _,⟨_,rfl⟩,q⟩
 |ref p =>
  cases rx;have e':(∃xs,eD X.K H p xs/\n=xs.length)∨∃xs,jc X.K H p xs/\n=xs.length:=e;rcases e' with⟨xs,hx,e'⟩|⟨xs,hx,e'⟩
  .subst e'
   obtain⟨its,r',pl,hz⟩:=I.list hx;have hlen:=r'.length;exact Calls.call_len_list pl.isList (by simp only[List.size_toArray];omega) ⟨.int xs.length,H,I.tok _,⟨_,by simp only[List.size_toArray];rw[hlen]⟩,q⟩
  .subst e'
   obtain⟨its,r',pl,hz⟩:=I.tuple hx;have hlen:=r'.length;exact len_tuple pl (by simp only[List.size_toArray];omega) ⟨.int xs.length,H,I.tok _,⟨_,by simp only[List.size_toArray];rw[hlen]⟩,q⟩
 |_=>exact(show False from e).elim
end
structure HN (h:Heap) (x dx C:Addr) (mA:Str->Option Value):Prop where
 obj:h.get? x=some (W.instObj C dx)
 ns:h.Ns1 dx mA
 ne:dx≠x
theorem Am{h:Heap}{mA:Str->Option Value}(n:h.Ns1 dx mA):∃od,h.get? dx=some od/\∀name,W.lookIn name od=some (mA name):=by
 obtain⟨o,es,ep,ho,hd,hk,_,hm⟩:=n;refine⟨o,ho,λname=>?_⟩;have e:=hm name;unfold nsFind findBy at e;rw[←Array.find?_toList] at e;unfold W.lookIn;rw[hd];dsimp only;split
 .rename_i y q
  rw[q] at e;exact congrArg some e
 .rename_i q
  rw[q] at e;have a:es.toList.any (·.refKey)=false:=by
   rw[List.any_eq_false];intro y hy;obtain⟨z,t,hkey⟩:=hk y (Array.mem_toList_iff.mp hy);simp [DictEntry.refKey,hkey]
  have a':¬es.toList.any (·.refKey)=true:=by rw[a];exact Bool.false_ne_true
  rw[if_neg a'];exact congrArg some e
theorem HN.look{h:Heap}{mA:Str->Option Value}(I:HN h x dx C mA):∃od,W.InstAt h x (W.instObj C dx) C (some od)/\∀name,W.lookIn name od=some (mA name) :=
 let ⟨od,ho,hl⟩:=Am I.ns
 ⟨od,⟨I.obj,rfl,rfl,ho⟩,hl⟩
theorem lE(r:rg (some v) o):∃u,o=some u/\aX v u:=by
 cases o with|none=>exact(show False from r).elim|some u=>exact⟨u,rfl,r⟩
section
variable {P:Program}{w:World}{H H':Hp}{h h':Heap}{a C dx:Addr}{fs fs':List (Str×V)}
theorem yN(hok:jM P w H h)(e:H a=some (.ins C dx fs)):∃mA,HN h a dx C mA/\(∀f,rg (fs.lookup f) (mA f))/\PySem.Within mA (fs.map (·.1))/\fs.length<=1000/\H dx=some (.own a):=by
 obtain⟨d,z,ne,ob,mA,n,r,q⟩:=(show cF P w H h a (.ins C dx fs) from hok a _ e)
 exact⟨mA,⟨ob,n,ne⟩,r,q,z,d⟩
end
structure Kh (K:W.Frag) (C:Addr):Prop where
 pg:W.plainGet K C Str.empty=true
 hd:W.hasDictIn K C=true
 po:W.plainOver K C=true
 sa:W.findIn K (.ref C) "__setattr__"=some (some (.builtin "object.__setattr__"))
theorem Kh.get{K:W.Frag}(c:Kh K C)(f:Str):W.plainGet K C f=true:=c.pg
noncomputable def HQ(K:W.Frag) (C:Addr) (f:Str):Prop:=W.findIn K (.ref C) f=some none
section
variable {X:Cx}{pins:List (Addr×Obj)}{σ:St}{H:Hp}{s:Shared}{A:Around}{E:Value->Shared->Prop}{Q:Value->Shared->Prop}{c:Value}{b:Bool}
inductive nr (K:W.Frag) (H:Hp):V->Value->Prop where
 |non:nr K H .non (.type "NoneType")
 |bl (x:Bool):nr K H (.bl x) (.type "bool")
 |int (i:Int):nr K H (.int i) (.type "int")
 |str (x:Str):nr K H (.str x) (.type "str")
 |flt (x:UInt64):nr K H (.flt x) (.type "float")
 |lst {a:Addr}{xs:List V}(e:H a=some (.lst xs)):nr K H (.ref a) (.type "list")
 |frz {a:Addr}{o:Obj}{xs:List V}(e:H a=some (.frz o (.lst xs))):nr K H (.ref a) (.type "list")
 |tup {a:Addr}{xs:List V}(e:H a=some (.tup xs)):nr K H (.ref a) (.type "tuple")
 |dK {a:Addr}{kvs:List (eS×V)}(e:H a=some (.dK kvs)):nr K H (.ref a) (.type "dict")
 |dT {a:Addr}{kvs:List (List eS×V)}(e:H a=some (.dT kvs)):nr K H (.ref a) (.type "dict")
 |ins {a C dx:Addr}{fs:List (Str×V)}(e:H a=some (.ins C dx fs)) (cl:Kh K C) (ha:W.findIn K (.ref C) "__class__"=some (some (.builtin "object.__class__")))
   (hn:W.specialIn K (.builtin "object.__class__") "__get__"=some (some (.builtin "getset_descriptor.__get__"))) (htk:W.takesIn K (.builtin "object.__class__")=some true)
   (hm:W.mroIn K C (.type "object")=some true):nr K H (.ref a) (.ref C)
theorem iR(I:Inv X pins σ H s)(rx:aX x u)(ty:nr X.K H x t)(e:W.kitOne X.K t c=some b)(h:∀tk,Q (.bool b) { s with toks:=tk }) :
  wpAny (model X.prog X.w) A (call (.builtin "isinstance") [u,c]) Q E s:=by
 cases ty with
 |non=>cases (show u=Value.none from rx);exact W.kia_one W.kitx_none I.kIn True.intro e (λz=>nomatch z) h|bl y=>cases (show u=Value.bool y from rx);exact W.kia_one W.kitx_bool I.kIn True.intro e (λz=>nomatch z) h|int i=>obtain⟨t,q⟩:=(show ∃t,u=Value.int i t from rx);cases q;exact W.kia_one W.kitx_int I.kIn True.intro e (λz=>nomatch z) h|str y=>obtain⟨t,q⟩:=(show ∃t,u=Value.str y t from rx);cases q;exact W.kia_one W.kitx_str I.kIn True.intro e (λz=>nomatch z) h|flt y=>obtain⟨t,q⟩:=(show ∃t,u=Value.float y t from rx);cases q;exact W.kia_one W.kitx_float I.kIn True.intro e (λz=>nomatch z) h
 |@lst a xs ea =>
  cases (show u=Value.ref a from rx);obtain⟨_,_,n,_,h1⟩:=(show cF X.prog X.w H s.heap a (.lst xs) from I.hok a _ ea)
  exact W.kia_one W.kitx_list I.kIn ⟨_,h1,rfl⟩ e (λz=>nomatch z) h
 |@frz a ob xs ea =>
  cases (show u=Value.ref a from rx);obtain⟨_,_,_,n,_,h1⟩:=(show cF X.prog X.w H s.heap a (.frz ob (.lst xs)) from I.hok a _ ea)
  exact W.kia_one W.kitx_list I.kIn ⟨_,h1,rfl⟩ e (λz=>nomatch z) h
 |@tup a xs ea =>
  cases (show u=Value.ref a from rx);obtain⟨_,_,_,p⟩:=(show cF X.prog X.w H s.heap a (.tup xs) from I.hok a _ ea)
  obtain⟨o,h1,h2,_⟩:=p;exact W.kia_one W.kitx_tuple I.kIn ⟨o,h1,h2⟩ e (λz=>nomatch z) h
 |@dK a kvs ea =>
  cases (show u=Value.ref a from rx);obtain⟨_,_,vs,_,p⟩:=(show cF X.prog X.w H s.heap a (.dK kvs) from I.hok a _ ea)
  obtain⟨o,es,ep,h1,h2,_⟩:=p;exact W.kia_one W.kitx_dict I.kIn ⟨o,h1,h2.1⟩ e (λz=>nomatch z) h
 |@dT a kvs ea =>
  cases (show u=Value.ref a from rx);obtain⟨_,_,xs,_,o,es,ep,h1,h2,_⟩:=(show cF X.prog X.w H s.heap a (.dT kvs) from I.hok a _ ea)
  exact W.kia_one W.kitx_dict I.kIn ⟨o,h1,h2.1⟩ e (λz=>nomatch z) h
 |@ins a C dx fs ea cl ha hn htk hm =>
  cases (show u=Value.ref a from rx);obtain⟨mA,O,_⟩:=yN I.hok ea;obtain⟨od,J,_⟩:=O.look;exact W.kia_one (W.kitx_own (cl.get _) cl.hd ha hn htk hm) I.kIn J e (λz=>nomatch z) h
end
structure cS (k:Nat) (A:Around):Prop where
 hd:A.handled=none
 dp:A.depth+3*k+5<recursionLimit
 un:A.units+16*k+200<cLine
 gd:A.guards=some []
theorem cS.mono{j k:Nat}(r:cS k A)(h:j<=k):cS j A:=⟨r.hd,by have:=r.dp;omega,by have:=r.un;omega,r.gd⟩
theorem cS.deeper{k:Nat}(r:cS (k+1) A)(env:Env):cS k (A.deeper env) :=
 ⟨r.hd,by have:=r.dp;show A.depth+1+3*k+5<_;omega,by have:=r.un;show A.units+3+16*k+200<_;omega,r.gd⟩
theorem cS.depth{k:Nat}(r:cS k A):A.depth<recursionLimit:=by have:=r.dp;omega
theorem cS.units{k:Nat}(r:cS k A):A.units+64<cLine:=by have:=r.un;omega
noncomputable def Ku:TA:=λ_ H Q=>Q [] H
noncomputable def Iw(ta:TE) (tr:TA):TA:=λσ H Q=>ta σ H λx H1=>tr σ H1 λxs H2=>Q (x::xs) H2
section
variable {X:Cx}{e:Expr}{es:List Expr}{te:TE}{t:TA}{pos:Pos}
theorem gq:PA X [] Ku:=λ_ _ _ _ H Q I h=>Calls.spliced_nil ⟨[],H,I,.nil,h⟩
theorem dO(ha:PE X e te)(hr:PA X es t)(hs:starEach (e::es) X.env=(false,eval e X.env)::starEach es X.env:=by rfl):PA X (e::es) (Iw te t):=by
 intro pos pins s σ H Q I h;rw[hs];show wpAny _ _ (spliced ((false,eval e X.env)::backTo pos (starEach es X.env))) _ _ s;refine Calls.spliced_cons (cw (ha pins s σ H _ I h) λu s1 ⟨x,H1,I1,r1,q1⟩=>?_);exact cw (hr pos pins s1 σ H1 _ I1 q1) λus s2 ⟨xs,H2,I2,r2,q2⟩=>⟨x::xs,H2,I2,.cons r1 r2,q2⟩
noncomputable def Ko(t:TA):TE:=λσ H Q=>t σ H λxs H1=>xs.length<=sizeLine/\∀p,H1 p=none->Q (.ref p) (upd H1 p (.tup xs))
noncomputable def Kw(t:TA):TE:=λσ H Q=>t σ H λxs H1=>xs.length<=sizeLine/\∀p,H1 p=none->Q (.ref p) (upd H1 p (.lst xs))
theorem GD{x1}(h:PA X es t):PE X (.Tuple es x1 pos) (Ko t):=by
 intro pins s σ H Q I hq;refine wpAny_Tuple_spliced (cw (h pos pins s σ H _ I hq) λus s1 ⟨xs,H1,I1,r,z,q⟩=>⟨by rw[←r.length];exact z,?_⟩);have hf:H1 s1.heap.objs.size=none:=I1.hok.fresh (Nat.le_refl _);refine⟨.ref s1.heap.objs.size,upd H1 s1.heap.objs.size (.tup xs),I1.laid (t':=s1.toks) (λb u e=>Heap.get?_push_of_some _ e) (Nat.le_refl _) ?_,rfl,q _ hf⟩;exact⟨z,us,r,⟨_,Heap.get?_push_size _ rfl,rfl,_,rfl⟩⟩
theorem BK(h:PA X es t):PE X (.List es pos) (Kw t):=by
 intro pins s σ H Q I hq;refine wpAny_List_spliced (cw (h pos pins s σ H _ I hq) λus s1 ⟨xs,H1,I1,r,z,q⟩=>⟨by rw[←r.length];exact z,?_⟩);have hf:H1 s1.heap.objs.size=none:=I1.hok.fresh (Nat.le_refl _);refine⟨.ref s1.heap.objs.size,upd H1 s1.heap.objs.size (.lst xs),I1.laid (t':=s1.toks) (λb u e=>Heap.get?_push_of_some _ e) (Nat.le_refl _) ?_,rfl,q _ hf⟩;exact⟨z,us,0,r,Heap.get?_push_size _ rfl⟩
end
noncomputable abbrev Sp:=List V->Hp->VK->XK->Prop
noncomputable abbrev zK:=List Env->Hp->Shared->XK->Value->Shared->Prop
structure C2 (P:Program) (w:World) (K:W.Frag) (mg:Str->Option Value) (base:Heap) (A:Around) (outer:List Env) (s:Shared) (H:Hp):Prop where
 frames:A.frames=some outer
 mod:Mod K mg base
 bs:∀b o,base.get? b=some o->s.heap.get? b=some o/\H b=none
 bsz:base.objs.size<=s.heap.objs.size
 funs:s.heap.FunFrames base outer
 frf:∀b∈AQ outer,H b=none
 hok:jM P w H s.heap
 bare:AllBare s.gens
noncomputable def CE(outer:List Env) (P:Program) (w:World) (H:Hp) (s:Shared) (Q:VK) (u:Value) (s':Shared):Prop :=
 ∃v H',s'.os=s.os/\AllBare s'.gens/\Un (AQ outer) [] H H' s.heap s'.heap/\jM P w H' s'.heap/\aX v u/\Q v H'
noncomputable def CR(CX:zK) (outer:List Env) (P:Program) (w:World) (H:Hp) (s:Shared) (Q:VK) (E:XK) (r:Result) (s':Shared):Prop :=
 match r with
 |.ok (.ret u)=>CE outer P w H s Q u s'
 |.ok _=>False
 |.error e=>CX outer H s E e s'
structure fk (P:Program) (w:World) (K:W.Frag) (mg:Str->Option Value) (base:Heap) (CX:zK) (k:Nat) (f:Addr) (fd:FuncData) (ps:List Str) (sp:Sp):Prop where
 len:∀vs H Q E,sp vs H Q E->vs.length=ps.length
 run:∀(A:Around) (outer:List Env) (s:Shared) (H:Hp) (args:Args) (us:List Value) (vs:List V) (Q:VK) (E:XK),cS k A->C2 P w K mg base A outer s H->BindsTo s fd args (ps.zip us)->bz vs us->sp vs H Q E ->
  codeAny (model P w) A (.call (.ref f) args) (CR CX outer P w H s Q E) s
theorem fk.mono{K:W.Frag}{j k:Nat}{ps:List Str}(F:fk P w K mg base CX j f fd ps sp)(h:j<=k) :
  fk P w K mg base CX k f fd ps sp:=⟨F.len,λA outer s H args us vs Q E hr=>F.run A outer s H args us vs Q E (hr.mono h)⟩
theorem fk.imp{K:W.Frag}{k:Nat}{ps:List Str}(F:fk P w K mg base CX k f fd ps sp)
  (h:∀vs H Q E,sp' vs H Q E->sp vs H Q E):fk P w K mg base CX k f fd ps sp' :=
 ⟨λvs H Q E q=>F.len vs H Q E (h _ _ _ _ q),λA outer s H args us vs Q E hr he hb hv hs=>F.run A outer s H args us vs Q E hr he hb hv (h _ _ _ _ hs)⟩
section
variable {X:Cx}{pins:List (Addr×Obj)}{σ:St}{H:Hp}{s s':Shared}
theorem Inv.env0(I:Inv X pins σ H s):C2 X.prog X.w X.K X.mg X.base X.A X.stack s H :=
 ⟨I.ok.frames,I.ok.mod,I.bs,Nat.le_trans I.ok.bsz I.sz,I.stack,I.stkFree,I.hok,I.bare⟩
theorem Inv.after(I:Inv X pins σ H s)(h:CE X.stack X.prog X.w H s Q u s'):EP X pins σ Q u s':=by
 obtain⟨v,H',os,bare,un,hok,r,q⟩:=h;obtain⟨hh,g,d,t,os'⟩:=s';obtain rfl:os'=s.os:=os;exact⟨v,H',I.call (h':=hh) (g':=g) (d':=d) (t':=t) (ch:=[]) un hok bare (λb z=>absurd z (by simp)),r,q⟩
end
noncomputable def Iy(sp:Sp) (dvs:List V) (E:XK) (t:TA):TE:=λσ H Q=>t σ H λvs H1=>sp (vs++dvs) H1 Q E
noncomputable def jo(K:W.Frag) (fd:FuncData) (ps:List Str) (ds:List Value):Prop :=
 ∀(s:Shared) (us:List Value),K.In s.heap->(us++ds).length=ps.length->BindsTo s fd ⟨us,[]⟩ (ps.zip (us++ds))
theorem jo.all{K:W.Frag}{ps:List Str}(h:∀us:List Value,us.length=ps.length->bindArgs fd ⟨us,[]⟩=pure (ps.zip us)):jo K fd ps []:=λs us _ hl=>by
 rw[List.append_nil] at hl ⊢;exact .of_eq (h us hl)
noncomputable def e9(CX:zK) (X:Cx) (E:XK):Prop:=∀(pins:List (Addr×Obj)) (σ:St) (H:Hp) (s:Shared) (e:Value) (s':Shared),Inv X pins σ H s->CX X.stack H s E e s'->X.xe e s'
section
variable {X:Cx}{CX:zK}{k:Nat}{f C:Addr}{fd:FuncData}{ps:List Str}{sp:Sp}{dvs:List V}{ds:List Value}{E:XK}{x m:Str}{p pos apos:Pos}{e o:Expr}{es:List Expr}{ta:TE}{t:TA}
theorem Gi{vs:List V}(F:fk X.prog X.w X.K X.mg X.base CX k f fd ps sp)(hr:cS k X.A)(hb:jo X.K fd ps ds)(hd:bz dvs ds)(hx:e9 CX X E)
  (I:Inv X pins σ H s)(r:bz vs us)(h:sp (vs++dvs) H Q E):wpAny (model X.prog X.w) X.A (call (.ref f) us) (EP X pins σ Q) X.xe s:=by
 have r2:bz (vs++dvs) (us++ds):=r.append hd;have hl:(us++ds).length=ps.length:=by rw[←r2.length];exact F.len _ _ _ _ h
 refine wpAny_call (codeAny_mono (F.run X.A X.stack s H ⟨us,[]⟩ (us++ds) (vs++dvs) Q E hr I.env0 (hb s us I.kIn hl) r2 h) λr s' hq=>?_);cases r with
 |error e=>exact hx pins σ H s e s' I hq
 |ok fl =>
  cases fl with|ret u=>exact I.after hq|next|brk|cont=>exact False.elim hq
theorem ny(F:fk X.prog X.w X.K X.mg X.base CX k f fd ps sp)(hr:cS k X.A)(hg:Gl X x)(hm:X.mg x=some (.ref f))(hk:W.keepIn X.K (.ref f)=true)(hb:jo X.K fd ps ds)(hd:bz dvs ds)(hx:e9 CX X E)
  (ha:PA X (e::es) t)(hdb:(x==("__debug__":Str))=false:=by decide)(he:starEach (e::es) X.env=(false,eval e X.env)::starEach es X.env:=by rfl)(hpl:(backTo pos (starEach es X.env)).any (·.1)=false:=by rfl) :
  PE X (.Call (.Name x p) (e::es) [] pos) (Iy sp dvs E t):=by
 intro pins s σ H Q I h;refine wpAny_Call_Name_kw (yI I hg hm ?_ hdb);refine W.callWith_K (h₀:=X.base) I.ok.mod.kin hk (cw (ha pos pins s σ H _ I h) λus s1 ⟨vs,H1,I1,r,q⟩=>⟨I1.kIn,?_⟩) he hpl;exact Gi F hr hb hd hx I1 r q
end
structure fF (N P:List Str) (sc:Scope):Prop where
 kind:sc.kind=.function
 co:sc.isCoroutine=false
 gen:sc.isGenerator=false
 nd:N.Nodup
 pre:N.take P.length=P
 par:∀x∈P,sc.names.lookup x=some .local ∨ sc.names.lookup x=some .cell
 nofree:∀y∈sc.names,y.2≠.free
theorem sE{kindOf:Str->Option NameKind}:∀{binds:List (Str×Value)}{m:Str->Option Value},(∀v,(x,v)∉binds)->bindL kindOf binds m x=m x
 |[],_,_=>rfl
 |(n,v)::r,m,h=>by
  unfold bindL;rw[sE λw hw=>h w (List.mem_cons_of_mem _ hw)];split
  .have:x≠n:=by rintro rfl;exact h v List.mem_cons_self
   simp [this]
  .rfl
theorem sH{kindOf:Str->Option NameKind}:∀{binds:List (Str×Value)}{m:Str->Option Value},(∀v,(x,v)∉binds)->bindC kindOf binds m x=m x
 |[],_,_=>rfl
 |(n,v)::r,m,h=>by
  unfold bindC;rw[sH λw hw=>h w (List.mem_cons_of_mem _ hw)];split
  .rfl
  .have:x≠n:=by rintro rfl;exact h v List.mem_cons_self
   simp [this]
theorem sG{kindOf:Str->Option NameKind}{x:Str}{v:Value}:∀{P:List Str}{vs:List Value}{i:Nat}{m:Str->Option Value},P.Nodup->P[i]?=some x->vs[i]?=some v->kindOf x=some .local ->
  bindL kindOf (P.zip vs) m x=some v
 |[],_,_,_,_,h,_,_=>by simp at h
 |_::_,[],_,_,_,_,h,_=>by simp at h
 |p::P,w::vs,0,m,nd,h1,h2,hk=>by
  simp at h1 h2;subst h1;subst h2;show bindL kindOf ((p,w)::P.zip vs) m p=_;unfold bindL;rw[sE λv hv=>(List.nodup_cons.mp nd).1 (List.of_mem_zip hv).1,if_pos hk];simp
 |p::P,w::vs,i+1,m,nd,h1,h2,hk=>by
  show bindL kindOf ((p,w)::P.zip vs) m x=_;unfold bindL;exact sG (i:=i) (List.nodup_cons.mp nd).2 (by simpa using h1) (by simpa using h2) hk
theorem sI{kindOf:Str->Option NameKind}{x:Str}{v:Value}:∀{P:List Str}{vs:List Value}{i:Nat}{m:Str->Option Value},P.Nodup->P[i]?=some x->vs[i]?=some v->kindOf x≠some .local ->
  bindC kindOf (P.zip vs) m x=some v
 |[],_,_,_,_,h,_,_=>by simp at h
 |_::_,[],_,_,_,_,h,_=>by simp at h
 |p::P,w::vs,0,m,nd,h1,h2,hk=>by
  simp at h1 h2;subst h1;subst h2;show bindC kindOf ((p,w)::P.zip vs) m p=_;unfold bindC;rw[sH λv hv=>(List.nodup_cons.mp nd).1 (List.of_mem_zip hv).1,if_neg hk];simp
 |p::P,w::vs,i+1,m,nd,h1,h2,hk=>by
  show bindC kindOf ((p,w)::P.zip vs) m x=_;unfold bindC;exact sI (i:=i) (List.nodup_cons.mp nd).2 (by simpa using h1) (by simpa using h2) hk
noncomputable def start(N:List Str) (vs:List V):St:=vs.map some++List.replicate (N.length-vs.length) none
noncomputable def nk(CX:zK) (P:Program) (w:World) (K:W.Frag) (mg:Str->Option Value) (base:Heap) (N:List Str) (qual:Str) (scope:Scope) (f:Addr) (cd:Value) (A:Around) (outer:List Env) (s:Shared) (H:Hp) (E:XK):Cx where
 prog:=P
 w:=w
 K:=K
 mg:=mg
 base:=base
 A:=A.deeper (envOfC qual scope s.heap.objs.size f cd)
 N:=N
 sf:=s
 Ha:=H
 env:=envOfC qual scope s.heap.objs.size f cd
 outer:=outer
 stack:=envOfC qual scope s.heap.objs.size f cd::outer
 ex:=[]
 calm:=true
 fn:=λ_=>true
 pn:=[]
 xe:=λe s'=>wpAny (model P w) (A.deeper (envOfC qual scope s.heap.objs.size f cd)) (leaving (envOfC qual scope s.heap.objs.size f cd) e) (λ_ s''=>CX outer H s E e s'') (λe' s''=>CX outer H s E e' s'') s'
theorem wu{sc:Scope}(h:sc.names.lookup x=some .cell):∃c,(cellsFrom n sc.names []).lookup x=some c:=by
 have q:=W.cellsFrom_some sc.names n [] (.inl h);exact Option.isSome_iff_exists.mp q
theorem Ap{K:W.Frag}{N ps:List Str}{vs:List V}
  (S:fF N ps scope)(hd:A.handled=none)(e0:C2 P w K mg base A outer s H)(hl:vs.length=ps.length)(r:bz vs us)
  (x:InCallC s s.heap.objs.size (bindL (envOfC qual scope s.heap.objs.size f cd).kindOf (ps.zip us) λ_=>none) (cellsFrom (s.heap.objs.size+1) scope.names []) (bindC (envOfC qual scope s.heap.objs.size f cd).kindOf (ps.zip us) λ_=>none) s1) :
  Inv (nk CX P w K mg base N qual scope f cd A outer s H E) [] (start N vs) H s1:=by
 have hpl:ps.length<=N.length:=by have:=congrArg List.length S.pre;rw[List.length_take] at this;omega
 obtain⟨h1,tk,rfl,hk⟩:=x.done;have noA:∀b:Addr,b∉(nk CX P w K mg base N qual scope f cd A outer s H E).ex:=λb z=>absurd (show b∈([]:List Addr) from z) (by simp);refine⟨⟨e0.mod,S.kind,rfl,rfl,Nat.le_refl _,λy z c h1 h2=>?_,λy hy=>?_,λy c _ h=>?_,λ_=>hd,Around.frames_deeper e0.frames,.inr ⟨rfl,rfl⟩,λb z=>absurd z (noA b),e0.bs,e0.bsz,λb _ _=>noA b,λb z=>absurd z (noA b),e0.funs,e0.frf⟩,
  rfl,e0.bare,Un.kept hk,⟨_,x.toInCall.ns,λi y v h1 h2 h3=>?_⟩,λy c h=>⟨_,x.cell y c h⟩,e0.hok.fresh (Nat.le_refl _),λy c h=>?_,λp hp=>absurd (show p∈([]:List (Addr×Obj)) from hp) (by simp),e0.hok.kept hk,?_⟩
 .exact name_of_addr x.apart (PySem.mem_of_lookup h1) (PySem.mem_of_lookup h2)
 .have hy:scope.names.lookup y=some .cell∨scope.names.lookup y=some .free:=hy
  rcases hy with hy|hy
  .exact wu hy
  .exact absurd rfl (S.nofree _ (PySem.mem_of_lookup hy))
 .exact Nat.le_of_lt (x.above y c (PySem.mem_of_lookup h))
 .have hi:i<vs.length:=by
   unfold start at h2
   by_cases hi:i<vs.length
   .exact hi
   .rw[List.getElem?_append_right (by simpa using hi)] at h2
    rw[List.getElem?_replicate] at h2;split at h2<;>cases h2
  have ha:vs[i]?=some v:=by
   unfold start at h2;rw[List.getElem?_append_left (by simpa using hi),List.getElem?_map] at h2;cases e:vs[i]? with|none=>rw[e] at h2;cases h2|some a=>rw[e] at h2;cases h2;rfl
  obtain⟨u,hu,rv⟩:=r.get ha;have hp:ps[i]?=some y:=by
   rw[←S.pre,List.getElem?_take_of_lt (by omega)];exact h1
  have ndP:ps.Nodup:=by rw[←S.pre];exact S.nd.sublist (List.take_sublist _ _)
  refine⟨u,rv,?_⟩;rcases S.par y (List.mem_of_getElem? hp) with k|k
  .exact .inl ⟨k,sG ndP hp hu k⟩
  .obtain⟨c,e⟩:=wu (n:=s.heap.objs.size+1) k
   refine .inr ⟨.inl k,c,e,?_⟩;have q:=x.cell y c e;rw[sI ndP hp hu (by show scope.names.lookup y≠_;rw[k];decide)] at q;exact q
 .exact e0.hok.fresh (Nat.le_of_lt (x.above y c (PySem.mem_of_lookup h)))
 .unfold start
  show _=N.length;rw[List.length_append,List.length_map,List.length_replicate];omega
theorem JC{K:W.Frag}{k:Nat}{dV kV doc pm cdv ct oc:Value}
  {N ps:List Str}(lk:K.lookup f=some ⟨oc,od,.func (W.fnOf name qual params body scope dV kV doc pm an cdv ct),osl⟩) (hcd:W.codeIn K cdv qual=true) (S:fF N ps scope)
  (len:∀vs H Q E,sp vs H Q E->vs.length=ps.length)
  (hbody:∀(A:Around) (outer:List Env) (s:Shared) (H:Hp) (vs:List V) (Q:VK) (E:XK),cS k (A.deeper (envOfC qual scope s.heap.objs.size f cdv))->sp vs H Q E ->
   ∃t,uB (nk CX P w K mg base N qual scope f cdv A outer s H E) body t/\t { nx:=λ_ H'=>Q .non H',rt:=Q } (start N vs) H) :
  fk P w K mg base CX (k+1) f (W.fnOf name qual params body scope dV kV doc pm an cdv ct) ps sp:=by
 refine⟨len,λA outer s H args us vs Q E hr e0 hb r hsp=>?_⟩;have hl:=len _ _ _ _ hsp;have KX:K.In s.heap:=e0.mod.kin.keeps λb o e=>(e0.bs b o e).1;have lim:s.heap.NoLimit:=e0.mod.nolimit.keeps λb o e=>(e0.bs b o e).1;have hkind:∀y∈ps.zip us,scope.names.lookup y.1=some .local ∨ (scope.names.lookup y.1=some .cell/\((cellsFrom (s.heap.objs.size+1) scope.names []).lookup y.1).isSome=true):=λ⟨n,v⟩ hy=>by
  rcases S.par n (List.of_mem_zip hy).1 with q|q
  .exact .inl q
  .exact .inr ⟨q,W.cellsFrom_some _ _ _ (.inl q)⟩
 refine codeAny_call_function hr.depth (KX _ _ lk) rfl S.co S.gen rfl (W.codeRec_of KX hcd) (hb _ _ _ _ ?_);refine wpAny_newFunctionEnv_cells S.kind hkind λenv he s1 x=>?_;subst he;refine⟨lim.keeps x.toInCall.keep,codeAny_func ?_⟩;obtain⟨t,ht,hq⟩:=hbody A outer s H vs Q E (hr.deeper _) hsp;have I:Inv (nk CX P w K mg base N qual scope f cdv A outer s H E) [] (start N vs) H s1:=Ap S hr.hd e0 hl r x;refine wpAny_mono (ht [] s1 (start N vs) H _ I hq) (λfl s' hs=>?_) λe s' hs=>hs;have fin:∀{σ':St}{H':Hp}{v:V}{u:Value},Inv (nk CX P w K mg base N qual scope f cdv A outer s H E) [] σ' H' s'->aX v u->Q v H'->CE outer P w H s Q u s' :=
  λ{σ' H' v u} J rv q=>⟨v,H',J.os,J.bare,J.base,J.hok,rv,q⟩
 cases fl with
 |ret u =>
  obtain⟨v,σ',H',J,rv,q⟩:=hs;exact fin J rv q
 |next =>
  obtain⟨σ',H',J,q⟩:=hs;exact fin (v:=V.non) (u:=Value.none) J rfl q
 |brk =>
  obtain⟨_,_,_,q⟩:=hs;exact False.elim q
 |cont =>
  obtain⟨_,_,_,q⟩:=hs;exact False.elim q
section
variable {X:Cx}{x:Str}{p pos:Pos}{e:Expr}{es:List Expr}{t:TA}{id T:String}{r:List V->Hp->VK->Prop}
noncomputable def Lp(r:List V->Hp->VK->Prop) (t:TA):TE:=λσ H Q=>t σ H λvs H1=>r vs H1 Q
theorem uU(hc:iL X (.builtin id) r)(hg:Gl X x)(hm:X.mg x=none)(hv:bootBuiltins x=some (.builtin id))(ha:PA X (e::es) t)(hn:x≠"__name__":=by decide)(hdb:(x==("__debug__":Str))=false:=by decide)
  (he:starEach (e::es) X.env=(false,eval e X.env)::starEach es X.env:=by rfl)(hpl:(backTo pos (starEach es X.env)).any (·.1)=false:=by rfl):PE X (.Call (.Name x p) (e::es) [] pos) (Lp r t):=by
 intro pins s σ H Q I h;refine wpAny_Call_Name_kw (oJ I hg hm hv ?_ hn hdb);exact PyProof.Rows.callWith_builtin1 (cw (ha pos pins s σ H _ I h) λus s1 ⟨vs,H1,I1,r1,q1⟩=>hc pins s1 σ H1 vs us Q I1 r1 q1) he hpl
theorem Ab(hc:iL X (.type T) r)(hg:Gl X x)(hm:X.mg x=none)(hv:bootBuiltins x=some (.type T))(ha:PA X (e::es) t)(hn:x≠"__name__":=by decide)(hdb:(x==("__debug__":Str))=false:=by decide)
  (he:starEach (e::es) X.env=(false,eval e X.env)::starEach es X.env:=by rfl)(hpl:(backTo pos (starEach es X.env)).any (·.1)=false:=by rfl):PE X (.Call (.Name x p) (e::es) [] pos) (Lp r t):=by
 intro pins s σ H Q I h;refine wpAny_Call_Name_kw (oJ I hg hm hv ?_ hn hdb);exact PyProof.Rows.callWith_type1 (cw (ha pos pins s σ H _ I h) λus s1 ⟨vs,H1,I1,r1,q1⟩=>hc pins s1 σ H1 vs us Q I1 r1 q1) he hpl
end
end L2
namespace HT
open PySem PyProof.Rows
section
variable {prog:Program}{w:World}{A:Around}{E:Value->Shared->Prop}{s:Shared}
theorem cat_tup{vs ws:List Value}(ht:IsTup s.heap t vs.toArray)(hb:IsTup s.heap b ws.toArray)(hv:vs≠[])
  (h1:ws=[]->Q (.ref t) s)(h2:ws≠[]->Q (.ref s.heap.objs.size) { s with heap:=s.heap.push { cls:=.type "tuple",data:=.seq (vs++ws).toArray } })
  (hsz:vs.length+ws.length<=sizeLine):wpAny (model prog w) A (binaryOp .Add (.ref t) (.ref b)) Q E s:=by
 obtain⟨⟨cls,dd,data,sl⟩,ho,hc,n,hd⟩:=id ht;obtain⟨⟨cls2,dd2,data2,sl2⟩,ho2,hc2,n2,hd2⟩:=id hb;simp only at hc hd hc2 hd2;subst hc hd hc2 hd2;have e:vs.toArray++ws.toArray=(vs++ws).toArray:=by simp
 by_cases hw:ws=[]
 .exact concat_meets ⟨_,ho,rfl⟩ ⟨_,ho2,rfl⟩ noFill_tuple_add seq_tuple_add PySem.F.slot_tuple_add PySem.F.entry_tuple_add (PySem.F.args_tuple_add_2 _ _)
   (tuple_addW1 t b vs.toArray ws.toArray n n2 dd dd2 sl sl2 (by simpa using hv) (by simp [hw])) ⟨ho,ho2,h1 hw⟩
 .refine concat_meets ⟨_,ho,rfl⟩ ⟨_,ho2,rfl⟩ noFill_tuple_add seq_tuple_add PySem.F.slot_tuple_add PySem.F.entry_tuple_add (PySem.F.args_tuple_add_2 _ _)
   (tuple_addW2 t b vs.toArray ws.toArray n n2 dd dd2 sl sl2 (by simpa using hv) (by simpa using hw) (by rw[List.size_toArray,List.size_toArray];exact hsz)) ⟨ho,ho2,?_⟩
  rw[e];exact h2 hw
noncomputable def sIx(n d:Nat):Option Int->Nat
 |none=>d
 |some v=>if v<0 then(v+(n:Int)).toNat else min v.toNat n
theorem sIx_none(n d:Nat):sIx n d none=d:=rfl
theorem sIx_nat(n d k:Nat):sIx n d (some (k:Int))=min k n:=by
 show(if(k:Int)<0 then((k:Int)+(n:Int)).toNat else min (k:Int).toNat n)=min k n;rw[if_neg (by omega),Int.toNat_natCast]
theorem Gh(n d:Nat)(hd:d<=n)(o:Option Int):sIx n d o<=n:=by
 cases o with
 |none=>exact hd
 |some v =>
  show(if v<0 then(v+(n:Int)).toNat else min v.toNat n)<=n
  by_cases hv:v<0
  .rw[if_pos hv];omega
  .rw[if_neg hv];exact Nat.min_le_right _ _
theorem zx(v:Int)(n d:Nat):(if v<0 then max (v+(n:Int)) 0 else min v (n:Int))=((sIx n d (some v):Nat):Int):=by
 show(if v<0 then max (v+(n:Int)) 0 else min v (n:Int))=(((if v<0 then(v+(n:Int)).toNat else min v.toNat n):Nat):Int)
 by_cases hv:v<0
 .simp only[if_pos hv];omega
 .simp only[if_neg hv];omega
theorem xV(lo hi:Option Int)(n:Nat):Builtin.Slice.sliceAdjust lo hi 1 (n:Int)=(((sIx n 0 lo:Nat):Int),((sIx n n hi:Nat):Int)):=by
 have h1:¬((1:Int)<0):=by omega
 unfold Builtin.Slice.sliceAdjust;simp only[h1,if_false];refine Prod.ext ?_ ?_
 .cases lo with
  |none=>rfl
  |some v=>exact zx v n 0
 .cases hi with
  |none=>rfl
  |some v=>exact zx v n n
theorem xh(i j:Nat):Builtin.Slice.slicePlaces (i:Int) (j:Int) 1=j-i:=by
 unfold Builtin.Slice.slicePlaces;have h1:(1:Int) > 0:=by omega
 simp only[h1,if_true,Int.ediv_one];split<;>omega
theorem nX(p:IsPart v o)(h:Q o s):wpAny (model prog w) A (Builtin.Slice.slicePartIndex v) Q E s:=by
 cases p with|none=>exact slicePart_none h|int i t=>exact slicePart_int h
theorem lP{lo hi:Option Int}{Q:Int×Int×Nat->Shared->Prop}(hs:s.heap.IsSliceOf sl vl vu .none)(pl:IsPart vl lo)(pu:IsPart vu hi)
  (h:Q (((sIx n 0 lo:Nat):Int),1,sIx n n hi-sIx n 0 lo) s):wpAny (model prog w) A (Builtin.Slice.sliceApplied (.ref sl) (pure (n:Int))) Q E s:=by
 obtain⟨os,hos,hcs,hds⟩:=id hs;unfold Builtin.Slice.sliceApplied Builtin.Slice.sliceFields;refine wpAny_bind (wpAny_bind (wpAny_field hos hds (x:=vl) rfl (wpAny_bind (wpAny_field hos hds (x:=vu) rfl (wpAny_bind (wpAny_field hos hds (x:=.none) rfl (wpAny_pure ?_)))))));refine wpAny_bind (slicePart_none ?_);show wpAny _ _ (if((1:Int)==0)=true then _ else _) _ _ s;rw[if_neg (by decide)];refine wpAny_bind (nX pl (wpAny_bind (nX pu (wpAny_bind (wpAny_pure ?_)))));show wpAny _ _ (match Builtin.Slice.sliceAdjust lo hi 1 (n:Int) with|(lo,hi)=>pure (lo,(1:Int),Builtin.Slice.slicePlaces lo hi 1)) _ _ s;rw[xV lo hi n];show wpAny _ _ (pure (((sIx n 0 lo:Nat):Int),(1:Int),Builtin.Slice.slicePlaces ((sIx n 0 lo:Nat):Int) ((sIx n n hi:Nat):Int) 1)) _ _ s;rw[xh];exact wpAny_pure h
theorem BH(xs:Array Value)(i k:Nat):((List.range k).filterMap λ(m:Nat)=>xs[((i:Int)+(m:Int)*1).toNat]?).toArray=((xs.toList.drop i).take k).toArray:=by
 have e:(λ(m:Nat)=>xs[((i:Int)+(m:Int)*1).toNat]?)=λm=>xs[i+m]?:=by
  funext m;have:((i:Int)+(m:Int)*1).toNat=i+m:=by omega
  rw[this]
 rw[e];have:=pick_run xs i k;rw[List.filterMap_map] at this;have e2:((λx=>xs[x]?)∘λx=>i+x)=λm=>xs[i+m]?:=rfl;rw[e2] at this;rw[this]
theorem getItem_tuple_cut{lo hi:Option Int}(ht:IsTup s.heap t items)(hs:s.heap.IsSliceOf sl vl vu .none)(pl:IsPart vl lo)(pu:IsPart vu hi)
  (hw:¬(sIx items.size 0 lo=0/\sIx items.size items.size hi=items.size))
  (h:Q (.ref s.heap.objs.size) { s with heap:=s.heap.push { cls:=.type "tuple",data:=.seq ((items.toList.drop (sIx items.size 0 lo)).take (sIx items.size items.size hi-sIx items.size 0 lo)).toArray } })
  (hsz:items.size<=sizeLine):wpAny (model prog w) A (getItem (.ref t) (.ref sl)) Q E s:=by
 have htake:sizeOk (.seq ((items.toList.drop (sIx items.size 0 lo)).take (sIx items.size items.size hi-sIx items.size 0 lo)).toArray):=by
  show((items.toList.drop (sIx items.size 0 lo)).take (sIx items.size items.size hi-sIx items.size 0 lo)).toArray.size<=sizeLine;rw[List.size_toArray,List.length_take,List.length_drop,Array.length_toList];omega
 have hj:sIx items.size items.size hi<=items.size:=Gh _ _ (Nat.le_refl _) hi;obtain⟨os,hos,hcs,hds⟩:=id hs;have hTs:s.TypeIs (.ref sl) "slice":=⟨os,hos,hcs⟩
 unfold getItem
 try with_reducible refine wpAny_holding ?_
 first|refine wpAny_bind (wpAny_pure ?_)|skip
 refine wpAny_bind (wpAny_sequenceKey ht.typeIs (by decide) ?_);refine wpAny_bind (wpAny_callSpecial?_slot (name:=Str.ofString "__getitem__") ht.typeIs PyProof.Rows.slot_tuple_getitem
  (wpAny_call_entry PyProof.Rows.slot_tuple_getitem ht.typeIs entry_tuple_getitem ?_ (args_tuple_getitem _ _)))
 show wpAny _ _ (Builtin.Tuple.tupleItemsOf (.ref t) >>= _) _ _ s;refine wpAny_bind (tupleItemsOf_ ht ?_);refine wpAny_bind (wpAny_typeOf hTs ?_);rw[if_pos (by decide)];refine wpAny_bind (lP hs pl pu ?_);have hno:¬((((sIx items.size 0 lo:Nat):Int)==0&&(1:Int)==1&&(sIx items.size items.size hi-sIx items.size 0 lo)==items.size)=true):=by
  intro q;rw[Bool.and_eq_true,Bool.and_eq_true] at q;have q1:((sIx items.size 0 lo:Nat):Int)=0:=eq_of_beq q.1.1;have q2:sIx items.size items.size hi-sIx items.size 0 lo=items.size:=eq_of_beq q.2;exact hw ⟨by omega,by omega⟩
 show wpAny _ _ (if(((sIx items.size 0 lo:Nat):Int)==0&&(1:Int)==1&&(sIx items.size items.size hi-sIx items.size 0 lo)==items.size)=true then _ else _) _ _ s;rw[if_neg hno,BH]
 first
  |exact wpAny_bind (m:=Builtin.Tuple.tupleExact _) (wpAny_newObj_type (wpAny_pure ⟨_,rfl,wpAny_pure h⟩) htake)
  |exact wpAny_bind (m:=Builtin.Tuple.tupleExact _) (wpAny_newObj_type (wpAny_bind (wpAny_pure (wpAny_pure ⟨_,rfl,wpAny_pure h⟩))) htake)
  |exact wpAny_bind (wpAny_bind (m:=Builtin.Tuple.tupleExact _) (wpAny_newObj_type (wpAny_pure (wpAny_pure ⟨_,rfl,wpAny_pure h⟩)) htake))
  |exact wpAny_bind (wpAny_bind (m:=Builtin.Tuple.tupleExact _) (wpAny_newObj_type (wpAny_pure ⟨_,rfl,wpAny_pure h⟩) htake))
end
end HT
namespace L2
open PySem PySem.Spec PyProof.Rows
noncomputable abbrev TO:=St->Hp->(Option Int->Hp->Prop)->Prop
noncomputable def PO(X:Cx) (e:Option Expr) (t:TO):Prop :=
 ∀(pins:List (Addr×Obj)) (s:Shared) (σ:St) (H:Hp) (Q:Option Int->Hp->Prop),Inv X pins σ H s->t σ H Q ->
  wpAny (model X.prog X.w) X.A (evalPart e X.env) (λu s'=>∃o H',Inv X pins σ H' s'/\IsPart u o/\Q o H') X.xe s
noncomputable def Du:TO:=λ_ H Q=>Q none H
noncomputable def Io(t:TE):TO:=λσ H Q=>t σ H λx H1=>∃i,x=.int i/\Q (some i) H1
section
variable {X:Cx}{e:Expr}{te:TE}{lo hi:Option Expr}{tl th:TO}{pos p2:Pos}
theorem DZ:PO X none Du:=by
 intro pins s σ H Q I h;rw[evalPart_none];exact wpAny_pure ⟨none,H,I,.none,h⟩
theorem DY(h:PE X e te):PO X (some e) (Io te):=by
 intro pins s σ H Q I hw;rw[evalPart_some];refine cw (h pins s σ H _ I hw) λu s1 ⟨x,H1,I1,r1,q1⟩=>?_;obtain⟨i,rfl,q⟩:=q1;obtain⟨t,rfl⟩:=r1;exact⟨some i,H1,I1,.int i t,q⟩
noncomputable def C5(X:Cx) (r:V->Option Int->Option Int->Hp->VK->Prop):Prop :=
 ∀(pins:List (Addr×Obj)) (s:Shared) (σ:St) (H:Hp) (x:V) (v vl vu:Value) (lo hi:Option Int) (sl:Addr) (Q:VK),Inv X pins σ H s->aX x v->s.heap.IsSliceOf sl vl vu .none->IsPart vl lo->IsPart vu hi->r x lo hi H Q ->
  ∃T id,typeLookup (.type T) "__getitem__"=pure (some (.builtin id))/\s.TypeIs v T/\wpAny (model X.prog X.w) X.A (getItem v (.ref sl)) (EP X pins σ Q) X.xe s
theorem C5.or(h:C5 X r)(h':C5 X r'):C5 X (λx lo hi H Q=>r x lo hi H Q∨r' x lo hi H Q):=by
 intro pins s σ H x v vl vu lo hi sl Q I rx hs pl pu q;rcases q with q|q
 .exact h pins s σ H x v vl vu lo hi sl Q I rx hs pl pu q
 .exact h' pins s σ H x v vl vu lo hi sl Q I rx hs pl pu q
noncomputable def Ln(r:V->Option Int->Option Int->Hp->VK->Prop) (te:TE) (tl th:TO):TE:=λσ H Q=>te σ H λx H1=>tl σ H1 λl H2=>th σ H2 λu H3=>r x l u H3 Q
theorem uT(hr:C5 X r)(he:PE X e te)(hl:PO X lo tl)(hu:PO X hi th):PE X (.Subscript e (.Slice lo hi none p2) pos) (Ln r te tl th):=by
 intro pins s σ H Q I h;refine Subscript_ (cw (he pins s σ H _ I h) λv s1 ⟨x,H1,I1,r1,q1⟩=>?_);refine wpAny_Slice (cw (hl pins s1 σ H1 _ I1 q1) λvl s2 ⟨l,H2,I2,pl,q2⟩=>cw (hu pins s2 σ H2 _ I2 q2) λvu s3 ⟨u,H3,I3,pu,q3⟩=>?_);rw[evalPart_none];refine wpAny_pure ?_;have I4:Inv X pins σ H3 { s3 with heap:=s3.heap.push { cls:=.type "slice",data:=.fields #[vl,vu,.none] } }:=I3.kept (t':=s3.toks) λb ob q=>Heap.get?_push_of_some _ q;obtain⟨T,id,hT,ht,hg⟩:=hr pins { s3 with heap:=s3.heap.push { cls:=.type "slice",data:=.fields #[vl,vu,.none] } } σ H3 x v vl vu l u s3.heap.objs.size Q I4 r1 (Heap.IsSliceOf.new ..) pl pu q3;show wpAny (model X.prog X.w) X.A (subscriptTail e (.Slice lo hi none p2) v (.ref s3.heap.objs.size)) (EP X pins σ Q) X.xe { s3 with heap:=s3.heap.push { cls:=.type "slice",data:=.fields #[vl,vu,.none] } };exact tail_any (ops:=[.ref s3.heap.objs.size,v]) ht hT hg (by with_unfolding_all rfl)
noncomputable def wj(xs:List V) (lo hi:Option Int):List V:=(xs.drop (HT.sIx xs.length 0 lo)).take (HT.sIx xs.length xs.length hi-HT.sIx xs.length 0 lo)
theorem mN(xs:List V)(lo hi:Option Int):(wj xs lo hi).length<=xs.length:=by
 unfold wj;rw[List.length_take,List.length_drop];omega
noncomputable def KG(K:W.Frag):V->Option Int->Option Int->Hp->VK->Prop:=λx lo hi H Q=>∃a xs,x=.ref a/\jc K H a xs /\
 ¬(HT.sIx xs.length 0 lo=0/\HT.sIx xs.length xs.length hi=xs.length)/\∀p,H p=none->Q (.ref p) (upd H p (.tup (wj xs lo hi)))
theorem Ga:C5 X (KG X.K):=by
 intro pins s σ H x v vl vu lo hi sl Q I rx hs pl pu h;obtain⟨a,xs,rfl,hx,hw,q⟩:=h;cases rx;obtain⟨its,r,ht,hz⟩:=I.tuple hx;have hlen:its.toArray.size=xs.length:=by rw[List.size_toArray];exact r.length.symm
 refine⟨"tuple",_,PyProof.Rows.slot_tuple_getitem.lookup,ht.typeIs,?_⟩;refine HT.getItem_tuple_cut ht hs pl pu (by rw[hlen];exact hw) ?_ (by rw[hlen];exact hz);rw[hlen];refine⟨.ref s.heap.objs.size,_,I.laid (t':=s.toks) (o:=.tup (wj xs lo hi)) (λb ob q=>Heap.get?_push_of_some _ q) (Nat.le_refl _) ?_,rfl,q _ (I.hok.fresh (Nat.le_refl _))⟩;exact⟨Nat.le_trans (mN xs lo hi) hz,_,(r.drop (HT.sIx xs.length 0 lo)).take (HT.sIx xs.length xs.length hi-HT.sIx xs.length 0 lo),IsTup.new _ _⟩
noncomputable def IM(K:W.Frag):R2:=λx y H Q=>∃a b xs ys,x=.ref a/\y=.ref b/\jc K H a xs/\jc K H b ys/\xs≠[]/\xs.length+ys.length<=sizeLine /\
 (ys=[]->Q (.ref a) H)/\(ys≠[]->∀p,H p=none->Q (.ref p) (upd H p (.tup (xs++ys))))
theorem bz.nil_iff(r:bz xs us):us=[]↔xs=[]:=by
 cases r with|nil|cons _ _=>simp
theorem yA:eE X (binaryOp .Add) (IM X.K):=by
 intro pins s σ H x y v u Q I rx ry h;obtain⟨a,b,xs,ys,rfl,rfl,ha,hb,hx,hz,q1,q2⟩:=h;cases rx;cases ry;obtain⟨its,r1,p1,_⟩:=I.tuple ha;obtain⟨its2,r2,p2,_⟩:=I.tuple hb;refine HT.cat_tup p1 p2 (λz=>hx (r1.nil_iff.mp z)) (λz=>⟨.ref a,H,I,rfl,q1 (r2.nil_iff.mp z)⟩) (λz=>?_) (by rw[←r1.length,←r2.length];exact hz);refine⟨.ref s.heap.objs.size,_,I.laid (t':=s.toks) (o:=.tup (xs++ys)) (λb ob q=>Heap.get?_push_of_some _ q) (Nat.le_refl _) ?_,rfl,q2 (λw=>z (r2.nil_iff.mpr w)) _ (I.hok.fresh (Nat.le_refl _))⟩;exact⟨by rw[List.length_append];exact hz,_,r1.append r2,IsTup.new _ _⟩
end
noncomputable def xC(n:Nat) (i:Int):Option Nat:=if 0<=i then(if i<n then some i.toNat else none) else if -(n:Int)<=i then some (i+n).toNat else none
noncomputable def atI{α:Type}(xs:List α) (i:Int):Option α:=(xC xs.length i).bind λj=>xs[j]?
theorem yK(h:xC n i=some j):seqIndex? i n=some j/\j<n/\-(n:Int)<=i/\i<n:=by
 unfold xC at h
 by_cases h0:0<=i
 .rw[if_pos h0] at h
  by_cases h1:i<n
  .rw[if_pos h1] at h
   have e:i.toNat=j:=Option.some.inj h;exact⟨by rw[seqIndex_of h0 h1,e],by omega,by omega,h1⟩
  .rw[if_neg h1] at h;cases h
 .rw[if_neg h0] at h
  by_cases h1:-(n:Int)<=i
  .rw[if_pos h1] at h
   have e:(i+n).toNat=j:=Option.some.inj h;exact⟨by rw[seqIndex_neg (by omega) h1,e],by omega,h1,by omega⟩
  .rw[if_neg h1] at h;cases h
theorem uw{v:α}(h:atI xs i=some v):∃j,seqIndex? i xs.length=some j/\xs[j]?=some v/\j<xs.length/\-(xs.length:Int)<=i/\i<xs.length:=by
 unfold atI at h;cases e:xC xs.length i with
 |none=>rw[e] at h;cases h
 |some j =>
  rw[e] at h;obtain⟨h1,h2,h3,h4⟩:=yK e;exact⟨j,h1,h,h2,h3,h4⟩
theorem eh{j:Nat}{v:α}(h:xs[j]?=some v):atI xs (j:Int)=some v:=by
 have hj:j<xs.length:=(List.getElem?_eq_some_iff.mp h).1;have e:xC xs.length (j:Int)=some j:=by
  unfold xC;rw[if_pos (by omega),if_pos (by omega)];simp
 unfold atI;rw[e];exact h
noncomputable def lF(b:Expr):Prop:=∀o i,subscripted b false o i=operate [o,i] (getItem o i)
noncomputable def C1(X:Cx) (r:R2):Prop :=
 ∀(value slice:Expr) (pins:List (Addr×Obj)) (s:Shared) (σ:St) (H:Hp) (x y:V) (v u:Value) (Q:VK),Inv X pins σ H s->aX x v->aX y u->r x y H Q ->
  subscripted slice false v u=operate [v,u] (getItem v u)->wpAny (model X.prog X.w) X.A (subscriptTail value slice v u) (EP X pins σ Q) X.xe s
noncomputable def LJ(X:Cx) (id:String) (r:V->List V->Hp->VK->Prop):Prop :=
 ∀(pins:List (Addr×Obj)) (s:Shared) (σ:St) (H:Hp) (x:V) (xs:List V) (v:Value) (us:List Value) (Q:VK),Inv X pins σ H s->aX x v->bz xs us->r x xs H Q ->
  wpAny (model X.prog X.w) X.A (call (.builtin id) (v::us)) (EP X pins σ Q) X.xe s
section
variable {X:Cx}{a b:Expr}{ta tb:TE}{pos:Pos}
theorem C1.or(h:C1 X r)(h':C1 X r'):C1 X (λx y H Q=>r x y H Q∨r' x y H Q):=by
 intro value slice pins s σ H x y v u Q I rx ry q hs;rcases q with q|q
 .exact h value slice pins s σ H x y v u Q I rx ry q hs
 .exact h' value slice pins s σ H x y v u Q I rx ry q hs
theorem Ff(hr:C1 X r)(ha:PE X a ta)(hb:PE X b tb)(hs:lF b):PE X (.Subscript a b pos) (HY r ta tb):=by
 intro pins s σ H Q I h;exact Subscript_ (HE ha hb I h λv u s2 x y H2 I2 rx ry q=>hr a b pins s2 σ H2 x y v u Q I2 rx ry q (hs _ _))
noncomputable def II(K:W.Frag):R2:=λx y H Q=>∃p xs i v,x=.ref p/\y=.int i/\eD K H p xs/\atI xs i=some v/\Q v H
noncomputable def IG(K:W.Frag):R2:=λx y H Q=>∃p xs i v,x=.ref p/\y=.int i/\jc K H p xs/\atI xs i=some v/\Q v H
noncomputable def IH:R2:=λx y H Q=>∃z i c,x=.str z/\y=.int i/\z.length<=sizeLine/\atI z.cps.toList i=some c/\Q (.str ⟨#[c]⟩) H
theorem Es:C1 X (II X.K):=by
 intro value slice pins s σ H x y v u Q I rx ry h hs;obtain⟨p,xs,i,z,rfl,rfl,hq,he,q⟩:=h;cases rx;obtain⟨t,rfl⟩:=ry;obtain⟨its,r,pl,hz⟩:=I.list hq;obtain⟨j,h1,h2,h3,h4,h5⟩:=uw he;obtain⟨w,ew,rw'⟩:=r.get h2;have hl:=r.length;have hn:=lY;have fin:EP X pins σ Q w s:=⟨z,H,I,rw',q⟩
 by_cases h0:0<=i
 .have hj:i.toNat=j:=by
   rw[seqIndex_of h0 h5] at h1;exact Option.some.inj h1
  exact item_listR pl.isList h0 (by omega) (by rw[hj];simpa using ew) fin hs
 .have hj:(i+(its.toArray.size:Int)).toNat=j:=by
   rw[seqIndex_neg (by omega) h4] at h1;rw[List.size_toArray,←hl];exact Option.some.inj h1
  exact subscriptTail_builtinR (x:=w) pl.isList.typeIs slot_list_getitem.lookup
   (wpAny_getItem_list_neg (Q:=λr s'=>r=w/\EP X pins σ Q r s') pl.isList (by omega) (by rw[List.size_toArray]<;>omega) (by omega) (by rw[hj];simpa using ew) ⟨rfl,fin⟩) hs
theorem G1:C1 X (IG X.K):=by
 intro value slice pins s σ H x y v u Q I rx ry h hs;obtain⟨p,xs,i,z,rfl,rfl,hq,he,q⟩:=h;cases rx;obtain⟨t,rfl⟩:=ry;obtain⟨its,r,pl,hz⟩:=I.tuple hq;obtain⟨j,h1,h2,h3,h4,h5⟩:=uw he;obtain⟨w,ew,rw'⟩:=r.get h2;have hl:=r.length;have hn:=lY;have fin:EP X pins σ Q w s:=⟨z,H,I,rw',q⟩
 exact subscriptTail_builtinR (x:=w) pl.typeIs slot_tuple_getitem.lookup
  (getItem_tuple (j:=j) (Q:=λr s'=>r=w/\EP X pins σ Q r s') pl (by omega) (by omega) (by rw[List.size_toArray,←hl];exact h1) (by simpa using ew) ⟨rfl,fin⟩) hs
theorem G2:C1 X IH:=by
 intro value slice pins s σ H x y v u Q I rx ry h hs;obtain⟨z,i,c,rfl,rfl,hz,he,q⟩:=h;obtain⟨t,rfl⟩:=rx;obtain⟨t',rfl⟩:=ry;obtain⟨j,h1,h2,h3,h4,h5⟩:=uw he;have hl:z.cps.toList.length=z.length:=by simp [Str.length]
 rw[hl] at h1 h4 h5;have hn:=lY;exact tail_any (typeIs_str s z t) slot_str_getitem.lookup (getItem_str (c:=c) (by
  have e1:decide (i < -(2 ^ 63:Int))=false:=decide_eq_false (by omega);have e2:decide (i≥2 ^ 63)=false:=decide_eq_false (by omega);rw[e1,e2,Bool.or_false]) (by rw[h1];simpa using h2) ⟨.str ⟨#[c]⟩,H,I.tok _,⟨_,rfl⟩,q⟩) hs
noncomputable def Lq(K:W.Frag):R2:=λx y H Q=>II K x y H Q∨IG K x y H Q∨IH x y H Q
theorem Cb:C1 X (Lq X.K):=Es.or (G1.or G2)
theorem xv(its:List Value)(n j:Nat)(u:Value):Obj.mapSeq (·.setIfInBounds j u) { cls:=.type "list",data:=.seq its.toArray n }={ cls:=.type "list",data:=.seq (its.set j u).toArray n }:=by
 simp [Obj.mapSeq]
theorem Inv.lst(I:Inv X pins σ H s)(h:H p=some (.lst xs)) :
  ∃(its:List Value) (n:Nat),bz xs its/\s.heap.get? p=some { cls:=.type "list",data:=.seq its.toArray n }/\xs.length<=sizeLine:=by
 obtain⟨z,its,n,r,e⟩:=I.hok p _ h;exact⟨its,n,r,e,z⟩
theorem Inv.lstUpd{its its':List Value}(I:Inv X pins σ H s)(h:H p=some (.lst xs))
  (ho:s.heap.get? p=some { cls:=.type "list",data:=.seq its.toArray n })(hf:f { cls:=.type "list",data:=.seq its.toArray n }={ cls:=.type "list",data:=.seq its'.toArray n' })(r:bz ys its')(hz:ys.length<=sizeLine)(t:Nat) :
  Inv X pins σ (upd H p (.lst ys)) { s with heap:=s.heap.update p f,toks:=t }:=by
 have e:(s.heap.update p f).get? p=some { cls:=.type "list",data:=.seq its'.toArray n' }:=by
  rw[Heap.get?_update_self f ho (by rw[hf]<;>rfl),hf]
 refine I.write (x:=p) (e:=p) (by rw[h];trivial) (.inl rfl) (λb u hb q=>(Heap.get?_update_other _ _ (Ne.symm hb)).trans q) ⟨_,e⟩ ?_;exact⟨hz,its',n',r,e⟩
noncomputable def Fd:V->V->V->Hp->(Hp->Prop)->Prop:=λo i v H Q=>∃p xs k j,o=.ref p/\i=.int k/\H p=some (.lst xs)/\xC xs.length k=some j/\Q (upd H p (.lst (xs.set j v)))
theorem uM:JR X Fd:=by
 intro pins s σ H o i v ov iv u Q I ro ri rv h;obtain⟨p,xs,k,j,rfl,rfl,hp,hj,q⟩:=h;cases ro;obtain⟨t,rfl⟩:=ri;obtain⟨its,n,r,ho,hz⟩:=I.lst hp;obtain⟨h1,h2,h3,h4⟩:=yK hj;have hl:=r.length;have hn:=lY;have I':Inv X pins σ (upd H p (.lst (xs.set j v))) { s with heap:=s.heap.update p (Obj.mapSeq (·.setIfInBounds j u)) } :=
  I.lstUpd hp ho (xv its n j u) (r.set rv j) (by rw[List.length_set];exact hz) s.toks
 by_cases h0:0<=k
 .have hk:k.toNat=j:=by
   rw[seqIndex_of h0 h4] at h1;exact Option.some.inj h1
  exact W.ki_setAt ho h0 (by omega) (by rw[List.size_toArray,←hl];exact h4) (by rw[hk];exact⟨_,I',q⟩)
 .have hk:(k+(its.toArray.size:Int)).toNat=j:=by
   rw[seqIndex_neg (by omega) h3] at h1;rw[List.size_toArray,←hl];exact Option.some.inj h1
  exact W.ki_setBack ho (by omega) (by rw[List.size_toArray,←hl];exact h3) (by omega) (by rw[hk];exact⟨_,I',q⟩)
theorem sV(lo hi:Option Int)(n:Nat):(sliceBounds lo hi none n).1=((HT.sIx n 0 lo:Nat):Int)/\(sliceBounds lo hi none n).2.1=((HT.sIx n n hi:Nat):Int)/\(sliceBounds lo hi none n).2.2=1:=by
 refine⟨?_,?_,rfl⟩
 .cases lo with
  |none=>simp [sliceBounds,HT.sIx]
  |some i =>
   simp only[sliceBounds,HT.sIx,Option.getD_none,show(1:Int) > 0 by decide,if_true]
   by_cases h:i<0
   .simp only[h,if_true]<;>omega
   .simp only[h,if_false]<;>omega
 .cases hi with
  |none=>simp [sliceBounds,HT.sIx]
  |some i =>
   simp only[sliceBounds,HT.sIx,Option.getD_none,show(1:Int) > 0 by decide,if_true]
   by_cases h:i<0
   .simp only[h,if_true]<;>omega
   .simp only[h,if_false]<;>omega
theorem qO(its:List Value)(lo hi:Option Int):slicePick its.toArray lo hi none=((its.drop (HT.sIx its.length 0 lo)).take (HT.sIx its.length its.length hi-HT.sIx its.length 0 lo)).toArray:=by
 obtain⟨h1,h2,h3⟩:=sV lo hi its.toArray.size;unfold slicePick;rw[h1,h2,h3];simp only[sliceRange_one,pick_run,List.size_toArray]<;>rfl
noncomputable def KI(K:W.Frag):V->Option Int->Option Int->Hp->VK->Prop:=λx lo hi H Q=>∃a xs,x=.ref a/\eD K H a xs/\∀p,H p=none->Q (.ref p) (upd H p (.lst (wj xs lo hi)))
theorem yf:C5 X (KI X.K):=by
 intro pins s σ H x v vl vu lo hi sl Q I rx hs pl pu h;obtain⟨a,xs,rfl,hx,q⟩:=h;cases rx;obtain⟨its,r,ht,hz⟩:=I.list hx;have hlen:=r.length;refine⟨"list",_,slot_list_getitem.lookup,ht.isList.typeIs,?_⟩;refine wpAny_getItem_list_slice ht.isList hs pl pu .none (by simp) ?_ (by rw[List.size_toArray]<;>omega);rw[qO,←hlen];refine⟨.ref s.heap.objs.size,_,I.laid (t':=s.toks) (o:=.lst (wj xs lo hi)) (λb ob q=>Heap.get?_push_of_some _ q) (Nat.le_refl _) ?_,rfl,q _ (I.hok.fresh (Nat.le_refl _))⟩;exact⟨Nat.le_trans (mN xs lo hi) hz,_,0,(r.drop (HT.sIx xs.length 0 lo)).take (HT.sIx xs.length xs.length hi-HT.sIx xs.length 0 lo),Heap.get?_push_size _ rfl⟩
theorem tH:eE X (compareOp .NotIn) (λx y H Q=>∃i j,x=.str i/\y=.str j/\Q (.bl (!(!(Builtin.Str.occurrences j i 0 j.length 1).isEmpty))) H):=by
 intro pins s σ H x y v u Q I rx ry h;obtain⟨i,j,rfl,rfl,q⟩:=h;obtain⟨t,rfl⟩:=rx;obtain⟨t',rfl⟩:=ry;exact notIn_str ⟨.bl _,H,I,rfl,q⟩
noncomputable def Ll(K:W.Frag) (T:String) (x:V) (H:Hp):Prop:=match x with
 |.str _=>T="str"
 |.int _=>T="int"
 |.ref p=>(T="list"/\∃xs,eD K H p xs)∨(T="tuple"/\∃o,K.lookup p=some o/\o.cls=.type "tuple"/\o.dict=none) ∨
   (T="dict"/\((∃kvs,H p=some (.dK kvs))∨∃kvs,H p=some (.dT kvs)))∨(T="set"/\∃S n,H p=some (.set S n))
 |_=>False
theorem F1(I:Inv X pins σ H s)(r:aX x v)(ty:Ll X.K T x H) :
  s.TypeIs v T/\∀a,v=.ref a->∃ob,s.heap.get? a=some ob/\ob.dict=none:=by
 cases x with
 |str z =>
  obtain⟨t,rfl⟩:=r;cases (show T="str" from ty);exact⟨typeIs_str s z t,λ_ e=>nomatch e⟩
 |int i =>
  obtain⟨t,rfl⟩:=r;cases (show T="int" from ty);exact⟨typeIs_int s i t,λ_ e=>nomatch e⟩
 |ref p =>
  cases r;rcases ty with⟨rfl,xs,hq⟩|⟨rfl,o,hk,hc,hd⟩|⟨rfl,hk⟩|⟨rfl,S,n,hk⟩
  .obtain⟨its,_,pl,_⟩:=I.list hq
   refine⟨pl.isList.typeIs,λa e=>?_⟩;cases e;obtain⟨o,n,e,c,hd,_⟩:=pl;exact⟨o,e,hd⟩
  .refine⟨⟨o,I.kIn p o hk,hc⟩,λa e=>?_⟩
   cases e;exact⟨o,I.kIn _ o hk,hd⟩
  .have z:∃o,s.heap.get? p=some o/\o.ExactDict:=by
    rcases hk with⟨kvs,hk⟩|⟨kvs,hk⟩
    .obtain⟨_,_,_,_,o,_,_,e,ex,_⟩:=I.hok p _ hk
     exact⟨o,e,ex⟩
    .obtain⟨_,_,_,_,o,_,_,e,ex,_⟩:=I.hok p _ hk
     exact⟨o,e,ex⟩
   obtain⟨o,e,ex⟩:=z;refine⟨⟨o,e,ex.1⟩,λa e2=>?_⟩;cases e2;exact⟨o,e,ex.2.1⟩
  .obtain⟨o,_,_,_,e,ex,_⟩:=I.hok p _ hk
   refine⟨⟨o,e,ex.1⟩,λa e2=>?_⟩;cases e2;exact⟨o,e,ex.2.1⟩
 |_=>exact False.elim ty
noncomputable def L4(K:W.Frag) (T:String) (r:V->List V->Hp->VK->Prop) (to:TE) (t:TA):TE:=λσ H Q=>to σ H λx H1=>Ll K T x H1/\t σ H1 λxs H2=>r x xs H2 Q
variable {o e:Expr}{es:List Expr}{to:TE}{t:TA}{name:Str}{apos cpos:Pos}{T id:String}{r:V->List V->Hp->VK->Prop}
theorem BO(pa:PlainAttrs T)(slot:Slot T name id)(hty:typeOf (.builtin id)=pure (.type "method_descriptor"))(hm:LJ X id r)(ho:PE X o to)(ha:PA X (e::es) t)
  (hbase:attributeBase o name X.env (eval o X.env)=eval o X.env:=by rfl)
  (hfew:((backTo cpos (starEach (e::es) X.env)).all (λx=>!x.1)&&(backToKw cpos (keywordEach [] X.env)).all (λx=>x.1.isSome)
  &&decide ((e::es).length+([]:List Keyword).length+(if([]:List Keyword).isEmpty then 0 else 1)<30))=true:=by rfl)
  (hline:(apos.endLine==cpos.line)=true:=by rfl) (hs:starEach (e::es) X.env=(false,eval e X.env)::starEach es X.env:=by rfl) (hplain:(backTo cpos (starEach es X.env)).any (·.1)=false:=by rfl) :
  PE X (.Call (.Attribute o name apos) (e::es) [] cpos) (L4 X.K T r to t):=by
 intro pins s σ H Q I h;refine wpAny_Call_method_late hbase hfew hline rfl (cw (ho pins s σ H _ I h) λv s1 ⟨x,H1,I1,r1,ty,q1⟩=>?_);obtain⟨h1,h2⟩:=F1 I1 r1 ty;refine⟨T,id,pa,slot,hty,h1,h2,?_⟩;have hA:=ha cpos pins s1 σ H1 _ I1 q1;rw[hs] at hA ⊢;refine Calls.callWith_builtin (by show(false||(backTo cpos (starEach es X.env)).any (·.1))=false;rw[hplain]<;>rfl) (Calls.evalArgs_plain ?_);exact cw hA λus s2 ⟨vs,H2,I2,r2,q2⟩=>hm pins s2 σ H2 x vs v us Q I2 r1 r2 q2
end
noncomputable def Mg(X:Cx) (id:String) (r:V->List V->Hp->VK->Prop):Prop :=
 ∀(pins:List (Addr×Obj)) (s:Shared) (σ:St) (H:Hp) (x:V) (xs:List V) (v:Value) (us:List Value) (Q:VK),Inv X pins σ H s->aX x v->bz xs us->r x xs H Q ->
  wpAny (model X.prog X.w) X.A (call (.builtin id) (v::us)) (EP X pins σ Q) X.xe s
theorem bz.one:∀{x:V}{us:List Value},bz [x] us->∃u,us=[u]/\aX x u
 |_,_,.cons r .nil=>⟨_,rfl,r⟩
section
variable {X:Cx}{pins:List (Addr×Obj)}{σ:St}{H:Hp}{s:Shared}{l b:Addr}{xs ys zs:List V}
theorem Inv.lset{its its':List Value}(I:Inv X pins σ H s)(hH:H l=some (.lst xs))
  (e:s.heap.get? l=some { cls:=.type "list",data:=.seq its.toArray n })(hf:f its.toArray=its'.toArray)(hv:bz ys its')(hz:ys.length<=sizeLine) :
  Inv X pins σ (upd H l (.lst ys)) { s with heap:=s.heap.update l (Obj.mapSeq f),toks:=t' }:=by
 have q:=PySem.IsL.update e f;rw[hf] at q;refine I.write (x:=l) (e:=l) (by rw[hH];exact trivial) (.inl rfl) (λb' u hb hu=>(Heap.get?_update_other s.heap (Obj.mapSeq f) (Ne.symm hb)).trans hu) ⟨_,q⟩ ?_;exact⟨hz,its',_,hv,q⟩
theorem Inv.lnew(I:Inv X pins σ H s)(hv:bz ys its)(hz:ys.length<=sizeLine) :
  Inv X pins σ (upd H s.heap.objs.size (.lst ys)) { s with heap:=s.heap.push { cls:=.type "list",data:=.seq its.toArray },toks:=t' } :=
 I.laid (λ_ _ q=>Heap.get?_push_of_some _ q) (Nat.le_refl _) ⟨hz,its,0,hv,Heap.get?_push_size _ rfl⟩
theorem Inv.fresh(I:Inv X pins σ H s):H s.heap.objs.size=none:=I.hok.fresh (Nat.le_refl _)
theorem Inv.lstM(I:Inv X pins σ H s)(hH:H l=some (.lst xs)):xs.length<=sizeLine/\∃(its:List Value) (n:Nat),bz xs its/\xs.length=its.length/\s.heap.get? l=some { cls:=.type "list",data:=.seq its.toArray n }:=by
 obtain⟨z,its,n,r,e⟩:=I.hok l _ hH;exact⟨z,its,n,r,r.length,e⟩
end
section
variable {X:Cx}
noncomputable def DN:V->List V->Hp->VK->Prop:=λx vs H Q=>∃l xs y,x=.ref l/\vs=[y]/\H l=some (.lst xs)/\xs.length<sizeLine/\Q .non (upd H l (.lst (xs++[y])))
theorem lX:Mg X "list.append" DN:=by
 intro pins s σ H x vs v us Q I rx rv h;obtain⟨l,xs,y,rfl,rfl,hH,hz,q⟩:=h;cases rx;obtain⟨u,rfl,ru⟩:=rv.one;obtain⟨z,its,n,r,hl,e⟩:=I.lstM hH;refine call_meets F.slot_list_append ⟨_,e,rfl⟩ F.entry_list_append (F.args_list_append_2 _ _) (PySem.list_append l its.toArray n u (by rw[List.size_toArray];omega)) ⟨e,?_⟩;refine⟨.non,_,I.lset (its':=its++[u]) hH e (by simp) (r.append (.cons ru .nil)) ?_,rfl,q⟩;rw[List.length_append,List.length_singleton];omega
end
end L2
namespace Att
open PySem PySem.W PySem.Calls PyProof.Rows
theorem ng{h:Heap}:∀(ns:List Int) (vs:List Value),WellAll P h vs (ns.map WData.int)->IntsAre vs ns:=by
 intro ns
 induction ns with
 |nil =>
  intro vs w;rw[List.map_nil] at w;cases w;exact .nil
 |cons n ns ih =>
  intro vs w;rw[List.map_cons] at w;cases w with
  |cons a b =>
   cases a;exact .cons _ _ (ih _ b)
theorem zV{l:OpenLaw}(hn:l.most=some n){h:Heap} 
  (hpre:l.row.toRowW.claim.pre args=true)(hwl:WellAll P h vals args) :
  ∃a vs ns,vals=[Value.ref a]/\args=[WData.list (ns.map WData.int)]/\h.get? a=some { cls:=.type "list",data:=.seq vs.toArray }/\IntsAre vs ns/\ns.length<=n:=by
 have hsh:WShape.hasAll [] args [.list .int]=true:=(pre_splitW hpre).1;have hc:l.pre.holds [] { args:=args }=true:=(pre_splitW hpre).2;obtain⟨d,r,rfl,h1,h2⟩:=hasAllW_cons hsh;obtain rfl:=hasAllW_nil h2;obtain⟨xs,rfl,h3⟩:=hasW_list h1;obtain⟨ns,rfl⟩:=items_int h3;have hlen:ns.length<=n:=by
  unfold OpenLaw.pre at hc;have h4:(WTm.not (.lt (.lit (.int (n:Int))) (.len (.arg 0)))).holds [] { args:=[.list (ns.map .int)] }=true:=by
   have h4:=(holds_andW hc).1;rw[hn] at h4;exact h4
  have h5:=condW_of h4 (w_not (w_lt w_lit (w_len_list (w_arg rfl))));rw[List.length_map] at h5;refine Nat.le_of_not_lt λq=>?_;have q':(n:Int)<((ns.length:Nat):Int):=by omega
  first
   |(rw[decide_eq_true q'] at h5;exact absurd h5 (by decide))
   |(simp at h5;omega)
 cases hwl with
 |cons w1 w2 =>
  cases w2;cases w1 with|list ho hall=>exact⟨_,_,ns,rfl,rfl,ho,ng ns _ hall,hlen⟩
theorem zZ(l:OpenLaw)(args:List WData):l.row.toRowW.claim.post args (.bool true) args=true :=
 postW_of (r:=l.row.toRowW) (X:=(true==true))
  (show WShape.has [] (.bool true) .bool=true by first|rfl|decide|simp [WShape.has,WShape.arms,WShape.armsAll])
  (show(WTm.eq .res (.lit (.bool true))).value [] { args:=args,res:=some (.bool true),after:=args }=some (.bool (true==true)) from w_eq_bool (w_res rfl) w_lit) rfl
theorem attach_call{l:OpenLaw} 
  (hn:l.most=some n)(hdf:d.params.defaults=[])
  (call:∀(w:World) (sf sg:Shared) (mg mb:Str->Option Value) (fa:Addr) (o:Obj) (pm cd doc:Value) (a:Addr) (vs:List Value) (ns:List Int),
   Ground q loose [] XP w sf mg mb sg.heap->YP w sg.heap ->
   sg.heap.get? fa=some o->o.data=.func (docDef d.name d.params d.body d.scope pm cd doc)->sg.heap.CodeRec cd d.name->mg d.name=some (.ref fa) ->
   sg.heap.get? a=some { cls:=.type "list",data:=.seq vs.toArray }->IntsAre vs ns->ns.length<=n->sg.gens=#[] ->
   codeAny (model l.prog w) callerA (.call (.ref fa) ⟨[.ref a],[]⟩) (λr s'=>r=.ok (.ret (.bool true))/\OldK sg.heap s'.heap/\s'.os=sg.os/\AllBare s'.gens) sg) :
  WalkO q loose XP YP l.row.toRowW d [] (λf vs=>PySem.call f vs):=by
 intro w sf sg mg mb G Y fa o pm cd doc dV kV ho hd hcd hD hmg hg args vals as hpre hlay hrd hwl hlo;obtain rfl:dV=.none:=Dflts.none hD hdf;obtain rfl:kV=.none:=Dflts.noKw hD;obtain⟨a,vs,ns,rfl,rfl,hobj,hints,hlen⟩:=zV hn hpre hwl;refine enter_call (codeAny_mono (call w sf sg mg mb fa o pm cd doc a vs ns G Y ho (fd_plain hd) hcd hmg hobj hints hlen hg) λr s' hq=>?_);obtain⟨rfl,h2,h3,h4⟩:=hq;exact⟨.inl ⟨.bool true,.bool true,[],rfl,λ_=>rfl,.bool true,zZ l _,λ_=>⟨List.Pairwise.nil,λ_ hm=>(nomatch hm)⟩⟩,h2,h3,h4⟩
end Att
namespace L2
open PySem PySem.Spec PyProof.Rows
theorem rm:∀{vs:List Value}{ns:List Int},IntsAre vs ns->bz (ns.map V.int) vs
 |_,_,.nil=>.nil
 |_,_,.cons n t h=>.cons ⟨t,rfl⟩ (rm h)
noncomputable def EX(H:Hp):Prop:=∀b,H b=none∨∃o xs,H b=some (.frz o (.lst xs))
theorem Ca{K:W.Frag}{k:Nat}{vs:List Value} 
  (KX:K.In sg.heap)(hns:sg.heap.Ns mainGlobals mg)(hb:sg.heap.Ns builtinsNs mb)(hbb:∀x:Str,x≠"__name__"->mb x=bootBuiltins x)(hlim:sg.heap.NoLimit)(hsm:∃mm,sg.heap.Ns sysModules mm)(hg:sg.gens=#[])
  (ha:sg.heap.get? a=some { cls:=.type "list",data:=.seq vs.toArray })(hi:IntsAre vs ns)(hl:ns.length<=sizeLine)(hr:cS k callerA)
  (F:∀base:Heap,K.In base->base.Ns mainGlobals mg->fk P w K mg base CX k fa fd [x] sp)(hbind:∀(s:Shared) (u:Value),BindsTo s fd ⟨[u],[]⟩ [(x,u)])
  (hsp:∀H:Hp,EX H->eD K H a (ns.map V.int)->sp [.ref a] H (λv _=>v=.bl true) λ_ _ _=>False)
  (hCX:∀H e s',CX [] H sg (λ_ _ _=>False) e s'->False) :
  codeAny (model P w) callerA (.call (.ref fa) ⟨[.ref a],[]⟩) (λr s'=>r=.ok (.ret (.bool true))/\OldK sg.heap s'.heap/\s'.os=sg.os/\AllBare s'.gens) sg:=by
 have rv:=rm hi;have lenV:=hi.length;have core:∀H:Hp,EX H->eD K H a (ns.map V.int)->jM P w H sg.heap->(∀b,H b≠none->b=a)->(H a≠none->K.lookup a=none) ->
   codeAny (model P w) callerA (.call (.ref fa) ⟨[.ref a],[]⟩) (λr s'=>r=.ok (.ret (.bool true))/\OldK sg.heap s'.heap/\s'.os=sg.os/\AllBare s'.gens) sg:=by
  intro H hO hS hok hA hK;have base_of:∀{b:Addr}{o:Obj},sg.heap.get? b=some o->H b=none->(tT sg.heap H).get? b=some o:=λe n=>Cf e n;have noA:∀{b:Addr}{o:Obj}{es:Array DictEntry}{ep:Nat},sg.heap.get? b=some o->o.data=.dict es ep->H b=none:=λ{b o es ep} e d=>by
   cases q:H b with
   |none=>rfl
   |some u =>
    have e':b=a:=hA b (by rw[q];simp);subst e';rw[ha] at e;cases e;have d':Data.seq vs.toArray _=Data.dict es ep:=d;cases d'
  have nsK:∀{b:Addr}{m:Str->Option Value},sg.heap.Ns b m->(tT sg.heap H).Ns b m:=λ{b m} ⟨o,es,ep,e,d,r⟩=>⟨o,es,ep,base_of e (noA e d),d,r⟩
  have hKb:K.In (tT sg.heap H):=λb o e=>base_of (KX b o e) (by
   cases q:H b with
   |none=>rfl
   |some u =>
    have e':b=a:=hA b (by rw[q];simp);subst e';rw[hK (by rw[q];simp)] at e;cases e)
  have hM:Mod K mg (tT sg.heap H):=⟨hKb,nsK hns,⟨mb,nsK hb,hbb⟩,let ⟨mc,h1,h2⟩:=hlim;⟨mc,nsK h1,h2⟩,let ⟨mm,h1⟩:=hsm;⟨mm,nsK h1⟩⟩
  have e0:C2 P w K mg (tT sg.heap H) callerA [] sg H:=⟨rfl,hM,λb o e=>Ec e,Nat.le_of_eq (Ar _ _),trivial,λb hb=>absurd (show b∈([]:List Addr) from hb) (by simp),hok,.of_eq hg⟩
  refine codeAny_mono ((F _ hKb (nsK hns)).run callerA [] sg H ⟨[.ref a],[]⟩ [.ref a] [.ref a] _ _ hr e0 (hbind sg (.ref a)) (.cons rfl .nil) (hsp H hO hS)) λr s' h=>?_;cases r with
  |error e=>exact(hCX H e s' h).elim
  |ok fl =>
   cases fl with
   |next|brk|cont=>exact False.elim h
   |ret u =>
    obtain⟨v,H',os,bare,un,hok',r',q⟩:=h;have q':v=.bl true:=q;subst q';obtain rfl:u=Value.bool true:=r';refine⟨rfl,OldK.of_keep λb o e=>?_,os,bare⟩;cases q:H b with
    |none=>exact un.keep b o e q (by intro z;exact absurd (show b∈([]:List Addr) from z) (by simp)) (by simp)
    |some u =>
     rcases hO b with z|⟨ob,xs,z⟩
     .rw[q] at z;cases z
     .have z2:=un.frzs b ob _ z
      obtain⟨e1,_⟩:=hok b _ z;obtain⟨e2,_⟩:=hok' b _ z2;rw[e] at e1;cases e1;exact e2
 cases hk:K.lookup a with
 |some o =>
  have e:=KX a o hk;rw[ha] at e;cases e;refine core (λ_=>none) (λ_=>.inl rfl) (.inr ⟨_,vs.toArray,_,hk,rfl,rfl,rfl,by rw[List.size_toArray,lenV];exact hl,by simpa using rv⟩) (λb u z=>by have z':(none:Option HO)=some u:=z;cases z') (λb z=>absurd rfl z) λz=>absurd rfl z
 |none =>
  refine core (λb=>if b=a then some (.frz { cls:=.type "list",data:=.seq vs.toArray } (.lst (ns.map V.int))) else none) (λb=>?_) (.inl (.inr ⟨{ cls:=.type "list",data:=.seq vs.toArray },if_pos rfl⟩)) (λb u z=>?_) (λb z=>?_) λ_=>hk
  .by_cases hb:b=a
   .exact .inr ⟨_,_,if_pos hb⟩
   .exact .inl (if_neg hb)
  .by_cases hb:b=a
   .have z':=(if_pos hb).symm.trans z
    cases z';subst hb;exact⟨ha,by rw[List.length_map];exact hl,vs,_,rv,ha⟩
   .have z':=(if_neg hb).symm.trans z
    cases z'
  .by_cases hb:b=a
   .exact hb
   .exact absurd (if_neg hb) z
noncomputable abbrev KOf{K:W.Frag}{h:Heap}(_:K.In h):W.Frag:=K
theorem Dj{l:W.OpenLaw}{n k:Nat}{K:Params->W.Frag}{CX:World->zK}{sp:World->Sp} 
  (hi:importsNone q=true)(hn:l.most=some n)(hn2:n<=sizeLine)(hdf:d.params.defaults=[])(hr:cS k callerA)
  (hY:∀(w:World) (h:Heap),YP w h->(K w.params).In h)
  (F:∀(w:World) (mg:Str->Option Value) (fa:Addr) (h:Heap),(K w.params).In h->h.Ns mainGlobals mg->mg d.name=some (.ref fa) ->
   ∃fd:FuncData,(∀(s:Shared) (u:Value),BindsTo s fd ⟨[u],[]⟩ [(x,u)]) /\
    ∀base:Heap,(K w.params).In base->base.Ns mainGlobals mg->fk l.prog w (K w.params) mg base (CX w) k fa fd [x] (sp w))
  (hsp:∀(w:World) (H:Hp) (a:Addr) (ns:List Int),ns.length<=n->EX H->eD (K w.params) H a (ns.map V.int)->sp w [.ref a] H (λv _=>v=.bl true) λ_ _ _=>False)
  (hCX:∀(w:World) (H:Hp) (s:Shared) (e:Value) (s':Shared),CX w [] H s (λ_ _ _=>False) e s'->False) :
  W.WalkO q loose XP YP l.row.toRowW d [] (λf vs=>PySem.call f vs):=by
 refine Att.attach_call hn hdf λw sf sg mg mb fa o pm cd doc a vs ns G Y ho hd hcd hmg hobj hints hlen hg=>?_;have KX:=hY w _ Y;obtain⟨fd,hb,hF⟩:=F w mg fa _ KX G.T.g hmg;exact Ca KX G.T.g G.T.b G.T.builtins G.T.nolimit (let ⟨mm,h1,_⟩:=(G.T.seer hi).mods;⟨mm,h1⟩) hg hobj hints (Nat.le_trans hlen hn2) hr hF hb (λH hO hS=>hsp w H a ns hlen hO hS) λH e s'=>hCX w H sg e s'
theorem walk_ofK{l:W.OpenLaw}{n k:Nat}{K:Params->W.Frag}{sp:W.Frag->Sp} 
  (hi:importsNone q=true)(hn:l.most=some n)(hn2:n<=sizeLine)(hdf:d.params.defaults=[])(hr:cS k callerA)
  (hY:∀(w:World) (h:Heap),YP w h->(K w.params).In h)
  (F:∀(w:World) (mg:Str->Option Value) (fa:Addr) (h:Heap),(K w.params).In h->h.Ns mainGlobals mg->mg d.name=some (.ref fa) ->
   ∃fd:FuncData,(∀(s:Shared) (u:Value),BindsTo s fd ⟨[u],[]⟩ [(x,u)]) /\
    ∀base:Heap,(K w.params).In base->base.Ns mainGlobals mg->fk l.prog w (K w.params) mg base CX k fa fd [x] (sp (K w.params)))
  (hsp:∀(K:W.Frag) (H:Hp) (a:Addr) (ns:List Int),ns.length<=n->EX H->eD K H a (ns.map V.int)->sp K [.ref a] H (λv _=>v=.bl true) λ_ _ _=>False)
  (hCX:∀(H:Hp) (s:Shared) (e:Value) (s':Shared),CX [] H s (λ_ _ _=>False) e s'->False) :
  W.WalkO q loose XP YP l.row.toRowW d [] (λf vs=>PySem.call f vs) :=
 Dj (K:=K) (CX:=λ_=>CX) (sp:=λw=>sp (K w.params)) hi hn hn2 hdf hr hY F (λw H a ns h1 h2 h3=>hsp (K w.params) H a ns h1 h2 h3) λ_ H s e s'=>hCX H s e s'
noncomputable def defArgs(s:Stmt):Arguments:=match s with
 |.FunctionDef _ a _ _ _ _ _ _ _ _=>a
 |_=>{ posonlyargs:=[],args:=[],vararg:=none,kwonlyargs:=[],kw_defaults:=[],kwarg:=none,defaults:=[] }
noncomputable def defBody(s:Stmt):List Stmt:=match s with
 |.FunctionDef _ _ b _ _ _ _ _ _ _=>b
 |_=>[]
noncomputable def defScope(s:Stmt):Scope:=match s with
 |.FunctionDef _ _ _ _ _ _ sc _ _ _=>sc
 |_=>{ kind:=.function,names:=[],isGenerator:=false,isCoroutine:=false }
noncomputable abbrev CX0:zK:=λ_ _ _ _ _ _=>False
noncomputable abbrev E0:XK:=λ_ _ _=>False
theorem yt:e9 CX0 X E0:=λ_ _ _ _ _ _ _ h=>h.elim
structure E1 (K:W.Frag) (x qual:Str) (st:Stmt) (f:Addr) (fd:FuncData):Prop where
 ex:∃(oc:Value) (od:Option Addr) (kV doc pm:Value) (an:Option Addr) (cdv ct:Value) (osl:Array (Option Value)),
  fd=W.fnOf x qual (defArgs st) (defBody st) (defScope st) .none kV doc pm an cdv ct/\K.lookup f=some ⟨oc,od,.func fd,osl⟩/\W.codeIn K cdv qual=true
 kp:W.keepIn K (.ref f)=true
section
variable {P:Program}{w:World}{K:W.Frag}{mg:Str->Option Value}{base:Heap}
theorem E1.ok{st:Stmt}{N ps:List Str}{k:Nat}(F:E1 K x qual st f fd)(S:fF N ps (defScope st))(len:∀vs H Q E,sp vs H Q E->vs.length=ps.length)
  (hbody:∀(cdv:Value) (A:Around) (outer:List Env) (s:Shared) (H:Hp) (vs:List V) (Q:VK) (E:XK),cS k (A.deeper (envOfC qual (defScope st) s.heap.objs.size f cdv))->sp vs H Q E ->
   ∃t,uB (nk CX0 P w K mg base N qual (defScope st) f cdv A outer s H E).nox (defBody st) t/\t { nx:=λ_ H'=>Q .non H',rt:=Q } (start N vs) H):fk P w K mg base CX0 (k+1) f fd ps sp:=by
 obtain⟨oc,od,kV,doc,pm,an,cdv,ct,osl,rfl,lk,hcd⟩:=F.ex;refine JC lk hcd S len λA outer s H vs Q E hr hsp=>?_;obtain⟨t,h,q⟩:=hbody cdv A outer s H vs Q E hr hsp;exact⟨t,h.nox,q⟩
theorem E1.binds{st:Stmt}{ps:List Str}(F:E1 K x qual st f fd)
  (h:∀(kV doc pm:Value) (an:Option Addr) (cdv ct:Value) (us:List Value),us.length=ps.length->bindArgs (W.fnOf x qual (defArgs st) (defBody st) (defScope st) .none kV doc pm an cdv ct) ⟨us,[]⟩=pure (ps.zip us)):jo K fd ps []:=by
 obtain⟨oc,od,kV,doc,pm,an,cdv,ct,osl,rfl,lk,hcd⟩:=F.ex;exact .all (h kV doc pm an cdv ct)
theorem Ci{st:Stmt}{kV doc pm cdv ct:Value}(l:K.lookup f=some ⟨oc,od,.func (W.fnOf x qual (defArgs st) (defBody st) (defScope st) .none kV doc pm an cdv ct),osl⟩)
  (c:W.codeIn K cdv qual=true)(k:W.keepIn K (.ref f)=true):E1 K x qual st f (W.fnOf x qual (defArgs st) (defBody st) (defScope st) .none kV doc pm an cdv ct):=⟨⟨oc,od,kV,doc,pm,an,cdv,ct,osl,rfl,l,c⟩,k⟩
end
noncomputable def aA(H H':Hp):Prop:=∀b o,H b=some o->H' b=some o
theorem aA.refl(H:Hp):aA H H:=λ_ _ h=>h
theorem aA.trans(a:aA H H1)(b:aA H1 H2):aA H H2:=λc o h=>b c o (a c o h)
theorem aA.free(e:aA H H')(h:H' l=Option.none):H l=Option.none:=by
 cases q:H l with
 |none=>rfl
 |some o =>
  rw[e l o q] at h;cases h
end L2
namespace DL
open PySem PySem.Spec PySem.Calls PySem.W PyProof.Rows Builtin Builtin.ObjectAttr Builtin.Getset_descriptor
section
variable {prog:Program}{w:World}{A:Around}{E:Value->Shared->Prop}{h:Heap}{g:Array GenState}{d:Drawn}{t:Nat}{os:OsState}{a C:Addr}{o:Obj}{K:Frag}
structure rh (K:Frag) (C:Addr):Prop where
 cls:findIn K (.ref C) "__class__"=some (some (.builtin "object.__class__"))
 ga:findIn K (.ref C) "__getattribute__"=some (some (.builtin "BaseException.__getattribute__"))
 gt:findIn K (.ref C) "__getattr__"=some none
 ob:mroIn K C (.type "object")=some true
 be:subIn K (.ref C) (.type "BaseException")=some true
theorem FW(X:K.In h)(Z:rh K C)(hx:h.get? a=some o)(hc:o.cls=.ref C)(hq:R (.ok (.ret (.ref C))) ⟨h,g,d,t,os⟩) :
  codeAny (model prog w) A (.call (.builtin "getset_descriptor.__get__") ⟨[.builtin "object.__class__",.ref a,tp],[]⟩) R ⟨h,g,d,t,os⟩:=by
 have L0:Looks (model prog w) h (typeOf (.ref a)) (.ref C):=hc▸(Looks.ld hx).andThen .now;have L1:=looks_mroIn (M:=model prog w) X Z.ob;refine codeAny_call_builtin KF.slot_gs.plain KF.entry_gs (KF.slot_gs.check _ _ _ _ _ _ _ _ KF.type_class (KF.args_gs _ _ _) ?_);unfold Builtin.«getset_descriptor.__get__» descrGet;rw[dga_obj];refine wpAny_bind (wpAny_pure ?_);unfold descrGetter descrCheckInstance descrNameAndClass isInstance;simp only[KF.owner_class]
 repeat lk
 refine⟨Code.quiet_builtin _ (by decide +kernel),codeAny_builtin KF.entry_class ?_⟩;unfold Builtin.«object.__class__» shownTypeOf
 repeat lk
 exact hq
theorem AZ(X:K.In h)(Z:rh K C)(hx:h.get? a=some o)(hc:o.cls=.ref C)(hq:Q () ⟨h,g,d,t,os⟩):wpAny M A (checkBuiltinCall "BaseException.__getattribute__" ⟨[.ref a,nameV],[]⟩) Q E ⟨h,g,d,t,os⟩:=by
 have hk:builtinKind "BaseException.__getattribute__"=some .slot:=by decide +kernel
 have hsplit:splitId "BaseException.__getattribute__"=some ("BaseException","__getattribute__"):=by decide +kernel
 have ha:=F.args_bexc_ga (.ref a) nameV;have LS:Looks M h (isSubtype (.ref C) (.type "BaseException")) true:=looks_subIn X Z.be;simp only[checkBuiltinCall,hk,hsplit];refine wpAny_bind ?_
 .unfold isInstance
  repeat (first|(with_reducible refine wpAny_loadPart_at hx ?_;rw[hc])|(with_reducible refine LS.at ?_)|wp_step)
  exact hq
theorem AY(X:K.In h)(Z:rh K C)(hx:h.get? a=some o)(hc:o.cls=.ref C)(hq:Q (.done (.ret (.ref C))) ⟨h,g,d,t,os⟩) :
  wpAny (model prog w) A (Builtin.«object.__getattribute__» ⟨[.ref a,.str "__class__" tk],[]⟩) Q E ⟨h,g,d,t,os⟩:=by
 have hT5:(⟨h,g,d,t,os⟩:Shared).TypeIs (.builtin "object.__class__") "getset_descriptor":=F.typeOf_object_class;have f5:=F.typeOf_object_class;have f6:=F.slot_gs_get.lookup;have f7:=F.slot_gs_set.lookup;have LC:Looks (model prog w) h (typeLookup (.ref C) "__class__") (some (.builtin "object.__class__")):=looks_findIn X Z.cls
 repeat (any_goals (first|assumption|(with_reducible refine wpAny_loadPart_at hx ?_;rw[hc])|(with_reducible refine LC.at ?_)|wp_step))
 refine FW X Z hx hc ?_
 repeat (any_goals (first|assumption|wp_step))
theorem Dd(X:K.In h)(Z:rh K C)(hx:h.get? a=some o)(hc:o.cls=.ref C)(hq:R (.ok (.ret (.ref C))) ⟨h,g,d,t,os⟩) :
  codeAny (model prog w) A (.call (.builtin "BaseException.__getattribute__") ⟨[.ref a,.str "__class__" tk],[]⟩) R ⟨h,g,d,t,os⟩ :=
 codeAny_call_builtin F.attr_ValueError.ga.plain F.entry_bexc_ga (AZ X Z hx hc (AY X Z hx hc hq))
theorem Ii(X:K.In h)(Z:rh K C)(hx:h.get? a=some o)(hc:o.cls=.ref C)(hq:Q (.ref C) ⟨h,g,d,t,os⟩) :
  wpAny (model prog w) A (getAttrBy (.ref a) (.str "__class__" tk) false) Q E ⟨h,g,d,t,os⟩:=by
 have f3:=F.attr_ValueError.ga.bind (.ref a);have hx2:(Value.builtin "BaseException.__getattribute__"==Value.builtin "object.__getattribute__")=false:=by decide +kernel
 have hx1:(onTheHeap (Value.ref C)&&Value.builtin "BaseException.__getattribute__"==Value.builtin "object.__getattribute__")=false:=by rw[hx2];rfl
 have L1:Looks (model prog w) h (typeLookup (.ref C) "__getattribute__") (some (.builtin "BaseException.__getattribute__")):=looks_findIn X Z.ga;have L2:Looks (model prog w) h (typeLookup (.ref C) "__getattr__") none:=looks_findIn X Z.gt
 repeat (any_goals (first|assumption|(with_reducible refine wpAny_loadPart_at hx ?_;rw[hc])|(with_reducible refine L1.at ?_)|(with_reducible refine L2.at ?_)|wp_step))
 refine Dd X Z hx hc ?_
 repeat (any_goals (first|assumption|wp_step))
theorem De(X:K.In h)(Z:rh K C)(hx:h.get? a=some o)(hc:o.cls=.ref C)(hq:Q (some (.ref C)) ⟨h,g,d,t+1,os⟩):wpAny (model prog w) A (getAttr? (.ref a) "__class__") Q E ⟨h,g,d,t,os⟩:=by
 unfold getAttr? getAttrBy?
 repeat (any_goals (first|assumption|with_reducible apply Ii X Z hx hc|wp_step))
end
noncomputable def Ke(a C:Addr) (dc:Option Addr):Heap->Prop:=λh=>∃o vs,h.get? a=some o/\o.cls=.ref C/\o.data=.fields vs/\o.dict=dc
theorem vq{K:Frag}{a C:Addr}{dc:Option Addr}(Z:rh K C)(hC:(clsIn K C).isSome=true):KitX K (.ref a) (.ref C) (Ke a C dc) where
 ty:=λ_ _ _ ⟨o,_,h1,h2,_⟩=>h2▸(Looks.ld h1).andThen .now
 it:=λ_ _ X _=>by
  obtain⟨cd,hcD⟩:=Option.isSome_iff_exists.mp hC;unfold clsIn at hcD;split at hcD
  .rename_i c' d' cd' sl' ho
   intro A' Q' E' s' k q;unfold isType loadHead;exact wpAny_bind (wpAny_loadPart (k _ _ (X _ _ ho)) (wpAny_pure q))
  .cases hcD
 ne:=λh tp dd its n sl X htp=>by
  obtain⟨cd,hcD⟩:=Option.isSome_iff_exists.mp hC;refine Bool.eq_false_iff.mpr λq=>?_;have e:C=tp:=Value.ref.inj (beq_iff_eq.mp q);subst e;unfold clsIn at hcD;split at hcD
  .rename_i c' d' cd' sl' ho
   have z:=(X _ _ ho).symm.trans htp;cases z
  .cases hcD
 ca:=λ{_ _ _ _ _ s} X ⟨o,_,h1,h2,_⟩ k=>by
  obtain⟨h,g,d,t,os⟩:=s;exact De X Z h1 h2 k
theorem rh.isCls{K:Frag}(Z:rh K C):(clsIn K C).isSome=true:=by
 obtain⟨cd,a,b⟩:=Option.bind_eq_some_iff.mp Z.ob;rw[a];rfl
noncomputable def gJ:List String:=["NoneType","bool","int","str","tuple","list","dict"]
structure XC (K:Frag) (x:Str) (C:Addr):Prop where
 ns:nsIn K mainGlobals x=some (some (.ref C))
 ek:rh K C
 bt:∀T∈gJ,kitOne K (.ref C) (.type T)=some false
end DL
namespace DL
open PySem PySem.Spec PyProof.Rows L2
noncomputable def H0:Expr->Bool
 |.Starred _ _=>false
 |_=>true
theorem bw(h:H0 e=true):starEach (e::es) env=(false,eval e env)::starEach es env:=by
 cases e<;>first|(rw[starEach];intros;contradiction)|rw[starEach]|(cases h)
theorem dM(h:H0 e=true):starEach [e] env=[(false,eval e env)]:=by
 rw[bw h,starEach]
theorem cc:∀{es:List Expr},es.all H0=true->(backTo pos (starEach es env)).any (·.1)=false
 |[],_=>by rw[starEach];rfl
 |e::es,h=>by
  rw[List.all_cons,Bool.and_eq_true] at h;rw[bw h.1];have:=cc (env:=env) (pos:=pos) h.2;show(false||(backTo pos (starEach es env)).any (·.1))=false;rw[this];rfl
theorem ip(h:H0 e=true):((backTo pos (starEach [e] env)).all (λx=>!x.1)&&(backToKw pos (keywordEach [] env)).all (λx=>x.1.isSome)
  &&decide ([e].length+([]:List Keyword).length+(if([]:List Keyword).isEmpty then 0 else 1)<30))=true:=by
 rw[dM h,keywordEach];rfl
inductive Kd where
 |ins (c:Str) (ks:List Str)|dint (ks:List Int)|exf (c:Str) (ks:List Str)
inductive D where
 |non|bl (b:Bool)|int (i:Int)|str (x:Str)|tup (xs:List D)|lst (xs:List D)|dic (ks:List Str) (xs:List D)|exc (x:Str)|ob (k:Kd) (xs:List D)
structure Lc (K:W.Frag) (ks:List Str) (C:Addr):Prop where
 cls:Kh K C
 no:∀f∈ks,HQ K C f
 gc:W.findIn K (.ref C) "__class__"=some (some (.builtin "object.__class__"))
 gn:W.specialIn K (.builtin "object.__class__") "__get__"=some (some (.builtin "getset_descriptor.__get__"))
 tk:W.takesIn K (.builtin "object.__class__")=some true
 mo:W.mroIn K C (.type "object")=some true
 bt:∀T∈gJ,W.kitOne K (.ref C) (.type T)=some false
noncomputable def C0(K:W.Frag) (H:Hp):Kd->Addr->List V->Prop
 |.ins c ks,a,vs=>∃C dx,W.nsIn K mainGlobals c=some (some (.ref C))/\Lc K ks C/\H a=some (.ins C dx (ks.zip vs))/\ks.length=vs.length
 |.dint ks,a,vs=>∃kvs,Rd H a (.dK kvs)/\kvs=(ks.map Sum.inl).zip vs/\ks.length=vs.length
 |.exf c ks,a,vs=>∃C dx fs,XC K c C/\Rd H a (.ext (Ke a C (some dx)))/\H dx=some (.xd fs)/\ks.length=vs.length/\∀(i:Nat) (f:Str) (v:V),ks[i]?=some f->vs[i]?=some v->fs.lookup f=some v
structure LO where
 cls:Str
 flds:List (Str×D)
inductive ai (α:Type) where
 |ok (a:α)|exn (x:LO)|stuck
noncomputable def ai.bind{α β:Type}(r:ai α) (f:α->ai β):ai β:=match r with
 |.ok a=>f a
 |.exn x=>.exn x
 |.stuck=>.stuck
mutual
def Rep(K:W.Frag)(H:Hp):D->V->Prop
 |.non,v=>v=.non
 |.bl b,v=>v=.bl b
 |.int i,v=>v=.int i
 |.str x,v=>v=.str x
 |.tup ds,v=>∃a vs,v=.ref a/\jc K H a vs/\Reps K H ds vs
 |.lst ds,v=>∃a vs,v=.ref a/\eD K H a vs/\Reps K H ds vs
 |.dic ks ds,v=>∃a kvs vs,v=.ref a/\Rd H a (.dK kvs)/\kvs=(ks.map Sum.inr).zip vs/\ks.length=vs.length/\Reps K H ds vs
 |.exc x,v=>∃a C dc,v=.ref a/\XC K x C/\Rd H a (.ext (Ke a C dc))
 |.ob k ds,v=>∃a vs,v=.ref a/\C0 K H k a vs/\Reps K H ds vs
def Reps(K:W.Frag)(H:Hp):List D->List V->Prop
 |[],vs=>vs=[]
 |d::ds,vs=>∃v r,vs=v::r/\Rep K H d v/\Reps K H ds r
end
theorem aA.rd(e:aA H H')(h:Rd H a o):Rd H' a o:=by
 rcases h with h|⟨o',h⟩
 .exact .inl (e _ _ h)
 .exact .inr ⟨o',e _ _ h⟩
theorem aA.sqT{K:W.Frag}(e:aA H H')(h:jc K H a xs):jc K H' a xs:=by
 rcases h with h|h
 .exact .inl (aA.rd e h)
 .exact .inr h
theorem aA.sqL{K:W.Frag}(e:aA H H')(h:eD K H a xs):eD K H' a xs:=by
 rcases h with h|h
 .exact .inl (aA.rd e h)
 .exact .inr h
theorem C0.mono{K:W.Frag}(e:aA H H'):∀{k:Kd}{a:Addr}{vs:List V},C0 K H k a vs->C0 K H' k a vs
 |.ins c ks,a,vs,⟨C,dx,h0,h1,h2,h3⟩=>⟨C,dx,h0,h1,e _ _ h2,h3⟩
 |.dint ks,a,vs,⟨kvs,h1,h2,h3⟩=>⟨kvs,aA.rd e h1,h2,h3⟩
 |.exf c ks,a,vs,⟨C,dx,fs,h1,h2,h3,h4⟩=>⟨C,dx,fs,h1,aA.rd e h2,e _ _ h3,h4⟩
mutual
theorem Rep.mono{K:W.Frag}{H H':Hp}(e:aA H H'):∀{d:D}{v:V},Rep K H d v->Rep K H' d v
 |.non,_,h=>by unfold Rep at h ⊢;exact h
 |.bl _,_,h=>by unfold Rep at h ⊢;exact h
 |.int _,_,h=>by unfold Rep at h ⊢;exact h
 |.str _,_,h=>by unfold Rep at h ⊢;exact h
 |.tup ds,_,h=>by
  unfold Rep at h ⊢;obtain⟨a,vs,e1,e2,e3⟩:=h;exact⟨a,vs,e1,aA.sqT e e2,Reps.mono e e3⟩
 |.lst ds,_,h=>by
  unfold Rep at h ⊢;obtain⟨a,vs,e1,e2,e3⟩:=h;exact⟨a,vs,e1,aA.sqL e e2,Reps.mono e e3⟩
 |.dic ks ds,_,h=>by
  unfold Rep at h ⊢;obtain⟨a,kvs,vs,e1,e2,e3,e4,e5⟩:=h;exact⟨a,kvs,vs,e1,aA.rd e e2,e3,e4,Reps.mono e e5⟩
 |.exc x,_,h=>by
  unfold Rep at h ⊢;obtain⟨a,C,dc,e1,e2,e3⟩:=h;exact⟨a,C,dc,e1,e2,aA.rd e e3⟩
 |.ob k ds,_,h=>by
  unfold Rep at h ⊢;obtain⟨a,vs,e1,e2,e3⟩:=h;exact⟨a,vs,e1,e2.mono e,Reps.mono e e3⟩
theorem Reps.mono{K:W.Frag}{H H':Hp}(e:aA H H'):∀{ds:List D}{vs:List V},Reps K H ds vs->Reps K H' ds vs
 |[],_,h=>by unfold Reps at h ⊢;exact h
 |d::ds,_,h=>by
  unfold Reps at h ⊢;obtain⟨v,r,e1,e2,e3⟩:=h;exact⟨v,r,e1,Rep.mono e e2,Reps.mono e e3⟩
end
section
variable {K:W.Frag}{H:Hp}{v:V}{vs:List V}{d:D}{ds:List D}
theorem aL:Rep K H .non v↔v=.non:=by unfold Rep;exact Iff.rfl
theorem aI{b}:Rep K H (.bl b) v↔v=.bl b:=by unfold Rep;exact Iff.rfl
theorem au{i}:Rep K H (.int i) v↔v=.int i:=by unfold Rep;exact Iff.rfl
theorem Rep.str_iff{x}:Rep K H (.str x) v↔v=.str x:=by unfold Rep;exact Iff.rfl
theorem aJ:Rep K H (.tup ds) v↔∃a vs,v=.ref a/\jc K H a vs/\Reps K H ds vs:=by rw[Rep]
theorem aH:Rep K H (.lst ds) v↔∃a vs,v=.ref a/\eD K H a vs/\Reps K H ds vs:=by rw[Rep]
theorem mZ{x}:Rep K H (.exc x) v↔∃a C dc,v=.ref a/\XC K x C/\Rd H a (.ext (Ke a C dc)):=by rw[Rep]
theorem qH{k}:Rep K H (.ob k ds) v↔∃a vs,v=.ref a/\C0 K H k a vs/\Reps K H ds vs:=by rw[Rep]
theorem Reps.nil_iff:Reps K H [] vs↔vs=[]:=by unfold Reps;exact Iff.rfl
theorem aE:Reps K H (d::ds) vs↔∃v r,vs=v::r/\Rep K H d v/\Reps K H ds r:=by rw[Reps]
theorem Reps.nil:Reps K H [] []:=Reps.nil_iff.mpr rfl
theorem Reps.cons(h:Rep K H d v)(h':Reps K H ds vs):Reps K H (d::ds) (v::vs):=aE.mpr ⟨_,_,rfl,h,h'⟩
end
theorem Reps.length{K:W.Frag}:∀{ds:List D}{vs:List V},Reps K H ds vs->ds.length=vs.length
 |[],_,h=>by rw[Reps.nil_iff.mp h];rfl
 |d::ds,_,h=>by
  obtain⟨v,r,rfl,_,h⟩:=aE.mp h;simp [Reps.length h]
theorem Reps.get{K:W.Frag}{H:Hp}:∀{ds:List D}{vs:List V}{i:Nat}{d:D},Reps K H ds vs->ds[i]?=some d->∃v,vs[i]?=some v/\Rep K H d v
 |[],_,_,_,h,e=>by simp at e
 |x::ds,_,0,d,h,e=>by
  obtain⟨v,r,rfl,h1,_⟩:=aE.mp h;simp at e;subst e;exact⟨v,rfl,h1⟩
 |x::ds,_,i+1,d,h,e=>by
  obtain⟨v,r,rfl,_,h2⟩:=aE.mp h;obtain⟨u,e1,e2⟩:=Reps.get (i:=i) h2 (by simpa using e);exact⟨u,by simpa using e1,e2⟩
theorem Reps.app{K:W.Frag}{H:Hp}:∀{ds es:List D}{vs us:List V},Reps K H ds vs->Reps K H es us->Reps K H (ds++es) (vs++us)
 |[],_,_,_,h,h'=>by rw[Reps.nil_iff.mp h];exact h'
 |d::ds,_,_,_,h,h'=>by
  obtain⟨v,r,rfl,h1,h2⟩:=aE.mp h;exact Reps.cons h1 (Reps.app h2 h')
theorem Reps.take{K:W.Frag}:∀{ds:List D}{vs:List V}(n:Nat),Reps K H ds vs->Reps K H (ds.take n) (vs.take n)
 |_,_,0,_=>by simp;exact Reps.nil
 |[],_,n+1,h=>by rw[Reps.nil_iff.mp h];exact Reps.nil
 |d::ds,_,n+1,h=>by
  obtain⟨v,r,rfl,h1,h2⟩:=aE.mp h;exact Reps.cons h1 (Reps.take n h2)
theorem Reps.drop{K:W.Frag}:∀{ds:List D}{vs:List V}(n:Nat),Reps K H ds vs->Reps K H (ds.drop n) (vs.drop n)
 |_,_,0,h=>by simpa using h
 |[],_,n+1,h=>by rw[Reps.nil_iff.mp h];exact Reps.nil
 |d::ds,_,n+1,h=>by
  obtain⟨v,r,rfl,h1,h2⟩:=aE.mp h;exact Reps.drop n h2
theorem Reps.set{K:W.Frag}(h:Rep K H d v):∀{ds:List D}{vs:List V}(n:Nat),Reps K H ds vs->Reps K H (ds.set n d) (vs.set n v)
 |[],_,n,h'=>by rw[Reps.nil_iff.mp h'];exact Reps.nil
 |x::ds,_,0,h'=>by
  obtain⟨v,r,rfl,h1,h2⟩:=aE.mp h';exact Reps.cons h h2
 |x::ds,_,n+1,h'=>by
  obtain⟨v,r,rfl,h1,h2⟩:=aE.mp h';exact Reps.cons h1 (Reps.set h n h2)
theorem sP{K:W.Frag}:∀(ns:List Int),Reps K H (ns.map D.int) (ns.map V.int)
 |[]=>Reps.nil
 |n::r=>Reps.cons (au.mpr rfl) (sP r)
structure aU (H Ha H' Ha':Hp):Prop where
 s:aA H H'
 z:aA Ha Ha'
 sub:aA Ha' H'
 nw:∀a,Ha' a≠none->Ha a=none->H a=none
theorem aU.refl(h:aA Ha H):aU H Ha H Ha:=⟨aA.refl _,aA.refl _,h,λa h1 h2=>absurd h2 h1⟩
theorem aU.trans(a:aU H Ha H1 H01)(b:aU H1 H01 H2 H02):aU H Ha H2 H02 :=
 ⟨a.s.trans b.s,a.z.trans b.z,b.sub,λx h1 h2=>by
  cases q:H01 x with
  |none=>exact a.s.free (b.nw x h1 q)
  |some o=>exact a.nw x (by rw[q];simp) h2⟩
theorem bo(hs:aA Ha H)(hp:H p=none):aU H Ha (upd H p o) (upd Ha p o) :=
 ⟨same_new hp o,same_new (hs.free hp) o,λb u e=>by
  by_cases hb:b=p
  .subst hb;rw[aB] at e ⊢;exact e
  .rw[av hb] at e ⊢;exact hs _ _ e,λa h1 h2=>by
  by_cases hb:a=p
  .subst hb;exact hp
  .rw[av hb] at h1;exact absurd h2 h1⟩
where
 same_new {H:Hp}{p:Addr}(h:H p=none) (o:HO):aA H (upd H p o):=λb u q=>by rw[av (bh q h)];exact q
inductive Sl where
 |no|sh (d:D)|ow (d:D)|ox (j:Nat) (ds:List D)|pt (a:Addr)
noncomputable abbrev Ev:=List Sl
noncomputable def Reads(K:W.Frag) (Ha:Hp) (σ:L2.St) (ρ:Ev):Prop:=∀(i:Nat) (d:D),ρ[i]?=some (.sh d)->∃v,σ[i]?=some (some v)/\Rep K Ha d v
theorem Reads.mono{K:W.Frag}(e:aA H H')(r:Reads K H σ ρ):Reads K H' σ ρ:=λi d h =>
 let ⟨v,h1,h2⟩:=r i d h
 ⟨v,h1,h2.mono e⟩
noncomputable def zJ(K:W.Frag) (H:Hp) (x:LO) (C:Value) (ox:Option Addr):Prop :=
 (∃c,C=.ref c/\XC K x.cls c)/\match ox with
  |none=>x.flds=[]
  |some a=>∃fs,H a=some (.xd fs)/\∀n d,x.flds.lookup n=some d->∃v,fs.lookup n=some v/\Rep K H d v
noncomputable def post(K:W.Frag) (E:XK) (H Ha:Hp) (r:ai D) (Q:VK):Prop:=match r with
 |.ok d=>∀v H' Ha',aU H Ha H' Ha'->Rep K Ha' d v->Q v H'
 |.exn x=>∀C ox H' Ha',aU H Ha H' Ha'->zJ K Ha' x C ox->E C ox H'
 |.stuck=>False
noncomputable def uR(K:W.Frag) (E:XK) (H Ha:Hp) (r:ai (List D)) (Q:List V->Hp->Prop):Prop:=match r with
 |.ok ds=>∀vs H' Ha',aU H Ha H' Ha'->Reps K Ha' ds vs->Q vs H'
 |.exn x=>∀C ox H' Ha',aU H Ha H' Ha'->zJ K Ha' x C ox->E C ox H'
 |.stuck=>False
noncomputable def og(K:W.Frag) (E:XK) (H Ha:Hp) (r:ai D) (Q:Bool->Hp->Prop):Prop:=match r with
 |.ok (.bl b)=>∀H' Ha',aU H Ha H' Ha'->Q b H'
 |.ok _=>False
 |.exn x=>∀C ox H' Ha',aU H Ha H' Ha'->zJ K Ha' x C ox->E C ox H'
 |.stuck=>False
section
variable {K:W.Frag}{E:XK}{H Ha H1 H01:Hp}
theorem post.grow(h:post K E H Ha r Q)(g:aU H Ha H1 H01):post K E H1 H01 r Q:=by
 cases r with|ok d=>exact λv H' Ha' g'=>h v H' Ha' (g.trans g')|exn x=>exact λC ox H' Ha' g'=>h C ox H' Ha' (g.trans g')|stuck=>exact h
theorem uR.grow(h:uR K E H Ha r Q)(g:aU H Ha H1 H01):uR K E H1 H01 r Q:=by
 cases r with|ok d=>exact λv H' Ha' g'=>h v H' Ha' (g.trans g')|exn x=>exact λC ox H' Ha' g'=>h C ox H' Ha' (g.trans g')|stuck=>exact h
theorem og.grow(h:og K E H Ha r Q)(g:aU H Ha H1 H01):og K E H1 H01 r Q:=by
 cases r with
 |ok d =>
  cases d with|bl b=>exact λH' Ha' g'=>h H' Ha' (g.trans g')| _=>exact h
 |exn x=>exact λC ox H' Ha' g'=>h C ox H' Ha' (g.trans g')
 |stuck=>exact h
end
noncomputable def tD(K:W.Frag) (E:XK) (f:Ev->ai D):TE:=λσ H Q=>∃Ha ρ,aA Ha H/\Reads K Ha σ ρ/\post K E H Ha (f ρ) Q
noncomputable def Lo(K:W.Frag) (E:XK) (f:Ev->ai (List D)):TA:=λσ H Q=>∃Ha ρ,aA Ha H/\Reads K Ha σ ρ/\uR K E H Ha (f ρ) Q
noncomputable def HZ(K:W.Frag) (E:XK) (f:Ev->ai D):TT:=λσ H Q=>∃Ha ρ,aA Ha H/\Reads K Ha σ ρ/\og K E H Ha (f ρ) Q
structure DE (X:Cx) (E:XK) (e:Expr) (f:Ev->ai D):Prop where
 o:PE X e (tD X.K E f)
structure DA (X:Cx) (E:XK) (es:List Expr) (f:Ev->ai (List D)):Prop where
 o:PA X es (Lo X.K E f)
structure DT (X:Cx) (E:XK) (e:Expr) (f:Ev->ai D):Prop where
 o:PT X e (HZ X.K E f)
structure DW (X:Cx) (E:XK) (e:Expr) (f:Ev->ai D):Prop where
 o:PW X e (HZ X.K E f)
section
variable {X:Cx}{E:XK}{e a b:Expr}{es:List Expr}{f g:Ev->ai D}{fa:Ev->ai (List D)}{pos:Pos}
theorem aR(h:PE X e t)(w:∀σ H Q,t' σ H Q->t σ H Q):PE X e t':=λpins s σ H Q I q=>h pins s σ H Q I (w σ H Q q)
theorem nz(h:PA X es t)(w:∀σ H Q,t' σ H Q->t σ H Q):PA X es t':=λpos pins s σ H Q I q=>h pos pins s σ H Q I (w σ H Q q)
theorem gj(h:PT X e t)(w:∀σ H Q,t' σ H Q->t σ H Q):PT X e t':=λpins s σ H Q I q=>h pins s σ H Q I (w σ H Q q)
theorem yl(h:PW X e t)(w:∀σ H Q,t' σ H Q->t σ H Q):PW X e t':=λwh pins s σ H Q I q=>h wh pins s σ H Q I (w σ H Q q)
noncomputable def aa(i:Nat):Ev->ai D:=λρ=>match ρ[i]? with
 |some (.sh d)=>.ok d
 |_=>.stuck
noncomputable def dC(d:D):Ev->ai D:=λ_=>.ok d
theorem Hr(hN:X.N[i]?=some x)(hv:CZ X.env.scope x)(hd:(x==("__debug__":Str))=false:=by decide)(hcd:(x==("__classdict__":Str))=false:=by decide):DE X E (.Name x pos) (aa i):=by
 refine⟨?_⟩;refine aR (ju hN hv hd hcd) λσ H Q ⟨Ha,ρ,hs,hr,q⟩=>?_;unfold aa at q;cases e:ρ[i]? with
 |none=>rw[e] at q;exact q.elim
 |some s =>
  rw[e] at q;cases s with
  |sh d =>
   obtain⟨v,e1,e2⟩:=hr i d e;exact⟨v,e1,q v H Ha (aU.refl hs) e2⟩
  |no|ow d|ox j ds|pt a=>exact q.elim
theorem aj{i j}:DE X E (.Constant (.int i) j pos) (dC (.int i)):=⟨aR GJ λσ H Q ⟨Ha,ρ,hs,hr,q⟩=>q _ H Ha (aU.refl hs) (au.mpr rfl)⟩
theorem gQ{i j}:DE X E (.Constant (.bool i) j pos) (dC (.bl i)):=⟨aR IZ λσ H Q ⟨Ha,ρ,hs,hr,q⟩=>q _ H Ha (aU.refl hs) (aI.mpr rfl)⟩
theorem cY{j}:DE X E (.Constant .none j pos) (dC .non):=⟨aR GI λσ H Q ⟨Ha,ρ,hs,hr,q⟩=>q _ H Ha (aU.refl hs) (aL.mpr rfl)⟩
theorem dm{x j}:DE X E (.Constant (.str x) j pos) (dC (.str x)):=⟨aR GF λσ H Q ⟨Ha,ρ,hs,hr,q⟩=>q _ H Ha (aU.refl hs) (Rep.str_iff.mpr rfl)⟩
theorem EF(hg:Gl X x)(hm:X.mg x=some u)(r:aX v u)(hr:∀H,Rep X.K H d v)(hd:(x==("__debug__":Str))=false:=by decide):DE X E (.Name x pos) (dC d) :=
 ⟨aR (D4 hg hm r hd) λσ H Q ⟨Ha,ρ,hs,hr',q⟩=>q _ H Ha (aU.refl hs) (hr Ha)⟩
noncomputable def ae(f g:Ev->ai D) (op:D->D->ai D):Ev->ai D:=λρ=>(f ρ).bind λx=>(g ρ).bind λy=>op x y
noncomputable def cC(f:Ev->ai D) (op:D->ai D):Ev->ai D:=λρ=>(f ρ).bind op
noncomputable def qL(K:W.Frag) (E:XK) (r:R2) (op:D->D->ai D):Prop:=∀(x y:D) (v u:V) (H Ha:Hp) (Q:VK),aA Ha H->Rep K Ha x v->Rep K Ha y u->post K E H Ha (op x y) Q->r v u H Q
theorem fN(ho:qL X.K E r op)(σ:L2.St)(H:Hp)(Q:VK)(h:tD X.K E (ae f g op) σ H Q):HY r (tD X.K E f) (tD X.K E g) σ H Q:=by
 obtain⟨Ha,ρ,hs,hr,q⟩:=h;refine⟨Ha,ρ,hs,hr,?_⟩;unfold ae at q;cases e1:f ρ with
 |stuck|exn x=>rw[e1] at q;exact q
 |ok x =>
  rw[e1] at q;intro v H1 H01 g1 r1;refine⟨H01,ρ,g1.sub,hr.mono g1.z,?_⟩;replace q:post X.K E H Ha ((g ρ).bind λy=>op x y) Q:=q;replace q:=q.grow g1;cases e2:g ρ with
  |stuck|exn x=>rw[e2] at q;exact q
  |ok y =>
   rw[e2] at q;intro u H2 H02 g2 r2;exact ho x y v u H2 H02 Q g2.sub (r1.mono g2.z) r2 (post.grow (r:=op x y) q g2)
theorem rZ(h:eE X (binaryOp op) r)(ho:qL X.K E r o)(ha:DE X E a f)(hb:DE X E b g):DE X E (.BinOp a op b pos) (ae f g o) :=
 ⟨aR (Fe h ha.o hb.o) (fN ho)⟩
theorem eJ(h:eE X (compareOp op) r)(ho:qL X.K E r o)(ha:DE X E a f)(hb:DE X E b g)(hm:behindInMarks op b=false):DE X E (.Compare a [op] [b] pos) (ae f g o) :=
 ⟨aR (yr h ha.o hb.o hm) (fN ho)⟩
theorem JM(h:C1 X r)(ho:qL X.K E r o)(ha:DE X E a f)(hb:DE X E b g)(hs:lF b):DE X E (.Subscript a b pos) (ae f g o) :=
 ⟨aR (Ff h ha.o hb.o hs) (fN ho)⟩
noncomputable def Mf(K:W.Frag) (E:XK) (r:V->Hp->VK->Prop) (op:D->ai D):Prop:=∀(x:D) (v:V) (H Ha:Hp) (Q:VK),aA Ha H->Rep K Ha x v->post K E H Ha (op x) Q->r v H Q
theorem JK(h:Ka X (unaryOp op) r)(ho:Mf X.K E r o)(ha:DE X E a f):DE X E (.UnaryOp op a pos) (cC f o):=by
 refine⟨?_⟩;refine aR (IW h ha.o) λσ H Q ⟨Ha,ρ,hs,hr,q⟩=>⟨Ha,ρ,hs,hr,?_⟩
 unfold cC at q;cases e1:f ρ with
 |stuck|exn x=>rw[e1] at q;exact q
 |ok x =>
  rw[e1] at q;intro v H1 H01 g1 r1;exact ho x v H1 H01 Q g1.sub r1 (post.grow (r:=o x) q g1)
noncomputable def aF:Ev->ai (List D):=λ_=>.ok []
noncomputable def ah(f:Ev->ai D) (fa:Ev->ai (List D)):Ev->ai (List D):=λρ=>(f ρ).bind λx=>(fa ρ).bind λxs=>.ok (x::xs)
theorem aw:DA X E [] aF:=⟨nz gq λσ H Q ⟨Ha,ρ,hs,hr,q⟩=>q [] H Ha (aU.refl hs) Reps.nil⟩
theorem af(ha:DE X E e f)(hr:DA X E es fa)(hs:starEach (e::es) X.env=(false,eval e X.env)::starEach es X.env:=by exact bw rfl):DA X E (e::es) (ah f fa):=by
 refine⟨?_⟩;refine nz (dO ha.o hr.o hs) λσ H Q ⟨Ha,ρ,hs,hr,q⟩=>⟨Ha,ρ,hs,hr,?_⟩
 unfold ah at q;cases e1:f ρ with
 |stuck|exn x=>rw[e1] at q;exact q
 |ok x =>
  rw[e1] at q;intro v H1 H01 g1 r1;refine⟨H01,ρ,g1.sub,hr.mono g1.z,?_⟩;replace q:uR X.K E H Ha ((fa ρ).bind λxs=>.ok (x::xs)) Q:=q;replace q:=q.grow g1;cases e2:fa ρ with
  |stuck|exn x=>rw[e2] at q;exact q
  |ok xs =>
   rw[e2] at q;intro us H2 H02 g2 r2;exact q (v::us) H2 H02 g2 (Reps.cons (r1.mono g2.z) r2)
noncomputable def line:Nat:=1000000
theorem c8(h:n<=line):n<=sizeLine:=Nat.le_trans h (by decide)
noncomputable def ar(fa:Ev->ai (List D)) (m:List D->ai D):Ev->ai D:=λρ=>(fa ρ).bind m
noncomputable def eQ:List D->ai D:=λds=>if ds.length<=line then .ok (.tup ds) else .stuck
noncomputable def dj:List D->ai D:=λds=>if ds.length<=line then .ok (.lst ds) else .stuck
theorem i7{r:List V->Hp->VK->Prop}(ho:∀(ds:List D) (vs:List V) (H Ha:Hp) (Q:VK),aA Ha H->Reps X.K Ha ds vs->post X.K E H Ha (m ds) Q->r vs H Q)
  (σ:L2.St)(H:Hp)(Q:VK)(h:tD X.K E (ar fa m) σ H Q):Lo X.K E fa σ H λvs H1=>r vs H1 Q:=by
 obtain⟨Ha,ρ,hs,hr,q⟩:=h;refine⟨Ha,ρ,hs,hr,?_⟩;unfold ar at q;cases e1:fa ρ with
 |stuck|exn x=>rw[e1] at q;exact q
 |ok x =>
  rw[e1] at q;intro v H1 H01 g1 r1;exact ho x v H1 H01 Q g1.sub r1 (post.grow (r:=m x) q g1)
theorem dk{x1}(h:DA X E es fa):DE X E (.Tuple es x1 pos) (ar fa eQ):=by
 refine⟨?_⟩;refine aR (GD h.o) (i7 (r:=λxs H1 Q=>xs.length<=sizeLine/\∀p,H1 p=none->Q (.ref p) (upd H1 p (.tup xs))) λds vs H Ha Q hs hr q=>?_);unfold eQ at q
 by_cases hl:ds.length<=line
 .rw[if_pos hl] at q
  refine⟨by rw[←hr.length];exact c8 hl,λp hp=>q _ _ _ (bo hs hp) (aJ.mpr ⟨p,vs,rfl,jc.of aB,hr.mono (bo hs hp).z⟩)⟩
 .rw[if_neg hl] at q;exact q.elim
theorem dq(h:DA X E es fa):DE X E (.List es pos) (ar fa dj):=by
 refine⟨?_⟩;refine aR (BK h.o) (i7 (r:=λxs H1 Q=>xs.length<=sizeLine/\∀p,H1 p=none->Q (.ref p) (upd H1 p (.lst xs))) λds vs H Ha Q hs hr q=>?_);unfold dj at q
 by_cases hl:ds.length<=line
 .rw[if_pos hl] at q
  refine⟨by rw[←hr.length];exact c8 hl,λp hp=>q _ _ _ (bo hs hp) (aH.mpr ⟨p,vs,rfl,eD.of aB,hr.mono (bo hs hp).z⟩)⟩
 .rw[if_neg hl] at q;exact q.elim
noncomputable def spD(K:W.Frag) (n:Nat) (m:List D->ai D):Sp:=λvs H Q E=>vs.length=n/\∃Ha ds,aA Ha H/\Reps K Ha ds vs/\post K E H Ha (m ds) Q
theorem EG{k n:Nat}{ps:List Str}(F:fk X.prog X.w X.K X.mg X.base CX k fn fd ps (spD X.K n m))(hr:cS k X.A)(hg:Gl X x)(hm:X.mg x=some (.ref fn))
  (hk:W.keepIn X.K (.ref fn)=true)(hb:jo X.K fd ps [])(hx:e9 CX X E)(ha:DA X E (e::es) fa)(hn:(e::es).length=n:=by rfl)(hl:∀ρ ds,fa ρ=.ok ds->ds.length=(e::es).length)
  (hdb:(x==("__debug__":Str))=false:=by decide)(he:starEach (e::es) X.env=(false,eval e X.env)::starEach es X.env:=by exact bw rfl)(hpl:(backTo pos (starEach es X.env)).any (·.1)=false:=by exact cc rfl) :
  DE X E (.Call (.Name x p) (e::es) [] pos) (ar fa m):=by
 refine⟨?_⟩;refine aR (ny F hr hg hm hk hb .nil hx ha.o hdb he hpl) λσ H Q h=>?_;obtain⟨Ha,ρ,hs,hr,q⟩:=h;refine⟨Ha,ρ,hs,hr,?_⟩;unfold ar at q;cases e1:fa ρ with
 |stuck|exn x=>rw[e1] at q;exact q
 |ok ds =>
  rw[e1] at q;intro v H1 H01 g1 r1;refine⟨?_,H01,ds,g1.sub,by simpa using r1,post.grow (r:=m ds) q g1⟩;have:=r1.length;have:=hl ρ ds e1;simp only[List.append_nil];omega
theorem CY(h:aF ρ=.ok ds):ds.length=0:=by cases h;rfl
theorem mn(hr:∀es,fa ρ=.ok es->es.length=n)(h:ah f fa ρ=.ok ds):ds.length=n+1:=by
 unfold ah at h;cases e1:f ρ with
 |stuck|exn x=>rw[e1] at h;cases h
 |ok x =>
  rw[e1] at h;replace h:((fa ρ).bind λxs=>ai.ok (x::xs))=.ok ds:=h;cases e2:fa ρ with
  |stuck|exn x=>rw[e2] at h;cases h
  |ok xs =>
   rw[e2] at h;cases h;simp [hr xs e2]
noncomputable def iM(X:Cx) (E:XK) (r:List V->Hp->VK->Prop) (m:List D->ai D):Prop:=∀(ds:List D) (vs:List V) (H Ha:Hp) (Q:VK),aA Ha H->Reps X.K Ha ds vs->post X.K E H Ha (m ds) Q->r vs H Q
theorem br{id:String}(hc:iL X (.builtin id) r)(hd:iM X E r m)(hg:Gl X x)(hm:X.mg x=none)(hv:bootBuiltins x=some (.builtin id))(ha:DA X E (e::es) fa)(hn:x≠"__name__":=by decide)(hdb:(x==("__debug__":Str))=false:=by decide)
  (he:starEach (e::es) X.env=(false,eval e X.env)::starEach es X.env:=by exact bw rfl)(hpl:(backTo pos (starEach es X.env)).any (·.1)=false:=by exact cc rfl):DE X E (.Call (.Name x p) (e::es) [] pos) (ar fa m) :=
 ⟨aR (uU hc hg hm hv ha.o hn hdb he hpl) (i7 hd)⟩
theorem CC(h:PT X e (tB (tD X.K E f))):DT X E e f:=by
 refine⟨?_⟩;refine gj h λσ H Q ⟨Ha,ρ,hs,hr,q⟩=>⟨Ha,ρ,hs,hr,?_⟩
 cases e1:f ρ with
 |stuck|exn x=>rw[e1] at q;exact q
 |ok d =>
  rw[e1] at q;intro v H1 H01 g1 r1;cases d with|bl b=>rw[aI.mp r1];exact⟨b,rfl,q H1 H01 g1⟩| _=>exact q.elim
theorem bY(h:DE X E e f)(he:∀whole,isTrue e X.env whole=(do let v ←whole;standAt e.pos;holding [v] (truthy v)):=by intro _;rfl):DT X E e f:=CC (Gu h.o he)
theorem aP(h:eE X (compareOp op) r)(ho:qL X.K E r o)(ha:DE X E a f)(hb:DE X E b g)(hm:behindInMarks op b=false):DT X E (.Compare a [op] [b] pos) (ae f g o):=by
 refine⟨?_⟩;refine gj (ym h ha.o hb.o hm) λσ H Q h=>?_;have w:tD X.K E (ae f g o) σ H λx H'=>∃k,x=.bl k/\Q k H':=by
  obtain⟨Ha,ρ,hs,hr,q⟩:=h;refine⟨Ha,ρ,hs,hr,?_⟩;cases e1:ae f g o ρ with
  |stuck|exn x=>rw[e1] at q;exact q
  |ok d =>
   rw[e1] at q;intro v H1 H01 g1 r1;cases d with|bl b=>rw[aI.mp r1];exact⟨b,rfl,q H1 H01 g1⟩| _=>exact q.elim
 exact fN ho σ H _ w
noncomputable def dE(f:Ev->ai D):Ev->ai D:=cC f λx=>match x with
 |.bl b=>.ok (.bl (!b))
 |_=>.stuck
noncomputable def gW(f g:Ev->ai D):Ev->ai D:=λρ=>(f ρ).bind λx=>match x with
 |.bl true=>g ρ
 |.bl false=>.ok (.bl false)
 |_=>.stuck
noncomputable def jb(f g:Ev->ai D):Ev->ai D:=λρ=>(f ρ).bind λx=>match x with
 |.bl true=>.ok (.bl true)
 |.bl false=>g ρ
 |_=>.stuck
theorem cz(ha:DT X E a f):DT X E (.UnaryOp .Not a pos) (dE f):=by
 refine⟨?_⟩;refine gj (Gv ha.o) λσ H Q ⟨Ha,ρ,hs,hr,q⟩=>⟨Ha,ρ,hs,hr,?_⟩
 unfold dE cC at q;cases e1:f ρ with
 |stuck|exn x=>rw[e1] at q;exact q
 |ok d =>
  rw[e1] at q;cases d with|bl b=>exact q| _=>exact q.elim
theorem Hs(ha:DE X E a f):DE X E (.UnaryOp .Not a pos) (dE f):=by
 refine⟨?_⟩;refine aR (GH ha.o) λσ H Q ⟨Ha,ρ,hs,hr,q⟩=>⟨Ha,ρ,hs,hr,?_⟩
 unfold dE cC at q;cases e1:f ρ with
 |stuck|exn x=>rw[e1] at q;exact q
 |ok d =>
  rw[e1] at q;intro v H1 H01 g1 r1;cases d with|bl b=>rw[aI.mp r1];exact⟨b,rfl,q (.bl !b) H1 H01 g1 (aI.mpr rfl)⟩| _=>exact q.elim
variable {rest:List Expr}
theorem jA(ha:DT X E a f):DW X E (.BoolOp .And [a] pos) f:=⟨DQ ha.o⟩
theorem bC(ha:DT X E a f):DW X E (.BoolOp .Or [a] pos) f:=⟨Gr ha.o⟩
theorem ub(ha:DT X E a f)(hb:DW X E (.BoolOp .And (b::rest) pos) g):DW X E (.BoolOp .And (a::b::rest) pos) (gW f g):=by
 refine⟨?_⟩;refine yl (Gs ha.o hb.o) λσ H Q ⟨Ha,ρ,hs,hr,q⟩=>⟨Ha,ρ,hs,hr,?_⟩
 unfold gW at q;cases e1:f ρ with
 |stuck|exn x=>rw[e1] at q;exact q
 |ok d =>
  rw[e1] at q;cases d with
  |bl b =>
   cases b with|true=>exact λH1 H01 g1=>⟨H01,ρ,g1.sub,hr.mono g1.z,og.grow (r:=g ρ) q g1⟩|false=>exact λH1 H01 g1=>q H1 H01 g1
  |_=>exact q.elim
theorem dG(ha:DT X E a f)(hb:DW X E (.BoolOp .Or (b::rest) pos) g):DW X E (.BoolOp .Or (a::b::rest) pos) (jb f g):=by
 refine⟨?_⟩;refine yl (IQ ha.o hb.o) λσ H Q ⟨Ha,ρ,hs,hr,q⟩=>⟨Ha,ρ,hs,hr,?_⟩
 unfold jb at q;cases e1:f ρ with
 |stuck|exn x=>rw[e1] at q;exact q
 |ok d =>
  rw[e1] at q;cases d with
  |bl b =>
   cases b with|false=>exact λH1 H01 g1=>⟨H01,ρ,g1.sub,hr.mono g1.z,og.grow (r:=g ρ) q g1⟩|true=>exact λH1 H01 g1=>q H1 H01 g1
  |_=>exact q.elim
theorem DW.dt(h:DW X E e f):DT X E e f:=⟨PW.pt h.o⟩
theorem jD{op}(h:DE X E a f):DE X E (.BoolOp op [a] pos) f:=⟨GG h.o⟩
theorem me(ha:DE X E a f)(hb:DE X E (.BoolOp .And (b::rest) pos) g):DE X E (.BoolOp .And (a::b::rest) pos) (gW f g):=by
 refine⟨?_⟩;refine aR (GK ha.o hb.o) λσ H Q ⟨Ha,ρ,hs,hr,q⟩=>⟨Ha,ρ,hs,hr,?_⟩
 unfold gW at q;cases e1:f ρ with
 |stuck|exn x=>rw[e1] at q;exact q
 |ok d =>
  rw[e1] at q;intro v H1 H01 g1 r1;cases d with
  |bl b =>
   rw[aI.mp r1];cases b with|true=>exact⟨true,rfl,H01,ρ,g1.sub,hr.mono g1.z,post.grow (r:=g ρ) q g1⟩|false=>exact⟨false,rfl,q (.bl false) H1 H01 g1 (aI.mpr rfl)⟩
  |_=>exact q.elim
theorem JL(ha:DE X E a f)(hb:DE X E (.BoolOp .Or (b::rest) pos) g):DE X E (.BoolOp .Or (a::b::rest) pos) (jb f g):=by
 refine⟨?_⟩;refine aR (IY ha.o hb.o) λσ H Q ⟨Ha,ρ,hs,hr,q⟩=>⟨Ha,ρ,hs,hr,?_⟩
 unfold jb at q;cases e1:f ρ with
 |stuck|exn x=>rw[e1] at q;exact q
 |ok d =>
  rw[e1] at q;intro v H1 H01 g1 r1;cases d with
  |bl b =>
   rw[aI.mp r1];cases b with|false=>exact⟨false,rfl,H01,ρ,g1.sub,hr.mono g1.z,post.grow (r:=g ρ) q g1⟩|true=>exact⟨true,rfl,q (.bl true) H1 H01 g1 (aI.mpr rfl)⟩
  |_=>exact q.elim
noncomputable def FK(c f g:Ev->ai D):Ev->ai D:=λρ=>(c ρ).bind λx=>match x with
 |.bl true=>f ρ
 |.bl false=>g ρ
 |_=>.stuck
theorem qe(hc:DT X E c fc)(ha:DE X E a f)(hb:DE X E b g):DE X E (.IfExp c a b pos) (FK fc f g):=by
 refine⟨?_⟩;refine aR (BL hc.o ha.o hb.o) λσ H Q ⟨Ha,ρ,hs,hr,q⟩=>⟨Ha,ρ,hs,hr,?_⟩
 unfold FK at q;cases e1:fc ρ with
 |stuck|exn x=>rw[e1] at q;exact q
 |ok d =>
  rw[e1] at q;cases d with
  |bl b =>
   cases b with|true=>exact λH1 H01 g1=>⟨H01,ρ,g1.sub,hr.mono g1.z,post.grow (r:=f ρ) q g1⟩|false=>exact λH1 H01 g1=>⟨H01,ρ,g1.sub,hr.mono g1.z,post.grow (r:=g ρ) q g1⟩
  |_=>exact q.elim
end
noncomputable def EW(K:W.Frag) (Ha H:Hp) (a:Addr) (d:D):Prop:=match d with
 |.lst ds=>∃vs,H a=some (.lst vs)/\Reps K Ha ds vs
 |.dic ks ds=>∃vs,H a=some (.dK ((ks.map Sum.inr).zip vs))/\ks.length=vs.length/\Reps K Ha ds vs
 |_=>False
noncomputable def JS(K:W.Frag) (He Ha H:Hp) (a:Addr) (j:Nat) (ds:List D) (p:Addr):Prop:=∃vs es us,He a=none/\H a=some (.tup vs)/\He p=none/\Ha p=none/\ds[j]?=some (.lst es)/\vs[j]?=some (.ref p)/\H p=some (.lst us)/\Reps K Ha es us/\ds.length=vs.length/\∀k d v,k≠j->ds[k]?=some d->vs[k]?=some v->Rep K Ha d v
noncomputable def OX(K:W.Frag) (He Ha:Hp) (σ:L2.St) (H:Hp) (ρ:Ev):Prop:=(∀(i j:Nat) (ds:List D),ρ[i]?=some (.ox j ds)->∃a p,σ[i]?=some (some (.ref a))/\JS K He Ha H a j ds p/\(∀(k:Nat) (d:D),ρ[k]?=some (.ow d)->σ[k]?≠some (some (.ref p)))/\∀(k j':Nat) (ds':List D),ρ[k]?=some (.ox j' ds')->k=i)/\∀(i:Nat) (a:Addr),ρ[i]?=some (.pt a)->σ[i]?=some (some (.ref a))
theorem OX.upd{K:W.Frag}(h:OX K He Ha σ H ρ)
  (hk:∀(j:Nat) (s:Sl),ρ'[j]?=some s->(ρ[j]?=some s/\σ'[j]?=σ[j]?)∨(∃d,s=.sh d)∨s=.no∨∃d q,s=.ow d/\σ'[j]?=some (some (.ref q))/\∀(i j:Nat) (ds:List D) (a p:Addr),ρ[i]?=some (.ox j ds)->σ[i]?=some (some (.ref a))->JS K He Ha H a j ds p->q≠p)
  (hz:aA Ha Ha')(ht:∀a vs,He a=none->H a=some (.tup vs)->H' a=some (.tup vs))
  (hl:∀p us,He p=none->Ha p=none->H p=some (.lst us)->(∀(k:Nat) (d:D),ρ[k]?=some (.ow d)->σ[k]?≠some (some (.ref p)))->H' p=some (.lst us)/\Ha' p=none):OX K He Ha' σ' H' ρ':=by
 refine⟨λi j ds e=>?_,λi a e=>?_⟩
 rotate_left
 .rcases hk i _ e with h1|⟨d,h1⟩|h1|⟨d,q,h1,_⟩
  .rw[h1.2];exact h.2 i a h1.1
  .cases h1
  .cases h1
  .cases h1
 have old:ρ[i]?=some (.ox j ds)/\σ'[i]?=σ[i]?:=by
  rcases hk i _ e with h1|⟨d,h1⟩|h1|⟨d,q,h1,_⟩
  .exact h1
  .cases h1
  .cases h1
  .cases h1
 obtain⟨a,p,h1,h2,h3,h4⟩:=h.1 i j ds old.1;have h2':=h2;obtain⟨vs,es,us,r1,r2,r3,r4,r5,r6,r7,r8,r9,r10⟩:=h2;obtain⟨l1,l2⟩:=hl p us r3 r4 r7 h3;refine⟨a,p,old.2.trans h1,⟨vs,es,us,r1,ht a vs r1 r2,r3,l2,r5,r6,l1,r8.mono hz,r9,λk d v hk e1 e2=>(r10 k d v hk e1 e2).mono hz⟩,λk d ek z=>?_,λk j' ds' ek=>?_⟩
 .rcases hk k _ ek with h1'|⟨d',h1'⟩|h1'|⟨d',q,h1',h2'',h3'⟩
  .exact h3 k d h1'.1 (by rw[←h1'.2];exact z)
  .cases h1'
  .cases h1'
  .rw[h2''] at z
   cases z;exact h3' i j ds a p old.1 h1 h2' rfl
 .rcases hk k _ ek with h1'|⟨d',h1'⟩|h1'|⟨d',q,h1',_⟩
  .exact h4 k j' ds' h1'.1
  .cases h1'
  .cases h1'
  .cases h1'
theorem OX.none{K:W.Frag}(h:∀(i j:Nat) (ds:List D),ρ[i]?≠some (.ox j ds))(h':∀(i:Nat) (a:Addr),ρ[i]?=some (.pt a)->σ[i]?=some (some (.ref a))):OX K He Ha σ H ρ:=⟨λi j ds e=>absurd e (h i j ds),h'⟩
theorem yh{K:W.Frag}{H:Hp}:∀{ds:List D}{vs:List V},ds.length=vs.length->(∀(k:Nat) (d:D) (v:V),ds[k]?=some d->vs[k]?=some v->Rep K H d v)->Reps K H ds vs
 |[],[],_,_=>Reps.nil
 |d::ds,v::vs,hl,h=>Reps.cons (h 0 d v rfl rfl) (yh (by simpa using hl) λk d' v' e1 e2=>h (k+1) d' v' e1 e2)
structure df (K:W.Frag) (He H0e Ha:Hp) (σ:L2.St) (H:Hp) (ρ:Ev):Prop where
 g:aU He H0e H Ha
 rd:Reads K Ha σ ρ
 ow:∀(i:Nat) (d:D),ρ[i]?=some (.ow d)->∃a,σ[i]?=some (some (.ref a))/\He a=none/\Ha a=none/\EW K Ha H a d
 ap:∀(i j:Nat) (d d':D),i≠j->ρ[i]?=some (.ow d)->ρ[j]?=some (.ow d')->σ[i]?≠σ[j]?
 ln:ρ.length=σ.length
 ex:OX K He Ha σ H ρ
inductive Fl where
 |nx (ρ:Ev)|rt (d:D)|bk (ρ:Ev)|ct (ρ:Ev)
noncomputable def bQ(K:W.Frag) (E:XK) (He H0e Ha:Hp) (r:ai Fl) (D:lK):Prop:=match r with
 |.ok (.nx ρ)=>∀σ H Ha',aA Ha Ha'->df K He H0e Ha' σ H ρ->D.nx σ H
 |.ok (.rt d)=>∀v H Ha',aU He H0e H Ha'->Rep K Ha' d v->D.rt v H
 |.ok (.bk ρ)=>∀σ H Ha',aA Ha Ha'->df K He H0e Ha' σ H ρ->D.bk σ H
 |.ok (.ct ρ)=>∀σ H Ha',aA Ha Ha'->df K He H0e Ha' σ H ρ->D.ct σ H
 |.exn x=>∀C ox H Ha',aU He H0e H Ha'->zJ K Ha' x C ox->E C ox H
 |.stuck=>False
theorem bQ.grow{K:W.Frag}{D:lK}(h:bQ K E He H0e Ha r D)(s:aA Ha Hb):bQ K E He H0e Hb r D:=by
 cases r with
 |ok f =>
  cases f with|nx ρ=>exact λσ H Ha' s'=>h σ H Ha' (s.trans s')|rt d=>exact h|bk ρ=>exact λσ H Ha' s'=>h σ H Ha' (s.trans s')|ct ρ=>exact λσ H Ha' s'=>h σ H Ha' (s.trans s')
 |exn x=>exact h
 |stuck=>exact h
noncomputable def tS(K:W.Frag) (E:XK) (He H0e:Hp) (g:Ev->ai Fl):TS:=λD σ H=>∃Ha ρ,df K He H0e Ha σ H ρ/\bQ K E He H0e Ha (g ρ) D
structure DS (X:Cx) (E:XK) (He H0e:Hp) (st:Stmt) (g:Ev->ai Fl):Prop where
 o:PS X st (tS X.K E He H0e g)
structure AU (X:Cx) (E:XK) (He H0e:Hp) (st:List Stmt) (g:Ev->ai Fl):Prop where
 o:uB X st (tS X.K E He H0e g)
noncomputable def fu(ρ:Ev):Ev:=ρ.map λs=>match s with
 |.ow d=>.sh d
 |.ox _ ds=>.sh (.tup ds)
 |x=>x
noncomputable def frz(He Ha H:Hp):Hp:=λa=>match He a with
 |none=>H a
 |some _=>Ha a
section
variable {K:W.Frag}{E:XK}{He H0e Ha H H1:Hp}{σ:L2.St}{ρ:Ev}
theorem df.same(h:df K He H0e Ha σ H ρ)(s:aA H H1):df K He H0e Ha σ H1 ρ :=
 ⟨⟨h.g.s.trans s,h.g.z,h.g.sub.trans s,h.g.nw⟩,h.rd,λi d e=>by
  obtain⟨a,h1,h2,h3,h4⟩:=h.ow i d e;refine⟨a,h1,h2,h3,?_⟩;cases d with
  |lst ds=>obtain⟨vs,h5,h6⟩:=h4;exact⟨vs,s _ _ h5,h6⟩|dic ks ds=>obtain⟨vs,h5,hl,h6⟩:=h4;exact⟨vs,s _ _ h5,hl,h6⟩
  |_=>exact h4,h.ap,h.ln,h.ex.upd (λj s' e=>.inl ⟨e,rfl⟩) (aA.refl _) (λa vs _ e=>s _ _ e) λp us _ h0 hp _=>⟨s _ _ hp,h0⟩⟩
theorem df.grow(h:df K He H0e Ha σ H ρ)(s:aU H Ha H1 H01):df K He H0e H01 σ H1 ρ :=
 ⟨h.g.trans s,h.rd.mono s.z,λi d e=>by
  obtain⟨a,h1,h2,h3,h4⟩:=h.ow i d e;have ha:H01 a=none:=by
   cases q:H01 a with
   |none=>rfl
   |some o =>
    have:=s.nw a (by rw[q];simp) h3;cases d with|lst ds|dic ks ds=>obtain⟨vs,h5,_⟩:=h4;rw[h5] at this;cases this| _=>exact h4.elim
  refine⟨a,h1,h2,ha,?_⟩;cases d with
  |lst ds=>obtain⟨vs,h5,h6⟩:=h4;exact⟨vs,s.s _ _ h5,h6.mono s.z⟩|dic ks ds=>obtain⟨vs,h5,hl,h6⟩:=h4;exact⟨vs,s.s _ _ h5,hl,h6.mono s.z⟩
  |_=>exact h4,h.ap,h.ln,h.ex.upd (λj s' e=>.inl ⟨e,rfl⟩) s.z (λa vs _ e=>s.s _ _ e) λp us _ h0 hp _=>⟨s.s _ _ hp,by
   cases q:H01 p with
   |none=>rfl
   |some o=>have:=s.nw p (by rw[q];simp) h0;rw[hp] at this;cases this⟩⟩
theorem df.frz_sub(h:df K He H0e Ha σ H ρ):aA Ha (frz He Ha H):=λb o e=>by
 unfold frz;cases q:He b with|none=>exact h.g.sub _ _ e|some _=>exact e
theorem df.frz_le(h:df K He H0e Ha σ H ρ):aA (frz He Ha H) H:=λb o e=>by
 unfold frz at e;cases q:He b with|none=>rw[q] at e;exact e|some _=>rw[q] at e;exact h.g.sub _ _ e
theorem df.frz_grow(h:df K He H0e Ha σ H ρ):aU He H0e H (frz He Ha H) :=
 ⟨h.g.s,h.g.z.trans h.frz_sub,h.frz_le,λa h1 h2=>by
  cases q:He a with
  |none=>rfl
  |some o =>
   unfold frz at h1;rw[q] at h1;have:=h.g.nw a h1 h2;rw[q] at this;cases this⟩
theorem df.looks(h:df K He H0e Ha σ H ρ):Reads K (frz He Ha H) σ (fu ρ):=λi d e=>by
 unfold fu at e;rw[List.getElem?_map] at e;cases q:ρ[i]? with
 |none=>rw[q] at e;cases e
 |some s =>
  rw[q] at e;cases s with
  |no|pt a=>cases e
  |sh d' =>
   cases e;obtain⟨v,h1,h2⟩:=h.rd i d q;exact⟨v,h1,h2.mono h.frz_sub⟩
  |ow d' =>
   cases e;obtain⟨a,h1,h2,h3,h4⟩:=h.ow i d q;refine⟨_,h1,?_⟩;cases d with
   |lst ds =>
    obtain⟨vs,h5,h6⟩:=h4;exact aH.mpr ⟨a,vs,rfl,eD.of (by unfold frz;rw[h2];exact h5),h6.mono h.frz_sub⟩
   |dic ks ds =>
    obtain⟨vs,h5,hl,h6⟩:=h4;rw[Rep];exact⟨a,_,vs,rfl,.inl (by unfold frz;rw[h2];exact h5),rfl,hl,h6.mono h.frz_sub⟩
   |_=>exact h4.elim
  |ox j ds =>
   cases e;obtain⟨a,p,h1,⟨vs,es,us,r1,r2,r3,r4,r5,r6,r7,r8,r9,r10⟩,_⟩:=h.ex.1 i j ds q;refine⟨_,h1,aJ.mpr ⟨a,vs,rfl,jc.of (by unfold frz;rw[r1];exact r2),yh r9 λk d v e1 e2=>?_⟩⟩
   by_cases hk:k=j
   .subst hk
    rw[r5] at e1;cases e1;rw[r6] at e2;cases e2;exact aH.mpr ⟨p,us,rfl,eD.of (by unfold frz;rw[r3];exact r7),r8.mono h.frz_sub⟩
   .exact(r10 k d v hk e1 e2).mono h.frz_sub
theorem df.put(h:df K He H0e Ha σ H ρ)(r:Rep K Ha d v):df K He H0e Ha (σ.set i (some v)) H (ρ.set i (.sh d)):=by
 have key:∀(j:Nat) (s:Sl),(ρ.set i (.sh d))[j]?=some s->(j=i/\s=.sh d/\i<σ.length)∨(j≠i/\ρ[j]?=some s):=λj s e=>by
  by_cases hj:i=j
  .subst hj
   rw[List.getElem?_set_self'] at e;cases q:ρ[i]? with
   |none=>rw[q] at e;cases e
   |some s' =>
    rw[q] at e;cases e;refine .inl ⟨rfl,rfl,?_⟩;rw[←h.ln];exact(List.getElem?_eq_some_iff.mp q).1
  .rw[List.getElem?_set_ne hj] at e
   exact .inr ⟨λz=>hj z.symm,e⟩
 refine⟨h.g,λj d' e=>?_,λj d' e=>?_,λj k d1 d2 hn e1 e2=>?_,by simp [h.ln],h.ex.upd (λj s e=>?_) (aA.refl _) (λa vs _ e=>e) λp us _ h0 hp _=>⟨hp,h0⟩⟩
 rotate_left 3
 .rcases key j _ e with⟨rfl,e',hl⟩|⟨hj,e'⟩
  .exact .inr (.inl ⟨d,e'⟩)
  .exact .inl ⟨e',by rw[List.getElem?_set_ne (Ne.symm hj)]⟩
 .rcases key j _ e with⟨rfl,e',hl⟩|⟨hj,e'⟩
  .cases e'
   exact⟨v,by rw[List.getElem?_set_self hl],r⟩
  .obtain⟨v',h1,h2⟩:=h.rd j d' e'
   exact⟨v',by rw[List.getElem?_set_ne (Ne.symm hj)];exact h1,h2⟩
 .rcases key j _ e with⟨rfl,e',hl⟩|⟨hj,e'⟩
  .cases e'
  .obtain⟨a,h1,h2⟩:=h.ow j d' e'
   exact⟨a,by rw[List.getElem?_set_ne (Ne.symm hj)];exact h1,h2⟩
 .rcases key j _ e1 with⟨_,e',_⟩|⟨hj,e1'⟩
  .cases e'
  rcases key k _ e2 with⟨_,e',_⟩|⟨hk,e2'⟩
  .cases e'
  rw[List.getElem?_set_ne (Ne.symm hj),List.getElem?_set_ne (Ne.symm hk)];exact h.ap j k d1 d2 hn e1' e2'
theorem df.putOwn(h:df K He H0e Ha σ H ρ){vs:List V}(hp:∀(j:Nat) (a:Addr),σ[j]?=some (some (V.ref a))->a=p->∀d:D,ρ[j]?≠some (Sl.ow d))(he:He p=none)(h0:Ha p=none)(hv:H p=some (.lst vs))(r:Reps K Ha ds vs)(hx:∀(i j:Nat) (ds:List D) (a q:Addr),ρ[i]?=some (.ox j ds)->σ[i]?=some (some (.ref a))->JS K He Ha H a j ds q->p≠q) :
  df K He H0e Ha (σ.set i (some (.ref p))) H (ρ.set i (.ow (.lst ds))):=by
 have key:∀(j:Nat) (s:Sl),(ρ.set i (.ow (.lst ds)))[j]?=some s->(j=i/\s=.ow (.lst ds)/\i<σ.length)∨(j≠i/\ρ[j]?=some s):=λj s e=>by
  by_cases hj:i=j
  .subst hj
   rw[List.getElem?_set_self'] at e;cases q:ρ[i]? with
   |none=>rw[q] at e;cases e
   |some s' =>
    rw[q] at e;cases e;refine .inl ⟨rfl,rfl,?_⟩;rw[←h.ln];exact(List.getElem?_eq_some_iff.mp q).1
  .rw[List.getElem?_set_ne hj] at e
   exact .inr ⟨λz=>hj z.symm,e⟩
 have other:∀(k:Nat) (d2:D),k≠i->ρ[k]?=some (.ow d2)->some (some (V.ref p))≠σ[k]?:=λk d2 hk e2 z=>by
  obtain⟨a,h1,_⟩:=h.ow k d2 e2;rw[h1] at z;cases z;exact hp k p h1 rfl d2 e2
 refine⟨h.g,λj d' e=>?_,λj d' e=>?_,λj k d1 d2 hn e1 e2=>?_,by simp [h.ln],h.ex.upd (λj s e=>?_) (aA.refl _) (λa vs _ e=>e) λp us _ h0 hp _=>⟨hp,h0⟩⟩
 rotate_left 3
 .rcases key j _ e with⟨rfl,e',hl⟩|⟨hj,e'⟩
  .exact .inr (.inr (.inr ⟨.lst ds,p,e',by rw[List.getElem?_set_self hl],hx⟩))
  .exact .inl ⟨e',by rw[List.getElem?_set_ne (Ne.symm hj)]⟩
 .rcases key j _ e with⟨rfl,e',hl⟩|⟨hj,e'⟩
  .cases e'
  .obtain⟨v',h1,h2⟩:=h.rd j d' e'
   exact⟨v',by rw[List.getElem?_set_ne (Ne.symm hj)];exact h1,h2⟩
 .rcases key j _ e with⟨rfl,e',hl⟩|⟨hj,e'⟩
  .cases e'
   exact⟨p,by rw[List.getElem?_set_self hl],he,h0,vs,hv,r⟩
  .obtain⟨a,h1,h2⟩:=h.ow j d' e'
   exact⟨a,by rw[List.getElem?_set_ne (Ne.symm hj)];exact h1,h2⟩
 .rcases key j _ e1 with⟨rfl,_,hl⟩|⟨hj,e1'⟩
  .rcases key k _ e2 with⟨rfl,_,_⟩|⟨hk,e2'⟩
   .exact absurd rfl hn
   .rw[List.getElem?_set_self hl,List.getElem?_set_ne (Ne.symm hk)]
    exact other k d2 hk e2'
  .rcases key k _ e2 with⟨rfl,_,hl⟩|⟨hk,e2'⟩
   .rw[List.getElem?_set_self hl,List.getElem?_set_ne (Ne.symm hj)]
    exact λz=>other j d1 hj e1' z.symm
   .rw[List.getElem?_set_ne (Ne.symm hj),List.getElem?_set_ne (Ne.symm hk)]
    exact h.ap j k d1 d2 hn e1' e2'
theorem df.fresh_x{H01:Hp}{p:Addr}(h:df K He H0e Ha σ H ρ)(s:aA H H1)(hp:H p=none):∀(i j:Nat) (ds:List D) (a q:Addr),ρ[i]?=some (.ox j ds)->σ[i]?=some (some (.ref a))->JS K He H01 H1 a j ds q->p≠q:=λi j ds a q x1 x2 x3=>by
 obtain⟨a2,p2,y1,⟨vs2,_,us2,_,z3,_,_,_,z4,z5,_⟩,_⟩:=h.ex.1 i j ds x1;rw[x2] at y1;cases y1;obtain⟨vs1,_,_,_,z1,_,_,_,z2,_⟩:=x3;have:=s _ _ z3;rw[z1] at this;cases this;rw[z2] at z4;cases z4;intro z;subst z;rw[hp] at z5;cases z5
theorem df.write(h:df K He H0e Ha σ H ρ){vs:List V}(e:ρ[i]?=some (.ow d))(es:σ[i]?=some (some (.ref p)))(r:Reps K Ha ds vs) :
  df K He H0e Ha σ (upd H p (.lst vs)) (ρ.set i (.ow (.lst ds))):=by
 obtain⟨a,h1,h2,h3,h4⟩:=h.ow i d e;rw[h1] at es;cases es;have hil:i<ρ.length:=(List.getElem?_eq_some_iff.mp e).1;have key:∀(j:Nat) (s:Sl),(ρ.set i (.ow (.lst ds)))[j]?=some s->(j=i/\s=.ow (.lst ds))∨(j≠i/\ρ[j]?=some s):=λj s e=>by
  by_cases hj:i=j
  .subst hj
   rw[List.getElem?_set_self hil] at e;cases e;exact .inl ⟨rfl,rfl⟩
  .rw[List.getElem?_set_ne hj] at e
   exact .inr ⟨λz=>hj z.symm,e⟩
 refine⟨⟨λb o eb=>?_,h.g.z,λb o eb=>?_,h.g.nw⟩,λj d' e'=>?_,λj d' e'=>?_,λj k d1 d2 hn e1 e2=>?_,by simp [h.ln],h.ex.upd (λj s e'=>?_) (aA.refl _) (λb us _ eb=>?_) λq us _ q0 hq hd=>?_⟩
 rotate_left 5
 .rcases key j _ e' with⟨rfl,e''⟩|⟨hj,e''⟩
  .exact .inr (.inr (.inr ⟨.lst ds,p,e'',h1,λi' j' ds' a' p' x1 x2 x3=>by
    obtain⟨a2,p2,y1,y2,y3,_⟩:=h.ex.1 i' j' ds' x1;rw[x2] at y1;cases y1;have:p2=p':=by
     obtain⟨vs1,_,_,_,z1,_,_,_,z2,_⟩:=x3;obtain⟨vs2,_,_,_,z3,_,_,_,z4,_⟩:=y2;rw[z1] at z3;cases z3;rw[z2] at z4;cases z4;rfl
    subst this;intro zz;subst zz;exact y3 j d e h1⟩))
  .exact .inl ⟨e'',rfl⟩
 .rw[av (by
   intro z;subst z;cases d with
   |lst ds'|dic ks ds'=>obtain⟨vs',h5,_⟩:=h4;rw[h5] at eb;cases eb
   |_=>exact h4)];exact eb
 .have hq':q≠p:=by
   intro z;subst z;exact hd i d e h1
  exact⟨by rw[av hq'];exact hq,q0⟩
 .rw[av (by intro z;subst z;rw[h2] at eb;cases eb)];exact h.g.s _ _ eb
 .rw[av (by intro z;subst z;rw[h3] at eb;cases eb)];exact h.g.sub _ _ eb
 .rcases key j _ e' with⟨rfl,e''⟩|⟨hj,e''⟩
  .cases e''
  .exact h.rd j d' e''
 .rcases key j _ e' with⟨rfl,e''⟩|⟨hj,e''⟩
  .cases e''
   exact⟨p,h1,h2,h3,vs,aB,r⟩
  .obtain⟨b,k1,k2,k3,k4⟩:=h.ow j d' e''
   refine⟨b,k1,k2,k3,?_⟩;have hb:b≠p:=by
    intro z;subst z;exact h.ap j i d' d hj e'' e (by rw[k1,h1])
   cases d' with
   |lst ds' =>
    obtain⟨vs',h5,h6⟩:=k4;exact⟨vs',by rw[av hb];exact h5,h6⟩
   |dic ks ds' =>
    obtain⟨vs',h5,hl,h6⟩:=k4;exact⟨vs',by rw[av hb];exact h5,hl,h6⟩
   |_=>exact k4.elim
 .rcases key j _ e1 with⟨rfl,e1'⟩|⟨hj,e1'⟩
  .rcases key k _ e2 with⟨rfl,_⟩|⟨hk,e2'⟩
   .exact absurd rfl hn
   .exact h.ap j k d d2 hn e e2'
  .rcases key k _ e2 with⟨rfl,_⟩|⟨hk,e2'⟩
   .exact h.ap j k d1 d hn e1' e
   .exact h.ap j k d1 d2 hn e1' e2'
end
mutual
def tW:D->Bool
 |.lst _=>false
 |.dic _ _=>false
 |.exc _=>false
 |.ob _ _=>false
 |.tup ds=>flats ds
 |_=>true
def flats:List D->Bool
 |[]=>true
 |d::ds=>tW d&&flats ds
end
mutual
theorem Rep.flat_to{K:W.Frag}{H H':Hp}(e:∀a vs,Rd H a (.tup vs)->Rd H' a (.tup vs)):∀{d:D}{v:V},tW d=true->Rep K H d v->Rep K H' d v
 |.non,_,_,h=>by unfold Rep at h ⊢;exact h
 |.bl _,_,_,h=>by unfold Rep at h ⊢;exact h
 |.int _,_,_,h=>by unfold Rep at h ⊢;exact h
 |.str _,_,_,h=>by unfold Rep at h ⊢;exact h
 |.tup ds,_,f,h=>by
  unfold tW at f;obtain⟨a,vs,e1,e2,e3⟩:=aJ.mp h;refine aJ.mpr ⟨a,vs,e1,?_,Reps.flat_to e f e3⟩;rcases e2 with e2|e2
  .exact .inl (e _ _ e2)
  .exact .inr e2
 |.lst ds,_,f,h=>by unfold tW at f;cases f
 |.dic ks ds,_,f,h=>by unfold tW at f;cases f
 |.exc x,_,f,h=>by unfold tW at f;cases f
 |.ob k ds,_,f,h=>by unfold tW at f;cases f
theorem Reps.flat_to{K:W.Frag}{H H':Hp}(e:∀a vs,Rd H a (.tup vs)->Rd H' a (.tup vs)):∀{ds:List D}{vs:List V},flats ds=true->Reps K H ds vs->Reps K H' ds vs
 |[],_,_,h=>by unfold Reps at h ⊢;exact h
 |d::ds,_,f,h=>by
  unfold flats at f;rw[Bool.and_eq_true] at f;obtain⟨v,r,e1,e2,e3⟩:=aE.mp h;exact aE.mpr ⟨v,r,e1,Rep.flat_to e f.1 e2,Reps.flat_to e f.2 e3⟩
end
noncomputable def fZ(Ha J:Hp):Hp:=λa=>match Ha a with
 |some o=>some o
 |none=>match J a with
  |some (.tup vs)=>some (.tup vs)
  |some (.frz o (.tup vs))=>some (.frz o (.tup vs))
  |_=>none
section
variable {K:W.Frag}{E:XK}{He H0e Ha H H1 J:Hp}{σ:L2.St}{ρ:Ev}
theorem ET(h:aA Ha J):∀a o,fZ Ha J a=some o->J a=some o:=λa o e=>by
 unfold fZ at e;cases q:Ha a with
 |some u=>rw[q] at e;cases e;exact h _ _ q
 |none =>
  rw[q] at e;cases q2:J a with
  |none=>rw[q2] at e;cases e
  |some u =>
   rw[q2] at e;cases u with
   |tup vs=>cases e;rfl
   |frz o u' =>
    cases u' with|tup vs=>cases e;rfl| _=>cases e
   |_=>cases e
theorem ES(h:aA Ha J)(a:Addr)(vs:List V)(e:Rd J a (.tup vs)):Rd (fZ Ha J) a (.tup vs):=by
 rcases e with e|⟨o,e⟩
 .refine .inl ?_
  unfold fZ;cases q:Ha a with|some u=>have:=h _ _ q;rw[e] at this;cases this;rfl|none=>rw[e]
 .refine .inr ⟨o,?_⟩
  unfold fZ;cases q:Ha a with|some u=>have:=h _ _ q;rw[e] at this;cases this;rfl|none=>rw[e]
theorem df.behind(h:df K He H0e Ha σ H ρ)(g:aU H (frz He Ha H) H1 J):df K He H0e (fZ Ha J) σ H1 ρ:=by
 have hJ:aA Ha J:=h.frz_sub.trans g.z;have le:=ET (Ha:=Ha) (J:=J) hJ;have z:aA Ha (fZ Ha J):=λb o e=>by unfold fZ;rw[e]
 refine⟨⟨h.g.s.trans g.s,h.g.z.trans z,λb o e=>g.sub _ _ (le b o e),λa h1 h2=>?_⟩,h.rd.mono z,λi d e=>?_,h.ap,h.ln,h.ex.upd (λj s e=>.inl ⟨e,rfl⟩) z (λa vs _ e=>g.s _ _ e) λp us hp h0 hl _=>⟨g.s _ _ hl,by
  have:frz He Ha H p=some (.lst us):=by unfold frz;rw[hp];exact hl
  have:=g.z _ _ this;unfold fZ;rw[h0,this]⟩⟩
 .cases q:fZ Ha J a with
  |none=>exact absurd q h1
  |some o =>
   have hj:=le a o q;exact(h.frz_grow.trans g).nw a (by rw[hj];simp) h2
 .obtain⟨a,k1,k2,k3,k4⟩:=h.ow i d e
  refine⟨a,k1,k2,?_,?_⟩
  .cases d with
   |lst ds =>
    obtain⟨vs,h5,_⟩:=k4;have:frz He Ha H a=some (.lst vs):=by unfold frz;rw[k2];exact h5
    have:=g.z _ _ this;unfold fZ;rw[k3,this]
   |dic ks ds =>
    obtain⟨vs,h5,_⟩:=k4;have:frz He Ha H a=some (.dK ((ks.map Sum.inr).zip vs)):=by unfold frz;rw[k2];exact h5
    have:=g.z _ _ this;unfold fZ;rw[k3,this]
   |_=>exact k4.elim
  .cases d with
   |lst ds=>obtain⟨vs,h5,h6⟩:=k4;exact⟨vs,g.s _ _ h5,h6.mono z⟩
   |dic ks ds=>obtain⟨vs,h5,hl,h6⟩:=k4;exact⟨vs,g.s _ _ h5,hl,h6.mono z⟩
   |_=>exact k4.elim
end
section
variable {X:Cx}{E:XK}{He H0e:Hp}{st:Stmt}{rest:List Stmt}{e a b:Expr}{es:List Expr}{f g:Ev->ai D}{fa:Ev->ai (List D)}{s t:Ev->ai Fl}{pos:Pos}
theorem bB{t t':TS}(h:PS X st t)(w:∀D σ H,t' D σ H->t D σ H):PS X st t':=λpins s σ H D I q=>h pins s σ H D I (w D σ H q)
theorem er{t t':TS}(h:uB X rest t)(w:∀D σ H,t' D σ H->t D σ H):uB X rest t':=λpins s σ H D I q=>h pins s σ H D I (w D σ H q)
noncomputable def aq:Ev->ai Fl:=λρ=>.ok (.nx ρ)
noncomputable def az(s t:Ev->ai Fl):Ev->ai Fl:=λρ=>(s ρ).bind λr=>match r with
 |.nx ρ'=>t ρ'
 |r=>.ok r
theorem ak:AU X E He H0e [] aq:=⟨er nv λD σ H ⟨Ha,ρ,h,q⟩=>q σ H Ha (aA.refl _) h⟩
theorem ag(h1:DS X E He H0e st s)(h2:AU X E He H0e rest t):AU X E He H0e (st::rest) (az s t):=by
 refine⟨?_⟩;refine er (fQ h1.o h2.o) λD σ H ⟨Ha,ρ,h,q⟩=>⟨Ha,ρ,h,?_⟩
 unfold az at q;cases e1:s ρ with
 |stuck|exn x=>rw[e1] at q;exact q
 |ok r =>
  rw[e1] at q;cases r with|nx ρ'=>exact λσ' H' Ha' s' h'=>⟨Ha',ρ',h',bQ.grow (r:=t ρ') q s'⟩|rt d|bk ρ'|ct ρ'=>exact q
noncomputable def d7:Ev->ai Fl:=λ_=>.stuck
theorem dR:DS X E He H0e st d7:=⟨bB BB λD σ H ⟨Ha,ρ,h,q⟩=>q⟩
theorem plain{K:W.Frag}{k:D->ai Fl}(h:df K He H0e Ha σ H ρ) 
  (q:bQ K E He H0e Ha (r.bind k) D')(hk:∀d v H' Ha',r=.ok d->aU H Ha H' Ha'->Rep K Ha' d v->bQ K E He H0e Ha' (k d) D'->Q v H'):post K E H Ha r Q:=by
 cases r with|stuck=>exact q|exn x=>exact λC ox H' Ha' g ex=>q C ox H' Ha' (h.g.trans g) ex|ok d=>exact λv H' Ha' g rp=>hk d v H' Ha' rfl g rp (bQ.grow (r:=k d) q g.z)
theorem look{K:W.Frag}{k:D->ai Fl}(h:df K He H0e Ha σ H ρ) 
  (q:bQ K E He H0e Ha (r.bind k) D')(hk:∀d v H' J,r=.ok d->aU H (frz He Ha H) H' J->Rep K J d v->bQ K E He H0e Ha (k d) D'->Q v H'):post K E H (frz He Ha H) r Q:=by
 cases r with|stuck=>exact q|exn x=>exact λC ox H' Ha' g ex=>q C ox H' Ha' (h.frz_grow.trans g) ex|ok d=>exact λv H' J g rp=>hk d v H' J rfl g rp q
theorem Fj{K:W.Frag}{k:Bool->ai Fl}(h:df K He H0e Ha σ H ρ) 
  (q:bQ K E He H0e Ha (r.bind λx=>match x with|.bl b=>k b|_=>.stuck) D')(hk:∀b H',aA H H'->bQ K E He H0e Ha (k b) D'->Q b H'):og K E H (frz He Ha H) r Q:=by
 cases r with
 |stuck=>exact q|exn x=>exact λC ox H' Ha' g ex=>q C ox H' Ha' (h.frz_grow.trans g) ex
 |ok d =>
  cases d with|bl b=>exact λH' J g=>hk b H' g.s q| _=>exact q.elim
noncomputable def bg(i:Nat) (f:Ev->ai D):Ev->ai Fl:=λρ=>(f ρ).bind λd=>.ok (.nx (ρ.set i (.sh d)))
noncomputable def bM(f:Ev->ai D):Ev->ai Fl:=λρ=>(f (fu ρ)).bind λd=>.ok (.rt d)
noncomputable def n8(f:Ev->ai D):Ev->ai Fl:=λρ=>(f (fu ρ)).bind λ_=>.ok (.nx ρ)
noncomputable def dX(c:Ev->ai D) (s t:Ev->ai Fl):Ev->ai Fl:=λρ=>(c (fu ρ)).bind λx=>match x with
 |.bl b=>if b=true then s ρ else t ρ
 |_=>.stuck
theorem aT(hN:X.N.Nodup)(hi:X.N[i]?=some x)(hx:AS X.env.scope x)(he:DE X E e f)(hs:swapsWith e (some (.Name x pos')) pos.line X.env=pure false:=by rfl)
  (hf:X.fn x=true∨X.env.scope.names.lookup x=some .local := by first|exact .inl rfl|exact .inr rfl|assumption):DS X E He H0e (.Assign [.Name x pos'] e pos) (bg i f):=by
 refine⟨?_⟩;refine bB (lQ hN hi hx he.o hs hf) λD σ H ⟨Ha,ρ,h,q⟩=>⟨Ha,ρ,h.g.sub,h.rd,?_⟩
 refine plain h q λd v H' Ha' _ g rp q'=>?_;exact q' _ H' Ha' (aA.refl _) ((h.grow g).put rp)
theorem aQ(he:DE X E e f):DS X E He H0e (.Return (some e) pos) (bM f):=by
 refine⟨?_⟩;refine bB (tf he.o) λD σ H ⟨Ha,ρ,h,q⟩=>⟨frz He Ha H,fu ρ,h.frz_le,h.looks,?_⟩
 exact look h q λd v H' J _ g rp q'=>q' v H' J (h.frz_grow.trans g) rp
theorem uf(he:DE X E e f)(hs:swapsWith e none pos.line X.env=pure false:=by rfl):DS X E He H0e (.Expr e pos) (n8 f):=by
 refine⟨?_⟩;refine bB (tm he.o hs) λD σ H ⟨Ha,ρ,h,q⟩=>⟨frz He Ha H,fu ρ,h.frz_le,h.looks,?_⟩
 exact look h q λd v H' J _ g rp q'=>q' σ H' Ha (aA.refl _) (h.same g.s)
theorem bT(hc:DT X E c fc)(ha:AU X E He H0e sa s)(hb:AU X E He H0e sb t):DS X E He H0e (.If c sa sb pos) (dX fc s t):=by
 refine⟨?_⟩;refine bB (BC hc.o ha.o hb.o) λD σ H ⟨Ha,ρ,h,q⟩=>⟨frz He Ha H,fu ρ,h.frz_le,h.looks,?_⟩
 refine Fj (k:=λb=>if b=true then s ρ else t ρ) h q λb H' hs q'=>?_;cases b with|true=>rw[if_pos rfl] at q' ⊢;exact⟨Ha,ρ,h.same hs,q'⟩|false=>rw[if_neg Bool.false_ne_true] at q' ⊢;exact⟨Ha,ρ,h.same hs,q'⟩
noncomputable def tF(K:W.Frag) (E:XK) (f:Ev->ai D):TE:=λσ H Q=>∃Ha ρ,aA Ha H/\Reads K Ha σ ρ/\match f ρ with
 |.ok (.lst ds)=>∀p vs H' Ha',aU H Ha H' Ha'->H p=none->Ha' p=none->H' p=some (.lst vs)->Reps K Ha' ds vs->Q (.ref p) H'
 |.ok _=>False
 |.exn x=>∀C ox H' Ha',aU H Ha H' Ha'->zJ K Ha' x C ox->E C ox H'
 |.stuck=>False
structure DF (X:Cx) (E:XK) (e:Expr) (f:Ev->ai D):Prop where
 o:PE X e (tF X.K E f)
noncomputable def jr(i:Nat) (f:Ev->ai D):Ev->ai Fl:=λρ=>(f ρ).bind λd=>match d with
 |.lst ds=>.ok (.nx (ρ.set i (.ow (.lst ds))))
 |_=>.stuck
theorem jB(hN:X.N.Nodup)(hi:X.N[i]?=some x)(hx:AS X.env.scope x)(he:DF X E e f)(hs:swapsWith e (some (.Name x pos')) pos.line X.env=pure false:=by rfl)
  (hf:X.fn x=true∨X.env.scope.names.lookup x=some .local := by first|exact .inl rfl|exact .inr rfl|assumption):DS X E He H0e (.Assign [.Name x pos'] e pos) (jr i f):=by
 refine⟨?_⟩;refine bB (lQ hN hi hx he.o hs hf) λD σ H ⟨Ha,ρ,h,q⟩=>⟨Ha,ρ,h.g.sub,h.rd,?_⟩
 unfold jr at q;cases e1:f ρ with
 |stuck=>rw[e1] at q;exact q|exn x=>rw[e1] at q;exact λC ox H' Ha' g ex=>q C ox H' Ha' (h.g.trans g) ex
 |ok d =>
  rw[e1] at q;cases d with
  |lst ds =>
   intro p vs H' Ha' g hp h0 hv rp;refine q _ H' Ha' g.z ((h.grow g).putOwn (λj a ej ea d ed=>?_) (h.g.s.free hp) h0 hv rp (h.fresh_x g.s hp));subst ea;obtain⟨a',k1,_,_,k4⟩:=h.ow j d ed;rw[ej] at k1;cases k1;cases d with|lst ds'|dic ks ds'=>obtain⟨vs',h5,_⟩:=k4;rw[hp] at h5;cases h5| _=>exact k4.elim
  |_=>exact q.elim
theorem ma(h:DA X E es fa):DF X E (.List es pos) (ar fa dj):=by
 refine⟨?_⟩;refine aR (BK h.o) λσ H Q h=>?_;obtain⟨Ha,ρ,hs,hr,q⟩:=h;refine⟨Ha,ρ,hs,hr,?_⟩;unfold ar at q;cases e1:fa ρ with
 |stuck|exn x=>rw[e1] at q;exact q
 |ok ds =>
  rw[e1] at q;intro vs H1 H01 g1 r1;replace q:match dj ds with
   |.ok (.lst ds)=>∀p vs H' Ha',aU H Ha H' Ha'->H p=none->Ha' p=none->H' p=some (.lst vs)->Reps X.K Ha' ds vs->Q (.ref p) H'
   |.ok _=>False
   |.exn x=>∀C ox H' Ha',aU H Ha H' Ha'->zJ X.K Ha' x C ox->E C ox H'
   |.stuck=>False:=q
  unfold dj at q
  by_cases hl:ds.length<=line
  .rw[if_pos hl] at q
   refine⟨by rw[←r1.length];exact c8 hl,λp hp=>?_⟩;have h0:H01 p=none:=g1.sub.free hp;refine q p vs _ H01 (g1.trans ⟨λb o q=>by rw[av (bh q hp)];exact q,aA.refl _,λb o q=>?_,λa h1 h2=>absurd h2 h1⟩) (g1.s.free hp) h0 aB r1;rw[av (by intro z;subst z;rw[h0] at q;cases q)];exact g1.sub _ _ q
  .rw[if_neg hl] at q;exact q.elim
noncomputable def yw(ρ:Ev) (i:Nat) (k:List D->ai Fl):ai Fl:=match ρ[i]? with
 |some (.ow (.lst ds))=>k ds
 |_=>.stuck
noncomputable def dN(i:Nat) (f:Ev->ai D):Ev->ai Fl:=λρ=>yw ρ i λds=>(f ρ).bind λd=>if ds.length<line then .ok (.nx (ρ.set i (.ow (.lst (ds++[d]))))) else .stuck
theorem uX{K:W.Frag}{k:List D->ai Fl}(h:df K He H0e Ha σ H ρ)(q:bQ K E He H0e Ha (yw ρ i k) D') :
  ∃ds p vs,ρ[i]?=some (.ow (.lst ds))/\σ[i]?=some (some (.ref p))/\He p=none/\Ha p=none/\H p=some (.lst vs)/\Reps K Ha ds vs/\bQ K E He H0e Ha (k ds) D':=by
 unfold yw at q;cases e:ρ[i]? with
 |none=>rw[e] at q;exact q.elim
 |some s =>
  rw[e] at q;cases s with
  |no|sh d|ox j ds|pt a=>exact q.elim
  |ow d =>
   cases d with
   |lst ds =>
    obtain⟨p,h1,h2,h3,vs,h4,h5⟩:=h.ow i _ e;exact⟨ds,p,vs,rfl,h1,h2,h3,h4,h5,q⟩
   |_=>exact q.elim
theorem iZ(hN:X.N[i]?=some x)(hv:CZ X.env.scope x)(he:DE X E e f)
  (hd:(x==("__debug__":Str))=false:=by decide)(hcd:(x==("__classdict__":Str))=false:=by decide)
  (hbase:attributeBase (.Name x p1) "append" X.env (eval (.Name x p1) X.env)=eval (.Name x p1) X.env:=by rfl)
  (hfew:((backTo p3 (starEach [e] X.env)).all (λx=>!x.1)&&(backToKw p3 (keywordEach [] X.env)).all (λx=>x.1.isSome)
  &&decide ([e].length+([]:List Keyword).length+(if([]:List Keyword).isEmpty then 0 else 1)<30))=true:=by exact ip rfl)
  (hline:(p2.endLine==p3.line)=true:=by rfl) (hs:starEach [e] X.env=(false,eval e X.env)::starEach [] X.env:=by exact bw rfl) (hplain:(backTo p3 (starEach [] X.env)).any (·.1)=false:=by exact cc rfl)
  (hw:swapsWith (.Call (.Attribute (.Name x p1) "append" p2) [e] [] p3) none pos.line X.env=pure false:=by rfl) :
  DS X E He H0e (.Expr (.Call (.Attribute (.Name x p1) "append" p2) [e] [] p3) pos) (dN i f):=by
 refine⟨?_⟩;refine bB (tm (BO PySem.F.plainAttrs_list PySem.F.slot_list_append PySem.F.type_list_append lX (ju hN hv hd hcd) (dO he.o gq hs) hbase hfew hline hs hplain) hw) λD σ H ⟨Ha,ρ,h,q⟩=>?_;obtain⟨ds,p,vs,e1,e2,e3,e4,e5,e6,q⟩:=uX h q;refine⟨.ref p,e2,.inl ⟨rfl,vs,eD.of e5⟩,?_⟩;refine⟨Ha,ρ,h.g.sub,h.rd,plain h q λd v H' Ha' _ g rp q'=>?_⟩
 by_cases hl:ds.length<line
 .rw[if_pos hl] at q'
  have e5':H' p=some (.lst vs):=g.s _ _ e5;refine⟨p,vs,v,rfl,rfl,e5',by rw[←e6.length];exact Nat.lt_of_lt_of_le hl (by decide),?_⟩;exact q' σ _ Ha' (aA.refl _) ((h.grow g).write e1 e2 ((e6.mono g.z).app (Reps.cons rp Reps.nil)))
 .rw[if_neg hl] at q';exact q'.elim
noncomputable def putAt(ρ:Ev) (i:Nat) (ds:List D) (d:D) (j:D):ai Fl:=match j with
 |.int j=>match xC ds.length j with
  |some n=>.ok (.nx (ρ.set i (.ow (.lst (ds.set n d)))))
  |none=>.stuck
 |_=>.stuck
noncomputable def Bj(i:Nat) (f k:Ev->ai D):Ev->ai Fl:=λρ=>yw ρ i λds=>(f ρ).bind λd=>(k ρ).bind λj=>putAt ρ i ds d j
theorem By{K:W.Frag}{vs:List V}(h:df K He H0e Ha σ H ρ)(e1:ρ[i]?=some (.ow (.lst ds)))(e2:σ[i]?=some (some (.ref p)))(e5:H p=some (.lst vs))(e6:Reps K Ha ds vs)
  (rp:Rep K Ha d v)(rj:Rep K Ha j u)(q:bQ K E He H0e Ha (putAt ρ i ds d j) D'):Fd (.ref p) u v H λH'=>D'.nx σ H':=by
 unfold putAt at q;cases j with
 |int n =>
  cases en:xC ds.length n with
  |none=>simp only[en] at q;exact q.elim
  |some m =>
   simp only[en] at q;refine⟨p,vs,n,m,rfl,au.mp rj,e5,by rw[←e6.length];exact en,?_⟩;exact q σ _ Ha (aA.refl _) (h.write e1 e2 (e6.set rp m))
 |_=>exact q.elim
section
variable {i:Nat}{x:Str}{p1 p2:Pos}{k:Ev->ai D}
theorem Hj(hN:X.N[i]?=some x)(hv:CZ X.env.scope x)(he:DE X E e f)(hk:DE X E b k)
  (hd:(x==("__debug__":Str))=false:=by decide)(hcd:(x==("__classdict__":Str))=false:=by decide)
  (ha:∀v,assign (.Subscript (.Name x p1) b p2) X.env v=(do
   let ov ←holding [v] (eval (.Name x p1) X.env)
   let iv ←holding [v,ov] (eval b X.env)
   standAt p2
   holding [v,ov,iv] (setItem ov iv v)
   release [v,ov,iv] []):=by intro _;rfl)
  (hs:swapsWithSole [.Subscript (.Name x p1) b p2] e pos.line X.env=pure false:=by rfl) (hw:swappedStores [.Subscript (.Name x p1) b p2] e X.env=pure none:=by rfl)
  (h1:(assignEach [.Subscript (.Name x p1) b p2] X.env).map (·.2)=[assign (.Subscript (.Name x p1) b p2) X.env]:=by rfl) :
  DS X E He H0e (.Assign [.Subscript (.Name x p1) b p2] e pos) (Bj i f k):=by
 refine⟨?_⟩;refine bB (BD he.o (BJ (ju hN hv hd hcd) hk.o uM ha) hs hw h1) λD σ H ⟨Ha,ρ,h,q⟩=>⟨Ha,ρ,h.g.sub,h.rd,?_⟩
 obtain⟨ds,p,vs,e1,e2,e3,e4,e5,e6,q⟩:=uX h q;refine plain (k:=λd=>(k ρ).bind λj=>putAt ρ i ds d j) h q λd v H1 H01 _ g1 r1 q1=>⟨.ref p,e2,?_⟩
 have h1':=h.grow g1;refine⟨H01,ρ,h1'.g.sub,h1'.rd,plain (k:=λj=>putAt ρ i ds d j) h1' q1 λj u H2 H02 _ g2 r2 q2=>?_⟩;exact By (h1'.grow g2) e1 e2 (g2.s _ _ (g1.s _ _ e5)) ((e6.mono g1.z).mono g2.z) (r1.mono g2.z) r2 q2
end
noncomputable def bL(tg:Ev->D->ai Ev) (body:Ev->ai Fl):List D->Ev->ai Fl
 |[],ρ=>.ok (.nx ρ)
 |d::r,ρ=>(tg ρ d).bind λρ1=>(body ρ1).bind λx=>match x with
  |.nx ρ2=>bL tg body r ρ2
  |.ct ρ2=>bL tg body r ρ2
  |.bk ρ2=>.ok (.nx ρ2)
  |.rt d=>.ok (.rt d)
noncomputable def tG(K:W.Frag) (He H0e:Hp) (tg:Ev->D->ai Ev):TG:=λv σ H Q=>∃Ha ρ d,df K He H0e Ha σ H ρ/\Rep K Ha d v/\match tg ρ d with
  |.ok ρ'=>∀σ' H' Ha',aA Ha Ha'->df K He H0e Ha' σ' H' ρ'->Q σ' H'
  |_=>False
structure DG (X:Cx) (E:XK) (He H0e:Hp) (target:Expr) (tg:Ev->D->ai Ev):Prop where
 o:PG X target (tG X.K He H0e tg)
noncomputable def bb(i:Nat):Ev->D->ai Ev:=λρ d=>.ok (ρ.set i (.sh d))
theorem tw{t t':TG}(h:PG X tgt t)(w:∀v σ H Q,t' v σ H Q->t v σ H Q):PG X tgt t':=λpins s σ H v u Q I r q=>h pins s σ H v u Q I r (w v σ H Q q)
theorem bI(hN:X.N.Nodup)(hi:X.N[i]?=some x)(hx:AS X.env.scope x)(hf:X.fn x=true∨X.env.scope.names.lookup x=some .local := by first|exact .inl rfl|exact .inr rfl|assumption):DG X E He H0e (.Name x pos) (bb i) :=
 ⟨tw (yq hN hi hx hf) λv σ H Q ⟨Ha,ρ,d,h,rp,q⟩=>q _ H Ha (aA.refl _) (h.put rp)⟩
noncomputable def eN(K:W.Frag) (E:XK) (He H0e Hb:Hp) (tg:Ev->D->ai Ev) (s:Ev->ai Fl) (ds:List D) (D':lK) (i:Nat) (σ:L2.St) (H:Hp):Prop :=
 ∃Ha ρ,aA Hb Ha/\df K He H0e Ha σ H ρ/\bQ K E He H0e Ha (bL tg s (ds.drop i) ρ) D'
theorem eN.step{K:W.Frag}(h:eN K E He H0e Hb tg s ds D' i σ H)(hd:ds[i]?=some d)(rv:Rep K Hb d v)
  (he:∀ρ,tg ρ d=.stuck∨∃ρ',tg ρ d=.ok ρ') :
  tG K He H0e tg v σ H λσ2 H2=>tS K E He H0e s { D' with nx:=eN K E He H0e Hb tg s ds D' (i+1),ct:=eN K E He H0e Hb tg s ds D' (i+1),bk:=D'.nx } σ2 H2:=by
 obtain⟨Ha,ρ,z,h,q⟩:=h;have hi:i<ds.length:=(List.getElem?_eq_some_iff.mp hd).1;have hdr:ds.drop i=d::ds.drop (i+1):=by
  rw[List.drop_eq_getElem_cons hi];rw[List.getElem?_eq_getElem hi] at hd;cases hd;rfl
 rw[hdr] at q;refine⟨Ha,ρ,d,h,rv.mono z,?_⟩;unfold bL at q;rcases he ρ with e1|⟨ρ1,e1⟩
 .rw[e1] at q;exact q.elim
 .rw[e1] at q ⊢
  intro σ' H' Ha' z' h';refine⟨Ha',ρ1,h',?_⟩;replace q:=bQ.grow (r:=(s ρ1).bind λx=>match x with
   |.nx ρ2=>bL tg s (ds.drop (i+1)) ρ2
   |.ct ρ2=>bL tg s (ds.drop (i+1)) ρ2
   |.bk ρ2=>.ok (.nx ρ2)
   |.rt d=>.ok (.rt d)) q z'
  cases e2:s ρ1 with
  |stuck|exn x=>rw[e2] at q;exact q
  |ok r =>
   rw[e2] at q;cases r with|nx ρ2=>exact λσ3 H3 H03 z3 h3=>⟨H03,ρ2,(z.trans z').trans z3,h3,bQ.grow (r:=bL tg s (ds.drop (i+1)) ρ2) q z3⟩|ct ρ2=>exact λσ3 H3 H03 z3 h3=>⟨H03,ρ2,(z.trans z').trans z3,h3,bQ.grow (r:=bL tg s (ds.drop (i+1)) ρ2) q z3⟩|bk ρ2|rt d=>exact q
theorem eN.done{K:W.Frag}(h:eN K E He H0e Hb tg s ds D' ds.length σ H):D'.nx σ H:=by
 obtain⟨Ha,ρ,z,h,q⟩:=h;rw[List.drop_length] at q;unfold bL at q;exact q σ H Ha (aA.refl _) h
noncomputable def sO(tg:Ev->D->ai Ev):Prop:=∀ρ d,tg ρ d=.stuck∨∃ρ',tg ρ d=.ok ρ'
theorem cj:sO (bb i):=λρ d=>.inr ⟨_,rfl⟩
noncomputable def n6(f:Ev->ai D) (tg:Ev->D->ai Ev) (s:Ev->ai Fl):Ev->ai Fl:=λρ=>(f ρ).bind λd=>match d with
 |.lst ds=>bL tg s ds ρ
 |_=>.stuck
theorem l7(hp:PassesOwn (model X.prog X.w) X.A X.env X.xe)(hc:X.calm=true)(hi:DE X E iter f)(hg:DG X E He H0e tgt tg)(ht:sO tg)(hb:AU X E He H0e body s)
  (hs:∀x,foldedSetIterable iter X.env x=pure x:=by intro _;rfl):DS X E He H0e (.For tgt iter body [] pos) (n6 f tg s):=by
 refine⟨?_⟩;refine bB (tj hp hc (yp hi.o) hg.o hb.o hs) λD' σ H ⟨Ha,ρ,h,q⟩=>⟨Ha,ρ,h.g.sub,h.rd,?_⟩
 refine plain h q λd v H1 H01 _ g rp q1=>?_;cases d with
 |lst ds =>
  obtain⟨a,vs,rfl,hv,hr⟩:=aH.mp rp;refine⟨a,rfl,⟨vs,aA.sqL g.sub hv⟩,?_⟩;refine Cj (K:=X.K) (a:=a) (g:=tG X.K He H0e tg) (tb:=tS X.K E He H0e s) (D:=D') (xs:=vs) (eN X.K E He H0e H01 tg s ds D') ⟨H01,ρ,aA.refl _,h.grow g,q1⟩ ?_ ?_ ?_
  .rintro i σ' H' _ ⟨Ha',ρ',z,h',_⟩
   exact aA.sqL (z.trans h'.g.sub) hv
  .intro i x σ' H' hx hI
   have hil:i<ds.length:=by rw[hr.length];exact(List.getElem?_eq_some_iff.mp hx).1
   obtain⟨u,e1,e2⟩:=hr.get (List.getElem?_eq_getElem hil);rw[hx] at e1;cases e1;exact hI.step (List.getElem?_eq_getElem hil) e2 λρ=>ht ρ _
  .intro σ' H' hI
   rw[←hr.length] at hI;exact hI.done
 |_=>exact q1.elim
noncomputable def intsFrom(lo:Int) (n:Nat):List D:=(List.range n).map λ(k:Nat)=>D.int (lo+(k:Int))
noncomputable def mF(f:Ev->ai D) (tg:Ev->D->ai Ev) (s:Ev->ai Fl):Ev->ai Fl:=λρ=>(f (fu ρ)).bind λd=>match d with
 |.int j=>if -4611686018427387904<=j/\j<4611686018427387904 then bL tg s (intsFrom 0 j.toNat) ρ else .stuck
 |_=>.stuck
theorem k7(hp:PassesOwn (model X.prog X.w) X.A X.env X.xe)(hc:X.calm=true)(hgl:Gl X "range")(hm:X.mg "range"=none)(hi:DE X E iter f)(hg:DG X E He H0e tgt tg)(ht:sO tg)(hb:AU X E He H0e body s)
  (hst:starEach [iter] X.env=[(false,eval iter X.env)]:=by exact dM rfl)(hs:∀x,foldedSetIterable (.Call (.Name "range" p) [iter] [] pos2) X.env x=pure x:=by intro _;rfl):DS X E He H0e (.For tgt (.Call (.Name "range" p) [iter] [] pos2) body [] pos) (mF f tg s):=by
 refine⟨?_⟩;refine bB (tj hp hc (lR hgl hm (dO hi.o gq hst) hst) hg.o hb.o hs) λD' σ H ⟨Ha,ρ,h,q⟩=>?_;refine⟨frz He Ha H,fu ρ,h.frz_le,h.looks,look h q λd v H1 J _ g rp q1=>?_⟩;cases d with
 |int j =>
  rw[au.mp rp];replace q1:bQ X.K E He H0e Ha (if -4611686018427387904<=j/\j<4611686018427387904 then bL tg s (intsFrom 0 j.toNat) ρ else .stuck) D':=q1
  by_cases hj:-4611686018427387904<=j/\j<4611686018427387904
  .rw[if_pos hj] at q1
   refine⟨j,rfl,by omega,by omega,?_⟩;have hlen:(intsFrom 0 j.toNat).length=j.toNat:=by unfold intsFrom;simp
   refine Av (lo:=0) (n:=j.toNat) (g:=tG X.K He H0e tg) (tb:=tS X.K E He H0e s) (D:=D') (eN X.K E He H0e Ha tg s (intsFrom 0 j.toNat) D') ⟨Ha,ρ,aA.refl _,h.same g.s,q1⟩ ?_ ?_
   .intro i σ' H' hlt hI
    refine hI.step (d:=.int (0+i)) ?_ (au.mpr rfl) λρ=>ht ρ _;unfold intsFrom;simp [hlt]
   .intro σ' H' hI
    exact eN.done (ds:=intsFrom 0 j.toNat) (by rw[hlen];exact hI)
  .rw[if_neg hj] at q1;exact q1.elim
 |_=>exact q1.elim
noncomputable def cb(c:Ev->ai D) (s:Ev->ai Fl):Nat->Ev->ai Fl
 |0,_=>.stuck
 |n+1,ρ=>(c (fu ρ)).bind λx=>match x with
  |.bl b=>if b=true then(s ρ).bind λx=>match x with
    |.nx ρ2=>cb c s n ρ2
    |.ct ρ2=>cb c s n ρ2
    |.bk ρ2=>.ok (.nx ρ2)
    |.rt d=>.ok (.rt d)
   else .ok (.nx ρ)
  |_=>.stuck
noncomputable def gi(fuel:Ev->Nat) (c:Ev->ai D) (s:Ev->ai Fl):Ev->ai Fl:=λρ=>cb c s (fuel ρ) ρ
theorem p7(fuel:Ev->Nat)(hp:PassesOwn (model X.prog X.w) X.A X.env X.xe)(hc:DT X E c fc)(hb:AU X E He H0e body s):DS X E He H0e (.While c body [] pos) (gi fuel fc s):=by
 refine⟨?_⟩;refine bB (BA hp hc.o hb.o) λD' σ H ⟨Ha,ρ,h,q⟩=>?_;refine⟨λm σ H=>∃Ha ρ,df X.K He H0e Ha σ H ρ/\bQ X.K E He H0e Ha (cb fc s m ρ) D',⟨fuel ρ,Ha,ρ,h,q⟩,?_⟩;rintro m σ1 H1 ⟨H01,ρ1,h1,q1⟩;cases m with
 |zero=>exact q1.elim
 |succ m =>
  refine⟨frz He H01 H1,fu ρ1,h1.frz_le,h1.looks,?_⟩;unfold cb at q1;refine Fj (k:=λb=>if b=true then(s ρ1).bind λx=>match x with
    |.nx ρ2=>cb fc s m ρ2
    |.ct ρ2=>cb fc s m ρ2
    |.bk ρ2=>.ok (.nx ρ2)
    |.rt d=>.ok (.rt d)
   else .ok (.nx ρ1)) h1 q1 λb H2 hs q2=>?_
  cases b with
  |false =>
   rw[if_neg Bool.false_ne_true] at q2 ⊢;exact q2 σ1 H2 H01 (aA.refl _) (h1.same hs)
  |true =>
   rw[if_pos rfl] at q2 ⊢;refine⟨λσ' H'=>∃m',m' < m+1/\∃Ha ρ,df X.K He H0e Ha σ' H' ρ/\bQ X.K E He H0e Ha (cb fc s m' ρ) D',λσ' H' z=>z,H01,ρ1,h1.same hs,?_⟩;cases e2:s ρ1 with
   |stuck|exn x=>rw[e2] at q2;exact q2
   |ok r =>
    rw[e2] at q2;cases r with|nx ρ2=>exact λσ3 H3 H03 z3 h3=>⟨m,Nat.lt_succ_self _,H03,ρ2,h3,bQ.grow (r:=cb fc s m ρ2) q2 z3⟩|ct ρ2=>exact λσ3 H3 H03 z3 h3=>⟨m,Nat.lt_succ_self _,H03,ρ2,h3,bQ.grow (r:=cb fc s m ρ2) q2 z3⟩|bk ρ2|rt d=>exact q2
end
noncomputable def cn(n:Nat) (s:Ev->ai Fl) (ds:List D):ai D:=(s (ds.map Sl.sh++List.replicate (n-ds.length) .no)).bind λr=>match r with
 |.nx _=>.ok .non
 |.rt d=>.ok d
 |_=>.stuck
theorem mz{K:W.Frag}{vs:List V}(h:Reps K Ha ds vs):Reads K Ha (start N vs) (ds.map Sl.sh++List.replicate (N.length-ds.length) .no):=by
 intro i d e;have hl:=h.length
 by_cases hi:i<ds.length
 .rw[List.getElem?_append_left (by simpa using hi),List.getElem?_map] at e
  cases q:ds[i]? with
  |none=>rw[q] at e;cases e
  |some d' =>
   rw[q] at e;cases e;obtain⟨v,h1,h2⟩:=h.get q;refine⟨v,?_,h2⟩;unfold L2.start;rw[List.getElem?_append_left (by simp;omega),List.getElem?_map,h1];rfl
 .rw[List.getElem?_append_right (by simpa using hi),List.getElem?_replicate] at e
  split at e<;>cases e
theorem rz{ds:List D}(i j:Nat)(es:List D):(ds.map Sl.sh++List.replicate n Sl.no)[i]?≠some (.ox j es):=λe=>by
 have:=List.mem_of_getElem? e;rw[List.mem_append] at this;rcases this with h|h
 .obtain⟨_,_,h⟩:=List.mem_map.mp h;cases h
 .have:=List.eq_of_mem_replicate h;cases this
theorem nV{ds:List D}{σ:L2.St}(i:Nat)(a:Addr)(e:(ds.map Sl.sh++List.replicate n Sl.no)[i]?=some (.pt a)):σ[i]?=some (some (.ref a)):=by
 have:=List.mem_of_getElem? e;rw[List.mem_append] at this;rcases this with h|h
 .obtain⟨_,_,h⟩:=List.mem_map.mp h;cases h
 .have:=List.eq_of_mem_replicate h;cases this
theorem Aw{K:W.Frag}{st:Stmt}{N ps:List Str}{k:Nat}(F:E1 K x qual st f fd)(S:fF N ps (defScope st))
  (hbody:∀(cdv:Value) (A:Around) (outer:List PySem.Env) (s0:Shared) (H Ha:Hp) (E:XK),cS k (A.deeper (envOfC qual (defScope st) s0.heap.objs.size f cdv)) ->
   AU (nk CX0 P w K mg base N qual (defScope st) f cdv A outer s0 H E).nox E H Ha (defBody st) s):fk P w K mg base CX0 (k+1) f fd ps (spD K ps.length (cn N.length s)):=by
 have hpl:ps.length<=N.length:=by have:=congrArg List.length S.pre;rw[List.length_take] at this;omega
 refine F.ok S (λvs H Q E h=>h.1) λcdv A outer s0 H vs Q E hr h=>?_;obtain⟨hn,Ha,ds,hs,hv,q⟩:=h;refine⟨_,(hbody cdv A outer s0 H Ha E hr).o,Ha,ds.map Sl.sh++List.replicate (N.length-ds.length) .no,?_,?_⟩
 .refine⟨aU.refl hs,mz hv,λi d e=>?_,λi j d d' hij e=>?_,?_,OX.none rz nV⟩
  .by_cases hi:i<ds.length
   .rw[List.getElem?_append_left (by simpa using hi),List.getElem?_map] at e
    cases q:ds[i]? with|none|some d'=>rw[q] at e;cases e
   .rw[List.getElem?_append_right (by simpa using hi),List.getElem?_replicate] at e
    split at e<;>cases e
  .by_cases hi:i<ds.length
   .rw[List.getElem?_append_left (by simpa using hi),List.getElem?_map] at e
    cases q:ds[i]? with|none|some d'=>rw[q] at e;cases e
   .rw[List.getElem?_append_right (by simpa using hi),List.getElem?_replicate] at e
    split at e<;>cases e
  .unfold L2.start
   have:=hv.length;simp only[List.length_append,List.length_map,List.length_replicate];omega
 .unfold cn at q
  cases e1:s (ds.map Sl.sh++List.replicate (N.length-ds.length) .no) with
  |stuck|exn x=>rw[e1] at q;exact q
  |ok r =>
   rw[e1] at q;cases r with|nx ρ'=>exact λσ' H' Ha' _ h'=>q .non H' Ha' h'.g (aL.mpr rfl)|rt d=>exact λv H' Ha' g rp=>q v H' Ha' g rp|bk ρ'|ct ρ'=>exact q.elim
mutual
def b6:D->D->Bool
 |.non,.non=>true
 |.bl a,.bl b=>a==b
 |.bl a,.int b=>(if a then 1 else 0)==b
 |.int a,.bl b=>a==(if b then 1 else 0)
 |.int a,.int b=>a==b
 |.str a,.str b=>a==b
 |.tup xs,.tup ys=>eqDs xs ys
 |.lst xs,.lst ys=>eqDs xs ys
 |_,_=>false
def eqDs:List D->List D->Bool
 |[],[]=>true
 |x::xs,y::ys=>b6 x y&&eqDs xs ys
 |_,_=>false
end
noncomputable def aZ:Nat->D->Bool
 |_,.non=>true
 |_,.bl _=>true
 |_,.int _=>true
 |_,.str _=>true
 |n+1,.tup ds=>ds.all (aZ n)
 |n+1,.lst ds=>ds.all (aZ n)
 |_,_=>false
theorem rS(h:∀d∈ds,b6 d d=true):eqDs ds ds=true:=by
 induction ds with
 |nil=>simp [eqDs]
 |cons d r ih =>
  unfold eqDs;rw[h d List.mem_cons_self,ih λx hx=>h x (List.mem_cons_of_mem _ hx)];rfl
theorem iy:∀(n:Nat) (d:D),aZ n d=true->b6 d d=true
 |_,.non,_=>by simp [b6]
 |_,.bl b,_=>by simp [b6]
 |_,.int b,_=>by simp [b6]
 |_,.str b,_=>by simp [b6]
 |n+1,.tup ds,h=>by
  unfold aZ at h;unfold b6;exact rS λd hd=>iy n d (List.all_eq_true.mp h d hd)
 |n+1,.lst ds,h=>by
  unfold aZ at h;unfold b6;exact rS λd hd=>iy n d (List.all_eq_true.mp h d hd)
 |0,.tup ds,h=>by unfold aZ at h;cases h
 |0,.lst ds,h=>by unfold aZ at h;cases h
 |0,.dic ks ds,h=>by unfold aZ at h;cases h
 |n+1,.dic ks ds,h=>by unfold aZ at h;cases h
 |0,.exc x,h=>by unfold aZ at h;cases h
 |0,.ob k x,h=>by unfold aZ at h;cases h
 |n+1,.ob k x,h=>by unfold aZ at h;cases h
 |n+1,.exc x,h=>by unfold aZ at h;cases h
theorem Ew:b6 (.tup xs) (.tup ys)=eqDs xs ys:=by rw[b6]
theorem tY:b6 (.lst xs) (.lst ys)=eqDs xs ys:=by rw[b6]
theorem jz:∀(xs ys:List D),xs.length=ys.length->eqDs xs ys=(List.range xs.length).all λj=>b6 (xs.getD j .non) (ys.getD j .non)
 |[],[],_=>by simp [eqDs]
 |x::xs,y::ys,h=>by
  have ih:=jz xs ys (by simpa using h);unfold eqDs;rw[ih,List.length_cons,List.range_succ_eq_map,List.all_cons,List.all_map];rfl
 |[],_::_,h=>by simp at h
 |_::_,[],h=>by simp at h
theorem kW:∀(xs ys:List D),xs.length≠ys.length->eqDs xs ys=false
 |[],[],h=>absurd rfl h
 |x::xs,y::ys,h=>by
  unfold eqDs;rw[kW xs ys (by simpa using h),Bool.and_false]
 |[],_::_,h=>by simp [eqDs]
 |_::_,[],h=>by simp [eqDs]
section
variable {X:Cx}{pins:List (Addr×Obj)}{σ:L2.St}{H:Hp}{s:Shared}
theorem aV(I:Inv X pins σ H s)(r:Rep X.K H (.tup ds) v)(rv:aX v u):∃a vs its,v=.ref a/\u=.ref a/\jc X.K H a vs/\Reps X.K H ds vs/\bz vs its/\IsTup s.heap a its.toArray/\ds.length=its.length:=by
 obtain⟨a,vs,rfl,h1,h2⟩:=aJ.mp r;obtain rfl:u=Value.ref a:=rv;obtain⟨its,h3,h4,_⟩:=I.tuple h1;exact⟨a,vs,its,rfl,rfl,h1,h2,h3,h4,h2.length.trans h3.length⟩
theorem aS(I:Inv X pins σ H s)(r:Rep X.K H (.lst ds) v)(rv:aX v u):∃a vs its,v=.ref a/\u=.ref a/\eD X.K H a vs/\Reps X.K H ds vs/\bz vs its/\s.heap.IsList a its.toArray/\ds.length=its.length:=by
 obtain⟨a,vs,rfl,h1,h2⟩:=aH.mp r;obtain rfl:u=Value.ref a:=rv;obtain⟨its,h3,h4,_⟩:=I.list h1;exact⟨a,vs,its,rfl,rfl,h1,h2,h3,h4.isList,h2.length.trans h3.length⟩
theorem n9{n:Nat}(ih:∀(d d':D) (v:V),aZ n d=true->aZ n d'=true->Rep X.K H d v->Rep X.K H d' v->d=d'):∀(ds ds':List D) (vs:List V),ds.all (aZ n)=true->ds'.all (aZ n)=true->Reps X.K H ds vs->Reps X.K H ds' vs->ds=ds'
 |[],ds',vs,_,_,h,h'=>by
  rw[Reps.nil_iff.mp h] at h';cases ds' with|nil=>rfl|cons d r=>obtain⟨_,_,e,_⟩:=aE.mp h';cases e
 |d::ds,ds',vs,a,a',h,h'=>by
  obtain⟨v,r,rfl,h1,h2⟩:=aE.mp h;cases ds' with
  |nil=>cases Reps.nil_iff.mp h'
  |cons d' ds' =>
   obtain⟨v',r',e,h1',h2'⟩:=aE.mp h';cases e;rw[List.all_cons,Bool.and_eq_true] at a a';rw[ih d d' v a.1 a'.1 h1 h1',n9 ih ds ds' r a.2 a'.2 h2 h2']
theorem Rep.inj(I:Inv X pins σ H s):∀(n:Nat) (d d':D) (v:V),aZ n d=true->aZ n d'=true->Rep X.K H d v->Rep X.K H d' v->d=d':=by
 have atom:∀(n:Nat) (d d':D) (v:V),(∀ds,d≠.tup ds)->(∀ds,d≠.lst ds)->aZ n d=true->aZ n d'=true->Rep X.K H d v->Rep X.K H d' v->d=d':=by
  intro n d d' v n1 n2 s1 s2 h h';have nd:∀m ks ds,aZ m (.dic ks ds)=true->False:=λm ks ds h=>by cases m<;>(unfold aZ at h;cases h)
  have nx:∀m x,aZ m (.exc x)=true->False:=λm x h=>by cases m<;>(unfold aZ at h;cases h)
  have nb:∀m k x,aZ m (.ob k x)=true->False:=λm k x h=>by cases m<;>(unfold aZ at h;cases h)
  cases d with
  |tup ds=>exact absurd rfl (n1 ds)|lst ds=>exact absurd rfl (n2 ds)|dic ks ds=>exact(nd _ _ _ s1).elim|exc x=>exact(nx _ _ s1).elim|ob k x=>exact(nb _ _ _ s1).elim
  |non =>
   rw[aL.mp h] at h';cases d' with|non=>rfl|bl b=>cases aI.mp h'|int b=>cases au.mp h'|str b=>cases Rep.str_iff.mp h'|tup ds=>obtain⟨_,_,e,_⟩:=aJ.mp h';cases e|lst ds=>obtain⟨_,_,e,_⟩:=aH.mp h';cases e|dic ks ds=>exact(nd _ _ _ s2).elim|exc x=>exact(nx _ _ s2).elim|ob k x=>exact(nb _ _ _ s2).elim
  |bl x =>
   rw[aI.mp h] at h';cases d' with|non=>cases aL.mp h'|bl b=>cases aI.mp h';rfl|int b=>cases au.mp h'|str b=>cases Rep.str_iff.mp h'|tup ds=>obtain⟨_,_,e,_⟩:=aJ.mp h';cases e|lst ds=>obtain⟨_,_,e,_⟩:=aH.mp h';cases e|dic ks ds=>exact(nd _ _ _ s2).elim|exc x=>exact(nx _ _ s2).elim|ob k x=>exact(nb _ _ _ s2).elim
  |int x =>
   rw[au.mp h] at h';cases d' with|non=>cases aL.mp h'|bl b=>cases aI.mp h'|int b=>cases au.mp h';rfl|str b=>cases Rep.str_iff.mp h'|tup ds=>obtain⟨_,_,e,_⟩:=aJ.mp h';cases e|lst ds=>obtain⟨_,_,e,_⟩:=aH.mp h';cases e|dic ks ds=>exact(nd _ _ _ s2).elim|exc x=>exact(nx _ _ s2).elim|ob k x=>exact(nb _ _ _ s2).elim
  |str x =>
   rw[Rep.str_iff.mp h] at h';cases d' with|non=>cases aL.mp h'|bl b=>cases aI.mp h'|int b=>cases au.mp h'|str b=>cases Rep.str_iff.mp h';rfl|tup ds=>obtain⟨_,_,e,_⟩:=aJ.mp h';cases e|lst ds=>obtain⟨_,_,e,_⟩:=aH.mp h';cases e|dic ks ds=>exact(nd _ _ _ s2).elim|exc x=>exact(nx _ _ s2).elim|ob k x=>exact(nb _ _ _ s2).elim
 intro n
 induction n with
 |zero =>
  intro d d' v s1 s2 h h';exact atom 0 d d' v (λds e=>by subst e;unfold aZ at s1;cases s1) (λds e=>by subst e;unfold aZ at s1;cases s1) s1 s2 h h'
 |succ n ih =>
  intro d d' v s1 s2 h h'
  by_cases t1:∃ds,d=.tup ds
  .obtain⟨ds,rfl⟩:=t1
   by_cases t2:∃ds',d'=.tup ds'
   .obtain⟨ds',rfl⟩:=t2
    obtain⟨a,vs,rfl,h1,h2⟩:=aJ.mp h;obtain⟨a',vs',e,h1',h2'⟩:=aJ.mp h';cases e;rw[I.tuple_inj h1' h1] at h2';unfold aZ at s1 s2;rw[n9 ih ds ds' vs s1 s2 h2 h2']
   .by_cases t3:∃ds',d'=.lst ds'
    .obtain⟨ds',rfl⟩:=t3
     obtain⟨a0,_,ev,_,_⟩:=aJ.mp h;subst ev;obtain⟨a,vs,its,ea,_,h1,h2,h3,h4,_⟩:=aV I h rfl;cases ea;obtain⟨a',vs',its',e,_,h1',h2',h3',h4',_⟩:=aS I h' rfl;cases e;exact absurd rfl (SeqAt.ne_of_list_tuple h4' h4)
    .exact(atom (n+1) d' _ v (λds e=>t2 ⟨ds,e⟩) (λds e=>t3 ⟨ds,e⟩) s2 s1 h' h).symm
  .by_cases t1':∃ds,d=.lst ds
   .obtain⟨ds,rfl⟩:=t1'
    by_cases t2:∃ds',d'=.lst ds'
    .obtain⟨ds',rfl⟩:=t2
     obtain⟨a,vs,rfl,h1,h2⟩:=aH.mp h;obtain⟨a',vs',e,h1',h2'⟩:=aH.mp h';cases e;rw[I.list_inj h1' h1] at h2';unfold aZ at s1 s2;rw[n9 ih ds ds' vs s1 s2 h2 h2']
    .by_cases t3:∃ds',d'=.tup ds'
     .obtain⟨ds',rfl⟩:=t3
      obtain⟨a0,_,ev,_,_⟩:=aH.mp h;subst ev;obtain⟨a,vs,its,ea,_,h1,h2,h3,h4,_⟩:=aS I h rfl;cases ea;obtain⟨a',vs',its',e,_,h1',h2',h3',h4',_⟩:=aV I h' rfl;cases e;exact absurd rfl (SeqAt.ne_of_list_tuple h4 h4')
     .exact(atom (n+1) d' _ v (λds e=>t3 ⟨ds,e⟩) (λds e=>t2 ⟨ds,e⟩) s2 s1 h' h).symm
   .exact atom (n+1) d d' v (λds e=>t1 ⟨ds,e⟩) (λds e=>t1' ⟨ds,e⟩) s1 s2 h h'
theorem vt{A:Around}{vs us:List V} 
  (ih:∀(x y:D) (v u:V) (a b:Value),aZ n x=true->aZ n y=true->Rep X.K H x v->Rep X.K H y u->aX v a->aX u b->SeqAt.EqAt A.in1 s a b (b6 x y))
  (sx:xs.all (aZ n)=true)(sy:ys.all (aZ n)=true)(rx:Reps X.K H xs vs)(ry:Reps X.K H ys us)(qx:bz vs is)(qy:bz us js) :
  ∀j (h1:j<is.toArray.size) (h2:j<js.toArray.size),SeqAt.EqAt A.in1 s is.toArray[j] js.toArray[j] (b6 (xs.getD j .non) (ys.getD j .non)):=by
 intro j h1 h2;have lx:=rx.length;have ly:=ry.length;have kx:=qx.length;have ky:=qy.length;have h1':j<is.length:=by simpa using h1
 have h2':j<js.length:=by simpa using h2
 have hx:j<xs.length:=by omega
 have hy:j<ys.length:=by omega
 obtain⟨v,e1,r1⟩:=rx.get (List.getElem?_eq_getElem hx);obtain⟨u,e2,r2⟩:=ry.get (List.getElem?_eq_getElem hy);obtain⟨a,e3,r3⟩:=qx.get e1;obtain⟨b,e4,r4⟩:=qy.get e2;have ea:is.toArray[j]=a:=by
  rw[List.getElem?_eq_getElem h1'] at e3;simpa using Option.some.inj e3
 have eb:js.toArray[j]=b:=by
  rw[List.getElem?_eq_getElem h2'] at e4;simpa using Option.some.inj e4
 rw[ea,eb];have gx:xs.getD j .non=xs[j]:=by simp [List.getD,List.getElem?_eq_getElem hx]
 have gy:ys.getD j .non=ys[j]:=by simp [List.getD,List.getElem?_eq_getElem hy]
 rw[gx,gy];exact ih _ _ v u a b (List.all_eq_true.mp sx _ (List.getElem_mem hx)) (List.all_eq_true.mp sy _ (List.getElem_mem hy)) r1 r2 r3 r4
theorem uP(I:Inv X pins σ H s)(hu:A.units<cLine)(rx:Rep X.K H x v)(ry:Rep X.K H y u)(qx:aX v a)(qy:aX u b)
  (n1:∀ds ds',¬(x=.lst ds/\y=.lst ds'))(n2:∀ds ds',¬(x=.tup ds/\y=.tup ds'))(d1:∀ks ds,x≠.dic ks ds)(d2:∀ks ds,y≠.dic ks ds)(x1:∀c,x≠.exc c)(x2:∀c,y≠.exc c)(o1:∀k c,x≠.ob k c)(o2:∀k c,y≠.ob k c) :
  SeqAt.RcAt A s a b (b6 x y)/\SeqAt.EqAt A s a b (b6 x y)/\SeqAt.RcNeAt A s a b (!(b6 x y)):=by
 cases x with
 |non =>
  cases y with
  |non =>
   obtain rfl:=aL.mp rx;obtain rfl:a=Value.none:=qx;obtain rfl:=aL.mp ry;obtain rfl:b=Value.none:=qy;unfold b6;exact⟨SeqAt.RcAt.none_none ,SeqAt.EqAt.same _,SeqAt.RcNeAt.none_none ⟩
  |bl y =>
   obtain rfl:=aL.mp rx;obtain rfl:a=Value.none:=qx;obtain rfl:=aI.mp ry;obtain rfl:b=Value.bool _:=qy;unfold b6;exact⟨SeqAt.RcAt.none_bool _,SeqAt.EqAt.none_bool _,SeqAt.RcNeAt.none_bool _⟩
  |int y =>
   obtain rfl:=aL.mp rx;obtain rfl:a=Value.none:=qx;obtain rfl:=au.mp ry;obtain⟨ty,rfl⟩:∃t,b=Value.int _ t:=qy;unfold b6;exact⟨SeqAt.RcAt.none_int _ _,SeqAt.EqAt.none_int _ _,SeqAt.RcNeAt.none_int _ _⟩
  |str y =>
   obtain rfl:=aL.mp rx;obtain rfl:a=Value.none:=qx;obtain rfl:=Rep.str_iff.mp ry;obtain⟨ty,rfl⟩:∃t,b=Value.str _ t:=qy;unfold b6;exact⟨SeqAt.RcAt.none_str _ _,SeqAt.EqAt.none_str _ _,SeqAt.RcNeAt.none_str _ _⟩
  |lst y =>
   obtain rfl:=aL.mp rx;obtain rfl:a=Value.none:=qx;obtain⟨ly,_,_,rfl,rfl,_,_,_,hy,_⟩:=aS I ry qy;unfold b6;exact⟨SeqAt.RcAt.none_list  hy hu,SeqAt.EqAt.none_list  hy hu,SeqAt.RcNeAt.none_list  hy hu⟩
  |tup y =>
   obtain rfl:=aL.mp rx;obtain rfl:a=Value.none:=qx;obtain⟨ly,_,_,rfl,rfl,_,_,_,hy,_⟩:=aV I ry qy;unfold b6;exact⟨SeqAt.RcAt.none_tuple  hy hu,SeqAt.EqAt.none_tuple  hy hu,SeqAt.RcNeAt.none_tuple  hy hu⟩
  |dic ks ds=>exact absurd rfl (d2 ks ds)|exc c=>exact absurd rfl (x2 c)|ob k c=>exact absurd rfl (o2 k c)
 |bl x =>
  cases y with
  |non =>
   obtain rfl:=aI.mp rx;obtain rfl:a=Value.bool _:=qx;obtain rfl:=aL.mp ry;obtain rfl:b=Value.none:=qy;unfold b6;exact⟨SeqAt.RcAt.bool_none _,SeqAt.EqAt.bool_none _,SeqAt.RcNeAt.bool_none _⟩
  |bl y =>
   obtain rfl:=aI.mp rx;obtain rfl:a=Value.bool _:=qx;obtain rfl:=aI.mp ry;obtain rfl:b=Value.bool _:=qy;unfold b6;exact⟨SeqAt.RcAt.bool_bool _ _,SeqAt.EqAt.bool_bool _ _,SeqAt.RcNeAt.bool_bool _ _⟩
  |int y =>
   obtain rfl:=aI.mp rx;obtain rfl:a=Value.bool _:=qx;obtain rfl:=au.mp ry;obtain⟨ty,rfl⟩:∃t,b=Value.int _ t:=qy;unfold b6;exact⟨SeqAt.RcAt.bool_int _ _ _,SeqAt.EqAt.bool_int _ _ _,SeqAt.RcNeAt.bool_int _ _ _⟩
  |str y =>
   obtain rfl:=aI.mp rx;obtain rfl:a=Value.bool _:=qx;obtain rfl:=Rep.str_iff.mp ry;obtain⟨ty,rfl⟩:∃t,b=Value.str _ t:=qy;unfold b6;exact⟨SeqAt.RcAt.bool_str _ _ _,SeqAt.EqAt.bool_str _ _ _,SeqAt.RcNeAt.bool_str _ _ _⟩
  |lst y =>
   obtain rfl:=aI.mp rx;obtain rfl:a=Value.bool _:=qx;obtain⟨ly,_,_,rfl,rfl,_,_,_,hy,_⟩:=aS I ry qy;unfold b6;exact⟨SeqAt.RcAt.bool_list _ hy hu,SeqAt.EqAt.bool_list _ hy hu,SeqAt.RcNeAt.bool_list _ hy hu⟩
  |tup y =>
   obtain rfl:=aI.mp rx;obtain rfl:a=Value.bool _:=qx;obtain⟨ly,_,_,rfl,rfl,_,_,_,hy,_⟩:=aV I ry qy;unfold b6;exact⟨SeqAt.RcAt.bool_tuple _ hy hu,SeqAt.EqAt.bool_tuple _ hy hu,SeqAt.RcNeAt.bool_tuple _ hy hu⟩
  |dic ks ds=>exact absurd rfl (d2 ks ds)|exc c=>exact absurd rfl (x2 c)|ob k c=>exact absurd rfl (o2 k c)
 |int x =>
  cases y with
  |non =>
   obtain rfl:=au.mp rx;obtain⟨tx,rfl⟩:∃t,a=Value.int _ t:=qx;obtain rfl:=aL.mp ry;obtain rfl:b=Value.none:=qy;unfold b6;exact⟨SeqAt.RcAt.int_none _ _,SeqAt.EqAt.int_none _ _,SeqAt.RcNeAt.int_none _ _⟩
  |bl y =>
   obtain rfl:=au.mp rx;obtain⟨tx,rfl⟩:∃t,a=Value.int _ t:=qx;obtain rfl:=aI.mp ry;obtain rfl:b=Value.bool _:=qy;unfold b6;exact⟨SeqAt.RcAt.int_bool _ _ _,SeqAt.EqAt.int_bool _ _ _,SeqAt.RcNeAt.int_bool _ _ _⟩
  |int y =>
   obtain rfl:=au.mp rx;obtain⟨tx,rfl⟩:∃t,a=Value.int _ t:=qx;obtain rfl:=au.mp ry;obtain⟨ty,rfl⟩:∃t,b=Value.int _ t:=qy;unfold b6;exact⟨SeqAt.RcAt.int_int _ _ _ _,SeqAt.EqAt.int_int _ _ _ _,SeqAt.RcNeAt.int_int _ _ _ _⟩
  |str y =>
   obtain rfl:=au.mp rx;obtain⟨tx,rfl⟩:∃t,a=Value.int _ t:=qx;obtain rfl:=Rep.str_iff.mp ry;obtain⟨ty,rfl⟩:∃t,b=Value.str _ t:=qy;unfold b6;exact⟨SeqAt.RcAt.int_str _ _ _ _,SeqAt.EqAt.int_str _ _ _ _,SeqAt.RcNeAt.int_str _ _ _ _⟩
  |lst y =>
   obtain rfl:=au.mp rx;obtain⟨tx,rfl⟩:∃t,a=Value.int _ t:=qx;obtain⟨ly,_,_,rfl,rfl,_,_,_,hy,_⟩:=aS I ry qy;unfold b6;exact⟨SeqAt.RcAt.int_list _ _ hy hu,SeqAt.EqAt.int_list _ _ hy hu,SeqAt.RcNeAt.int_list _ _ hy hu⟩
  |tup y =>
   obtain rfl:=au.mp rx;obtain⟨tx,rfl⟩:∃t,a=Value.int _ t:=qx;obtain⟨ly,_,_,rfl,rfl,_,_,_,hy,_⟩:=aV I ry qy;unfold b6;exact⟨SeqAt.RcAt.int_tuple _ _ hy hu,SeqAt.EqAt.int_tuple _ _ hy hu,SeqAt.RcNeAt.int_tuple _ _ hy hu⟩
  |dic ks ds=>exact absurd rfl (d2 ks ds)|exc c=>exact absurd rfl (x2 c)|ob k c=>exact absurd rfl (o2 k c)
 |str x =>
  cases y with
  |non =>
   obtain rfl:=Rep.str_iff.mp rx;obtain⟨tx,rfl⟩:∃t,a=Value.str _ t:=qx;obtain rfl:=aL.mp ry;obtain rfl:b=Value.none:=qy;unfold b6;exact⟨SeqAt.RcAt.str_none _ _,SeqAt.EqAt.str_none _ _,SeqAt.RcNeAt.str_none _ _⟩
  |bl y =>
   obtain rfl:=Rep.str_iff.mp rx;obtain⟨tx,rfl⟩:∃t,a=Value.str _ t:=qx;obtain rfl:=aI.mp ry;obtain rfl:b=Value.bool _:=qy;unfold b6;exact⟨SeqAt.RcAt.str_bool _ _ _,SeqAt.EqAt.str_bool _ _ _,SeqAt.RcNeAt.str_bool _ _ _⟩
  |int y =>
   obtain rfl:=Rep.str_iff.mp rx;obtain⟨tx,rfl⟩:∃t,a=Value.str _ t:=qx;obtain rfl:=au.mp ry;obtain⟨ty,rfl⟩:∃t,b=Value.int _ t:=qy;unfold b6;exact⟨SeqAt.RcAt.str_int _ _ _ _,SeqAt.EqAt.str_int _ _ _ _,SeqAt.RcNeAt.str_int _ _ _ _⟩
  |str y =>
   obtain rfl:=Rep.str_iff.mp rx;obtain⟨tx,rfl⟩:∃t,a=Value.str _ t:=qx;obtain rfl:=Rep.str_iff.mp ry;obtain⟨ty,rfl⟩:∃t,b=Value.str _ t:=qy;unfold b6;exact⟨SeqAt.RcAt.str_str _ _ _ _,SeqAt.EqAt.str_str _ _ _ _,SeqAt.RcNeAt.str_str _ _ _ _⟩
  |lst y =>
   obtain rfl:=Rep.str_iff.mp rx;obtain⟨tx,rfl⟩:∃t,a=Value.str _ t:=qx;obtain⟨ly,_,_,rfl,rfl,_,_,_,hy,_⟩:=aS I ry qy;unfold b6;exact⟨SeqAt.RcAt.str_list _ _ hy hu,SeqAt.EqAt.str_list _ _ hy hu,SeqAt.RcNeAt.str_list _ _ hy hu⟩
  |tup y =>
   obtain rfl:=Rep.str_iff.mp rx;obtain⟨tx,rfl⟩:∃t,a=Value.str _ t:=qx;obtain⟨ly,_,_,rfl,rfl,_,_,_,hy,_⟩:=aV I ry qy;unfold b6;exact⟨SeqAt.RcAt.str_tuple _ _ hy hu,SeqAt.EqAt.str_tuple _ _ hy hu,SeqAt.RcNeAt.str_tuple _ _ hy hu⟩
  |dic ks ds=>exact absurd rfl (d2 ks ds)|exc c=>exact absurd rfl (x2 c)|ob k c=>exact absurd rfl (o2 k c)
 |lst x =>
  cases y with
  |non =>
   obtain⟨lx,_,_,rfl,rfl,_,_,_,hx,_⟩:=aS I rx qx;obtain rfl:=aL.mp ry;obtain rfl:b=Value.none:=qy;unfold b6;exact⟨SeqAt.RcAt.list_none  hx hu,SeqAt.EqAt.list_none  hx hu,SeqAt.RcNeAt.list_none  hx hu⟩
  |bl y =>
   obtain⟨lx,_,_,rfl,rfl,_,_,_,hx,_⟩:=aS I rx qx;obtain rfl:=aI.mp ry;obtain rfl:b=Value.bool _:=qy;unfold b6;exact⟨SeqAt.RcAt.list_bool _ hx hu,SeqAt.EqAt.list_bool _ hx hu,SeqAt.RcNeAt.list_bool _ hx hu⟩
  |int y =>
   obtain⟨lx,_,_,rfl,rfl,_,_,_,hx,_⟩:=aS I rx qx;obtain rfl:=au.mp ry;obtain⟨ty,rfl⟩:∃t,b=Value.int _ t:=qy;unfold b6;exact⟨SeqAt.RcAt.list_int _ _ hx hu,SeqAt.EqAt.list_int _ _ hx hu,SeqAt.RcNeAt.list_int _ _ hx hu⟩
  |str y =>
   obtain⟨lx,_,_,rfl,rfl,_,_,_,hx,_⟩:=aS I rx qx;obtain rfl:=Rep.str_iff.mp ry;obtain⟨ty,rfl⟩:∃t,b=Value.str _ t:=qy;unfold b6;exact⟨SeqAt.RcAt.list_str _ _ hx hu,SeqAt.EqAt.list_str _ _ hx hu,SeqAt.RcNeAt.list_str _ _ hx hu⟩
  |lst y =>
   exact absurd ⟨rfl,rfl⟩ (n1 x y)
  |tup y =>
   obtain⟨lx,_,_,rfl,rfl,_,_,_,hx,_⟩:=aS I rx qx;obtain⟨ly,_,_,rfl,rfl,_,_,_,hy,_⟩:=aV I ry qy;unfold b6;exact⟨SeqAt.RcAt.list_tuple  hx hy hu,SeqAt.EqAt.list_tuple  hx hy hu,SeqAt.RcNeAt.list_tuple  hx hy hu⟩
  |dic ks ds=>exact absurd rfl (d2 ks ds)|exc c=>exact absurd rfl (x2 c)|ob k c=>exact absurd rfl (o2 k c)
 |tup x =>
  cases y with
  |non =>
   obtain⟨lx,_,_,rfl,rfl,_,_,_,hx,_⟩:=aV I rx qx;obtain rfl:=aL.mp ry;obtain rfl:b=Value.none:=qy;unfold b6;exact⟨SeqAt.RcAt.tuple_none  hx hu,SeqAt.EqAt.tuple_none  hx hu,SeqAt.RcNeAt.tuple_none  hx hu⟩
  |bl y =>
   obtain⟨lx,_,_,rfl,rfl,_,_,_,hx,_⟩:=aV I rx qx;obtain rfl:=aI.mp ry;obtain rfl:b=Value.bool _:=qy;unfold b6;exact⟨SeqAt.RcAt.tuple_bool _ hx hu,SeqAt.EqAt.tuple_bool _ hx hu,SeqAt.RcNeAt.tuple_bool _ hx hu⟩
  |int y =>
   obtain⟨lx,_,_,rfl,rfl,_,_,_,hx,_⟩:=aV I rx qx;obtain rfl:=au.mp ry;obtain⟨ty,rfl⟩:∃t,b=Value.int _ t:=qy;unfold b6;exact⟨SeqAt.RcAt.tuple_int _ _ hx hu,SeqAt.EqAt.tuple_int _ _ hx hu,SeqAt.RcNeAt.tuple_int _ _ hx hu⟩
  |str y =>
   obtain⟨lx,_,_,rfl,rfl,_,_,_,hx,_⟩:=aV I rx qx;obtain rfl:=Rep.str_iff.mp ry;obtain⟨ty,rfl⟩:∃t,b=Value.str _ t:=qy;unfold b6;exact⟨SeqAt.RcAt.tuple_str _ _ hx hu,SeqAt.EqAt.tuple_str _ _ hx hu,SeqAt.RcNeAt.tuple_str _ _ hx hu⟩
  |lst y =>
   obtain⟨lx,_,_,rfl,rfl,_,_,_,hx,_⟩:=aV I rx qx;obtain⟨ly,_,_,rfl,rfl,_,_,_,hy,_⟩:=aS I ry qy;unfold b6;exact⟨SeqAt.RcAt.tuple_list  hx hy hu,SeqAt.EqAt.tuple_list  hx hy hu,SeqAt.RcNeAt.tuple_list  hx hy hu⟩
  |tup y =>
   exact absurd ⟨rfl,rfl⟩ (n2 x y)
  |dic ks ds=>exact absurd rfl (d2 ks ds)|exc c=>exact absurd rfl (x2 c)|ob k c=>exact absurd rfl (o2 k c)
 |dic ks ds=>exact absurd rfl (d1 ks ds)
 |exc c=>exact absurd rfl (x1 c)
 |ob k c=>exact absurd rfl (o1 k c)
theorem Gp(I:Inv X pins σ H s):∀(n:Nat) (A:Around),A.units+n<cLine->∀(x y:D) (v u:V) (a b:Value),aZ n x=true->aZ n y=true->Rep X.K H x v->Rep X.K H y u->aX v a->aX u b ->
  SeqAt.RcAt A s a b (b6 x y)/\SeqAt.EqAt A s a b (b6 x y)/\SeqAt.RcNeAt A s a b (!(b6 x y)):=by
 have nd:∀m ks ds,aZ m (.dic ks ds)=true->False:=λm ks ds h=>by cases m<;>(unfold aZ at h;cases h)
 have nx:∀m x,aZ m (.exc x)=true->False:=λm x h=>by cases m<;>(unfold aZ at h;cases h)
 have nb:∀m k x,aZ m (.ob k x)=true->False:=λm k x h=>by cases m<;>(unfold aZ at h;cases h)
 intro n
 induction n with
 |zero =>
  intro A hu x y v u a b sx sy rx ry qa qb;refine uP I (by omega) rx ry qa qb (λds ds' z=>?_) (λds ds' z=>?_) (λks ds z=>?_) (λks ds z=>?_) (λc z=>nx _ _ (z▸sx)) (λc z=>nx _ _ (z▸sy)) (λk c z=>nb _ _ _ (z▸sx)) (λk c z=>nb _ _ _ (z▸sy))
  .rw[z.1] at sx;unfold aZ at sx;cases sx
  .rw[z.1] at sx;unfold aZ at sx;cases sx
  .rw[z] at sx;exact nd _ _ _ sx
  .rw[z] at sy;exact nd _ _ _ sy
 |succ n ih =>
  intro A hu x y v u a b sx sy rx ry qa qb;have ih':∀(x y:D) (v u:V) (a b:Value),aZ n x=true->aZ n y=true->Rep X.K H x v->Rep X.K H y u->aX v a->aX u b->SeqAt.EqAt A.in1 s a b (b6 x y) :=
   λx y v u a b s1 s2 r1 r2 q1 q2=>(ih A.in1 (by show A.units+1+n<cLine;omega) x y v u a b s1 s2 r1 r2 q1 q2).2.1
  by_cases t1:∃ds ds',x=.tup ds/\y=.tup ds'
  .obtain⟨xs,ys,rfl,rfl⟩:=t1
   obtain⟨l,vs,is,rfl,rfl,h1,h2,h3,h4,h5⟩:=aV I rx qa;obtain⟨m,us,js,rfl,rfl,k1,k2,k3,k4,k5⟩:=aV I ry qb;have hsx:=sx;have hsy:=sy;unfold aZ at sx sy;have each:=vt (A:=A) ih' sx sy h2 k2 h3 k3;have eall:b6 (.tup xs) (.tup ys)=((List.range (min is.toArray.size js.toArray.size)).all (λj=>b6 (xs.getD j .non) (ys.getD j .non))&&is.toArray.size==js.toArray.size):=by
    rw[Ew];simp only[List.size_toArray,←h5,←k5]
    by_cases hl:xs.length=ys.length
    .rw[jz xs ys hl,←hl,Nat.min_self,beq_self_eq_true,Bool.and_true]
    .rw[kW xs ys hl,beq_eq_false_iff_ne.mpr hl,Bool.and_false]
   refine⟨?_,?_,?_⟩
   .rw[eall];exact SeqAt.RcAt.tuples h4 k4 (by omega) each
   .by_cases hlm:l=m
    .subst hlm
     rw[Rep.inj I (n+1) _ _ _ hsx hsy rx ry,iy (n+1) _ hsy];exact SeqAt.EqAt.same _
    .refine SeqAt.EqAt.of_refs hlm ?_
     rw[eall];exact SeqAt.RcAt.tuples h4 k4 (by omega) each
   .rw[eall];exact SeqAt.RcNeAt.tuples h4 k4 (by omega) each
  .by_cases t2:∃ds ds',x=.lst ds/\y=.lst ds'
   .obtain⟨xs,ys,rfl,rfl⟩:=t2
    obtain⟨l,vs,is,rfl,rfl,h1,h2,h3,h4,h5⟩:=aS I rx qa;obtain⟨m,us,js,rfl,rfl,k1,k2,k3,k4,k5⟩:=aS I ry qb;have hsx:=sx;have hsy:=sy;unfold aZ at sx sy;have each:=vt (A:=A) ih' sx sy h2 k2 h3 k3
    by_cases hl:xs.length=ys.length
    .have hsz:is.toArray.size=js.toArray.size:=by simp only[List.size_toArray];omega
     have eall:b6 (.lst xs) (.lst ys)=(List.range is.toArray.size).all (λj=>b6 (xs.getD j .non) (ys.getD j .non)):=by
      rw[tY];simp only[List.size_toArray,←h5];exact jz xs ys hl
     refine⟨?_,?_,?_⟩
     .rw[eall];exact SeqAt.RcAt.lists h4 k4 hsz (by omega) each
     .by_cases hlm:l=m
      .subst hlm
       rw[Rep.inj I (n+1) _ _ _ hsx hsy rx ry,iy (n+1) _ hsy];exact SeqAt.EqAt.same _
      .refine SeqAt.EqAt.of_refs hlm ?_
       rw[eall];exact SeqAt.RcAt.lists h4 k4 hsz (by omega) each
     .rw[eall];exact SeqAt.RcNeAt.lists h4 k4 hsz (by omega) each
    .have hsz:(is.toArray.size != js.toArray.size)=true:=by simp only[List.size_toArray,bne_iff_ne,ne_eq];omega
     have eall:b6 (.lst xs) (.lst ys)=false:=by rw[tY];exact kW xs ys hl
     rw[eall];refine⟨SeqAt.RcAt.lists_lengths h4 k4 hsz (by omega),?_,SeqAt.RcNeAt.lists_lengths h4 k4 hsz (by omega)⟩;refine SeqAt.EqAt.of_refs (λe=>?_) (SeqAt.RcAt.lists_lengths h4 k4 hsz (by omega));subst e;have:=Rep.inj I (n+1) _ _ _ hsx hsy rx ry;cases this;exact hl rfl
   .exact uP I (by omega) rx ry qa qb (λds ds' z=>t2 ⟨ds,ds',z⟩) (λds ds' z=>t1 ⟨ds,ds',z⟩) (λks ds z=>by rw[z] at sx;exact nd _ _ _ sx) (λks ds z=>by rw[z] at sy;exact nd _ _ _ sy) (λc z=>nx _ _ (z▸sx)) (λc z=>nx _ _ (z▸sy)) (λk c z=>nb _ _ _ (z▸sx)) (λk c z=>nb _ _ _ (z▸sy))
end
section
variable {X:Cx}{E:XK}
noncomputable def gR(x y:D):ai D:=if aZ 40 x=true/\aZ 40 y=true then .ok (.bl (b6 x y)) else .stuck
noncomputable def i5(x y:D):ai D:=if aZ 40 x=true/\aZ 40 y=true then .ok (.bl (!(b6 x y))) else .stuck
noncomputable def IJ(K:W.Frag):R2:=λv u H Q=>∃x y,Rep K H x v/\Rep K H y u/\aZ 40 x=true/\aZ 40 y=true/\Q (.bl (b6 x y)) H
noncomputable def IE(K:W.Frag):R2:=λv u H Q=>∃x y,Rep K H x v/\Rep K H y u/\aZ 40 x=true/\aZ 40 y=true/\Q (.bl (!(b6 x y))) H
theorem dh(hu:X.A.units+64<cLine):eE X (compareOp .Eq) (IJ X.K):=by
 intro pins s σ H x y v u Q I rx ry h;obtain⟨d,d',h1,h2,s1,s2,q⟩:=h;exact(Gp I 40 X.A (by omega) d d' x y v u s1 s2 h1 h2 rx ry).1 _ _ _ _ ⟨.bl _,H,I,rfl,q⟩
theorem gr(hu:X.A.units+64<cLine):eE X (compareOp .NotEq) (IE X.K):=by
 intro pins s σ H x y v u Q I rx ry h;obtain⟨d,d',h1,h2,s1,s2,q⟩:=h;exact(Gp I 40 X.A (by omega) d d' x y v u s1 s2 h1 h2 rx ry).2.2 _ _ _ _ ⟨.bl _,H,I,rfl,q⟩
theorem eL:qL X.K E (IJ X.K) gR:=by
 intro x y v u H Ha Q hs r1 r2 q;unfold gR at q
 by_cases c:aZ 40 x=true/\aZ 40 y=true
 .rw[if_pos c] at q
  exact⟨x,y,r1.mono hs,r2.mono hs,c.1,c.2,q _ H Ha (aU.refl hs) (aI.mpr rfl)⟩
 .rw[if_neg c] at q;exact q.elim
theorem jX:qL X.K E (IE X.K) i5:=by
 intro x y v u H Ha Q hs r1 r2 q;unfold i5 at q
 by_cases c:aZ 40 x=true/\aZ 40 y=true
 .rw[if_pos c] at q
  exact⟨x,y,r1.mono hs,r2.mono hs,c.1,c.2,q _ H Ha (aU.refl hs) (aI.mpr rfl)⟩
 .rw[if_neg c] at q;exact q.elim
open Classical in
noncomputable def i9(K:W.Frag) (H:Hp) (ds:List D) (x:D) (u:Value):Bool :=
 if h:∃d,d∈ds/\∃v,Rep K H d v/\aX v u then b6 h.choose x else false
theorem za(I:Inv X pins σ H s)(sd:ds.all (aZ 40)=true)(hd:d∈ds)(r:Rep X.K H d v)(q:aX v u):i9 X.K H ds x u=b6 d x:=by
 have h:∃d,d∈ds/\∃v,Rep X.K H d v/\aX v u:=⟨d,hd,v,r,q⟩
 unfold i9;rw[dif_pos h];obtain⟨h1,v',h2,h3⟩:=h.choose_spec;have e:v'=v:=h3.inj q;subst e;rw[Rep.inj I 40 _ _ _ (List.all_eq_true.mp sd _ h1) (List.all_eq_true.mp sd _ hd) h2 r]
noncomputable def xf(K:W.Frag) (neg:Bool):R2:=λv u H Q=>∃x ds,Rep K H x v/\(Rep K H (.lst ds) u∨Rep K H (.tup ds) u)/\aZ 40 x=true/\ds.all (aZ 40)=true/\Q (.bl (if neg then !(ds.any λd=>b6 d x) else ds.any λd=>b6 d x)) H
theorem iJ{pins:List (Addr×Obj)}{σ:L2.St}{H:Hp}{s:Shared}(I:Inv X pins σ H s){x:D}{es:List D}(se:es.all (aZ 40)=true):∀{ds:List D}{vs:List V}{us:List Value},(∀d∈ds,d∈es)->Reps X.K H ds vs->bz vs us->us.any (i9 X.K H es x)=ds.any λd=>b6 d x
 |[],_,_,_,h,q=>by
  rw[Reps.nil_iff.mp h] at q;cases q;rfl
 |d::ds,_,_,hm,h,q=>by
  obtain⟨v,r,rfl,h1,h2⟩:=aE.mp h;cases q with
  |cons q1 q2 =>
   rw[List.any_cons,List.any_cons,za I se (hm d List.mem_cons_self) h1 q1,iJ I se (λx hx=>hm x (List.mem_cons_of_mem _ hx)) h2 q2]
theorem fS{pins:List (Addr×Obj)}{σ:L2.St}{H:Hp}{s:Shared}(I:Inv X pins σ H s)(hu:X.A.units+64<cLine){x:D}{v:V}{u:Value}(sx:aZ 40 x=true)(rx:Rep X.K H x v)(qx:aX v u){es:List D}(se:es.all (aZ 40)=true):∀{ds:List D}{vs:List V}{us:List Value},(∀d∈ds,d∈es)->Reps X.K H ds vs->bz vs us->∀y∈us,SeqAt.EqAt X.A.in1 s y u (i9 X.K H es x y)
 |[],_,_,_,h,q=>λy hy=>by
  rw[Reps.nil_iff.mp h] at q;cases q;cases hy
 |d::ds,_,_,hm,h,q=>λy hy=>by
  obtain⟨w,r,rfl,h1,h2⟩:=aE.mp h;cases q with
  |cons q1 q2 =>
   rcases List.mem_cons.mp hy with rfl|hy
   .rw[za I se (hm d List.mem_cons_self) h1 q1]
    exact(Gp I 40 X.A.in1 (by show X.A.units+1+40<cLine;omega) d x w v _ u (List.all_eq_true.mp se _ (hm d List.mem_cons_self)) sx h1 rx q1 qx).2.1
   .exact fS I hu sx rx qx se (λx hx=>hm x (List.mem_cons_of_mem _ hx)) h2 q2 y hy
theorem GP(hu:X.A.units+64<cLine):eE X (compareOp .In) (xf X.K false):=by
 intro pins s σ H x y v u Q I rx ry h;obtain⟨d,ds,h1,h2,s1,s2,q⟩:=h;rcases h2 with h2|h2
 .obtain⟨a,vs,its,rfl,rfl,k1,k2,k3,k4,k5⟩:=aS I h2 ry
  refine SeqAt.in_listAt (i9 X.K H ds d) k4 (λw hw=>fS I hu s1 h1 rx s2 (λ_ z=>z) k2 k3 w (by simpa using hw)) ⟨.bl _,H,I,rfl,?_⟩;rw[show its.toArray.any (i9 X.K H ds d)=its.any (i9 X.K H ds d) by simp,iJ I s2 (λ_ z=>z) k2 k3];exact q
 .obtain⟨a,vs,its,rfl,rfl,k1,k2,k3,k4,k5⟩:=aV I h2 ry
  refine SeqAt.in_tupleAt (i9 X.K H ds d) k4 (λw hw=>fS I hu s1 h1 rx s2 (λ_ z=>z) k2 k3 w (by simpa using hw)) ⟨.bl _,H,I,rfl,?_⟩;rw[show its.toArray.any (i9 X.K H ds d)=its.any (i9 X.K H ds d) by simp,iJ I s2 (λ_ z=>z) k2 k3];exact q
theorem Ad(hu:X.A.units+64<cLine):eE X (compareOp .NotIn) (xf X.K true):=by
 intro pins s σ H x y v u Q I rx ry h;obtain⟨d,ds,h1,h2,s1,s2,q⟩:=h;rcases h2 with h2|h2
 .obtain⟨a,vs,its,rfl,rfl,k1,k2,k3,k4,k5⟩:=aS I h2 ry
  refine SeqAt.notIn_listAt (i9 X.K H ds d) k4 (λw hw=>fS I hu s1 h1 rx s2 (λ_ z=>z) k2 k3 w (by simpa using hw)) ⟨.bl _,H,I,rfl,?_⟩;rw[show its.toArray.any (i9 X.K H ds d)=its.any (i9 X.K H ds d) by simp,iJ I s2 (λ_ z=>z) k2 k3];exact q
 .obtain⟨a,vs,its,rfl,rfl,k1,k2,k3,k4,k5⟩:=aV I h2 ry
  refine SeqAt.notIn_tupleAt (i9 X.K H ds d) k4 (λw hw=>fS I hu s1 h1 rx s2 (λ_ z=>z) k2 k3 w (by simpa using hw)) ⟨.bl _,H,I,rfl,?_⟩;rw[show its.toArray.any (i9 X.K H ds d)=its.any (i9 X.K H ds d) by simp,iJ I s2 (λ_ z=>z) k2 k3];exact q
noncomputable def Jf(i j:Str):Bool:=!(Builtin.Str.occurrences j i 0 j.length 1).isEmpty
noncomputable def Ce(x y:D):Option Bool:=match y with
 |.lst ds=>if aZ 40 x=true/\ds.all (aZ 40)=true then some (ds.any λd=>b6 d x) else none
 |.tup ds=>if aZ 40 x=true/\ds.all (aZ 40)=true then some (ds.any λd=>b6 d x) else none
 |.str j=>match x with
  |.str i=>some (Jf i j)
  |_=>none
 |_=>none
noncomputable def we(x y:D):ai D:=match Ce x y with
 |some b=>.ok (.bl b)
 |none=>.stuck
noncomputable def cZ(x y:D):ai D:=match Ce x y with
 |some b=>.ok (.bl (!b))
 |none=>.stuck
noncomputable def Bu(neg:Bool):R2:=λx y H Q=>∃i j,x=.str i/\y=.str j/\Q (.bl (if neg then !(Jf i j) else Jf i j)) H
theorem oj(hu:X.A.units+64<cLine):eE X (compareOp .In) (λv u H Q=>xf X.K false v u H Q∨Bu false v u H Q):=eE.or (GP hu) (by
 intro pins s σ H x y v u Q I rx ry h;obtain⟨i,j,rfl,rfl,q⟩:=h;exact Ae pins s σ H _ _ v u Q I rx ry ⟨i,j,rfl,rfl,q⟩)
theorem g6(hu:X.A.units+64<cLine):eE X (compareOp .NotIn) (λv u H Q=>xf X.K true v u H Q∨Bu true v u H Q):=eE.or (Ad hu) (by
 intro pins s σ H x y v u Q I rx ry h;obtain⟨i,j,rfl,rfl,q⟩:=h;exact tH pins s σ H _ _ v u Q I rx ry ⟨i,j,rfl,rfl,q⟩)
theorem vc(hs:aA Ha H)(r1:Rep X.K Ha x v)(r2:Rep X.K Ha y u)
  (q:post X.K E H Ha (match Ce x y with|some b=>.ok (.bl (if neg then !b else b))|none=>.stuck) Q):xf X.K neg v u H Q∨Bu neg v u H Q:=by
 cases y with
 |lst ds =>
  simp only[Ce] at q
  by_cases c:aZ 40 x=true/\ds.all (aZ 40)=true
  .rw[if_pos c] at q
   exact .inl ⟨x,ds,r1.mono hs,.inl (r2.mono hs),c.1,c.2,q _ H Ha (aU.refl hs) (aI.mpr rfl)⟩
  .rw[if_neg c] at q;exact q.elim
 |tup ds =>
  simp only[Ce] at q
  by_cases c:aZ 40 x=true/\ds.all (aZ 40)=true
  .rw[if_pos c] at q
   exact .inl ⟨x,ds,r1.mono hs,.inr (r2.mono hs),c.1,c.2,q _ H Ha (aU.refl hs) (aI.mpr rfl)⟩
  .rw[if_neg c] at q;exact q.elim
 |str j =>
  cases x with|str i=>exact .inr ⟨i,j,Rep.str_iff.mp r1,Rep.str_iff.mp r2,q _ H Ha (aU.refl hs) (aI.mpr rfl)⟩| _=>exact q.elim
 |_=>exact q.elim
theorem oC:qL X.K E (λv u H Q=>xf X.K false v u H Q∨Bu false v u H Q) we:=λx y v u H Ha Q hs r1 r2 q=>vc (neg:=false) (E:=E) hs r1 r2 (by
 unfold we at q;cases e:Ce x y with
 |none=>rw[e] at q;exact q
 |some b=>rw[e] at q;exact q)
theorem ia:qL X.K E (λv u H Q=>xf X.K true v u H Q∨Bu true v u H Q) cZ:=λx y v u H Ha Q hs r1 r2 q=>vc (neg:=true) (E:=E) hs r1 r2 (by
 unfold cZ at q;cases e:Ce x y with
 |none=>rw[e] at q;exact q
 |some b=>rw[e] at q;exact q)
end
@[irreducible] def B9:Nat:=2 ^ 9000
@[irreducible] def nQ:Nat:=2 ^ 13500
@[irreducible] def wL:Nat:=2 ^ 60000
theorem zL:B9=2 ^ 9000:=by unfold B9;rfl
theorem my:nQ=2 ^ 13500:=by unfold nQ;rfl
theorem mw:wL=2 ^ 60000:=by unfold wL;rfl
theorem oI{n k:Nat}(h:n<2 ^ k)(hk:0<k):n.log2<k:=by
 by_cases h0:n=0
 .rw[h0]
  have:Nat.log2 0=0:=by decide
  omega
 .exact(Nat.log2_lt h0).mpr h
theorem Ji(h:y.natAbs<B9):Builtin.divisionGoesByPylong x y=false:=by
 rw[zL] at h;exact PyProof.noPylong_of_log2 (oI h (by omega))
theorem GQ(h:x.natAbs<nQ):Builtin.divisionGoesByPylong x y=false:=by
 rw[my] at h;have hx:x.natAbs.log2<13500:=oI h (by omega);show(decide ((if y==0 then 0 else y.natAbs.log2 / 30+1) > 300)&&decide ((if x==0 then 0 else x.natAbs.log2 / 30+1) > (if y==0 then 0 else y.natAbs.log2 / 30+1)+150))=false;have k:(if x==0 then 0 else x.natAbs.log2 / 30+1)<=450:=by
  by_cases hx0:(x==0)=true
  .rw[if_pos hx0];omega
  .rw[if_neg hx0];omega
 by_cases c:(if y==0 then 0 else y.natAbs.log2 / 30+1) > 300
 .rw[Bool.and_eq_false_iff];right;exact decide_eq_false (by omega)
 .rw[Bool.and_eq_false_iff];left;exact decide_eq_false c
noncomputable def d5(i j:Int):Bool:=decide (j≠0)&&(decide (j.natAbs<B9)||decide (i.natAbs<nQ))
noncomputable def du(i j:Int):Bool:=decide (i.natAbs<wL)&&decide (j.natAbs<wL)
theorem d5.ok(h:d5 i j=true):j≠0/\Builtin.divisionGoesByPylong i j=false:=by
 unfold d5 at h;rw[Bool.and_eq_true,Bool.or_eq_true] at h;refine⟨of_decide_eq_true h.1,?_⟩;rcases h.2 with h|h
 .exact Ji (of_decide_eq_true h)
 .exact GQ (of_decide_eq_true h)
theorem du.ok(h:du i j=true):IntMulOk i j:=by
 unfold du at h;rw[Bool.and_eq_true] at h;have h1:=of_decide_eq_true h.1;have h2:=of_decide_eq_true h.2;rw[mw] at h1 h2;exact PyProof.Rows.mulOk_of_bits (m:=60000) (n:=60000) (PySem.intBits_le_iff.mpr h1) (PySem.intBits_le_iff.mpr h2) (by decide)
section
variable {X:Cx}{E:XK}{e a b c:Expr}{es:List Expr}{f g k:Ev->ai D}{fa:Ev->ai (List D)}{pos:Pos}
theorem bf{K:W.Frag}(hs:aA Ha H)(q:post K E H Ha (.ok d) Q)(r:Rep K Ha d v):Q v H:=q v H Ha (aU.refl hs) r
noncomputable def vx(c:Int->Int->Bool) (g:Int->Int->D) (x y:D):ai D:=match x,y with
 |.int i,.int j=>if c i j=true then .ok (g i j) else .stuck
 |_,_=>.stuck
theorem tL{c:Int->Int->Bool}{g:Int->Int->D}(hc:∀i j,c i j=true->C i j)(hg:∀K H i j,Rep K H (g i j) (gv i j)):qL X.K E (rI C gv) (vx c g):=by
 intro x y v u H Ha Q hs r1 r2 q;unfold vx at q;cases x with
 |int i =>
  cases y with
  |int j =>
   by_cases h:c i j=true
   .simp only[if_pos h] at q
    exact⟨i,j,au.mp r1,au.mp r2,hc i j h,bf hs q (hg _ _ i j)⟩
   .simp only[if_neg h] at q;exact q.elim
  |_=>exact q.elim
 |_=>exact q.elim
theorem c5{g:Int->Int->D}(hg:∀K H i j,Rep K H (g i j) (gv i j)):qL X.K E (C4 gv) (vx (λ_ _=>true) g):=by
 intro x y v u H Ha Q hs r1 r2 q;unfold vx at q;cases x with
 |int i =>
  cases y with|int j=>simp only[if_pos] at q;exact⟨i,j,au.mp r1,au.mp r2,bf hs q (hg _ _ i j)⟩| _=>exact q.elim
 |_=>exact q.elim
theorem ri{K:W.Frag}(n:Int):Rep K H (.int n) (.int n):=au.mpr rfl
theorem rb{K:W.Frag}(n:Bool):Rep K H (.bl n) (.bl n):=aI.mpr rfl
noncomputable abbrev jE:=vx (λ_ _=>true) λi j=>.int (i-j)
noncomputable abbrev lp:=vx d5 λi j=>.int (i.fdiv j)
noncomputable abbrev cN:=vx (λ_ j=>decide (j≠0)) λi j=>.int (i.fmod j)
noncomputable abbrev qY:=vx (λi j=>decide (0<=j)&&decide (j<=1000000)&&decide (i.natAbs<18446744073709551616)) λi j=>.int (i ^ j.toNat)
noncomputable abbrev Ic:=vx (λ_ _=>true) λi j=>.bl (decide (i<j))
noncomputable abbrev J9:=vx (λ_ _=>true) λi j=>.bl (decide (i<=j))
noncomputable abbrev Hw:=vx (λ_ _=>true) λi j=>.bl (decide (j<i))
noncomputable abbrev K4:=vx (λ_ _=>true) λi j=>.bl (decide (j<=i))
theorem D9:eE X (binaryOp .Mult) (rI IntMulOk λi j=>.int (i*j)):=J6 λ_ _ _ _ _ _ _ hc q=>mul_int q hc
theorem Ea:eE X (binaryOp .FloorDiv) (rI (λi j=>j≠0/\Builtin.divisionGoesByPylong i j=false) λi j=>.int (i.fdiv j)):=J6 λ_ _ _ _ _ _ _ hc q=>floordiv_int hc.1 q (.inl hc.2)
theorem md(ha:DE X E a f)(hb:DE X E b g):DE X E (.BinOp a .Sub b pos) (ae f g jE):=rZ GN (c5 λ_ _ _ _=>ri _) ha hb
theorem iz(ha:DE X E a f)(hb:DE X E b g):DE X E (.BinOp a .FloorDiv b pos) (ae f g lp):=rZ Ea (tL (λ_ _ h=>d5.ok h) λ_ _ _ _=>ri _) ha hb
theorem eI(ha:DE X E a f)(hb:DE X E b g):DE X E (.BinOp a .Mod b pos) (ae f g cN):=rZ yx (tL (λ_ _ h=>of_decide_eq_true h) λ_ _ _ _=>ri _) ha hb
theorem xK(ha:DE X E a f)(hb:DE X E b g):DE X E (.BinOp a .Pow b pos) (ae f g qY):=rZ GO (tL (λi j h=>by
 rw[Bool.and_eq_true,Bool.and_eq_true] at h;exact⟨of_decide_eq_true h.1.1,of_decide_eq_true h.1.2,of_decide_eq_true h.2⟩) λ_ _ _ _=>ri _) ha hb
theorem nm(h1:op≠.In:=by decide)(h2:op≠.NotIn:=by decide):behindInMarks op b=false:=ve _ h1 h2
noncomputable def JN(x:D):ai D:=match x with
 |.int i=>.ok (.int (-i))
 |_=>.stuck
theorem Ht(ha:DE X E a f):DE X E (.UnaryOp .USub a pos) (cC f JN):=JK F0 (by
 intro x v H Ha Q hs r q;cases x with
 |int i=>exact⟨i,au.mp r,bf hs q (ri _)⟩
 |_=>exact q.elim) ha
theorem yB:eE X (binaryOp .Add) (λx y H Q=>∃l b xs zs,x=.ref l/\y=.ref b/\eD X.K H l xs/\eD X.K H b zs/\xs.length+zs.length<=sizeLine/\∀p,H p=none->Q (.ref p) (upd H p (.lst (xs++zs)))):=by
 intro pins s σ H x y v u Q I rx ry h;obtain⟨l,b,xs,zs,rfl,rfl,hH,hB,hz,q⟩:=h;cases rx;cases ry;obtain⟨its,r,pl,z⟩:=I.list hH;obtain⟨its2,r2,pl2,z2⟩:=I.list hB;obtain⟨⟨cls,dd,data,sl⟩,ho,hc,n,hd⟩:=pl.isList;obtain⟨⟨cls2,dd2,data2,sl2⟩,ho2,hc2,n2,hd2⟩:=pl2.isList;simp only at hc hd hc2 hd2;subst hc hd hc2 hd2;have e:its.toArray++its2.toArray=(its++its2).toArray:=by simp
 have l1:=r.length;have l2:=r2.length;refine concat_meets ⟨_,ho,rfl⟩ ⟨_,ho2,rfl⟩ noFill_list_add seq_list_add PySem.F.slot_list_add PySem.F.entry_list_add (PySem.F.args_list_add_2 _ _) (list_addW l b its.toArray its2.toArray n n2 dd dd2 sl sl2 (by simp only[List.size_toArray];omega)) ⟨ho,ho2,?_⟩;rw[e];exact⟨.ref _,_,I.lnew (t':=s.toks) (r.append r2) (by rw[List.length_append];omega),rfl,q _ I.fresh⟩
noncomputable def cq(x y:D):ai D:=match x,y with
 |.int i,.int j=>.ok (.int (i+j))
 |.str i,.str j=>if i.length+j.length<=line then .ok (.str (i++j)) else .stuck
 |.lst ds,.lst es=>if ds.length+es.length<=line then .ok (.lst (ds++es)) else .stuck
 |.tup ds,.tup es=>if ds.isEmpty=false/\ds.length+es.length<=line then .ok (.tup (ds++es)) else .stuck
 |_,_=>.stuck
theorem dD(ha:DE X E a f)(hb:DE X E b g):DE X E (.BinOp a .Add b pos) (ae f g cq):=rZ (eE.or BU (eE.or oo (eE.or yB yA))) (by
 intro x y v u H Ha Q hs r1 r2 q;unfold cq at q;cases x with
 |int i =>
  cases y with|int j=>exact .inl ⟨i,j,au.mp r1,au.mp r2,bf hs q (ri _)⟩| _=>exact q.elim
 |str i =>
  cases y with
  |str j =>
   by_cases h:i.length+j.length<=line
   .simp only[if_pos h] at q
    exact .inr (.inl ⟨i,j,Rep.str_iff.mp r1,Rep.str_iff.mp r2,c8 h,bf hs q (Rep.str_iff.mpr rfl)⟩)
   .simp only[if_neg h] at q;exact q.elim
  |_=>exact q.elim
 |lst ds =>
  cases y with
  |lst es =>
   by_cases h:ds.length+es.length<=line
   .simp only[if_pos h] at q
    obtain⟨l,vs,rfl,h1,h2⟩:=aH.mp r1;obtain⟨m,us,rfl,k1,k2⟩:=aH.mp r2;refine .inr (.inr (.inl ⟨l,m,vs,us,rfl,rfl,aA.sqL hs h1,aA.sqL hs k1,by rw[←h2.length,←k2.length];exact c8 h,λp hp=>?_⟩));exact q _ _ _ (bo hs hp) (aH.mpr ⟨p,_,rfl,eD.of aB,(h2.app k2).mono (bo hs hp).z⟩)
   .simp only[if_neg h] at q;exact q.elim
  |_=>exact q.elim
 |tup ds =>
  cases y with
  |tup es =>
   by_cases h:ds.isEmpty=false/\ds.length+es.length<=line
   .simp only[if_pos h] at q
    obtain⟨l,vs,rfl,h1,h2⟩:=aJ.mp r1;obtain⟨m,us,rfl,k1,k2⟩:=aJ.mp r2;refine .inr (.inr (.inr ⟨l,m,vs,us,rfl,rfl,aA.sqT hs h1,aA.sqT hs k1,λz=>?_,by rw[←h2.length,←k2.length];exact c8 h.2,λz=>?_,λz p hp=>?_⟩))
    .have:=h2.length
     rw[z] at this;have e:ds=[]:=List.length_eq_zero_iff.mp this;rw[e] at h;exact absurd h.1 (by decide)
    .have:=k2.length
     rw[z] at this;have e:es=[]:=List.length_eq_zero_iff.mp this;rw[e,List.append_nil] at q;exact bf hs q r1
    .exact q _ _ _ (bo hs hp) (aJ.mpr ⟨p,_,rfl,jc.of aB,(h2.app k2).mono (bo hs hp).z⟩)
   .simp only[if_neg h] at q;exact q.elim
  |_=>exact q.elim
 |_=>exact q.elim) ha hb
noncomputable def aN(x y:D):ai D:=match y with
 |.int i=>match x with
  |.lst ds=>match atI ds i with
   |some d=>.ok d
   |none=>.stuck
  |.tup ds=>match atI ds i with
   |some d=>.ok d
   |none=>.stuck
  |.str z=>if z.length<=line then match atI z.cps.toList i with
   |some c=>.ok (.str ⟨#[c]⟩)
   |none=>.stuck else .stuck
  |_=>.stuck
 |_=>.stuck
theorem Reps.atI{K:W.Frag}{vs:List V}(h:Reps K H ds vs)(e:atI ds i=some d):∃v,L2.atI vs i=some v/\Rep K H d v:=by
 unfold L2.atI at e ⊢;rw[←h.length];cases q:xC ds.length i with
 |none=>rw[q] at e;cases e
 |some j =>
  rw[q] at e;exact h.get e
theorem Fh:qL X.K E (Lq X.K) aN:=by
 intro x y v u H Ha Q hs r1 r2 q;unfold aN at q;cases y with
 |int i =>
  cases x with
  |lst ds =>
   obtain⟨l,vs,rfl,h1,h2⟩:=aH.mp r1;cases e:atI ds i with
   |none=>simp only[e] at q;exact q.elim
   |some d =>
    simp only[e] at q;obtain⟨w,e1,e2⟩:=h2.atI e;exact .inl ⟨l,vs,i,w,rfl,au.mp r2,aA.sqL hs h1,e1,bf hs q e2⟩
  |tup ds =>
   obtain⟨l,vs,rfl,h1,h2⟩:=aJ.mp r1;cases e:atI ds i with
   |none=>simp only[e] at q;exact q.elim
   |some d =>
    simp only[e] at q;obtain⟨w,e1,e2⟩:=h2.atI e;exact .inr (.inl ⟨l,vs,i,w,rfl,au.mp r2,aA.sqT hs h1,e1,bf hs q e2⟩)
  |str z =>
   by_cases hz:z.length<=line
   .simp only[if_pos hz] at q
    cases e:atI z.cps.toList i with
    |none=>simp only[e] at q;exact q.elim
    |some c =>
     simp only[e] at q;exact .inr (.inr ⟨z,i,c,Rep.str_iff.mp r1,au.mp r2,c8 hz,e,bf hs q (Rep.str_iff.mpr rfl)⟩)
   .simp only[if_neg hz] at q;exact q.elim
  |_=>exact q.elim
 |_=>exact q.elim
theorem ao(ha:DE X E a f)(hb:DE X E b g)(hs:lF b:=by intro _ _;rfl):DE X E (.Subscript a b pos) (ae f g aN):=JM Cb Fh ha hb hs
noncomputable def eM:Ev->ai (Option Int):=λ_=>.ok none
noncomputable def eu(f:Ev->ai D):Ev->ai (Option Int):=λρ=>(f ρ).bind λx=>match x with
 |.int i=>.ok (some i)
 |_=>.stuck
noncomputable def KA(K:W.Frag) (E:XK) (f:Ev->ai (Option Int)):TO:=λσ H Q=>∃Ha ρ,aA Ha H/\Reads K Ha σ ρ/\match f ρ with
 |.ok o=>∀H' Ha',aU H Ha H' Ha'->Q o H'
 |.exn x=>∀C ox H' Ha',aU H Ha H' Ha'->zJ K Ha' x C ox->E C ox H'
 |.stuck=>False
structure DO (X:Cx) (E:XK) (e:Option Expr) (f:Ev->ai (Option Int)):Prop where
 o:PO X e (KA X.K E f)
theorem yn(h:PO X eo t)(w:∀σ H Q,t' σ H Q->t σ H Q):PO X eo t':=λpins s σ H Q I q=>h pins s σ H Q I (w σ H Q q)
theorem nL:DO X E none eM:=⟨yn DZ λσ H Q ⟨Ha,ρ,hs,hr,q⟩=>q H Ha (aU.refl hs)⟩
theorem nK(ha:DE X E a f):DO X E (some a) (eu f):=by
 refine⟨?_⟩;refine yn (DY ha.o) λσ H Q ⟨Ha,ρ,hs,hr,q⟩=>⟨Ha,ρ,hs,hr,?_⟩
 unfold eu at q;cases e1:f ρ with
 |stuck|exn x=>rw[e1] at q;exact q
 |ok d =>
  rw[e1] at q;intro v H1 H01 g1 r1;cases d with|int i=>exact⟨i,au.mp r1,q H1 H01 g1⟩| _=>exact q.elim
noncomputable def qZ(xs:List D) (lo hi:Option Int):List D:=(xs.drop (HT.sIx xs.length 0 lo)).take (HT.sIx xs.length xs.length hi-HT.sIx xs.length 0 lo)
theorem Reps.cut{K:W.Frag}{vs:List V}(h:Reps K H ds vs)(lo hi:Option Int):Reps K H (qZ ds lo hi) (wj vs lo hi):=by
 unfold qZ wj;rw[←h.length];exact(h.drop _).take _
theorem uL{lo hi:Ev->ai (Option Int)}{m:D->Option Int->Option Int->ai D}
  (ho:∀x v l h H Ha Q,aA Ha H->Rep X.K Ha x v->post X.K E H Ha (m x l h) Q->r v l h H Q)(σ:L2.St)(H:Hp)(Q:VK)
  (h:tD X.K E (λρ=>(f ρ).bind λx=>(lo ρ).bind λl=>(hi ρ).bind λh=>m x l h) σ H Q):Ln r (tD X.K E f) (KA X.K E lo) (KA X.K E hi) σ H Q:=by
 obtain⟨Ha,ρ,hs,hr,q⟩:=h;refine⟨Ha,ρ,hs,hr,?_⟩;replace q:post X.K E H Ha ((f ρ).bind λx=>(lo ρ).bind λl=>(hi ρ).bind λh=>m x l h) Q:=q;cases e1:f ρ with
 |stuck|exn x=>rw[e1] at q;exact q
 |ok x =>
  rw[e1] at q;intro v H1 H01 g1 r1;refine⟨H01,ρ,g1.sub,hr.mono g1.z,?_⟩;replace q:post X.K E H Ha ((lo ρ).bind λl=>(hi ρ).bind λh=>m x l h) Q:=q;replace q:=q.grow g1;cases e2:lo ρ with
  |stuck|exn x=>rw[e2] at q;exact q
  |ok l =>
   rw[e2] at q;intro H2 H02 g2;refine⟨H02,ρ,g2.sub,(hr.mono g1.z).mono g2.z,?_⟩;replace q:post X.K E H1 H01 ((hi ρ).bind λh=>m x l h) Q:=q;replace q:=q.grow g2;cases e3:hi ρ with
   |stuck|exn x=>rw[e3] at q;exact q
   |ok h =>
    rw[e3] at q;intro H3 H03 g3;exact ho x v l h H3 H03 Q g3.sub ((r1.mono g2.z).mono g3.z) (post.grow (r:=m x l h) q g3)
noncomputable def m1(m:D->ai D) (ds:List D):ai D:=match ds with
 |[x]=>m x
 |_=>.stuck
noncomputable def m2(m:D->D->ai D) (ds:List D):ai D:=match ds with
 |[x,y]=>m x y
 |_=>.stuck
theorem wx(h:∀x v H Ha Q,aA Ha H->Rep X.K Ha x v->post X.K E H Ha (m x) Q->r [v] H Q):iM X E r (m1 m):=by
 intro ds vs H Ha Q hs hr q;unfold m1 at q
 match ds,hr,q with
 |[x],hr,q =>
  obtain⟨v,r',rfl,h1,h2⟩:=aE.mp hr;rw[Reps.nil_iff.mp h2];exact h x v H Ha Q hs h1 q
 |[],_,q=>exact q.elim
 |_::_::_,_,q=>exact q.elim
theorem FN(h:∀x y v u H Ha Q,aA Ha H->Rep X.K Ha x v->Rep X.K Ha y u->post X.K E H Ha (m x y) Q->r [v,u] H Q):iM X E r (m2 m):=by
 intro ds vs H Ha Q hs hr q;unfold m2 at q
 match ds,hr,q with
 |[x,y],hr,q =>
  obtain⟨v,r',rfl,h1,h2⟩:=aE.mp hr;obtain⟨u,r'',rfl,h3,h4⟩:=aE.mp h2;rw[Reps.nil_iff.mp h4];exact h x y v u H Ha Q hs h1 h3 q
 |[],_,q=>exact q.elim
 |[_],_,q=>exact q.elim
 |_::_::_::_,_,q=>exact q.elim
noncomputable def AE(x:D):ai D:=match x with
 |.int i=>.ok (.int (if i<0 then -i else i))
 |_=>.stuck
noncomputable def Hv(x y:D):ai D:=match x,y with
 |.int i,.int j=>.ok (.int (if j > i then j else i))
 |_,_=>.stuck
noncomputable def dJ(x:D):ai D:=match x with
 |.lst ds=>.ok (.int ds.length)
 |.tup ds=>.ok (.int ds.length)
 |.str z=>if z.length<=line then .ok (.int z.length) else .stuck
 |_=>.stuck
noncomputable def jF(x:D):ai D:=match x with
 |.int i=>.ok (.int i)
 |.bl b=>.ok (.int (if b then 1 else 0))
 |_=>.stuck
theorem xQ:iM X E (λxs H Q=>∃i,xs=[.int i]/\Q (.int (if i<0 then -i else i)) H) (m1 AE):=wx λx v H Ha Q hs r q=>by
 cases x with|int i=>exact⟨i,by rw[au.mp r],bf hs q (ri _)⟩| _=>exact q.elim
theorem HB:iM X E (λxs H Q=>∃i j,xs=[.int i,.int j]/\Q (.int (if j > i then j else i)) H) (m2 Hv):=FN λx y v u H Ha Q hs r r' q=>by
 cases x with
 |int i =>
  cases y with|int j=>exact⟨i,j,by rw[au.mp r,au.mp r'],bf hs q (ri _)⟩| _=>exact q.elim
 |_=>exact q.elim
theorem dr:iM X E (λxs H Q=>∃x n,xs=[x]/\JV X.K x H n/\Q (.int n) H) (m1 dJ):=wx λx v H Ha Q hs r q=>by
 cases x with
 |lst ds =>
  obtain⟨p,vs,rfl,h1,h2⟩:=aH.mp r;refine⟨_,vs.length,rfl,.inl ⟨vs,aA.sqL hs h1,rfl⟩,?_⟩;rw[←h2.length];exact bf hs q (ri _)
 |tup ds =>
  obtain⟨p,vs,rfl,h1,h2⟩:=aJ.mp r;refine⟨_,vs.length,rfl,.inr ⟨vs,aA.sqT hs h1,rfl⟩,?_⟩;rw[←h2.length];exact bf hs q (ri _)
 |str z =>
  unfold dJ at q
  by_cases hz:z.length<=line
  .simp only[if_pos hz] at q
   rw[Rep.str_iff.mp r];exact⟨_,z.length,rfl,⟨c8 hz,rfl⟩,bf hs q (ri _)⟩
  .simp only[if_neg hz] at q;exact q.elim
 |_=>exact q.elim
theorem HC:iM X E (λxs H Q=>(∃i,xs=[.int i]/\Q (.int i) H)∨∃k,xs=[.bl k]/\Q (.int (if k then 1 else 0)) H) (m1 jF):=wx λx v H Ha Q hs r q=>by
 cases x with|int i=>exact .inl ⟨i,by rw[au.mp r],bf hs q (ri _)⟩|bl i=>exact .inr ⟨i,by rw[aI.mp r],bf hs q (ri _)⟩| _=>exact q.elim
theorem CM(hc:iL X (.type T) r)(hd:iM X E r m)(hg:Gl X x)(hm:X.mg x=none)(hv:bootBuiltins x=some (.type T))(ha:DA X E (e::es) fa)(hn:x≠"__name__":=by decide)(hdb:(x==("__debug__":Str))=false:=by decide)
  (he:starEach (e::es) X.env=(false,eval e X.env)::starEach es X.env:=by exact bw rfl)(hpl:(backTo pos (starEach es X.env)).any (·.1)=false:=by exact cc rfl):DE X E (.Call (.Name x p) (e::es) [] pos) (ar fa m) :=
 ⟨aR (Ab hc hg hm hv ha.o hn hdb he hpl) (i7 hd)⟩
noncomputable def rP:D->Bool
 |.non=>true
 |_=>false
noncomputable def ll(x y:D):ai D:=match y with
 |.non=>.ok (.bl (rP x))
 |_=>.stuck
noncomputable def iA(x y:D):ai D:=match y with
 |.non=>.ok (.bl (!(rP x)))
 |_=>.stuck
theorem Rep.is_non{K:W.Frag}(r:Rep K H x v):decide (v=.non)=rP x:=by
 cases x with|non=>rw[aL.mp r];rfl|bl b=>rw[aI.mp r];rfl|int b=>rw[au.mp r];rfl|str b=>rw[Rep.str_iff.mp r];rfl|tup ds=>obtain⟨_,_,e,_⟩:=aJ.mp r;rw[e];rfl|lst ds=>obtain⟨_,_,e,_⟩:=aH.mp r;rw[e];rfl|dic ks ds=>rw[Rep] at r;obtain⟨_,_,_,e,_⟩:=r;rw[e];rfl|exc x=>obtain⟨_,_,_,e,_⟩:=mZ.mp r;rw[e];rfl|ob k x=>obtain⟨_,_,e,_⟩:=qH.mp r;rw[e];rfl
theorem jx:qL X.K E (λx y H Q=>y=.non/\Q (.bl (decide (x=.non))) H) ll:=by
 intro x y v u H Ha Q hs r1 r2 q;unfold ll at q;cases y with|non=>exact⟨aL.mp r2,by rw[r1.is_non];exact bf hs q (rb _)⟩| _=>exact q.elim
theorem tK:qL X.K E (λx y H Q=>y=.non/\Q (.bl (!decide (x=.non))) H) iA:=by
 intro x y v u H Ha Q hs r1 r2 q;unfold iA at q;cases y with
 |non =>
  refine⟨aL.mp r2,?_⟩;rw[r1.is_non];exact bf hs q (rb _)
 |_=>exact q.elim
noncomputable def wK:D->String
 |.non=>"NoneType"
 |.bl _=>"bool"
 |.int _=>"int"
 |.str _=>"str"
 |.tup _=>"tuple"
 |.lst _=>"list"
 |.dic _ _=>"dict"
 |.exc _=>"<exc>"
 |.ob (.ins _ _) _=>"<exc>"
 |.ob (.dint _) _=>"dict"
 |.ob (.exf _ _) _=>"<exc>"
noncomputable def gF(T:String) (x:D):ai D:=.ok (.bl (wK x==T||(wK x=="bool"&&T=="int")))
noncomputable def qI(K:W.Frag) (T:String):Prop:=∀S,S∈["NoneType","bool","int","str","tuple","list","dict"]->W.kitOne K (.type S) (.type T)=some (S==T||(S=="bool"&&T=="int"))
theorem Cc(I:Inv X pins σ H s)(r:Rep X.K H x v)(q:aX v u)(hk:qI X.K T)(hT:T∈gJ)(h:∀tk,Q (.bool (wK x==T||(wK x=="bool"&&T=="int"))) { s with toks:=tk }) :
  wpAny (model X.prog X.w) A (call (.builtin "isinstance") [u,.type T]) Q X.xe s:=by
 cases x with
 |non=>rw[aL.mp r] at q;exact iR I q .non (hk _ (by simp)) h|bl b=>rw[aI.mp r] at q;exact iR I q (.bl b) (hk _ (by simp)) h|int b=>rw[au.mp r] at q;exact iR I q (.int b) (hk _ (by simp)) h|str b=>rw[Rep.str_iff.mp r] at q;exact iR I q (.str b) (hk _ (by simp)) h
 |tup ds =>
  obtain⟨a,vs,its,rfl,rfl,h1,h2,h3,h4,_⟩:=aV I r q;obtain⟨o,k1,k2,_⟩:=h4;exact W.kia_one W.kitx_tuple I.kIn ⟨o,k1,k2⟩ (hk _ (by simp)) (λz=>nomatch z) h
 |lst ds =>
  obtain⟨a,vs,its,rfl,rfl,h1,h2,h3,h4,_⟩:=aS I r q;obtain⟨o,k1,k2,_⟩:=h4;exact W.kia_one W.kitx_list I.kIn ⟨o,k1,k2⟩ (hk _ (by simp)) (λz=>nomatch z) h
 |dic ks ds =>
  rw[Rep] at r;obtain⟨a,kvs,vs,rfl,h1,h2,_⟩:=r;cases (show u=Value.ref a from q);obtain⟨_,_,vs',_,p⟩:=h1.ok I.hok;obtain⟨o,es,ep,k1,k2,_⟩:=p;exact W.kia_one W.kitx_dict I.kIn ⟨o,k1,k2.1⟩ (hk _ (by simp)) (λz=>nomatch z) h
 |exc x =>
  obtain⟨a,C,dc,rfl,hc,h1⟩:=mZ.mp r;cases (show u=Value.ref a from q);obtain⟨p,_,_⟩:=h1.ok I.hok;have e:(wK (.exc x)==T||(wK (.exc x)=="bool"&&T=="int"))=false:=by
   have:∀T∈gJ,(wK (.exc x)==T||(wK (.exc x)=="bool"&&T=="int"))=false:=by show ∀T∈gJ,("<exc>"==T||("<exc>"=="bool"&&T=="int"))=false;decide
   exact this T hT
  rw[e] at h;exact W.kia_one (vq hc.ek hc.ek.isCls) I.kIn p (hc.bt T hT) (λz=>nomatch z) h
 |ob k xs =>
  obtain⟨a,vs,rfl,h1,_⟩:=qH.mp r;cases (show u=Value.ref a from q);cases k with
  |exf c ks =>
   obtain⟨C,dx,fs,hc,h2,_⟩:=h1;obtain⟨p,_,_⟩:=h2.ok I.hok;have e:(wK (.ob (.exf c ks) xs)==T||(wK (.ob (.exf c ks) xs)=="bool"&&T=="int"))=false:=by
    have:∀T∈gJ,("<exc>"==T||("<exc>"=="bool"&&T=="int"))=false:=by decide
    exact this T hT
   rw[e] at h;exact W.kia_one (vq hc.ek hc.ek.isCls) I.kIn p (hc.bt T hT) (λz=>nomatch z) h
  |ins c ks =>
   obtain⟨C,dx,_,hc,h2,_⟩:=h1;obtain⟨mA,O,_⟩:=yN I.hok h2;obtain⟨od,O',_⟩:=O.look;have e:(wK (.ob (.ins c ks) xs)==T||(wK (.ob (.ins c ks) xs)=="bool"&&T=="int"))=false:=by
    have:∀T∈gJ,(wK (.ob (.ins c ks) xs)==T||(wK (.ob (.ins c ks) xs)=="bool"&&T=="int"))=false:=by show ∀T∈gJ,("<exc>"==T||("<exc>"=="bool"&&T=="int"))=false;decide
    exact this T hT
   rw[e] at h;exact W.kia_one (W.kitx_own (hc.cls.get _) hc.cls.hd hc.gc hc.gn hc.tk hc.mo) I.kIn O' (hc.bt T hT) (λz=>nomatch z) h
  |dint ks =>
   obtain⟨kvs,h2,_⟩:=h1;obtain⟨_,_,vs',_,p⟩:=h2.ok I.hok;obtain⟨o,es,ep,k1,k2,_⟩:=p;exact W.kia_one W.kitx_dict I.kIn ⟨o,k1,k2.1⟩ (hk _ (by simp)) (λz=>nomatch z) h
theorem cB(hk:qI X.K T)(hgi:Gl X "isinstance")(hmi:X.mg "isinstance"=none)(hg:Gl X x)(hm:X.mg x=none)(hv:bootBuiltins x=some (.type T))(ha:DE X E a f)
  (hn:x≠"__name__":=by decide)(hdb:(x==("__debug__":Str))=false:=by decide)(hT:T∈gJ:=by decide)
  (he:starEach [a,.Name x p2] X.env=(false,eval a X.env)::starEach [.Name x p2] X.env:=by exact bw rfl)(he2:starEach [.Name x p2] X.env=(false,eval (.Name x p2) X.env)::starEach [] X.env:=by exact bw rfl)(hpl:(backTo pos (starEach [.Name x p2] X.env)).any (·.1)=false:=by exact cc rfl) :
  DE X E (.Call (.Name "isinstance" p1) [a,.Name x p2] [] pos) (cC f (gF T)):=by
 refine⟨?_⟩;refine aR (uU (r:=λvs H Q=>∃d v,vs=[v,.ty T]/\Rep X.K H d v/\Q (.bl (wK d==T||(wK d=="bool"&&T=="int"))) H) ?_ hgi hmi PyProof.Rows.Boot.«isinstance» (dO ha.o (dO (D7 (v:=.ty T) hg hm hv rfl hn hdb) gq he2) he) (by decide) (by decide) he hpl) λσ H Q ⟨Ha,ρ,hs,hr,q⟩=>⟨Ha,ρ,hs,hr,?_⟩
 .intro pins s σ H xs us Q I r h
  obtain⟨d,v,rfl,h1,q⟩:=h;cases r with
  |cons r1 r2 =>
   cases r2 with
   |cons r3 r4 =>
    cases r4;rename_i u1 u2;obtain rfl:u2=Value.type T:=r3;exact Cc I h1 r1 hk hT λtk=>⟨.bl _,H,I.tok _,rfl,q⟩
 .unfold cC at q
  cases e1:f ρ with
  |stuck|exn x=>rw[e1] at q;exact q
  |ok d =>
   rw[e1] at q;intro v H1 H01 g1 r1;exact⟨d,v,rfl,r1.mono g1.sub,q _ H1 H01 g1 (rb _)⟩
end
theorem rW{prog:Program}{w:World}{A:Around}{E:Value->Shared->Prop}{it t:Addr}{items:Array Value}(hne:t≠it):∀(n i:Nat) (s:Shared) (Q:List Value->Shared->Prop),s.heap.IsListIter it t i->s.heap.IsList t items->i+n<=items.size ->
  (∀h',h'.IsListIter it t (i+n)->Heap.SameBut it s.heap h'->Q ((items.toList.drop i).take n) { s with heap:=h' })->wpAny (model prog w) A (draw (.ref it) n) Q E s
 |0,i,s,Q,hit,_,_,hQ=>by
  show wpAny _ _ (pure []) Q E s;exact wpAny_pure (by simpa using hQ s.heap hit (Heap.SameBut.refl ..))
 |n+1,i,s,Q,hit,ht,hle,hQ=>by
  have hlt:i<items.size:=by omega
  show wpAny _ _ (pyNext (.ref it) >>= _) Q E s;refine wpAny_bind (wpAny_pyNext_list_item hit ht (x:=items[i]) (by simp [hlt]) λhU hit₁ hs₁=>?_);have ht₁:hU.IsList t items:=by
   obtain⟨o,k1,k2⟩:=ht;exact⟨o,(hs₁.2 t hne).trans k1,k2⟩
  refine wpAny_bind (wpAny_holding (rW hne n (i+1) _ _ hit₁ ht₁ (by omega) λhV hit₂ hs₂=>wpAny_pure ?_));have hd:items.toList.drop i=items[i]::items.toList.drop (i+1):=by simp [List.drop_eq_getElem_cons,hlt]
  have:=hQ hV (by rw[show i+(n+1)=i+1+n by omega];exact hit₂) (hs₁.trans hs₂);rw[hd,List.take_succ_cons] at this;exact this
theorem lL(hh:A.handled=none)(ht:s.heap.IsList t items)
  (hQ:∀h',Heap.ExtBut s.heap.objs.size s.heap h'->Q items.toList { s with heap:=h' }):wpAny (model prog w) A (unpackItems (.ref t) items.size none) Q E s:=by
 have hlt:t≠s.heap.objs.size:=by obtain⟨o,ho,_⟩:=ht;exact Nat.ne_of_lt (Heap.lt_size ho)
 unfold unpackItems;refine wpAny_bind ?_
 .unfold notIterableAtAll
  refine wpAny_bind (wpAny_specialOf ht.typeIs slot_list_iter.lookup ?_);refine wpAny_pure ?_;simp only[Bool.false_eq_true,if_false];refine wpAny_bind (wpAny_holding (wpAny_pyIter_list ht ?_));have ht0:(s.heap.push { cls:=.type "list_iterator",data:=.fields #[.ref t,.int 0 0] }).IsList t items:=by
   obtain⟨o,k1,k2⟩:=ht;exact⟨o,Heap.get?_push_of_some _ k1,k2⟩
  refine wpAny_bind (wpAny_holding (rW hlt items.size 0 _ _ ⟨_,Heap.get?_push_size _ rfl,rfl,rfl⟩ ht0 (by omega) λhU hit₁ hs₁=>?_));have hall:List.take items.size (List.drop 0 items.toList)=items.toList:=by
   rw[List.drop_zero];exact List.take_of_length_le (by simp)
  rw[hall];rw[if_neg (by simp)];have ht₁:hU.IsList t items:=by
   obtain⟨o,k1,k2⟩:=ht0;exact⟨o,(hs₁.2 t hlt).trans k1,k2⟩
  refine wpAny_bind (wpAny_holding (wpAny_pyNext_list_end hh hit₁ ht₁ (by simp) λhV he₂=>?_));simp only[Option.isSome_none,Bool.false_eq_true,if_false];refine wpAny_pure (hQ hV λb o hb e=>he₂ b o hb (hs₁.extBut b o hb (Heap.get?_push_of_some _ e)))
noncomputable def wZ(σ:L2.St):List Nat->List V->L2.St
 |i::is,v::vs=>wZ (σ.set i (some v)) is vs
 |_,_=>σ
noncomputable def cT(ρ:Ev):List Nat->List D->Ev
 |i::is,d::ds=>cT (ρ.set i (.sh d)) is ds
 |_,_=>ρ
theorem df.putAll{K:W.Frag}{He H0e Ha H:Hp}:∀{is:List Nat}{ds:List D}{vs:List V}{σ:L2.St}{ρ:Ev},df K He H0e Ha σ H ρ->Reps K Ha ds vs->df K He H0e Ha (wZ σ is vs) H (cT ρ is ds)
 |[],_,_,_,_,h,_=>by unfold wZ cT;exact h
 |_::_,[],_,_,_,h,r=>by rw[Reps.nil_iff.mp r];unfold wZ cT;exact h
 |i::is,d::ds,_,_,_,h,r=>by
  obtain⟨v,vs,rfl,h1,h2⟩:=aE.mp r;unfold wZ cT;exact df.putAll (h.put h1) h2
section
variable {X:Cx}{E:XK}{He H0e:Hp}{e a b:Expr}{es:List Expr}{f g:Ev->ai D}{fa:Ev->ai (List D)}{pos:Pos}{is:List Nat}
noncomputable def Im(is:List Nat):Ie:=λvs σ H Q=>vs.length=is.length/\Q (wZ σ is vs) H
theorem uS(h:AR X es t)(w:∀vs σ H Q,t' vs σ H Q->t vs σ H Q):AR X es t':=λpins s σ H vs us Q I r q=>h pins s σ H vs us Q I r (w vs σ H Q q)
theorem i4:AR X [] (Im []):=uS D2 λvs σ H Q ⟨h,q⟩=>by
 have e:vs=[]:=List.length_eq_zero_iff.mp h;subst e;exact⟨rfl,q⟩
theorem cA(hN:X.N.Nodup)(hi:X.N[i]?=some x)(hx:AS X.env.scope x)(h:AR X es (Im is))(hf:X.fn x=true∨X.env.scope.names.lookup x=some .local := by first|exact .inl rfl|exact .inr rfl|assumption)
  (hs:(assignEach (.Name x p::es) X.env).map (·.2)=assign (.Name x p) X.env::(assignEach es X.env).map (·.2):=by rfl):AR X (.Name x p::es) (Im (i::is)) :=
 uS (BI (yq hN hi hx hf) h hs) λvs σ H Q ⟨h,q⟩=>by
  cases vs with|nil=>simp at h|cons v vs=>exact⟨v,vs,rfl,by simpa using h,q⟩
theorem D3{k:Nat}(hc:X.calm=true)(h:AR X es t)
  (hn:(assignEach es X.env).length=n:=by rfl)(hst:(assignEach es X.env).findIdx? (·.1)=none:=by rfl):PG X (.Tuple es k pos) (λv σ H Q=>∃a xs,v=.ref a/\eD X.K H a xs/\xs.length=n/\t xs σ H Q):=by
 intro pins s σ H v u Q I r hw;obtain⟨a,xs,e1,hq,hl,hw⟩:=hw;subst e1;cases r;obtain⟨its,rv,ht,hz⟩:=I.list hq;rw[assign_Tuple];refine wpAny_bind (wpAny_standAt ?_);unfold unpack;rw[hn,hst];have hsz:n=its.toArray.size:=by rw[List.size_toArray,←rv.length,hl]
 rw[hsz];refine wpAny_bind (wpAny_holding (lL (I.ok.hd hc) ht.isList λh' hx=>?_));have I1:Inv X pins σ H { s with heap:=h' }:=I.kept (t':=s.toks) λb o e=>hx b o (Nat.ne_of_lt (Heap.lt_size e)) e;exact h pins _ σ H xs _ Q I1 (by simpa using rv) hw
theorem IU(h:PG X tgt t)(h':PG X tgt t'):PG X tgt (λv σ H Q=>t v σ H Q∨t' v σ H Q):=λpins s σ H v u Q I r q=>q.elim (h pins s σ H v u Q I r) (h' pins s σ H v u Q I r)
theorem GC{k:Nat}(hc:X.calm=true)(h:AR X es (Im is))(hn:(assignEach es X.env).length=is.length:=by rfl)(hst:(assignEach es X.env).findIdx? (·.1)=none:=by rfl) :
  PG X (.Tuple es k pos) (λv σ H Q=>∃a xs,v=.ref a/\(jc X.K H a xs∨eD X.K H a xs)/\xs.length=is.length/\Q (wZ σ is xs) H) :=
 tw (IU (GB hc h hn hst) (D3 hc h hn hst)) λv σ H Q ⟨a,xs,e,hq,hl,q⟩=>hq.elim (λz=>.inl ⟨a,xs,e,z,hl,hl,q⟩) λz=>.inr ⟨a,xs,e,z,hl,hl,q⟩
noncomputable def gp(n:Nat) (d:D):Option (List D):=match d with
 |.tup ds=>if ds.length=n then some ds else none
 |.lst ds=>if ds.length=n then some ds else none
 |_=>none
theorem uW{K:W.Frag}(h:gp n d=some ds)(r:Rep K H d v):∃a vs,v=.ref a/\(jc K H a vs∨eD K H a vs)/\vs.length=n/\Reps K H ds vs:=by
 unfold gp at h;cases d with
 |tup es =>
  by_cases c:es.length=n
  .simp only[if_pos c] at h;cases h
   obtain⟨a,vs,rfl,h1,h2⟩:=aJ.mp r;exact⟨a,vs,rfl,.inl h1,by rw[←h2.length];exact c,h2⟩
  .simp only[if_neg c] at h;cases h
 |lst es =>
  by_cases c:es.length=n
  .simp only[if_pos c] at h;cases h
   obtain⟨a,vs,rfl,h1,h2⟩:=aH.mp r;exact⟨a,vs,rfl,.inr h1,by rw[←h2.length];exact c,h2⟩
  .simp only[if_neg c] at h;cases h
 |_=>cases h
theorem Bf{K:W.Frag}{a:Addr}{vs:List V}(hs:aA H H')(h:jc K H a vs∨eD K H a vs):jc K H' a vs∨eD K H' a vs:=h.elim (λz=>.inl (aA.sqT hs z)) λz=>.inr (aA.sqL hs z)
noncomputable def L5(is:List Nat) (f:Ev->ai D):Ev->ai Fl:=λρ=>(f ρ).bind λd=>match gp is.length d with
 |some ds=>.ok (.nx (cT ρ is ds))
 |none=>.stuck
noncomputable def fj(is:List Nat):Ev->D->ai Ev:=λρ d=>match gp is.length d with
 |some ds=>.ok (cT ρ is ds)
 |none=>.stuck
theorem fO:sO (fj is):=λρ d=>by
 unfold fj;cases gp is.length d with|none=>exact .inl rfl|some ds=>exact .inr ⟨_,rfl⟩
theorem l9{k:Nat}(hc:X.calm=true)(h:AR X es (Im is))(hn:(assignEach es X.env).length=is.length:=by rfl)(hst:(assignEach es X.env).findIdx? (·.1)=none:=by rfl):DG X E He H0e (.Tuple es k pos) (fj is) :=
 ⟨tw (GC hc h hn hst) λv σ H Q ⟨Ha,ρ,d,h,rp,q⟩=>by
  unfold fj at q;cases e1:gp is.length d with
  |none=>rw[e1] at q;exact q.elim
  |some ds =>
   rw[e1] at q;obtain⟨a,vs,rfl,k1,k2,k3⟩:=uW e1 rp;exact⟨a,vs,rfl,Bf h.g.sub k1,k2,q _ H Ha (aA.refl _) (h.putAll k3)⟩⟩
noncomputable def qP(i j:Nat) (fa:Ev->ai (List D)):Ev->ai Fl:=λρ=>(fa ρ).bind λds=>match ds with
 |[x,y]=>.ok (.nx ((ρ.set i (.sh x)).set j (.sh y)))
 |_=>.stuck
theorem Hk{px py pt pt2:Pos}{kt k2}(hc:X.calm=true)(hN:X.N.Nodup)(hi:X.N[i]?=some x)(hj:X.N[j]?=some y)(hij:i≠j)
  (hx:X.env.scope.names.lookup x=some .local)(hy:X.env.scope.names.lookup y=some .local)(ha:DA X E [a,b] fa)
  (hw:swappedStores [.Tuple [.Name x px,.Name y py] kt pt] (.Tuple [a,b] k2 pt2) X.env=pure (some [x,y]))
  (hs:swapsWithSole [.Tuple [.Name x px,.Name y py] kt pt] (.Tuple [a,b] k2 pt2) pos.line X.env=pure false:=by rfl) :
  DS X E He H0e (.Assign [.Tuple [.Name x px,.Name y py] kt pt] (.Tuple [a,b] k2 pt2) pos) (qP i j fa):=by
 refine⟨?_⟩;refine bB (Gw hc hN hi hj hij hx hy ha.o hw hs) λD σ H ⟨Ha,ρ,h,q⟩=>⟨Ha,ρ,h.g.sub,h.rd,?_⟩
 unfold qP at q;cases e1:fa ρ with
 |stuck=>rw[e1] at q;exact q|exn x=>rw[e1] at q;exact λC ox H' Ha' g ex=>q C ox H' Ha' (h.g.trans g) ex
 |ok ds =>
  rw[e1] at q;intro vs H1 H01 g1 r1
  match ds,r1,q with
  |[x,y],r1,q =>
   obtain⟨v,r',rfl,h1,h2⟩:=aE.mp r1;obtain⟨u,r'',rfl,h3,h4⟩:=aE.mp h2;rw[Reps.nil_iff.mp h4];exact⟨v,u,rfl,q _ H1 H01 g1.z (((h.grow g1).put h1).put h3)⟩
  |[],_,q=>exact q.elim
  |[_],_,q=>exact q.elim
  |_::_::_::_,_,q=>exact q.elim
end
theorem xA{K:W.Frag}:qI K "int":=by
 intro S hS;simp only[List.mem_cons,List.mem_nil_iff,or_false] at hS;rcases hS with rfl|rfl|rfl|rfl|rfl|rfl|rfl<;>first|rfl|decide +kernel
theorem mL{K:W.Frag}:qI K "bool":=by
 intro S hS;simp only[List.mem_cons,List.mem_nil_iff,or_false] at hS;rcases hS with rfl|rfl|rfl|rfl|rfl|rfl|rfl<;>first|rfl|decide +kernel
theorem oK{K:W.Frag}:qI K "str":=by
 intro S hS;simp only[List.mem_cons,List.mem_nil_iff,or_false] at hS;rcases hS with rfl|rfl|rfl|rfl|rfl|rfl|rfl<;>first|rfl|decide +kernel
theorem gA{K:W.Frag}:qI K "tuple":=by
 intro S hS;simp only[List.mem_cons,List.mem_nil_iff,or_false] at hS;rcases hS with rfl|rfl|rfl|rfl|rfl|rfl|rfl<;>first|rfl|decide +kernel
theorem ij{K:W.Frag}:qI K "list":=by
 intro S hS;simp only[List.mem_cons,List.mem_nil_iff,or_false] at hS;rcases hS with rfl|rfl|rfl|rfl|rfl|rfl|rfl<;>first|rfl|decide +kernel
section
variable {X:Cx}{E:XK}{He H0e:Hp}{e a b c:Expr}{f g h:Ev->ai D}{pos:Pos}
theorem dv(i:Nat)(hN:X.N[i]?=some x:=by rfl)(hv:CZ X.env.scope x:=by first|exact Or.inl rfl|exact Or.inr (Or.inl rfl)|exact Or.inr (Or.inr rfl))(hd:(x==("__debug__":Str))=false:=by decide)
  (hcd:(x==("__classdict__":Str))=false:=by decide):DE X E (.Name x pos) (aa i):=Hr hN hv hd hcd
noncomputable def uy(K:W.Frag) (mg:Str->Option Value) (x:Str) (d:D):Prop:=∃v u,mg x=some u/\aX v u/\∀H,Rep K H d v
theorem ba(k:uy X.K X.mg x d)(hg:Gl X x)(hd:(x==("__debug__":Str))=false:=by decide):DE X E (.Name x pos) (dC d):=by
 obtain⟨v,u,h1,h2,h3⟩:=k;exact EF hg h1 h2 h3 hd
theorem c9{K:W.Frag}(h:mg x=some (.int i t)):uy K mg x (.int i):=⟨.int i,_,h,⟨t,rfl⟩,λ_=>ri _⟩
theorem Er{K:W.Frag}(h:mg x=some (.str i t)):uy K mg x (.str i):=⟨.str i,_,h,⟨t,rfl⟩,λ_=>Rep.str_iff.mpr rfl⟩
theorem Ep{K:W.Frag}{a:Addr}{vs:List V}(h:mg x=some (.ref a))(l:K.lookup a=some ⟨.type "tuple",od,.seq its n,sl⟩)
  (hv:bz vs its.toList)(hz:its.size<=sizeLine)(hd:∀H,Reps K H ds vs):uy K mg x (.tup ds):=⟨.ref a,_,h,rfl,λH=>aJ.mpr ⟨a,vs,rfl,.inr ⟨_,its,n,l,rfl,rfl,hz,hv⟩,hd H⟩⟩
noncomputable def iB(op op':D->D->ai D) (f g h:Ev->ai D):Ev->ai D:=λρ=>(f ρ).bind λx=>(g ρ).bind λy=>(op x y).bind λz=>match z with
 |.bl true=>(h ρ).bind λw=>op' y w
 |.bl false=>.ok (.bl false)
 |_=>.stuck
noncomputable def wG(r:R2) (o:D->D->ai D):Prop:=∀(K:W.Frag) (x y:D) (v u:V) (H Ha:Hp) (Q:VK) (d:D),aA Ha H->Rep K Ha x v->Rep K Ha y u->o x y=.ok d->(∀w,Rep K Ha d w->Q w H)->r v u H Q
theorem iN{g:Int->Int->D}(hg:∀K H i j,Rep K H (g i j) (gv i j)):wG (C4 gv) (vx (λ_ _=>true) g):=by
 intro K x y v u H Ha Q d hs r1 r2 e q;unfold vx at e;cases x with
 |int i =>
  cases y with|int j=>simp only[if_pos] at e;cases e;exact⟨i,j,au.mp r1,au.mp r2,q _ (hg _ _ i j)⟩| _=>cases e
 |_=>cases e
noncomputable def wH(o:D->D->ai D):Prop:=∀x y,∀z,o x y≠.exn z
theorem wt(p:wG r o)(p':wG r' o')(n:wH o)(n':wH o')(σ:L2.St)(H:Hp)(Q:VK)(q:tD X.K E (iB o o' f g h) σ H Q) :
  A9 r r' (tD X.K E f) (tD X.K E g) (tD X.K E h) σ H Q:=by
 obtain⟨Ha,ρ,hs,hr,q⟩:=q;refine⟨Ha,ρ,hs,hr,?_⟩;unfold iB at q;cases e1:f ρ with
 |stuck|exn x=>rw[e1] at q;exact q
 |ok x =>
  rw[e1] at q;intro v H1 H01 g1 r1;refine⟨H01,ρ,g1.sub,hr.mono g1.z,?_⟩;replace q:=post.grow (r:=(g ρ).bind λy=>(o x y).bind λz=>match z with
   |.bl true=>(h ρ).bind λw=>o' y w
   |.bl false=>.ok (.bl false)
   |_=>.stuck) q g1
  cases e2:g ρ with
  |stuck|exn x=>rw[e2] at q;exact q
  |ok y =>
   rw[e2] at q;intro u H2 H02 g2 r2;replace q:=post.grow (r:=(o x y).bind λz=>match z with
    |.bl true=>(h ρ).bind λw=>o' y w
    |.bl false=>.ok (.bl false)
    |_=>.stuck) q g2
   cases e3:o x y with
   |stuck=>rw[e3] at q;exact q.elim|exn z=>exact absurd e3 (n x y z)
   |ok z =>
    rw[e3] at q;refine p X.K x y v u H2 H02 _ z g2.sub (r1.mono g2.z) r2 e3 λw rw'=>?_;cases z with
    |bl b =>
     rw[aI.mp rw'];refine⟨b,rfl,?_⟩;cases b with
     |false=>rw[if_neg Bool.false_ne_true];exact q _ H2 H02 (aU.refl g2.sub) (rb _)
     |true =>
      rw[if_pos rfl];refine⟨H02,ρ,g2.sub,(hr.mono g1.z).mono g2.z,?_⟩;replace q:post X.K E H2 H02 ((h ρ).bind λw=>o' y w) Q:=q;cases e4:h ρ with
      |stuck|exn x=>rw[e4] at q;exact q
      |ok w2 =>
       rw[e4] at q;intro v3 H3 H03 g3 r3;replace q:=post.grow (r:=o' y w2) q g3;cases e5:o' y w2 with
       |stuck=>rw[e5] at q;exact q.elim|exn z=>exact absurd e5 (n' y w2 z)
       |ok d =>
        rw[e5] at q;exact p' X.K y w2 u v3 H3 H03 Q d g3.sub (r2.mono g3.z) r3 e5 λw3 r5=>q w3 H3 H03 (aU.refl g3.sub) r5
    |_=>exact q.elim
theorem vZ(ho:eE X (compareOp op) r)(ho':eE X (compareOp op') r')(p:wG r o)(p':wG r' o')(n:wH o)(n':wH o')(ha:DE X E a f)(hb:DE X E b g)(hc:DE X E c h)
  (hm:lastMarks [op,op'] [b,c]=false:=by with_unfolding_all rfl):DT X E (.Compare a [op,op'] [b,c] pos) (iB o o' f g h):=by
 refine⟨?_⟩;refine gj (Bz ho ho' ha.o hb.o hc.o hm) λσ H Q q=>?_;have w:tD X.K E (iB o o' f g h) σ H λx H'=>∃k,x=.bl k/\Q k H':=by
  obtain⟨Ha,ρ,hs,hr,q⟩:=q;refine⟨Ha,ρ,hs,hr,?_⟩;cases e1:iB o o' f g h ρ with
  |stuck|exn x=>rw[e1] at q;exact q
  |ok d =>
   rw[e1] at q;intro v H1 H01 g1 r1;cases d with|bl b=>rw[aI.mp r1];exact⟨b,rfl,q H1 H01 g1⟩| _=>exact q.elim
 exact wt p p' n n' σ H _ w
theorem iP{c:Int->Int->Bool}{g:Int->Int->D}:wH (vx c g):=by
 intro x y z;unfold vx;cases x<;>cases y<;>simp<;>split<;>simp
end
noncomputable def iT(i:Nat):Ev->Nat:=λρ=>match ρ[i]? with
 |some (.sh (.int j))=>j.natAbs+1
 |_=>0
section
variable {X:Cx}{E:XK}{a b:Expr}{f g:Ev->ai D}{pos:Pos}
noncomputable def bR(x y:D):ai D:=match x,y with
 |.int i,.int j=>if du i j=true then .ok (.int (i*j)) else .stuck
 |_,_=>.stuck
theorem cg(ha:DE X E a f)(hb:DE X E b g):DE X E (.BinOp a .Mult b pos) (ae f g bR):=rZ D9 (by
 intro x y v u H Ha Q hs r1 r2 q;unfold bR at q;cases x with
 |int i =>
  cases y with
  |int j =>
   by_cases h:du i j=true
   .simp only[if_pos h] at q
    exact⟨i,j,au.mp r1,au.mp r2,du.ok h,bf hs q (ri _)⟩
   .simp only[if_neg h] at q;exact q.elim
  |_=>exact q.elim
 |_=>exact q.elim) ha hb
end
noncomputable def G7(K:W.Frag) (tg:Ev->D->ai Ev):TG:=λv σ H Q=>∃He H0e,tG K He H0e tg v σ H Q
noncomputable def fH:List D->Option (List Str)
 |[]=>some []
 |.str x::r=>(fH r).map (x::·)
 |_=>none
theorem uK{K:W.Frag}{H:Hp}:∀{ds:List D}{ys:List Str}{vs:List V}{us:List Value},fH ds=some ys->Reps K H ds vs->bz vs us->StrsAre us ys
 |[],ys,vs,us,h,r,q=>by
  cases h;rw[Reps.nil_iff.mp r] at q;cases q;exact .nil
 |d::ds,ys,vs,us,h,r,q=>by
  obtain⟨v,r',rfl,h1,h2⟩:=aE.mp r;cases q with
  |cons q1 q2 =>
   cases d with
   |str x =>
    unfold fH at h;cases e:fH ds with
    |none=>rw[e] at h;cases h
    |some zs =>
     rw[e] at h;cases h;rw[Rep.str_iff.mp h1] at q1;obtain⟨t,rfl⟩:=q1;exact .cons _ _ (uK e h2 q2)
   |_=>cases h
section
variable {X:Cx}{E:XK}{o e:Expr}{fo:Ev->ai D}{fa:Ev->ai (List D)}
noncomputable def fA(z:Str) (ys:List Str):Bool:=decide (z.length<=16)&&decide ((ys.map (·.length)).sum+ys.length<=1048576)
noncomputable def IF(K:W.Frag):V->List V->Hp->VK->Prop:=λx xs H Q=>∃z p ds ys,x=.str z/\xs=[.ref p]/\Rep K H (.lst ds) (.ref p)/\fH ds=some ys/\fA z ys=true/\Q (.str (Txt.join z ys)) H
theorem Eg:LJ X "str.join" (IF X.K):=by
 intro pins s σ H x xs v us Q I rx rs h;obtain⟨z,p,ds,ys,rfl,rfl,hr,hy,hf,q⟩:=h;obtain⟨t,rfl⟩:=rx;obtain⟨u,rfl,ru⟩:=rs.one;obtain⟨a,vs,its,ea,rfl,h1,h2,h3,h4,_⟩:=aS I hr ru;unfold fA at hf;rw[Bool.and_eq_true] at hf;exact join_listW h4 (by simpa using uK hy h2 h3) (of_decide_eq_true hf.1) (of_decide_eq_true hf.2) λt' k=>⟨.str (Txt.join z ys),H,I.tok _,⟨_,rfl⟩,q⟩
noncomputable def j7(z:Str) (xs:List D):ai D:=match xs with
 |[.lst ds]=>match fH ds with
  |some ys=>if fA z ys=true then .ok (.str (Txt.join z ys)) else .stuck
  |none=>.stuck
 |_=>.stuck
noncomputable def so(fo:Ev->ai D) (fa:Ev->ai (List D)):Ev->ai D:=λρ=>(fo ρ).bind λx=>match x with
 |.str z=>(fa ρ).bind λxs=>j7 z xs
 |_=>.stuck
theorem EE(ho:DE X E o fo)(ha:DA X E [e] fa)
  (hbase:attributeBase o "join" X.env (eval o X.env)=eval o X.env:=by rfl)
  (hfew:((backTo cpos (starEach [e] X.env)).all (λx=>!x.1)&&(backToKw cpos (keywordEach [] X.env)).all (λx=>x.1.isSome)
  &&decide ([e].length+([]:List Keyword).length+(if([]:List Keyword).isEmpty then 0 else 1)<30))=true:=by exact ip rfl)
  (hline:(apos.endLine==cpos.line)=true:=by rfl) (hs:starEach [e] X.env=(false,eval e X.env)::starEach [] X.env:=by exact bw rfl) (hplain:(backTo cpos (starEach [] X.env)).any (·.1)=false:=by exact cc rfl) :
  DE X E (.Call (.Attribute o "join" apos) [e] [] cpos) (so fo fa):=by
 refine⟨?_⟩;refine aR (BO PySem.F.plainAttrs_str PySem.F.slot_str_join PySem.F.type_str_join Eg ho.o ha.o hbase hfew hline hs hplain) λσ H Q ⟨Ha,ρ,hs,hr,q⟩=>⟨Ha,ρ,hs,hr,?_⟩
 unfold so at q;cases e1:fo ρ with
 |stuck|exn x=>rw[e1] at q;exact q
 |ok x =>
  rw[e1] at q;intro v H1 H01 g1 r1;cases x with
  |str z =>
   rw[Rep.str_iff.mp r1];refine⟨rfl,H01,ρ,g1.sub,hr.mono g1.z,?_⟩;replace q:=post.grow (r:=(fa ρ).bind λxs=>j7 z xs) q g1;cases e2:fa ρ with
   |stuck|exn x=>rw[e2] at q;exact q
   |ok xs =>
    rw[e2] at q;intro us H2 H02 g2 r2;replace q:=post.grow (r:=j7 z xs) q g2;unfold j7 at q
    match xs,r2,q with
    |[.lst ds],r2,q =>
     obtain⟨w,r',rfl,k1,k2⟩:=aE.mp r2;rw[Reps.nil_iff.mp k2];obtain⟨p,vs,rfl,k3,k4⟩:=aH.mp k1;cases e3:fH ds with
     |none=>simp only[e3] at q;exact q.elim
     |some ys =>
      simp only[e3] at q
      by_cases c:fA z ys=true
      .rw[if_pos c] at q
       exact⟨z,p,ds,ys,rfl,rfl,k1.mono g2.sub,e3,c,bf g2.sub q (Rep.str_iff.mpr rfl)⟩
      .rw[if_neg c] at q;exact q.elim
    |[],_,q=>exact q.elim
    |d1::_::_,_,q=>cases d1<;>exact False.elim q
    |[.non],_,q=>exact q.elim
    |[.bl _],_,q=>exact q.elim
    |[.int _],_,q=>exact q.elim
    |[.str _],_,q=>exact q.elim
    |[.tup _],_,q=>exact q.elim
    |[.dic _ _],_,q=>exact q.elim
    |[.exc _],_,q=>exact q.elim
    |[.ob _ _],_,q=>exact q.elim
  |_=>exact q.elim
end
section
variable {X:Cx}{E:XK}{a:Expr}{f:Ev->ai D}{pos:Pos}
noncomputable def KH:V->Option Int->Option Int->Hp->VK->Prop:=λx lo hi H Q=>∃z,x=.str z/\z.length<=sizeLine/\Q (.str (Txt.slice z lo hi)) H
theorem Gb:C5 X KH:=by
 intro pins s σ H x v vl vu lo hi sl Q I rx hs pl pu h;obtain⟨z,rfl,hz,q⟩:=h;obtain⟨t,rfl⟩:=rx;have fin:∀t' k,EP X pins σ Q (.str (Txt.slice z lo hi) t') { s with toks:=k }:=λt' k=>⟨.str (Txt.slice z lo hi),H,I.tok _,⟨_,rfl⟩,q⟩
 refine⟨"str",_,PySem.F.slot_str_getitem.lookup,typeIs_str s z t,?_⟩;cases pl with
 |none =>
  cases pu with|none=>exact wpAny_getItem_str_slice (l:=none) (u:=none) (st:=none) hs rfl (post_val_or_str ⟨Nat.le_trans (Txt.slice_le z _ _) hz,fin⟩)|int j uj=>exact wpAny_getItem_str_slice (l:=none) (u:=some (j,uj)) (st:=none) hs rfl (post_val_or_str ⟨Nat.le_trans (Txt.slice_le z _ _) hz,fin⟩)
 |int i ui =>
  cases pu with|none=>exact wpAny_getItem_str_slice (l:=some (i,ui)) (u:=none) (st:=none) hs rfl (post_val_or_str ⟨Nat.le_trans (Txt.slice_le z _ _) hz,fin⟩)|int j uj=>exact wpAny_getItem_str_slice (l:=some (i,ui)) (u:=some (j,uj)) (st:=none) hs rfl (post_val_or_str ⟨Nat.le_trans (Txt.slice_le z _ _) hz,fin⟩)
noncomputable def nY(x:D) (l h:Option Int):ai D:=match x with
 |.lst ds=>.ok (.lst (qZ ds l h))
 |.str z=>if z.length<=line then .ok (.str (Txt.slice z l h)) else .stuck
 |.tup ds=>if HT.sIx ds.length 0 l=0/\HT.sIx ds.length ds.length h=ds.length then .stuck else .ok (.tup (qZ ds l h))
 |_=>.stuck
noncomputable def AD(f:Ev->ai D) (lo hi:Ev->ai (Option Int)):Ev->ai D:=λρ=>(f ρ).bind λx=>(lo ρ).bind λl=>(hi ρ).bind λh=>nY x l h
theorem rY{lo hi:Option Expr}(ha:DE X E a f)(hl:DO X E lo fl)(hh:DO X E hi fh):DE X E (.Subscript a (.Slice lo hi none p2) pos) (AD f fl fh) :=
 ⟨aR (uT (C5.or yf (C5.or Gb Ga)) ha.o hl.o hh.o) (uL (m:=nY) λx v l h H Ha Q hs r q=>by
  cases x with
  |lst ds =>
   obtain⟨p,vs,rfl,h1,h2⟩:=aH.mp r;exact .inl ⟨p,vs,rfl,aA.sqL hs h1,λn hn=>q _ _ _ (bo hs hn) (aH.mpr ⟨n,_,rfl,eD.of aB,(h2.cut l h).mono (bo hs hn).z⟩)⟩
  |str z =>
   unfold nY at q
   by_cases c:z.length<=line
   .simp only[if_pos c] at q
    exact .inr (.inl ⟨z,Rep.str_iff.mp r,c8 c,bf hs q (Rep.str_iff.mpr rfl)⟩)
   .simp only[if_neg c] at q;exact q.elim
  |tup ds =>
   unfold nY at q
   by_cases c:HT.sIx ds.length 0 l=0/\HT.sIx ds.length ds.length h=ds.length
   .simp only[if_pos c] at q;exact q.elim
   .simp only[if_neg c] at q
    obtain⟨p,vs,rfl,h1,h2⟩:=aJ.mp r;exact .inr (.inr ⟨p,vs,rfl,aA.sqT hs h1,by rw[←h2.length];exact c,λn hn=>q _ _ _ (bo hs hn) (aJ.mpr ⟨n,_,rfl,jc.of aB,(h2.cut l h).mono (bo hs hn).z⟩)⟩)
  |_=>exact q.elim)⟩
end
noncomputable def Lh(z:Str):It:=⟨λi _=>i<z.cps.size,λi H x H'=>H'=H/\∃c,z.cps[i]?=some c/\x=.str ⟨#[c]⟩,λi _=>z.cps.size<=i⟩
theorem wR{P:Program}{w:World}{K:W.Frag}{tg:Expr}(z:Str)(t:Tok)(it:Addr):xW P w K tg (Lh z) [it] it (λi h=>h.IsStrIter it "str_ascii_iterator" z t i) where
 mem:=by simp
 obj:=λi h st b hb=>by
  have e:b=it:=by simpa using hb
  subst e;obtain⟨o,e,c,d⟩:=st;exact⟨o,e,λv z=>by rw[d] at z;cases z⟩
 keep:=λi h h' st k=>let ⟨o,ho,r⟩:=st;⟨o,k it (by simp) o ho,r⟩
 item:=by
  intro X hP hw hK hc i pins s σ H E I hf st hg;subst hP hw hK;have hg':i<z.cps.size:=hg;obtain⟨f0,f1,f2,f3,f4,f5⟩:=hf it (by simp);refine wpAny_pyNext_ascii_item st (c:=z.cps[i]) (by simp [hg']) λh' st' sb=>?_;have I1:Inv X pins σ H { s with heap:=h',toks:=s.toks+1 }:=I.turned (t':=s.toks+1) (λb o hb e=>(sb.2 b hb).trans e) f0 f1 f3 f4 f5;obtain⟨o,e,c,d⟩:=id st';exact⟨_,rfl,vy (s:={ s with heap:=h',toks:=s.toks+1 }) e c d (by decide) ⟨.str ⟨#[z.cps[i]]⟩,H,I1,⟨_,rfl⟩,⟨rfl,_,by simp [hg'],rfl⟩,st',λb hb=>(hf b hb).1⟩⟩
 done:=by
  intro X hP hw hK hc i pins s σ H E I hf st hg;subst hP hw hK;have hg':z.cps.size<=i:=hg;obtain⟨f0,f1,f2,f3,f4,f5⟩:=hf it (by simp);exact wpAny_pyNext_ascii_end (I.ok.hd hc) st (by simp [hg']) λh' eb=>⟨rfl,I.turned (t':=s.toks) (λb o hb e=>eb b o hb e) f0 f1 f3 f4 f5⟩
 self:=λ_ _ _ _ _ st h=>wpAny_pyIter_striter_ascii st h
theorem zQ{P:Program}{w:World}{K:W.Frag}{tg:Expr}(z:Str)(t:Tok)(it:Addr):xW P w K tg (Lh z) [it] it (λi h=>h.IsStrIter it "str_iterator" z t i) where
 mem:=by simp
 obj:=λi h st b hb=>by
  have e:b=it:=by simpa using hb
  subst e;obtain⟨o,e,c,d⟩:=st;exact⟨o,e,λv z=>by rw[d] at z;cases z⟩
 keep:=λi h h' st k=>let ⟨o,ho,r⟩:=st;⟨o,k it (by simp) o ho,r⟩
 item:=by
  intro X hP hw hK hc i pins s σ H E I hf st hg;subst hP hw hK;have hg':i<z.cps.size:=hg;obtain⟨f0,f1,f2,f3,f4,f5⟩:=hf it (by simp);refine wpAny_pyNext_wide_item st (c:=z.cps[i]) (by simp [hg']) λh' st' sb=>?_;have I1:Inv X pins σ H { s with heap:=h',toks:=s.toks+1 }:=I.turned (t':=s.toks+1) (λb o hb e=>(sb.2 b hb).trans e) f0 f1 f3 f4 f5;obtain⟨o,e,c,d⟩:=id st';exact⟨_,rfl,vy (s:={ s with heap:=h',toks:=s.toks+1 }) e c d (by decide) ⟨.str ⟨#[z.cps[i]]⟩,H,I1,⟨_,rfl⟩,⟨rfl,_,by simp [hg'],rfl⟩,st',λb hb=>(hf b hb).1⟩⟩
 done:=by
  intro X hP hw hK hc i pins s σ H E I hf st hg;subst hP hw hK;have hg':z.cps.size<=i:=hg;obtain⟨f0,f1,f2,f3,f4,f5⟩:=hf it (by simp);exact wpAny_pyNext_wide_end (I.ok.hd hc) st (by simp [hg']) λh' eb=>⟨rfl,I.turned (t':=s.toks) (λb o hb e=>eb b o hb e) f0 f1 f3 f4 f5⟩
 self:=λ_ _ _ _ _ st h=>wpAny_pyIter_striter_wide st h
noncomputable def KS(tl:TE):TI:=λσ H R=>tl σ H λx H1=>∃z,x=.str z/\R (Lh z) H1
theorem GA(hl:PE X l tl):PI X tg l (KS tl):=by
 intro pins s σ H R I h;refine cw (hl pins s σ H _ I h) λv s1 ⟨x,H1,I1,r1,q1⟩=>?_;obtain⟨z,rfl,q⟩:=q1;obtain⟨t,rfl⟩:=r1;have fpo:∀b∈[s1.heap.objs.size],lJ X pins H1 b:=λb hb=>by
  have e:b=s1.heap.objs.size:=by simpa using hb
  subst e;exact I1.fpOk (Nat.le_refl _) (I1.hok.fresh (Nat.le_refl _))
 cases ha:z.cps.all (· < 128) with|false=>exact wpAny_pyIter_wide ha ⟨s1.heap.objs.size,[s1.heap.objs.size],_,_,H1,rfl,I1.kept (t':=s1.toks) λb o e=>Heap.get?_push_of_some _ e,zQ z t _,⟨_,Heap.get?_push_size _ rfl,rfl,rfl⟩,fpo,q⟩|true=>exact wpAny_pyIter_ascii ha ⟨s1.heap.objs.size,[s1.heap.objs.size],_,_,H1,rfl,I1.kept (t':=s1.toks) λb o e=>Heap.get?_push_of_some _ e,wR z t _,⟨_,Heap.get?_push_size _ rfl,rfl,rfl⟩,fpo,q⟩
noncomputable def gZ(z:Str):List D:=z.cps.toList.map λc=>.str ⟨#[c]⟩
theorem jq(z:Str):(gZ z).length=z.cps.size:=by unfold gZ;simp
section
variable {X:Cx}{E:XK}
noncomputable def IP(K:W.Frag):List V->Hp->VK->Prop:=λxs H Q=>∃(p:Addr) (bs:List Bool),xs=[.ref p]/\eD K H p (bs.map V.bl)/\Q (.bl (bs.all id)) H
theorem sN:∀bs:List Bool,(List.range bs.length).all (λi=>bs.getD i false)=bs.all id
 |[]=>rfl
 |b::r=>by
  rw[List.length_cons,List.range_succ_eq_map,List.all_cons,List.all_map,List.all_cons,←sN r];rfl
theorem CQ(hc:X.calm=true):iL X (.builtin "all") (IP X.K):=by
 intro pins s σ H xs us Q I r h;obtain⟨p,bs,rfl,hq,q⟩:=h;obtain⟨u,rfl,rx⟩:=rn r;cases rx;obtain⟨its,rv,pl,hz⟩:=I.list hq;have hlen:=rv.length;rw[List.length_map] at hlen;have hne:p≠s.heap.objs.size:=Nat.ne_of_lt pl.lt;refine call_all_walk (wpAny_pyIter_list pl.isList ?_);have pl2:(s.heap.push { cls:=.type "list_iterator",data:=.fields #[.ref p,.int 0 0] }).IsList p its.toArray:=by
  obtain⟨o,k1,k2⟩:=pl.isList;exact⟨o,Heap.get?_push_of_some _ k1,k2⟩
 refine⟨s.heap.objs.size,_,_,_,_,_,λi=>bs.getD i false,rfl,Walks.list (A:=X.A.in1) (I.ok.hd hc) s.heap.objs.size p hne its.toArray,⟨⟨_,Heap.get?_push_size _ rfl,rfl,rfl⟩,pl2⟩,?_,λh' tk hk=>?_⟩
 .intro i v s' Q' E' hv hQ
  have hv':its[i]?=some v:=by simpa using hv
  have hi:i<its.length:=(List.getElem?_eq_some_iff.mp hv').1;obtain⟨w,e1,e2⟩:=rv.get (show(bs.map V.bl)[i]?=some (V.bl (bs.getD i false)) by
   rw[List.getElem?_map,List.getElem?_eq_getElem (by omega)];simp [List.getD,List.getElem?_eq_getElem (show i<bs.length by omega)])
  rw[hv'] at e1;cases e1;obtain rfl:v=Value.bool _:=e2;exact wpAny_truthy_bool hQ
 .have hall:(List.range its.toArray.size).all (λi=>bs.getD i false)=bs.all id:=by
   rw[List.size_toArray,←hlen];exact sN bs
  rw[hall];exact⟨.bl _,H,I.kept (t':=tk) (λb o e=>hk b o (by simp only[List.mem_singleton];exact Nat.ne_of_lt (Heap.lt_size e)) (Heap.get?_push_of_some _ e)),rfl,q⟩
noncomputable def fE:List D->Option (List Bool)
 |[]=>some []
 |.bl b::r=>(fE r).map (b::·)
 |_=>none
theorem sD{K:W.Frag}{H:Hp}:∀{ds:List D}{bs:List Bool}{vs:List V},fE ds=some bs->Reps K H ds vs->vs=bs.map V.bl
 |[],bs,vs,h,r=>by cases h;exact Reps.nil_iff.mp r
 |d::ds,bs,vs,h,r=>by
  obtain⟨v,r',rfl,h1,h2⟩:=aE.mp r;cases d with
  |bl x =>
   unfold fE at h;cases e:fE ds with
   |none=>rw[e] at h;cases h
   |some zs =>
    rw[e] at h;cases h;rw[aI.mp h1,sD e h2];rfl
  |_=>cases h
noncomputable def EJ(x:D):ai D:=match x with
 |.lst ds=>match fE ds with
  |some bs=>.ok (.bl (bs.all id))
  |none=>.stuck
 |_=>.stuck
theorem HD:iM X E (IP X.K) (m1 EJ):=wx λx v H Ha Q hs r q=>by
 cases x with
 |lst ds =>
  unfold EJ at q;obtain⟨p,vs,rfl,h1,h2⟩:=aH.mp r;cases e:fE ds with
  |none=>simp only[e] at q;exact q.elim
  |some bs =>
   simp only[e] at q;exact⟨p,bs,rfl,by rw[←sD e h2];exact aA.sqL hs h1,bf hs q (rb _)⟩
 |_=>exact q.elim
end
end DL
namespace L2
open PySem PySem.Spec PyProof.Rows
section
variable {κ:Type}[DecidableEq κ]
noncomputable def m6(kvs:List (κ×V)) (k:κ):Option V:=(kvs.find? λkv=>decide (kv.1=k)).map (·.2)
noncomputable def fP(kvs:List (κ×V)) (k:κ) (v:V):List (κ×V) :=
 if(kvs.any λkv=>decide (kv.1=k))=true then kvs.map (λkv=>if kv.1=k then(kv.1,v) else kv) else kvs++[(k,v)]
theorem jN{p:κ×V}{r:List (κ×V)}{k:κ}(e:p.1=k):m6 (p::r) k=some p.2:=by simp [m6,List.find?_cons,e]
theorem gY{p:κ×V}{r:List (κ×V)}{k:κ}(e:¬p.1=k):m6 (p::r) k=m6 r k:=by simp [m6,List.find?_cons,e]
theorem uI(k:κ):∀kvs:List (κ×V),(kvs.any λkv=>decide (kv.1=k))=(m6 kvs k).isSome
 |[]=>rfl
 |p::r=>by
  rw[List.any_cons]
  by_cases e:p.1=k
  .simp only[jN e,decide_eq_true e,Bool.true_or,Option.isSome_some]
  .rw[gY e,decide_eq_false e,Bool.false_or];exact uI k r
theorem ig(kvs:List (κ×V))(k:κ)(v:V):(fP kvs k v).length<=kvs.length+1:=by
 unfold fP;split
 .rw[List.length_map];omega
 .rw[List.length_append,List.length_cons,List.length_nil];omega
theorem rg.isSome_eq(r:rg o u):o.isSome=u.isSome:=by
 cases o with
 |none=>cases u with
  |none=>rfl
  |some _=>exact(show False from r).elim
 |some _=>cases u with
  |none=>exact(show False from r).elim
  |some _=>rfl
theorem rg.getD(r:rg o u)(rd:aX d d'):aX (o.getD d) (u.getD d'):=by
 cases o with
 |none=>cases u with
  |none=>exact rd
  |some _=>exact(show False from r).elim
 |some _=>cases u with
  |none=>exact(show False from r).elim
  |some _=>exact r
theorem KV.val{kvs:List (κ×V)}{vs:List (κ×Value)}(r:KV kvs vs)(k:κ):rg (m6 kvs k) (valueAt vs k):=by
 unfold KV at r
 induction r with
 |nil=>exact True.intro
 |@cons p q ps qs h t ih =>
  obtain⟨h1,h2⟩:=h
  by_cases e:p.1=k
  .have e':q.1=k:=h1.symm.trans e
   have b:valueAt (q::qs) k=some q.2:=by simp [valueAt,List.find?_cons,e']
   rw[jN e,b];exact h2
  .have e':¬q.1=k:=λz=>e (h1.trans z)
   have b:valueAt (q::qs) k=valueAt qs k:=by simp [valueAt,List.find?_cons,e']
   rw[gY e,b];exact ih
theorem KV.any{kvs:List (κ×V)}{vs:List (κ×Value)}(r:KV kvs vs)(k:κ):(kvs.any λkv=>decide (kv.1=k))=vs.any λkv=>decide (kv.1=k):=by
 unfold KV at r
 induction r with|nil=>rfl|cons h t ih=>rw[List.any_cons,List.any_cons,ih,h.1]
theorem KV.repl{kvs:List (κ×V)}{vs:List (κ×Value)}(r:KV kvs vs)(k:κ){y:V}{u:Value}(ry:aX y u) :
  KV (kvs.map λkv=>if kv.1=k then(kv.1,y) else kv) (vs.map λkv=>if kv.1=k then(kv.1,u) else kv):=by
 unfold KV at r ⊢
 induction r with
 |nil=>exact .nil
 |@cons p q ps qs h t ih =>
  rw[List.map_cons,List.map_cons];refine .cons ?_ ih;obtain⟨h1,h2⟩:=h
  by_cases e:p.1=k
  .rw[if_pos e,if_pos (h1.symm.trans e)];exact⟨h1,ry⟩
  .rw[if_neg e,if_neg (λz=>e (h1.trans z))];exact⟨h1,h2⟩
theorem KV.put{kvs:List (κ×V)}{vs:List (κ×Value)}(r:KV kvs vs)(k:κ){y:V}{u:Value}(ry:aX y u):KV (fP kvs k y) (stored vs k u):=by
 unfold fP stored;rw[r.any k]
 by_cases e:(vs.any λkv=>decide (kv.1=k))=true
 .rw[if_pos e,if_pos e];exact r.repl k ry
 .rw[if_neg e,if_neg e];exact Paired.snoc r ⟨rfl,ry⟩
theorem KV.length{kvs:List (κ×V)}{vs:List (κ×Value)}(r:KV kvs vs):kvs.length=vs.length:=Paired.length r
end
theorem oN{k:eS}(r:aX (kV k) u):(b4 P w).is k u=true:=by
 cases k with|inl i=>obtain⟨t,e⟩:=(show ∃t,u=Value.int i t from r);subst e;exact vi P w i t|inr x=>obtain⟨t,e⟩:=(show ∃t,u=Value.str x t from r);subst e;exact vh P w x t
theorem rN:∀{ks:List eS}{us:List Value},bz (ks.map kV) us->ItemsAre (b4 P w) ks us
 |[],_,r=>by rw[List.map_nil] at r;cases r;exact .nil
 |k::ks,_,r=>by
  rw[List.map_cons] at r;cases r with|cons h t=>exact .cons (oN h) (rN t)
noncomputable abbrev KT(H:Hp):List (List eS×V)->List (List eS×Addr×Value)->Prop:=Paired λp q=>p.1=q.1/\H q.2.1=some (.tup (p.1.map kV))/\aX p.2 q.2.2
theorem KT.val(r:KT H kvs xs)(k:List eS):rg (m6 kvs k) ((atKey xs k).map (·.2)):=by
 induction r with
 |nil=>exact True.intro
 |@cons p q ps qs h t ih =>
  obtain⟨h1,_,h2⟩:=h
  by_cases e:p.1=k
  .have e':q.1=k:=h1.symm.trans e
   have b:atKey (q::qs) k=some q.2:=by simp [atKey,List.find?_cons,e']
   rw[jN e,b];exact h2
  .have e':¬q.1=k:=λz=>e (h1.trans z)
   have b:atKey (q::qs) k=atKey qs k:=by simp [atKey,List.find?_cons,e']
   rw[gY e,b];exact ih
theorem KT.repl(r:KT H kvs xs)(k:List eS)(ry:aX y u) :
  KT H (kvs.map λkv=>if kv.1=k then(kv.1,y) else kv) (xs.map (putAt k u)):=by
 induction r with
 |nil=>exact .nil
 |@cons p q ps qs h t ih =>
  rw[List.map_cons,List.map_cons];refine .cons ?_ ih;obtain⟨h1,h2,h3⟩:=h;unfold putAt
  by_cases e:p.1=k
  .rw[if_pos e,if_pos (h1.symm.trans e)];exact⟨h1,h2,ry⟩
  .rw[if_neg e,if_neg (λz=>e (h1.trans z))];exact⟨h1,h2,h3⟩
theorem KT.put(r:KT H kvs xs)(k:List eS)(hb:H b=some (.tup (k.map kV)))(ry:aX y u) :
  KT H (fP kvs k y) (storedH xs k b u):=by
 have e:(kvs.any λkv=>decide (kv.1=k))=(atKey xs k).isSome:=by
  rw[uI,(r.val k).isSome_eq,Option.isSome_map]
 unfold fP storedH;rw[e]
 by_cases q:(atKey xs k).isSome=true
 .rw[if_pos q,if_pos q];exact r.repl k ry
 .rw[if_neg q,if_neg q];exact Paired.snoc r ⟨rfl,hb,ry⟩
theorem KT.keeps(r:KT H kvs xs)(ht:∀b ys,H b=some (.tup ys)->H' b=some (.tup ys)):KT H' kvs xs :=
 iK r λ_ _ z=>⟨z.1,ht _ _ z.2.1,z.2.2⟩
section
variable {P:Program}{w:World}{H:Hp}{h:Heap}{a:Addr}
theorem Fc(ok:jM P w H h)(e:Rd H a u):cF P w H h a u:=e.ok ok
theorem qd(ok:jM P w H h)(e:Rd H a (.dK kvs)):kvs.length<=sizeLine/\(a==sysModules)=false/\∃vs,KV kvs vs/\h.DictOf (b4 P w) a vs :=
 show cF P w H h a (.dK kvs) from Fc ok e
theorem FI(ok:jM P w H h)(e:H a=some (.dK kvs)):kvs.length<=sizeLine/\(a==sysModules)=false/\∃vs,KV kvs vs/\h.DictOf (b4 P w) a vs:=qd ok (.inl e)
theorem lZ(ok:jM P w H h)(e:H a=some (.tup (ks.map kV))):(tupleKind (b4 P w)).is h ks a:=by
 obtain⟨_,its,r,o,h1,h2,n,h3⟩:=(show cF P w H h a (.tup (ks.map kV)) from ok a _ e)
 exact⟨o,its.toArray,n,h1,h2,h3,by simpa using rN r⟩
theorem pZ(ok:jM P w H h)(e:Rd H a (.dT kvs)):kvs.length<=sizeLine/\(a==sysModules)=false /\
  ∃xs,KT H kvs xs/\h.DictOfH (tupleKind (b4 P w)) a xs:=by
 obtain⟨z,y,xs,r,o,es,ep,h1,h2,h3,h4,h5⟩:=(show cF P w H h a (.dT kvs) from Fc ok e)
 refine⟨z,y,xs,r,o,es,ep,h1,h2,h3,h4,λx hx=>?_,h5⟩;have all:∀{l:List (List eS×V)}{m:List (List eS×Addr×Value)},KT H l m->∀x∈m,(tupleKind (b4 P w)).is h x.1 x.2.1:=by
  intro l m q
  induction q with
  |nil=>intro x hx;exact nomatch hx
  |@cons p q ps qs hq t ih =>
   intro x hx;rcases List.mem_cons.mp hx with e|hx
   .subst e
    exact lZ ok (by rw[←hq.1];exact hq.2.1)
   .exact ih x hx
 exact all r x hx
theorem JI(ok:jM P w H h)(e:H a=some (.dT kvs)):kvs.length<=sizeLine/\(a==sysModules)=false /\
  ∃xs,KT H kvs xs/\h.DictOfH (tupleKind (b4 P w)) a xs:=pZ ok (.inl e)
end
noncomputable def qJ(H:Hp) (a:Addr) (y:V) (r:Option V):Prop :=
 (∃kvs k,Rd H a (.dK kvs)/\y=kV k/\r=m6 kvs k)∨∃kvs k b,Rd H a (.dT kvs)/\y=.ref b/\H b=some (.tup (k.map kV))/\r=m6 kvs k
noncomputable def AN(H:Hp) (a:Addr) (y v:V) (H':Hp):Prop :=
 (∃kvs k,H a=some (.dK kvs)/\y=kV k/\kvs.length<sizeLine/\H'=upd H a (.dK (fP kvs k v))) ∨
 ∃kvs k b,H a=some (.dT kvs)/\y=.ref b/\H b=some (.tup (k.map kV))/\kvs.length<sizeLine/\H'=upd H a (.dT (fP kvs k v))
theorem AN.k{k:eS}(e:H a=some (.dK kvs))(hl:kvs.length<sizeLine):AN H a (kV k) v (upd H a (.dK (fP kvs k v))):=.inl ⟨kvs,k,e,rfl,hl,rfl⟩
section
variable {X:Cx}{pins:List (Addr×Obj)}{σ:St}{H:Hp}{s:Shared}{a:Addr}{y v:V}{u r:Value}{o:Option V}{A:Around}{E:Value->Shared->Prop}
theorem Inv.big(I:Inv X pins σ H s):sysModules<s.heap.objs.size:=by
 have h:mainGlobals<s.heap.objs.size:=(I.mod.glob.keeps I.bk).lt;exact Nat.lt_trans (by decide) h
theorem AB(hu:A.units+1<cLine)(I:Inv X pins σ H s)(g:qJ H a y (some v))(ry:aX y u)(h:∀w' s',Inv X pins σ H s'->aX v w'->Q w' s') :
  wpAny (model X.prog X.w) A (getItem (.ref a) u) Q E s:=by
 rcases g with⟨kvs,k,e,ey,l⟩|⟨kvs,k,b,e,ey,eb,l⟩
 .subst ey
  obtain⟨z,hd,vs,rel,dd⟩:=qd I.hok e;obtain⟨w',hw,rw'⟩:=lE (v:=v) (o:=valueAt vs k) (by rw[l];exact rel.val k);exact wpAny_getItem_of (oN ry) dd.mapOf hw (h w' _ (I.tok _) rw')
 .subst ey
  cases (show u=Value.ref b from ry);obtain⟨z,hd,xs,rel,dd⟩:=pZ I.hok e;obtain⟨w',hw,rw'⟩:=lE (v:=v) (o:=(atKey xs k).map (·.2)) (by rw[l];exact rel.val k);obtain⟨p,hp,hp2⟩:=Option.map_eq_some_iff.mp hw;refine wpAny_getItem_heap (tupleKind_room_in1 hu) (lZ I.hok eb) dd hp ?_;rw[hp2];exact h w' _ (I.tok _) rw'
theorem K3(hu:A.units+1<cLine)(I:Inv X pins σ H s)(g:qJ H a y o)(ry:aX y u)(h:∀s',Inv X pins σ H s'->Q (.bool o.isSome) s') :
  wpAny (model X.prog X.w) A (compareOp .In u (.ref a)) Q E s:=by
 rcases g with⟨kvs,k,e,ey,l⟩|⟨kvs,k,b,e,ey,eb,l⟩
 .subst ey
  obtain⟨z,hd,vs,rel,dd⟩:=qd I.hok e;refine wpAny_in_of (oN ry) hd dd.mapOf ?_;rw[←(rel.val k).isSome_eq,←l];exact h _ (I.tok _)
 .subst ey
  cases (show u=Value.ref b from ry);obtain⟨z,hd,xs,rel,dd⟩:=pZ I.hok e;refine wpAny_in_heap (tupleKind_room_in1 hu) (lZ I.hok eb) hd dd ?_;have q:=(rel.val k).isSome_eq;rw[Option.isSome_map] at q;rw[←q,←l];exact h _ (I.tok _)
theorem EH(hu:A.units+1<cLine)(I:Inv X pins σ H s)(g:qJ H a y o)(ry:aX y u)(h:∀s',Inv X pins σ H s'->Q (.bool (!o.isSome)) s') :
  wpAny (model X.prog X.w) A (compareOp .NotIn u (.ref a)) Q E s:=by
 rcases g with⟨kvs,k,e,ey,l⟩|⟨kvs,k,b,e,ey,eb,l⟩
 .subst ey
  obtain⟨z,hd,vs,rel,dd⟩:=qd I.hok e;refine wpAny_notIn_of (oN ry) hd dd.mapOf ?_;rw[←(rel.val k).isSome_eq,←l];exact h _ (I.tok _)
 .subst ey
  cases (show u=Value.ref b from ry);obtain⟨z,hd,xs,rel,dd⟩:=pZ I.hok e;refine wpAny_notIn_heap (tupleKind_room_in1 hu) (lZ I.hok eb) hd dd ?_;have q:=(rel.val k).isSome_eq;rw[Option.isSome_map] at q;rw[←q,←l];exact h _ (I.tok _)
theorem uo(I:Inv X pins σ H s)(mu:JT (H a))(hs:Heap.SameBut a s.heap h')(he:∃q,h'.get? a=some q)(new:cF X.prog X.w (upd H a ob) h' a ob) :
  Inv X pins σ (upd H a ob) { s with heap:=h',toks:=t' } :=
 I.write (x:=a) (e:=a) mu (.inl rfl) (λb q hb z=>(hs.2 b hb).trans z) he new
theorem CH{vs:List (eS×Value)}(z:kvs.length<=sizeLine)(hd:(a==sysModules)=false)(rel:KV kvs vs)(dd:h'.DictOf (b4 P w) a vs) :
  cF P w H' h' a (.dK kvs):=⟨z,hd,vs,rel,dd⟩
theorem AA(hu:A.units+1<cLine)(I:Inv X pins σ H s)(g:AN H a y v H')(ry:aX y u)(rv:aX v r)(h:∀s',Inv X pins σ H' s'->Q () s') :
  wpAny (model X.prog X.w) A (setItem (.ref a) u r) Q E s:=by
 rcases g with⟨kvs,k,e,ey,l,eH⟩|⟨kvs,k,b,e,ey,eb,l,eH⟩
 .subst ey eH
  obtain⟨z,hd,vs,rel,dd⟩:=FI I.hok e;have hz:vs.length<=sizeLine:=by rw[←rel.length];exact z
  have hl:(fP kvs k v).length<=sizeLine:=by have:=ig kvs k v;omega
  refine wpAny_setItem_pairs (hsz:=hz) (oN ry) dd λh' dd' hs=>h _ ?_;have he:∃q,h'.get? a=some q:=let ⟨q,_,_,hq,_⟩:=dd';⟨q,hq⟩;exact uo I (by rw[e];exact True.intro) hs he (CH hl hd (rel.put k rv) dd')
 .subst ey eH
  cases (show u=Value.ref b from ry);obtain⟨z,hd,xs,rel,dd⟩:=JI I.hok e;have hz:xs.length<=sizeLine:=by rw[←Paired.length rel];exact z
  have hl:(fP kvs k v).length<=sizeLine:=by have:=ig kvs k v;omega
  refine wpAny_setItem_heap (hsz:=hz) (tupleKind_room_in1 hu) (lZ I.hok eb) dd λh' dd' hs=>h _ ?_;obtain⟨q,es,ep,hq,h2,h3,h4,_,h5⟩:=dd';refine uo I (by rw[e];exact True.intro) hs ⟨q,hq⟩ ⟨hl,hd,_,(rel.put k eb rv).keeps λc ys ec=>?_,q,es,ep,hq,h2,h3,h4,h5⟩;rw[av (Jk ec e (λz=>nomatch z))];exact ec
end
noncomputable def HP(i:Expr):Prop:=∀ov iv,subscripted i false ov iv=operate [ov,iv] (getItem ov iv)
theorem Dw{T id:String} 
  (hl:typeLookup (.type T) "__getitem__"=pure (some (.builtin id)))(hs:HP slice)
  (h:wpAny (model prog w) A (eval value env) (λo sg=>wpAny (model prog w) A (eval slice env) (λi si=>si.TypeIs o T/\wpAny (model prog w) A (getItem o i) Q E si) E sg) E s) :
  wpAny (model prog w) A (eval (.Subscript value slice pos) env) Q E s:=by
 refine Subscript_ (wpAny_mono h (λo sg hU=>wpAny_mono hU (λi si hV=>?_) λ_ _ x=>x) λ_ _ x=>x);obtain⟨hT,hV⟩:=hV;unfold subscriptTail;refine wpAny_bind ?_;rw[getitemInPython_of_ne hT.not_modules];refine wpAny_bind (wpAny_specialOf hT hl ?_);have fin:wpAny (model prog w) A (subscripted slice false o i) (λr sj=>wpAny (model prog w) A (letTemporaryGo value o r >>= λ_=>pure r) Q E sj) E si:=by
  rw[hs o i];exact wpAny_operating (wpAny_mono hV (λr sj hX=>wpAny_bind (wpAny_letTemporaryGo (wpAny_pure hX))) λ_ _ x=>x)
 first
  |exact wpAny_pure (wpAny_bind fin)
  |exact wpAny_bind (wpAny_pure (wpAny_bind fin))
  |exact wpAny_bind fin
theorem v7(I:Inv X pins σ H s)(g:qJ H a y o):s.TypeIs (.ref a) "dict":=by
 rcases g with⟨kvs,k,e,_,_⟩|⟨kvs,k,b,e,_,_,_⟩
 .obtain⟨_,_,vs,_,dd⟩:=qd I.hok e
  exact dd.typeIs
 .obtain⟨_,_,xs,_,dd⟩:=pZ I.hok e
  exact dd.typeIs
noncomputable def Iv(td ty:TE):TE:=λσ H Q=>td σ H λx H1=>ty σ H1 λy H2=>∃a v,x=.ref a/\qJ H2 a y (some v)/\Q v H2
noncomputable def IC(td ty tv:TE):TS:=λD σ H=>tv σ H λv H1=>td σ H1 λx H2=>ty σ H2 λy H3=>∃a H4,x=.ref a/\AN H3 a y v H4/\D.nx σ H4
section
variable {X:Cx}{o i e value:Expr}{pos pos' tpos:Pos}{td ty tv:TE}
theorem D6(hu:X.A.units+1<cLine)(ho:PE X o td)(hi:PE X i ty)(hs:HP i):PE X (.Subscript o i pos) (Iv td ty):=by
 intro pins s σ H Q I h;refine Dw PySem.F.slot_dict_getitem.lookup hs (cw (ho pins s σ H _ I h) λu s1 ⟨x,H1,I1,rx,q1⟩=>cw (hi pins s1 σ H1 _ I1 q1) λiv s2 ⟨y,H2,I2,ry,a,v,ex,g,q2⟩=>?_);subst ex;obtain rfl:u=Value.ref a:=rx;exact⟨v7 I2 g,AB hu I2 g ry λw' s3 I3 rw'=>⟨v,H2,I3,rw',q2⟩⟩
theorem DV(hu:X.A.units+1<cLine)(ho:PE X o td)(hi:PE X i ty)(hv:PE X value tv)(hs:swapsWith value (some (.Subscript o i pos')) pos.line X.env=pure false) :
  PS X (.Assign [.Subscript o i pos'] value pos) (IC td ty tv):=by
 intro pins s σ H D I h;refine wpAny_Assign_Subscript (cw (hv pins s σ H _ I h) λr s1 ⟨v,H1,I1,rv,q1⟩=>cw (ho pins s1 σ H1 _ I1 q1) λu s2 ⟨x,H2,I2,rx,q2⟩=>cw (hi pins s2 σ H2 _ I2 q2) λiv s3 ⟨y,H3,I3,ry,a,H4,ex,g,q3⟩=>?_) hs;subst ex;obtain rfl:u=Value.ref a:=rx;exact AA hu I3 g ry rv λs4 I4=>⟨σ,H4,I4,q3⟩
end
theorem v5(h:Heap)(hb:sysModules<h.objs.size):cF P w H (h.push { cls:=.type "dict",data:=.dict #[] }) h.objs.size (.dK []) :=
 ⟨Nat.zero_le _,beq_eq_false_iff_ne.mpr (Ne.symm (Nat.ne_of_lt hb)),[],.nil,Heap.DictOf.new h⟩
noncomputable def F7:TE:=λ_ H Q=>∀p,H p=none->Q (.ref p) (upd H p (.dK []))
section
variable {X:Cx}{pos:Pos}
theorem BM:PE X (.Dict [] [] pos) F7:=λpins s σ H Q I h =>
 wpAny_Dict_empty ⟨.ref s.heap.objs.size,_,I.laid (a:=s.heap.objs.size) (o:=.dK []) (t':=s.toks) (λ_ _ q=>Heap.get?_push_of_some _ q) (Nat.le_refl _) (v5 s.heap I.big),rfl,h _ (I.hok.fresh (Nat.le_refl _))⟩
end
noncomputable def wU:List (TE×TE)->St->Hp->(List (V×V)->Hp->Prop)->Prop
 |[],_,H,Q=>Q [] H
 |(tk,tv)::r,σ,H,Q=>tk σ H λx H1=>tv σ H1 λy H2=>wU r σ H2 λps H3=>Q ((x,y)::ps) H3
noncomputable abbrev VV:List (V×V)->List (Value×Value)->Prop:=Paired λp q=>aX p.1 q.1/\aX p.2 q.2
noncomputable def Kc(X:Cx) (pos:Pos) (keys:List (Option Expr)) (values:List Expr) (trs:List (TE×TE)):Prop :=
 ∀(pins:List (Addr×Obj)) (s:Shared) (σ:St) (H:Hp) (Q:List (V×V)->Hp->Prop),Inv X pins σ H s->wU trs σ H Q ->
  wpAny (model X.prog X.w) X.A (evalPairs (pairTrees keys values X.env pos)) (λvs s'=>∃ps H',Inv X pins σ H' s'/\VV ps vs/\Q ps H') X.xe s
theorem DX:Kc X pos [] [] []:=λpins s σ H Q I h=>pairTrees_nil_walk ⟨[],H,I,.nil,h⟩
theorem BG{k v:Expr}{vs:List Expr}(hk:PE X k tk)(hv:PE X v tv)(hr:Kc X pos ks vs trs) :
  Kc X pos (some k::ks) (v::vs) ((tk,tv)::trs):=λpins s σ H Q I h =>
 pairTrees_cons_walk (cw (hk pins s σ H _ I h) λu s1 ⟨x,H1,I1,rx,q1⟩=>cw (hv pins s1 σ H1 _ I1 q1) λw2 s2 ⟨y,H2,I2,ry,q2⟩ =>
  cw (hr pins s2 σ H2 _ I2 q2) λws s3 ⟨ps,H3,I3,rel,q3⟩=>⟨(x,y)::ps,H3,I3,.cons ⟨rx,ry⟩ rel,q3⟩)
noncomputable def oG(kvs more:List (eS×V)):List (eS×V):=more.foldl (λacc kv=>fP acc kv.1 kv.2) kvs
theorem KV.merge:∀{more:List (eS×V)}{rs:List (eS×Value)}{kvs:List (eS×V)}{vs:List (eS×Value)},KV more rs->KV kvs vs->KV (oG kvs more) (merged vs rs):=by
 intro more rs kvs vs r;unfold KV at r
 induction r generalizing kvs vs with
 |nil=>intro q;exact q
 |@cons p q ps qs h t ih =>
  intro r0;have e:KV (fP kvs p.1 p.2) (stored vs q.1 q.2):=by
   have:=r0.put p.1 h.2;rw[←h.1];exact this
  exact ih e
theorem jg:∀(more kvs:List (eS×V)),(oG kvs more).length<=kvs.length+more.length
 |[],kvs=>by show kvs.length<=kvs.length+0;omega
 |p::r,kvs=>by
  have h1:=jg r (fP kvs p.1 p.2);have h2:=ig kvs p.1 p.2;show(oG (fP kvs p.1 p.2) r).length<=_;rw[List.length_cons];omega
theorem qp:∀{kvs:List (eS×V)}{ws:List (Value×Value)},VV (kvs.map λkv=>(kV kv.1,kv.2)) ws->∃rs,Carries (b4 P w) ws rs/\KV kvs rs
 |[],_,r=>by rw[List.map_nil] at r;cases r;exact⟨[],True.intro,.nil⟩
 |p::kvs,_,r=>by
  rw[List.map_cons] at r;cases r with
  |@cons a b as bs h t =>
   obtain⟨rs,c,q⟩:=qp (P:=P) (w:=w) t;obtain⟨b1,b2⟩:=b;exact⟨(p.1,b2)::rs,⟨oN h.1,rfl,c⟩,.cons ⟨rfl,h.2⟩ q⟩
noncomputable def Iu(trs:List (TE×TE)):TE:=λσ H Q=>∀p,H p=none->wU trs σ (upd H p (.dK [])) λps H2=>H2 p=some (.dK [])/\∃kvs:List (eS×V),ps=kvs.map (λkv=>(kV kv.1,kv.2))/\kvs.length<=15/\Q (.ref p) (upd H2 p (.dK (oG [] kvs)))
theorem D5(h:Kc X pos keys values trs)(hall:keys.all (·.isSome)=true)(hl:keys.length=values.length)(h0:keys≠[])
  (h15:keys.length<=15):PE X (.Dict keys values pos) (Iu trs):=by
 intro pins s σ H Q I q;have hn:=I.hok.fresh (Nat.le_refl s.heap.objs.size);have I1:=I.laid (a:=s.heap.objs.size) (o:=.dK []) (h':=s.heap.push { cls:=.type "dict",data:=.dict #[] }) (t':=s.toks) (λ_ _ q=>Heap.get?_push_of_some _ q) (Nat.le_refl _) (v5 s.heap I.big);refine wpAny_Dict_walk (knd:=b4 X.prog X.w) hall hl h0 h15 (cw (h pins _ σ _ _ I1 (q _ hn)) λws s2 ⟨ps,H2,I2,rel,e,kvs,ep,lk,q2⟩=>?_);subst ep;obtain⟨rs,c,rk⟩:=qp (P:=X.prog) (w:=X.w) rel;obtain⟨z,hd,vs0,r0,dd⟩:=FI I2.hok e;cases r0;refine⟨rs,c,dd,λh' dd' hs=>⟨.ref s.heap.objs.size,_,?_,rfl,q2⟩⟩;have hz:(oG [] kvs).length<=sizeLine:=by
  have h1:=jg kvs [];rw[List.length_nil] at h1;rw[sizeLine_eq];omega
 have he:∃q,h'.get? s.heap.objs.size=some q:=let ⟨q,_,_,hq,_⟩:=dd';⟨q,hq⟩;exact uo I2 (by rw[e];exact True.intro) hs he (CH hz hd (rk.merge .nil) dd')
structure M1 (X:Cx) (o:Expr) (m:Str) (apos:Pos) (e:Expr) (cpos:Pos):Prop where
 base:attributeBase o m X.env (eval o X.env)=eval o X.env
 few:((backTo cpos (starEach [e] X.env)).all (λx=>!x.1)&&(backToKw cpos (keywordEach [] X.env)).all (λx=>x.1.isSome)
 &&decide (([e]:List Expr).length+([]:List Keyword).length+(if([]:List Keyword).isEmpty then 0 else 1)<30))=true
 line:(apos.endLine==cpos.line)=true
 trees:backTo cpos (starEach [e] X.env)=[(false,eval e X.env)]
noncomputable def LM(H:Hp) (a:Addr):Prop:=(∃kvs,Rd H a (.dK kvs))∨∃kvs,Rd H a (.dT kvs)
theorem G3(I:Inv X pins σ H s)(d:LM H a) :
  s.TypeIs (.ref a) "dict"/\(∀b,Value.ref a=.ref b->∃ob,s.heap.get? b=some ob/\ob.dict=none)/\(a==sysModules)=false:=by
 rcases d with⟨kvs,e⟩|⟨kvs,e⟩
 .obtain⟨_,hd,vs,_,dd⟩:=qd I.hok e
  refine⟨dd.typeIs,λb q=>?_,hd⟩;cases q;obtain⟨ob,_,_,h1,h2,_⟩:=dd;exact⟨ob,h1,h2.2.1⟩
 .obtain⟨_,hd,xs,_,dd⟩:=pZ I.hok e
  refine⟨dd.typeIs,λb q=>?_,hd⟩;cases q;obtain⟨ob,_,_,h1,h2,_⟩:=dd;exact⟨ob,h1,h2.2.1⟩
section
variable {X:Cx}{pins:List (Addr×Obj)}{σ:St}{H:Hp}{s:Shared}{a:Addr}{y d:V}{u r:Value}{o:Option V}{A:Around}{E:Value->Shared->Prop}
theorem Hu(hu:A.units+1<cLine)(I:Inv X pins σ H s)(g:qJ H a y o)(ry:aX y u)(h:∀w' s',Inv X pins σ H s'->aX (o.getD .non) w'->Q w' s') :
  wpAny (model X.prog X.w) A (call (.builtin "dict.get") [.ref a,u]) Q E s:=by
 rcases g with⟨kvs,k,e,ey,l⟩|⟨kvs,k,b,e,ey,eb,l⟩
 .subst ey
  obtain⟨z,hd,vs,rel,dd⟩:=qd I.hok e;refine call_meetsIn PySem.F.slot_dict_get dd.typeIs PySem.F.entry_dict_get (PySem.F.args_dict_get_2 _ _) (meets_dict_get (b4 X.prog X.w) a (oN ry) hd) ⟨_,dd.mapOf,h _ _ (I.tok _) ?_⟩;rw[l];exact(rel.val k).getD rfl
 .subst ey
  cases (show u=Value.ref b from ry);obtain⟨z,hd,xs,rel,dd⟩:=pZ I.hok e;refine call_meetsIn PySem.F.slot_dict_get dd.typeIs PySem.F.entry_dict_get (PySem.F.args_dict_get_2 _ _) (meetsH_dict_get (tupleKind (b4 X.prog X.w)) a b hd) ⟨tupleKind_room_in1 hu,k,xs,lZ I.hok eb,dd,h _ _ (I.tok _) ?_⟩;rw[l];exact(rel.val k).getD rfl
end
noncomputable def F8(td ty:TE):TE:=λσ H Q=>td σ H λx H1=>∃a,x=.ref a/\LM H1 a/\ty σ H1 λy H2=>∃o,qJ H2 a y o/\Q (o.getD .non) H2
section
variable {X:Cx}{o e f:Expr}{apos cpos:Pos}{td ty tx:TE}
theorem BN(hu:X.A.units+1<cLine)(ho:PE X o td)(he:PE X e ty)(m:M1 X o "get" apos e cpos):PE X (.Call (.Attribute o "get" apos) [e] [] cpos) (F8 td ty):=by
 intro pins s σ H Q I h;refine wpAny_Call_method m.base m.few m.line PySem.F.plainAttrs_dict PySem.F.slot_dict_get PySem.F.type_dict_get (cw (ho pins s σ H _ I h) λu s1 ⟨x,H1,I1,rx,a,ex,d,q1⟩=>?_);subst ex;obtain rfl:u=Value.ref a:=rx;obtain⟨t1,t2,_⟩:=G3 I1 d;refine⟨t1,t2,?_⟩;rw[m.trees];refine Calls.callWith_builtin rfl (Calls.evalArgs_plain (Calls.spliced_cons (cw (he pins s1 σ H1 _ I1 q1) λiv s2 ⟨y,H2,I2,ry,ov,g,q2⟩=>Calls.spliced_nil ?_)));exact Hu hu I2 g ry λw' s3 I3 rw'=>⟨_,H2,I3,rw',q2⟩
end
end L2
namespace DL
open PySem PySem.Spec PyProof.Rows L2
section
variable {X:Cx}{E:XK}{e:Expr}{f:Ev->ai D}{pos p1:Pos}
noncomputable def dOne(x:Str) (d:D):ai D:=.ok (.dic [x] [d])
end
noncomputable def eX(cells:List (Str×Addr)):List (Str×NameKind)->List (Str×Addr)->List (Str×Addr)
 |[],acc=>acc
 |(n,k)::r,acc=>if(k==NameKind.free)=true then eX cells r ((n,(cells.lookup n).getD 0)::acc) else eX cells r acc
theorem jj(h:∀x∈scope.names,x.2=.free->∃c,env.cells.lookup x.1=some c):closureFor scope env=pure (eX env.cells scope.names []):=by
 simp only[closureFor];have key:∀(names:List (Str×NameKind)) (acc:List (Str×Addr)),(∀x∈names,x.2=.free->∃c,env.cells.lookup x.1=some c) ->
   (forIn names acc λ(x:Str×NameKind) (z:List (Str×Addr)) =>
      if(x.snd==NameKind.free)=true then do
       let y ←cellOf env x.fst
       pure (ForInStep.yield ((x.fst,y)::z))
      else(pure (ForInStep.yield z):Sem _))=pure (eX env.cells names acc):=by
  intro names
  induction names with
  |nil=>intro acc _;rfl
  |cons x r ih =>
   intro acc hh;obtain⟨n,k⟩:=x;rw[List.forIn_cons]
   by_cases hk:(k==NameKind.free)=true
   .obtain⟨c,hc⟩:=hh (n,k) List.mem_cons_self (by simpa using hk)
    have hcell:cellOf env n=pure c:=by unfold cellOf;rw[show env.cells.lookup n=some c from hc]
    simp only[hk,if_true];rw[hcell];have:=ih ((n,c)::acc) (λy hy=>hh y (List.mem_cons_of_mem _ hy));rw[show eX env.cells ((n,k)::r) acc=eX env.cells r ((n,c)::acc) by
     show(if(k==NameKind.free)=true then _ else _)=_;rw[if_pos hk,show env.cells.lookup n=some c from hc];rfl]
    rw[←this];rfl
   .have:=ih acc (λy hy=>hh y (List.mem_cons_of_mem _ hy))
    rw[if_neg hk];rw[show eX env.cells ((n,k)::r) acc=eX env.cells r acc by
     show(if(k==NameKind.free)=true then _ else _)=_;rw[if_neg hk]]
    rw[←this];rfl
 rw[key _ _ h];rfl
theorem ql{cells:List (Str×Addr)}:∀{names:List (Str×NameKind)}{acc:List (Str×Addr)}{x:Str}{c:Addr},(∀y∈names,y.2=.free->∃c,cells.lookup y.1=some c) ->
  (eX cells names acc).lookup x=some c->acc.lookup x=some c∨cells.lookup x=some c
 |[],acc,x,c,_,h=>.inl h
 |(n,k)::r,acc,x,c,hh,h=>by
  unfold eX at h
  by_cases hk:(k==NameKind.free)=true
  .rw[if_pos hk] at h
   obtain⟨d,hd⟩:=hh (n,k) List.mem_cons_self (by simpa using hk);rcases ql (λy hy=>hh y (List.mem_cons_of_mem _ hy)) h with h|h
   .rw[List.lookup_cons] at h
    cases e:x==n with
    |true =>
     rw[e] at h;rw[show cells.lookup n=some d from hd] at h;cases h;rw[eq_of_beq e];exact .inr hd
    |false=>rw[e] at h;exact .inl h
   .exact .inr h
  .rw[if_neg hk] at h
   exact ql (λy hy=>hh y (List.mem_cons_of_mem _ hy)) h
theorem mK{α:Type}:∀{l:List (Str×α)},(∃v,(x,v)∈l)->∃v,l.lookup x=some v
 |[],⟨v,h⟩=>by cases h
 |(n,w)::r,⟨v,h⟩=>by
  rw[List.lookup_cons];cases e:x==n with
  |true=>exact⟨w,rfl⟩
  |false =>
   rcases List.mem_cons.mp h with h|h
   .cases h;simp at e
   .exact mK ⟨v,h⟩
theorem qo:∀{names:List (Str×NameKind)}{acc:List (Str×Addr)},(x,c)∈acc->(x,c)∈eX cells names acc
 |[],acc,h=>h
 |(n,k)::r,acc,h=>by
  unfold eX
  by_cases hk:(k==NameKind.free)=true
  .rw[if_pos hk];exact qo (List.mem_cons_of_mem _ h)
  .rw[if_neg hk];exact qo h
theorem qm:∀{names:List (Str×NameKind)}{acc:List (Str×Addr)},(x,NameKind.free)∈names->∃c,(eX cells names acc).lookup x=some c:=by
 intro names
 induction names with
 |nil=>intro acc h;cases h
 |cons y r ih =>
  intro acc h;obtain⟨n,k⟩:=y;unfold eX;rcases List.mem_cons.mp h with h|h
  .cases h
   rw[if_pos (by rfl)];exact mK ⟨_,qo List.mem_cons_self⟩
  .by_cases hk:(k==NameKind.free)=true
   .rw[if_pos hk];exact ih h
   .rw[if_neg hk];exact ih h
noncomputable def cx(X:Cx) (N:List Str) (scope:Scope) (s:Shared) (H:Hp) (C:Addr) (fp:List Addr) (pn:List (Addr×Obj)):Cx :=
 { X with N:=N,sf:=s,Ha:=H,env:=compEnvC scope (eX X.env.cells scope.names []) C X.env,outer:=X.stack,stack:=X.stack,ex:=fp,fn:=λ_=>false,pn:=pn,xe:=λ_ _=>False }
noncomputable def gS(n:Nat) (fr:List Nat) (σ:L2.St):L2.St:=List.replicate n none++fr.map λ(i:Nat)=>(σ[i]?).getD none
noncomputable def xX(X:Cx) (N:List Str) (n:Nat) (fr:List Nat) (scope:Scope):Prop :=
 N.length=n+fr.length/\((N.drop n).zip fr).all (λp=>X.N[p.2]?==some p.1&&X.env.scope.names.lookup p.1==some .cell&&scope.names.lookup p.1==some .free&&(relabel scope X.env).names.lookup p.1==some .cell)=true
theorem xX.at{fr:List Nat}(h:xX X N n fr scope){k:Nat}(hx:N[k]?=some x)(hv:(gS n fr σ)[k]?=some (some v)) :
  ∃i:Nat,X.N[i]?=some x/\σ[i]?=some (some v)/\X.env.scope.names.lookup x=some .cell/\scope.names.lookup x=some .free/\(relabel scope X.env).names.lookup x=some .cell:=by
 unfold gS at hv
 by_cases hk:k<n
 .rw[List.getElem?_append_left (by simpa using hk),List.getElem?_replicate,if_pos hk] at hv
  cases hv
 .rw[List.getElem?_append_right (by simpa using hk),List.length_replicate,List.getElem?_map] at hv
  cases hi:fr[k-n]? with
  |none=>rw[hi] at hv;cases hv
  |some i =>
   rw[hi] at hv;have hz:((N.drop n).zip fr)[k-n]?=some (x,i):=by
    rw[List.getElem?_zip_eq_some];exact⟨by rw[List.getElem?_drop,show n+(k-n)=k by omega];exact hx,hi⟩
   have:=List.all_eq_true.mp h.2 _ (List.mem_of_getElem? hz);simp only[Bool.and_eq_true,beq_iff_eq] at this;refine⟨i,this.1.1.1,?_,this.1.1.2,this.1.2,this.2⟩;simp only[Option.map_some,Option.some.injEq] at hv;cases hs:σ[i]? with|none=>rw[hs] at hv;cases hv|some u=>rw[hs] at hv;exact congrArg some hv
noncomputable def Ig(X:Cx) (ifs:List Expr) (t:TT):Prop :=
 ∀(pins:List (Addr×Obj)) (s:Shared) (σ:L2.St) (H:Hp) (Q:Bool->Hp->Prop),Inv X pins σ H s->t σ H Q ->
  wpAny (model X.prog X.w) X.A (forIn ifs true λc r=>if r=true then do let ok ←isTrue c X.env (eval c X.env);pure (ForInStep.yield ok) else pure (ForInStep.yield r)) (TP X pins σ Q) X.xe s
noncomputable def A7:TT:=λ_ H Q=>Q true H
theorem yo:Ig X [] A7:=λ_ _ _ H _ I h=>wpAny_tests_nil ⟨H,I,h⟩
theorem D0(h:PT X c t):Ig X [c] t:=λpins s σ H Q I q=>wpAny_tests_one (h pins s σ H Q I q)
theorem qi(I:Nat->Shared->Prop)
  (turn:∀n s,I n s->wpAny (model prog w) A (pyNext it) (λr sg=>match r with
   |none=>R (.ok .next) sg
   |some v=>wpAny (model prog w) A (letOwnedTupleGo target it v) (λ_ sg'=>wpAny (model prog w) A (assign target env v) (λ_ si =>
     wpAny (model prog w) A (forIn ifs true λc r=>if r=true then do let ok ←isTrue c env (eval c env);pure (ForInStep.yield ok) else pure (ForInStep.yield r)) (λok sj =>
      if ok=true then wpAny (model prog w) A (eval elt env) (λx sk =>
       wpAny (model prog w) A (call (.builtin "list.append") [acc,x]) (λ_ sn=>∃m,m<n/\I m sn) (λ_ _=>False) sk) (λ_ _=>False) sj
      else ∃m,m<n/\I m sj) (λ_ _=>False) si) (λ_ _=>False) sg') (λ_ _=>False) sg) (λ_ _=>False) s)
  (n:Nat) (h:I n s) :
  codeAny (model prog w) A (.compLoop (.ListComp elt [⟨target,iter,ifs,0⟩] scope pos) 0 it acc env) R s:=by
 refine codeAny_loop rfl I (λn s hI=>?_) n h;show wpAny _ A ((compTurn (.ListComp elt [⟨target,iter,ifs,0⟩] scope pos) 0 it acc env).onRaise (λx=>do noteFrame x env;theTreesLotGoes x)) _ _ s;refine wpAny_noted ?_;rw[compTurn_list];refine wpAny_bind (wpAny_standAt (wpAny_bind (wpAny_mono (turn n s hI) (λr sg hU=>?_) λ_ _ h'=>h'.elim)));cases r with
 |none=>exact wpAny_pure hU
 |some v =>
  refine wpAny_bind (wpAny_mono hU (λ_ sg' hU'=>?_) λ_ _ h'=>h'.elim);refine wpAny_bind (wpAny_mono hU' (λ_ si hV=>wpAny_bind (wpAny_mono hV (λok sj hX=>?_) λ_ _ h'=>h'.elim)) λ_ _ h'=>h'.elim);cases ok with
  |false=>exact wpAny_pure ⟨rfl,hX⟩
  |true =>
   exact wpAny_bind (wpAny_bind (wpAny_mono hX (λx sk hZ=>wpAny_bind (wpAny_mono hZ (λ_ sn h₅=>wpAny_pure (wpAny_pure ⟨rfl,h₅⟩)) λ_ _ h'=>h'.elim)) λ_ _ h'=>h'.elim))
noncomputable def nT(n:Nat) (fr:List Nat) (g:TG) (tt:TT) (te:TE) (J:It) (σ:L2.St) (H1:Hp) (Q:VK):Prop:=∀D,H1 D=none->∃W:Nat->Nat->List V->L2.St->Hp->Prop,(∃m,W 0 m [] (gS n fr σ) (upd H1 D (.lst []))) /\
 ∀i m ys σ' H',W i m ys σ' H'->H' D=some (.lst ys)/\((J.stop i H'/\Q (.ref D) H')∨(J.go i H'/\ys.length<sizeLine/\∀x H2,J.yld i H' x H2->g x σ' H2 λσ3 H3=>tt σ3 H3 λb H4 =>
  if b=true then te σ3 H4 λy H5=>H5 D=some (.lst ys)/\∃m',m' < m/\W (i+1) m' (ys++[y]) σ3 (upd H5 D (.lst (ys++[y])))
  else ∃m',m' < m/\W (i+1) m' ys σ3 H4))
theorem sr{fr:List Nat}(hc:X.calm=true)(hfr:xX X N n fr scope)
  (hcell:∀x∈scope.names,x.2≠.cell)(hfree:∀x∈scope.names,x.2=.free->X.env.scope.names.lookup x.1=some .cell)(hkind:scope.kind=.function)
  (blk:∀s H C fp pn,PG (cx X N scope s H C fp pn) tg g/\Ig (cx X N scope s H C fp pn) ifs tt/\PE (cx X N scope s H C fp pn) elt te)
  {RR:Value->Addr->Result->Shared->Prop}
  (h2:Ld X pins σ tg (λJ H1=>nT n fr g tt te J σ H1 Q) itv s2)
  (fin:∀(Da C:Addr) (s6:Shared) (H5:Hp) (m:Str->Option Value),Inv X pins σ H5 s6->s6.heap.Ns C m->lJ X pins H5 C->Q (.ref Da) H5->RR (.ref Da) C (.ok .next) s6) :
  wpAny (model X.prog X.w) X.A (newList []) (λacc sj=>wpAny (model X.prog X.w) X.A (newFunctionEnv scope X.env.globals (eX X.env.cells scope.names []) [] X.env.qual none .none (some X.env)) (λcenv sk =>
   codeAny (model X.prog X.w) X.A (.compStart (.ListComp elt [⟨tg,iter,ifs,0⟩] scope pos) 0 itv acc { cenv with scope:=relabel scope X.env }) (RR acc cenv.locals) sk) X.xe sj) X.xe s2:=by
 obtain⟨it,fp,tn,J,H2,e,I2,T,st2,f2,q⟩:=h2;subst e;have hD:H2 s2.heap.objs.size=none:=I2.fresh;refine wpAny_newObj_type ?_;have I3:Inv X pins σ (upd H2 s2.heap.objs.size (.lst [])) { s2 with heap:=s2.heap.push { cls:=.type "list",data:=.seq ([]:List Value).toArray } }:=I2.lnew (t':=s2.toks) (its:=[]) .nil (Nat.zero_le _);obtain⟨W,⟨m0,w0⟩,turn⟩:=q s2.heap.objs.size hD;generalize hs3:({ s2 with heap:=s2.heap.push { cls:=.type "list",data:=.seq ([]:List Value).toArray } }:Shared)=s3 at I3 ⊢;have hs3h:s3.heap=s2.heap.push { cls:=.type "list",data:=.seq ([]:List Value).toArray }:=by rw[←hs3]
 have hDs:s2.heap.objs.size<s3.heap.objs.size:=by rw[hs3h,Heap.size_push];exact Nat.lt_succ_self _
 have fpl:∀b∈fp,b<s2.heap.objs.size:=λb hb=>by
  obtain⟨o,ho,_⟩:=T.obj _ _ st2 b hb;exact Heap.lt_size ho
 have kept3:∀b o,s2.heap.get? b=some o->s3.heap.get? b=some o:=λb o e=>by rw[hs3h];exact Heap.get?_push_of_some _ e
 have st3:tn 0 s3.heap:=T.keep _ _ _ st2 λb _ o e=>kept3 b o e;generalize hDa:s2.heap.objs.size=Da at *;generalize hH3:upd H2 Da (.lst [])=H3 at *;have fr3:∀b∈fp,H3 b=none:=λb hb=>by rw[←hH3,av (Nat.ne_of_lt (fpl b hb))];exact(f2 b hb).1
 have cls:∀x c,(eX X.env.cells scope.names []).lookup x=some c->X.env.cells.lookup x=some c:=λx c e=>by
  rcases ql (λy hy hf=>I3.ok.has y.1 (.inl (hfree y hy hf))) e with e|e
  .cases e
  .exact e
 refine wpAny_newFunctionEnv hcell (by intro y hy;simp at hy) (λh4 ns4 sb4=>?_) hkind;have k4:∀b o,s3.heap.get? b=some o->h4.get? b=some o:=λb o e=>(sb4.2 b (Nat.ne_of_lt (Heap.lt_size e))).trans (Heap.get?_push_of_some _ e);generalize hC:s3.heap.objs.size=C at *;have hCn:H3 C=none:=I3.hok.fresh (by rw[hC];exact Nat.le_refl _);have ltC:∀b o,s3.heap.get? b=some o->b≠C:=λb o e=>by rw[←hC];exact Nat.ne_of_lt (Heap.lt_size e)
 have cellC:∀x c,X.env.cells.lookup x=some c->c≠C:=λx c e=>by
  obtain⟨v,o,ho,_⟩:=I3.cell x c e;exact ltC c o ho
 have fpC:∀b∈fp,b≠C:=λb hb=>by
  have:=fpl b hb;exact Nat.ne_of_lt (Nat.lt_trans this hDs)
 show codeAny (model X.prog X.w) X.A (.compStart (.ListComp elt [⟨tg,iter,ifs,0⟩] scope pos) 0 (.ref it) (.ref Da) (compEnvC scope (eX X.env.cells scope.names []) C X.env)) _ _;generalize hs4:({ s3 with heap:=h4,toks:=s3.toks+([]:List (Str×Value)).length }:Shared)=s4;have hs4h:s4.heap=h4:=by rw[←hs4]
 have ok:(cx X N scope s3 H3 C fp (X.pn++pins)).Ok:=by
  refine⟨I3.ok.mod,hkind,I3.ok.glob,I3.ok.blt,Nat.le_of_eq hC,λx y c e1 e2=>I3.ok.inj x y c (cls x c e1) (cls y c e2),λx e=>?_,λx c e=>?_,λ_=>I3.ok.hd hc,I3.ok.frames,.inl rfl,λb hb=>⟨fpC b hb,λx c e=>(f2 b hb).2.2.2.2.1 x c (cls x c e)⟩,I3.bs,Nat.le_trans I3.ok.bsz I3.sz,λb o e hb=>?_,λb hb z=>?_,I3.stack,I3.stkFree⟩
  .have mm:∀k:NameKind,(relabel scope X.env).names.lookup x=some k->(k=.cell∨k=.free)->(x,NameKind.free)∈scope.names:=λk hk hk2=>by
    have hm:=PySem.mem_of_lookup hk;obtain⟨⟨n',k'⟩,hm1,hm2⟩:=List.mem_map.mp hm;dsimp only at hm2;split at hm2
    .rename_i hcnd
     cases hm2;simp only[Bool.and_eq_true,beq_iff_eq] at hcnd;rw[hcnd.1.1] at hm1;exact hm1
    .cases hm2
     rcases hk2 with rfl|rfl
     .exact absurd rfl (hcell _ hm1)
     .exact hm1
   rcases e with e|e
   .exact qm (mm _ e (.inl rfl))
   .exact qm (mm _ e (.inr rfl))
  .cases e
  .rcases(f2 b hb).2.2.2.1 with z|z
   .exact I3.ok.noex b o e z
   .exact absurd (Nat.lt_of_lt_of_le (Heap.lt_size e) (Nat.le_trans I3.ok.bsz z)) (Nat.lt_irrefl _)
  .rcases List.mem_cons.mp (I3.stkSub b z) with z|z
   .exact(f2 b hb).2.1 z
   .exact(f2 b hb).2.2.1 z
 have I4:Inv (cx X N scope s3 H3 C fp (X.pn++pins)) [] (gS n fr σ) H3 s4:=by
  refine⟨ok,by rw[←hs4];rfl,by rw[←hs4];exact I3.bare,by rw[hs4h];exact Un.kept k4,⟨_,by rw[hs4h];exact ns4,λi x v h1 h2 h3=>?_⟩,λx c e=>?_,hCn,λx c e=>I3.freeC x c (cls x c e),λp hp=>?_,by rw[hs4h];exact I3.hok.kept k4,?_⟩
  .obtain⟨j,j1,j2,j3,j4,j5⟩:=hfr.at h1 h2
   obtain⟨m,hn,hl⟩:=I3.loc;obtain⟨u,ru,l⟩:=hl j x v j1 j2 (.inr (.inl j3));refine⟨u,ru,.inr ⟨.inl j5,?_⟩⟩;rcases l with⟨z,_⟩|⟨_,c,z1,z2⟩
   .rw[show X.env.kindOf x=X.env.scope.names.lookup x from rfl,j3] at z;cases z
   .obtain⟨c',hc'⟩:=qm (cells:=X.env.cells) (names:=scope.names) (acc:=[]) (PySem.mem_of_lookup j4)
    have:=cls x c' hc';rw[z1] at this;cases this;obtain⟨oc,q1,q2⟩:=z2;exact⟨c,hc',oc,by rw[hs4h];exact k4 _ _ q1,q2⟩
  .obtain⟨v,oc,q1,q2⟩:=I3.cell x c (cls x c e)
   exact⟨v,oc,by rw[hs4h];exact k4 _ _ q1,q2⟩
  .rw[List.append_nil] at hp
   obtain⟨p1,p2,p3,p4,p5⟩:=I3.pin p hp;refine⟨by rw[hs4h];exact k4 _ _ p1,p2,ltC _ _ p1,λz=>?_,p5⟩;rcases List.mem_cons.mp (I3.stkSub _ z) with z|z
   .exact p3 z
   .exact p4 z
  .show(gS n fr σ).length=N.length
   unfold gS;rw[List.length_append,List.length_replicate,List.length_map,hfr.1]
 have st4:tn 0 s4.heap:=by rw[hs4h];exact T.keep _ _ _ st3 λb _ o e=>k4 b o e
 have stat:∀{H':Hp},(∀b∈fp,H' b=none)->∀b∈fp,lJ (cx X N scope s3 H3 C fp (X.pn++pins)) [] H' b:=λhn b hb=>by
  refine⟨hn b hb,fpC b hb,λz=>?_,.inl hb,λx c e=>(f2 b hb).2.2.2.2.1 x c (cls x c e),λp hp=>?_⟩
  .rcases List.mem_cons.mp (I3.stkSub b z) with z|z
   .exact(f2 b hb).2.1 z
   .exact(f2 b hb).2.2.1 z
  .rw[List.append_nil] at hp
   exact(f2 b hb).2.2.2.2.2 p hp
 have loop:codeAny (model X.prog X.w) X.A (.compLoop (.ListComp elt [⟨tg,iter,ifs,0⟩] scope pos) 0 (.ref it) (.ref Da) (compEnvC scope (eX X.env.cells scope.names []) C X.env)) (RR (.ref Da) C) s4:=by
  refine qi (λn s'=>∃i ys σ' H',Inv (cx X N scope s3 H3 C fp (X.pn++pins)) [] σ' H' s'/\tn i s'.heap/\(∀b∈fp,H' b=none)/\W i n ys σ' H') ?_ m0 ⟨0,[],_,H3,I4,st4,fr3,w0⟩;rintro k s5 ⟨i,ys,σ5,H5,I5,st5,fr5,w5⟩;obtain⟨hDl,ways⟩:=turn i k ys σ5 H5 w5;rcases ways with⟨stop,fin'⟩|⟨go,hz,step⟩
  .refine cw (T.done (cx X N scope s3 H3 C fp (X.pn++pins)) rfl rfl rfl hc i [] s5 σ5 H5 (λ_ _=>False) I5 (stat fr5) st5 stop) λr s6 ⟨hr,I6⟩=>?_
   subst hr;obtain⟨mm,nsm,_⟩:=I6.loc;have free6:H5 C=none:=I6.free;have hok:jM X.prog X.w H5 s6.heap:=I6.hok;have un:Un (AQ X.stack) fp H3 H5 s3.heap s6.heap:=I6.base;have IX:Inv X pins σ H5 s6:=I3.call' (s':=s6) (ch:=fp) I6.os un hok I6.bare (λb hb=>⟨(f2 b hb).2.2.2.1,(f2 b hb).2.1,(f2 b hb).2.2.2.2.1,(f2 b hb).2.2.2.2.2⟩);have fC:lJ X pins H5 C:=I3.fpOk (b:=C) (H':=H5) (by rw[hC];exact Nat.le_refl _) free6;exact fin Da C s6 H5 mm IX nsm fC fin'
  .refine cw (T.item (cx X N scope s3 H3 C fp (X.pn++pins)) rfl rfl rfl hc i [] s5 σ5 H5 (λ_ _=>False) I5 (stat fr5) st5 go) λr s6 ⟨u,hr,h6⟩=>?_
   subst hr;refine cw h6 λ_ s7 ⟨x,H7,I7,r7,y7,st7,fr7⟩=>?_;have I7':=I7.pinned (stat fr7) (T.obj _ _ st7);refine cw ((blk s3 H3 C fp (X.pn++pins)).1 _ s7 σ5 H7 x u _ I7' r7 (step x H7 y7)) λ_ s8 ⟨σ8,H8,I8,q8⟩=>?_;refine cw ((blk s3 H3 C fp (X.pn++pins)).2.1 _ s8 σ8 H8 _ I8 q8) λb s8b ⟨H8b,I8b,q8b⟩=>?_;have back:∀{σ':L2.St}{H':Hp}{s':Shared},L2.Inv (cx X N scope s3 H3 C fp (X.pn++pins)) (([]:List (Addr×Obj))++oi fp s7.heap) σ' H' s'->tn (i+1) s'.heap/\∀b∈fp,H' b=none:=λ{σ' H' s'} I'=>by
    refine⟨T.keep _ _ _ st7 λb hb o e=>(I'.pin (b,o) (List.mem_append_right _ (List.mem_append_right _ (gz hb e)))).1,λb hb=>?_⟩;obtain⟨o,e,d⟩:=T.obj _ _ st7 b hb;exact(I'.pin (b,o) (List.mem_append_right _ (List.mem_append_right _ (gz hb e)))).2.1
   cases b with
   |false =>
    rw[if_neg Bool.false_ne_true] at q8b ⊢;obtain⟨m',hm,w9⟩:=q8b;exact⟨m',hm,i+1,ys,σ8,_,I8b.unpinned,(back I8b).1,(back I8b).2,w9⟩
   |true =>
    rw[if_pos rfl] at q8b ⊢;refine cw ((blk s3 H3 C fp (X.pn++pins)).2.2 _ s8b σ8 H8b _ I8b q8b) λy s9 ⟨yv,H9,I9,r9,hD9,m',hm,w9⟩=>?_;refine cw (lX (X:=cx X N scope s3 H3 C fp (X.pn++pins)) _ s9 σ8 H9 (.ref Da) [yv] (.ref Da) [y] (λv H'=>H'=upd H9 Da (.lst (ys++[yv]))) I9 rfl (.cons r9 .nil) ⟨Da,ys,yv,rfl,rfl,hD9,hz,rfl⟩) λ_ s10 ⟨v10,H10,I10,_,e10⟩=>?_;subst e10;exact⟨m',hm,i+1,ys++[yv],σ8,_,I10.unpinned,(back I10).1,(back I10).2,w9⟩
 exact codeAny_compStart_list loop (T.self _ 0 _ _ _ st4 loop)
structure HU (K:W.Frag) (ds:List D) (J:It) (Ha:Hp):Prop where
 go:∀(i:Nat) (H' Ha':Hp),aA Ha Ha'->aA Ha' H'->i<ds.length->J.go i H'
 yld:∀(i:Nat) (H' Ha':Hp) (x:V) (H2:Hp) (d:D),aA Ha Ha'->aA Ha' H'->ds[i]?=some d->J.yld i H' x H2->∃H₀2,aU H' Ha' H2 H₀2/\Rep K H₀2 d x
 stop:∀(i:Nat) (H' Ha':Hp),aA Ha Ha'->aA Ha' H'->ds.length<=i->J.stop i H'
noncomputable def L3(K:W.Frag) (E:XK) (src:Ev->ai (List D)):TI:=λσ H R=>∃Ha ρ,aA Ha H/\Reads K Ha σ ρ/\match src ρ with
 |.ok ds=>∀J H' Ha',aU H Ha H' Ha'->HU K ds J Ha'->R J H'
 |.exn x=>∀C ox H' Ha',aU H Ha H' Ha'->zJ K Ha' x C ox->E C ox H'
 |.stuck=>False
structure DI (X:Cx) (E:XK) (tg iter:Expr) (src:Ev->ai (List D)):Prop where
 o:PI X tg iter (L3 X.K E src)
theorem gk(h:PI X tg iter t)(w:∀σ H R,t' σ H R->t σ H R):PI X tg iter t':=λpins s σ H R I q=>h pins s σ H R I (w σ H R q)
noncomputable def lO(f:Ev->ai D):Ev->ai (List D):=λρ=>(f ρ).bind λd=>match d with
 |.lst ds=>.ok ds
 |_=>.stuck
noncomputable def Ba(f:Ev->ai D):Ev->ai (List D):=λρ=>(f ρ).bind λd=>match d with
 |.tup ds=>.ok ds
 |_=>.stuck
noncomputable def Dx(f:Ev->ai D):Ev->ai (List D):=λρ=>(f ρ).bind λd=>match d with
 |.str z=>.ok (gZ z)
 |_=>.stuck
noncomputable def gN(f:Ev->ai D):Ev->ai (List D):=λρ=>(f ρ).bind λd=>match d with
 |.int j=>if -4611686018427387904<=j/\j<4611686018427387904 then .ok (intsFrom 0 j.toNat) else .stuck
 |_=>.stuck
section
variable {X:Cx}{E:XK}{tg e a b:Expr}{f g:Ev->ai D}
theorem gD(h:DE X E e f):DI X E tg e (lO f):=by
 refine⟨gk (yp h.o) λσ H R ⟨Ha,ρ,hs,hr,q⟩=>⟨Ha,ρ,hs,hr,?_⟩⟩;unfold lO at q;cases e1:f ρ with
 |stuck|exn x=>rw[e1] at q;exact q
 |ok d =>
  rw[e1] at q;intro v H1 H01 g1 r1;cases d with
  |lst ds =>
   obtain⟨p,vs,rfl,hv,hrv⟩:=aH.mp r1;refine⟨p,rfl,⟨vs,aA.sqL g1.sub hv⟩,q _ H1 H01 g1 ⟨λi H' Ha' s1 s2 hi=>?_,λi H' Ha' x H2 d s1 s2 hd hy=>?_,λi H' Ha' s1 s2 hi=>?_⟩⟩
   .exact⟨vs,vs[i]'(by rw[←hrv.length];exact hi),aA.sqL (s1.trans s2) hv,by simp⟩
   .obtain⟨rfl,hy⟩:=hy
    obtain⟨u,k1,k2⟩:=hrv.get hd;have:=hy vs (aA.sqL (s1.trans s2) hv);rw[k1] at this;cases this;exact⟨Ha',aU.refl s2,k2.mono s1⟩
   .exact⟨vs,aA.sqL (s1.trans s2) hv,by rw[←hrv.length];exact hi⟩
  |_=>exact q.elim
theorem Ho(h:DE X E e f):DI X E tg e (Ba f):=by
 refine⟨gk (Gz h.o) λσ H R ⟨Ha,ρ,hs,hr,q⟩=>⟨Ha,ρ,hs,hr,?_⟩⟩;unfold Ba at q;cases e1:f ρ with
 |stuck|exn x=>rw[e1] at q;exact q
 |ok d =>
  rw[e1] at q;intro v H1 H01 g1 r1;cases d with
  |tup ds =>
   obtain⟨p,vs,rfl,hv,hrv⟩:=aJ.mp r1;refine⟨p,rfl,⟨vs,aA.sqT g1.sub hv⟩,q _ H1 H01 g1 ⟨λi H' Ha' s1 s2 hi=>?_,λi H' Ha' x H2 d s1 s2 hd hy=>?_,λi H' Ha' s1 s2 hi=>?_⟩⟩
   .exact⟨vs,vs[i]'(by rw[←hrv.length];exact hi),aA.sqT (s1.trans s2) hv,by simp⟩
   .obtain⟨rfl,hy⟩:=hy
    obtain⟨u,k1,k2⟩:=hrv.get hd;have:=hy vs (aA.sqT (s1.trans s2) hv);rw[k1] at this;cases this;exact⟨Ha',aU.refl s2,k2.mono s1⟩
   .exact⟨vs,aA.sqT (s1.trans s2) hv,by rw[←hrv.length];exact hi⟩
  |_=>exact q.elim
theorem Hq(h:DE X E e f):DI X E tg e (Dx f):=by
 refine⟨gk (GA h.o) λσ H R ⟨Ha,ρ,hs,hr,q⟩=>⟨Ha,ρ,hs,hr,?_⟩⟩;unfold Dx at q;cases e1:f ρ with
 |stuck|exn x=>rw[e1] at q;exact q
 |ok d =>
  rw[e1] at q;intro v H1 H01 g1 r1;cases d with
  |str z =>
   refine⟨z,Rep.str_iff.mp r1,q _ H1 H01 g1 ⟨λi H' Ha' s1 s2 hi=>?_,λi H' Ha' x H2 d s1 s2 hd hy=>?_,λi H' Ha' s1 s2 hi=>?_⟩⟩
   .rw[jq] at hi;exact hi
   .obtain⟨rfl,c,hc,rfl⟩:=hy
    have:d=.str ⟨#[c]⟩:=by
     unfold gZ at hd;rw[List.getElem?_map] at hd;have h2:z.cps.toList[i]?=some c:=by simpa using hc
     rw[h2] at hd;cases hd;rfl
    subst this;exact⟨Ha',aU.refl s2,Rep.str_iff.mpr rfl⟩
   .rw[jq] at hi;exact hi
  |_=>exact q.elim
theorem rO{K:W.Frag}{lo:Int}:HU K (intsFrom lo n) (HS lo n) H:=by
 have hl:(intsFrom lo n).length=n:=by unfold intsFrom;simp
 refine⟨λi H' Ha' _ _ hi=>?_,λi H' Ha' x H2 d s1 s2 hd hy=>?_,λi H' Ha' _ _ hi=>?_⟩
 .rw[hl] at hi;exact hi
 .obtain⟨rfl,rfl⟩:=hy
  have:d=.int (lo+i):=by
   unfold intsFrom at hd;rw[List.getElem?_map] at hd;cases e:(List.range n)[i]? with
   |none=>rw[e] at hd;cases hd
   |some k =>
    rw[e] at hd;have hk:k=i:=by
     obtain⟨h1,h2⟩:=List.getElem?_eq_some_iff.mp e;simpa using h2.symm
    subst hk;cases hd;rfl
  subst this;exact⟨Ha',aU.refl s2,au.mpr rfl⟩
 .rw[hl] at hi;exact hi
theorem fT(hg:Gl X "range")(hm:X.mg "range"=none)(h:DE X E a f)(hn:H0 a=true:=by exact rfl):DI X E tg (.Call (.Name "range" p) [a] [] pos) (gN f):=by
 refine⟨gk (lR hg hm (dO h.o gq (dM hn)) (dM hn)) λσ H R ⟨Ha,ρ,hs,hr,q⟩=>⟨Ha,ρ,hs,hr,?_⟩⟩;unfold gN at q;cases e1:f ρ with
 |stuck|exn x=>rw[e1] at q;exact q
 |ok d =>
  rw[e1] at q;intro v H1 H01 g1 r1;cases d with
  |int j =>
   replace q:match (if -4611686018427387904<=j/\j<4611686018427387904 then ai.ok (intsFrom 0 j.toNat) else .stuck) with
    |.ok ds=>∀J H' Ha',aU H Ha H' Ha'->HU X.K ds J Ha'->R J H'
    |.exn x=>∀C ox H' Ha',aU H Ha H' Ha'->zJ X.K Ha' x C ox->E C ox H'
    |.stuck=>False:=q
   by_cases hj:-4611686018427387904<=j/\j<4611686018427387904
   .rw[if_pos hj] at q
    rw[au.mp r1];exact⟨j,rfl,hj.1,hj.2,q _ H1 H01 g1 rO⟩
   .rw[if_neg hj] at q;exact q.elim
  |_=>exact q.elim
end
noncomputable def je(src:Ev->ai (List D)) (tg:Ev->D->ai Ev) (s:Ev->ai Fl):Ev->ai Fl:=λρ=>(src ρ).bind λds=>bL tg s ds ρ
section
variable {X:Cx}{E:XK}{He H0e:Hp}{st:Stmt}{s:Ev->ai Fl}{pos:Pos}
theorem eN.step2{K:W.Frag}(z:aA Hb Ha)(h:df K He H0e Ha σ H ρ)(q:bQ K E He H0e Ha (bL tg s (ds.drop i) ρ) D')(hd:ds[i]?=some d)(rv:Rep K Ha d v)
  (he:∀ρ,tg ρ d=.stuck∨∃ρ',tg ρ d=.ok ρ') :
  tG K He H0e tg v σ H λσ2 H2=>tS K E He H0e s { D' with nx:=eN K E He H0e Hb tg s ds D' (i+1),ct:=eN K E He H0e Hb tg s ds D' (i+1),bk:=D'.nx } σ2 H2:=by
 have hi:i<ds.length:=(List.getElem?_eq_some_iff.mp hd).1;have hdr:ds.drop i=d::ds.drop (i+1):=by
  rw[List.drop_eq_getElem_cons hi];rw[List.getElem?_eq_getElem hi] at hd;cases hd;rfl
 rw[hdr] at q;refine⟨Ha,ρ,d,h,rv,?_⟩;unfold bL at q;rcases he ρ with e1|⟨ρ1,e1⟩
 .rw[e1] at q;exact q.elim
 .rw[e1] at q ⊢
  intro σ' H' Ha' z' h';refine⟨Ha',ρ1,h',?_⟩;replace q:=bQ.grow (r:=(s ρ1).bind λx=>match x with
   |.nx ρ2=>bL tg s (ds.drop (i+1)) ρ2
   |.ct ρ2=>bL tg s (ds.drop (i+1)) ρ2
   |.bk ρ2=>.ok (.nx ρ2)
   |.rt d=>.ok (.rt d)) q z'
  cases e2:s ρ1 with
  |stuck|exn x=>rw[e2] at q;exact q
  |ok r =>
   rw[e2] at q;cases r with|nx ρ2=>exact λσ3 H3 H03 z3 h3=>⟨H03,ρ2,(z.trans z').trans z3,h3,bQ.grow (r:=bL tg s (ds.drop (i+1)) ρ2) q z3⟩|ct ρ2=>exact λσ3 H3 H03 z3 h3=>⟨H03,ρ2,(z.trans z').trans z3,h3,bQ.grow (r:=bL tg s (ds.drop (i+1)) ρ2) q z3⟩|bk ρ2|rt d=>exact q
theorem nJ(hp:PassesOwn (model X.prog X.w) X.A X.env X.xe)(hc:X.calm=true)(hi:DI X E tgt iter src)(hg:DG X E He H0e tgt tg)(ht:sO tg)(hb:AU X E He H0e body s)
  (hs:∀x,foldedSetIterable iter X.env x=pure x:=by intro _;rfl):DS X E He H0e (.For tgt iter body [] pos) (je src tg s):=by
 refine⟨bB (tj hp hc hi.o hg.o hb.o hs) λD' σ H ⟨Ha,ρ,h,q⟩=>⟨Ha,ρ,h.g.sub,h.rd,?_⟩⟩;unfold je at q;cases e1:src ρ with
 |stuck=>rw[e1] at q;exact q|exn x=>rw[e1] at q;exact λC ox H' Ha' g r=>q C ox H' Ha' (h.g.trans g) r
 |ok ds =>
  rw[e1] at q;intro J H1 H01 g it;have q1:bQ X.K E He H0e H01 (bL tg s ds ρ) D':=bQ.grow (r:=bL tg s ds ρ) q g.z;refine⟨λi m σ' H'=>m+i=ds.length/\eN X.K E He H0e H01 tg s ds D' i σ' H',⟨ds.length,rfl,H01,ρ,aA.refl _,h.grow g,q1⟩,?_⟩;rintro i m σ' H' ⟨hm,Ha',ρ',z,h',hq⟩
  by_cases hlt:i<ds.length
  .refine .inr ⟨it.go i H' Ha' z h'.g.sub hlt,λσ2 H2=>eN X.K E He H0e H01 tg s ds D' (i+1) σ2 H2,λσ2 H2 hl=>⟨m-1,by omega,by omega,hl⟩,λx H2 hy=>?_⟩
   obtain⟨H₀2,g2,rp⟩:=it.yld i H' Ha' x H2 ds[i] z h'.g.sub (List.getElem?_eq_getElem hlt) hy;exact eN.step2 (z.trans g2.z) (h'.grow g2) (bQ.grow (r:=bL tg s (ds.drop i) ρ') hq g2.z) (List.getElem?_eq_getElem hlt) rp λρ=>ht ρ _
  .have e:i=ds.length:=by omega
   refine .inl ⟨it.stop i H' Ha' z h'.g.sub (by omega),?_⟩;subst e;exact eN.done ⟨Ha',ρ',z,h',hq⟩
end
noncomputable def lI(f:Ev->ai D):Prop:=∀ρ d,f ρ=.ok d->∃ds,d=.lst ds
theorem uJ{K:W.Frag}(hf:lI f)(h:tD K E f σ H Q):tF K E f σ H Q:=by
 obtain⟨Ha,ρ,hs,hr,q⟩:=h;refine⟨Ha,ρ,hs,hr,?_⟩;cases e1:f ρ with
 |stuck|exn x=>rw[e1] at q;exact q
 |ok d =>
  obtain⟨ds,rfl⟩:=hf ρ d e1;rw[e1] at q;intro p vs H' Ha' g hp h0 hv rp;have n0:Ha p=none:=hs.free hp;refine q (.ref p) H' (upd Ha' p (.lst vs)) ⟨g.s,λb o e=>?_,λb o e=>?_,λb k1 k2=>?_⟩ (aH.mpr ⟨p,vs,rfl,eD.of aB,rp.mono λb o e=>?_⟩)
  .rw[av (by intro z;subst z;rw[n0] at e;cases e)];exact g.z _ _ e
  .by_cases hb:b=p
   .subst hb;rw[aB] at e;cases e;exact hv
   .rw[av hb] at e;exact g.sub _ _ e
  .by_cases hb:b=p
   .subst hb;exact hp
   .rw[av hb] at k1;exact g.nw b k1 k2
  .rw[av (by intro z;subst z;rw[h0] at e;cases e)];exact e
theorem CL(hf:lI f)(h:DF X E e f):DE X E e f:=⟨aR h.o λσ H Q q=>uJ hf q⟩
noncomputable def cE(n:Nat) (fr:List Nat) (ρ:Ev):Ev:=List.replicate n .no++fr.map λ(i:Nat)=>match ρ[i]? with
 |some (.sh d)=>.sh d
 |_=>.no
noncomputable def bJ(b:Ev) (tg:Ev->D->ai Ev) (tt fe:Ev->ai D):List D->ai (List D)
 |[]=>.ok []
 |d::r=>(tg b d).bind λρ1=>(tt ρ1).bind λt=>match t with
  |.bl true=>(fe ρ1).bind λx=>(bJ b tg tt fe r).bind λxs=>.ok (x::xs)
  |.bl false=>bJ b tg tt fe r
  |_=>.stuck
noncomputable def cG(n:Nat) (fr:List Nat) (src:Ev->ai (List D)) (tg:Ev->D->ai Ev) (tt fe:Ev->ai D):Ev->ai D:=λρ=>(src ρ).bind λds =>
 if ds.length<=line then match bJ (cE n fr ρ) tg tt fe ds with
  |.ok es=>.ok (.lst es)
  |_=>.stuck
 else .stuck
theorem sq{fr:List Nat}:lI (cG n fr src tg tt fe):=λρ d h=>by
 unfold cG at h;cases e1:src ρ with
 |stuck|exn x=>rw[e1] at h;cases h
 |ok ds =>
  rw[e1] at h;replace h:(if ds.length<=line then match bJ (cE n fr ρ) tg tt fe ds with
   |.ok es=>ai.ok (D.lst es)
   |_=>.stuck else .stuck)=.ok d:=h
  split at h
  .split at h
   .cases h;exact⟨_,rfl⟩
   .cases h
  .cases h
theorem gH(h:bJ b tg tt fe (d::r)=.ok es) :
  ∃ρ1 t,tg b d=.ok ρ1/\tt ρ1=.ok (.bl t)/\((t=true/\∃x xs,fe ρ1=.ok x/\bJ b tg tt fe r=.ok xs/\es=x::xs)∨(t=false/\bJ b tg tt fe r=.ok es)):=by
 unfold bJ at h;cases e1:tg b d with
 |stuck|exn z=>rw[e1] at h;cases h
 |ok ρ1 =>
  rw[e1] at h;replace h:((tt ρ1).bind λt=>match t with
   |.bl true=>(fe ρ1).bind λx=>(bJ b tg tt fe r).bind λxs=>ai.ok (x::xs)
   |.bl false=>bJ b tg tt fe r
   |_=>.stuck)=.ok es:=h
  cases e2:tt ρ1 with
  |stuck|exn z=>rw[e2] at h;cases h
  |ok t =>
   rw[e2] at h;cases t with
   |bl t =>
    cases t with
    |true =>
     replace h:((fe ρ1).bind λx=>(bJ b tg tt fe r).bind λxs=>ai.ok (x::xs))=.ok es:=h;cases e3:fe ρ1 with
     |stuck|exn z=>rw[e3] at h;cases h
     |ok x =>
      rw[e3] at h;replace h:((bJ b tg tt fe r).bind λxs=>ai.ok (x::xs))=.ok es:=h;cases e4:bJ b tg tt fe r with|stuck|exn z=>rw[e4] at h;cases h|ok xs=>rw[e4] at h;cases h;exact⟨ρ1,true,rfl,e2,.inl ⟨rfl,x,xs,e3,rfl,rfl⟩⟩
    |false=>exact⟨ρ1,false,rfl,e2,.inr ⟨rfl,h⟩⟩
   |_=>cases h
theorem fV(h1:tg b d=.ok ρ1)(h2:tt ρ1=.ok (.bl true))(h3:fe ρ1=.ok x):bJ b tg tt fe (d::r)=(bJ b tg tt fe r).bind λxs=>.ok (x::xs):=by
 rw[bJ,h1];simp only[ai.bind,h2,h3]
theorem qj(h1:tg b d=.ok ρ1)(h2:tt ρ1=.ok (.bl false)):bJ b tg tt fe (d::r)=bJ b tg tt fe r:=by
 rw[bJ,h1];simp only[ai.bind,h2]
theorem mf:∀{r q es:List D},bJ b tg tt fe (r++q)=.ok es->∃e1 e2,bJ b tg tt fe r=.ok e1/\bJ b tg tt fe q=.ok e2/\es=e1++e2
 |[],q,es,h=>⟨[],es,rfl,h,rfl⟩
 |d::r,q,es,h=>by
  obtain⟨ρ1,t,h1,h2,h3⟩:=gH h;rcases h3 with⟨rfl,x,xs,h3,h4,rfl⟩|⟨rfl,h4⟩
  .obtain⟨e1,e2,k1,k2,rfl⟩:=mf h4
   refine⟨x::e1,e2,?_,k2,rfl⟩;rw[fV h1 h2 h3,k1];rfl
  .obtain⟨e1,e2,k1,k2,rfl⟩:=mf h4
   refine⟨e1,e2,?_,k2,rfl⟩;rw[qj h1 h2];exact k1
theorem gG{b:Ev}{tg:Ev->D->ai Ev}{tt fe:Ev->ai D}:∀{r q e1 e2:List D},bJ b tg tt fe r=.ok e1->bJ b tg tt fe q=.ok e2->bJ b tg tt fe (r++q)=.ok (e1++e2)
 |[],q,e1,e2,h,h'=>by cases h;exact h'
 |d::r,q,e1,e2,h,h'=>by
  obtain⟨ρ1,t,h1,h2,h3⟩:=gH h;show bJ b tg tt fe (d::(r++q))=_;rcases h3 with⟨rfl,x,xs,h3,h4,rfl⟩|⟨rfl,h4⟩
  .rw[fV h1 h2 h3,gG h4 h'];rfl
  .rw[qj h1 h2];exact gG h4 h'
theorem qk:∀{r es:List D},bJ b tg tt fe r=.ok es->es.length<=r.length
 |[],es,h=>by cases h;exact Nat.le_refl _
 |d::r,es,h=>by
  obtain⟨ρ1,t,h1,h2,h3⟩:=gH h;rcases h3 with⟨rfl,x,xs,h3,h4,rfl⟩|⟨rfl,h4⟩
  .exact Nat.succ_le_succ (qk h4)
  .exact Nat.le_succ_of_le (qk h4)
noncomputable def wD(n:Nat) (tg:Ev->D->ai Ev):Prop:=∀ρ d ρ',tg ρ d=.ok ρ'->ρ'.length=ρ.length/\∀(k:Nat),n<=k->ρ'[k]?=ρ[k]?
theorem cK(h:i<n):wD n (bb i):=λρ d ρ' e=>by
 cases e;exact⟨by simp,λk hk=>by rw[List.getElem?_set_ne (by omega)]⟩
theorem jP:∀{is:List Nat}{ds:List D}{ρ:Ev},(is.all λi=>decide (i<n))=true->(cT ρ is ds).length=ρ.length/\∀(k:Nat),n<=k->(cT ρ is ds)[k]?=ρ[k]?
 |[],ds,ρ,_=>by unfold cT;exact⟨rfl,λ_ _=>rfl⟩
 |i::is,[],ρ,_=>by unfold cT;exact⟨rfl,λ_ _=>rfl⟩
 |i::is,d::ds,ρ,h=>by
  rw[List.all_cons,Bool.and_eq_true,decide_eq_true_eq] at h;unfold cT;obtain⟨h1,h2⟩:=jP (ds:=ds) (ρ:=ρ.set i (.sh d)) h.2;exact⟨by rw[h1];simp,λk hk=>by rw[h2 k hk,List.getElem?_set_ne (by omega)]⟩
theorem A5(h:(is.all λi=>decide (i<n))=true):wD n (fj is):=λρ d ρ' e=>by
 unfold fj at e;cases hp:gp is.length d with|none=>rw[hp] at e;cases e|some ds=>rw[hp] at e;cases e;exact jP h
theorem xS{K:W.Frag}{fr:List Nat}(h:Reads K Ha σ ρ):Reads K Ha (gS n fr σ) (cE n fr ρ):=λi d e=>by
 unfold cE at e;unfold gS
 by_cases hi:i<n
 .rw[List.getElem?_append_left (by simpa using hi),List.getElem?_replicate,if_pos hi] at e
  cases e
 .rw[List.getElem?_append_right (by simpa using hi),List.length_replicate,List.getElem?_map] at e ⊢
  cases hf:fr[i-n]? with
  |none=>rw[hf] at e;cases e
  |some j =>
   rw[hf] at e;simp only[Option.map_some,Option.some.injEq] at e ⊢;cases hj:ρ[j]? with
   |none=>rw[hj] at e;cases e
   |some s =>
    rw[hj] at e;cases s with
    |sh d' =>
     cases e;obtain⟨v,h1,h2⟩:=h j d hj;exact⟨v,by rw[h1];rfl,h2⟩
    |_=>cases e
theorem EO{fr:List Nat}{k:Nat}(h:k<n):(cE n fr ρ)[k]?=some .no:=by
 unfold cE;rw[List.getElem?_append_left (by simpa using h),List.getElem?_replicate,if_pos h]
theorem CW{fr:List Nat}(i j:Nat)(es:List D):(cE n fr ρ)[i]?≠some (.ox j es):=λe=>by
 unfold cE at e
 by_cases hj:i<n
 .rw[List.getElem?_append_left (by simpa using hj),List.getElem?_replicate,if_pos hj] at e;cases e
 .rw[List.getElem?_append_right (by simpa using hj),List.getElem?_map] at e
  cases hf:fr[i-(List.replicate n Sl.no).length]? with
  |none=>rw[hf] at e;cases e
  |some z =>
   rw[hf] at e;simp only[Option.map_some,Option.some.injEq] at e;split at e<;>cases e
theorem AL{fr:List Nat}{σ:L2.St}(i:Nat)(a:Addr)(e:(cE n fr ρ)[i]?=some (.pt a)):σ[i]?=some (some (.ref a)):=by
 unfold cE at e
 by_cases hj:i<n
 .rw[List.getElem?_append_left (by simpa using hj),List.getElem?_replicate,if_pos hj] at e;cases e
 .rw[List.getElem?_append_right (by simpa using hj),List.getElem?_map] at e
  cases hf:fr[i-(List.replicate n Sl.no).length]? with
  |none=>rw[hf] at e;cases e
  |some z =>
   rw[hf] at e;simp only[Option.map_some,Option.some.injEq] at e;split at e<;>cases e
theorem wz{fr:List Nat}:(cE n fr ρ).length=n+fr.length:=by unfold cE;simp
theorem xN{K:W.Frag}{fr:List Nat}(hsame:aA Ha H)(g1:aU H Ha H1 H01)(it:HU K ds J H01)(hl:ds.length<=line)
  (e2:bJ (cE n fr ρ) tg tt fe ds=.ok es)(hr:Reads K H01 σ ρ)(hok:wD n tg)
  (q:∀p vs H' Ha',aU H Ha H' Ha'->H p=none->Ha' p=none->H' p=some (.lst vs)->Reps K Ha' es vs->Q (.ref p) H') :
  nT n fr (G7 K tg) (HZ K E tt) (tD K E fe) J σ H1 Q:=by
 intro Da hDa;have h0D:H01 Da=none:=g1.sub.free hDa;refine⟨λi m ys σ' H'=>m=ds.length-i/\i<=ds.length/\σ'.length=n+fr.length/\∃Ha',aU H1 H01 H' Ha'/\Ha' Da=none/\H' Da=some (.lst ys)/\Reads K Ha' σ' (cE n fr ρ)/\∃es1,bJ (cE n fr ρ) tg tt fe (ds.take i)=.ok es1/\Reps K Ha' es1 ys,
  ⟨ds.length,by simp,Nat.zero_le _,by unfold gS;simp,H01,?_,h0D,aB,xS hr,[],rfl,Reps.nil⟩,?_⟩
 .refine⟨λb o e=>by rw[av (bh e hDa)];exact e,aA.refl _,λb o e=>?_,λb k1 k2=>absurd k2 k1⟩
  rw[av (by intro z;subst z;rw[h0D] at e;cases e)];exact g1.sub _ _ e
 .rintro i m ys σ' H' ⟨rfl,hile,hsl,Ha',gg,hD0,hDl,hrd,es1,hes1,hys⟩
  refine⟨hDl,?_⟩
  by_cases hlt:i<ds.length
  .refine .inr ⟨it.go i H' Ha' gg.z gg.sub hlt,?_,?_⟩
   .rw[←hys.length]
    have:=qk hes1;rw[List.length_take] at this;have h2:line<sizeLine:=by decide
    omega
   .intro x H2 hy
    obtain⟨H₀2,g2,rp⟩:=it.yld i H' Ha' x H2 ds[i] gg.z gg.sub (List.getElem?_eq_getElem hlt) hy;have hsplit:ds=ds.take i++(ds[i]::ds.drop (i+1)):=by rw[←List.drop_eq_getElem_cons hlt,List.take_append_drop]
    rw[hsplit] at e2;obtain⟨a1,a2,k1,k2,k3⟩:=mf e2;rw[hes1] at k1;cases k1;obtain⟨ρ1,t,t1,t2,t3⟩:=gH k2;have hn2:H₀2 Da=none:=by
     cases qq:H₀2 Da with|none=>rfl|some o=>have:=g2.nw Da (by rw[qq];simp) hD0;rw[hDl] at this;cases this
    have hD2:H2 Da=some (.lst ys):=g2.s _ _ hDl;refine⟨H2,H₀2,H₀2,cE n fr ρ,ds[i],⟨aU.refl g2.sub,hrd.mono g2.z,λj d' e=>?_,λj k d1 d2 _ e=>?_,by rw[wz,hsl],OX.none CW AL⟩,rp,?_⟩
    .unfold cE at e
     by_cases hj:j<n
     .rw[List.getElem?_append_left (by simpa using hj),List.getElem?_replicate,if_pos hj] at e;cases e
     .rw[List.getElem?_append_right (by simpa using hj),List.getElem?_map] at e
      cases hf:fr[j-(List.replicate n Sl.no).length]? with
      |none=>rw[hf] at e;cases e
      |some z =>
       rw[hf] at e;simp only[Option.map_some,Option.some.injEq] at e;split at e<;>cases e
    .unfold cE at e
     by_cases hj:j<n
     .rw[List.getElem?_append_left (by simpa using hj),List.getElem?_replicate,if_pos hj] at e;cases e
     .rw[List.getElem?_append_right (by simpa using hj),List.getElem?_map] at e
      cases hf:fr[j-(List.replicate n Sl.no).length]? with
      |none=>rw[hf] at e;cases e
      |some z =>
       rw[hf] at e;simp only[Option.map_some,Option.some.injEq] at e;split at e<;>cases e
    .rw[t1]
     intro σ3 H3 H03 z3 s3;have hrl:=hok _ _ _ t1;have hσ3:σ3.length=n+fr.length:=by rw[←s3.ln,hrl.1,wz]
     have back:∀{Hx:Hp},aA H03 Hx->Reads K Hx σ3 (cE n fr ρ):=λ{Hx} sx k d e=>by
      by_cases hk:k<n
      .rw[EO hk] at e;cases e
      .rw[←hrl.2 k (by omega)] at e
       obtain⟨v,h1,h2⟩:=s3.rd k d e;exact⟨v,h1,h2.mono sx⟩
     have n3:H03 Da=none:=by
      cases qq:H03 Da with|none=>rfl|some o=>have:=s3.g.nw Da (by rw[qq];simp) hn2;rw[hD2] at this;cases this
     have hD3:H3 Da=some (.lst ys):=s3.g.s _ _ hD2;refine⟨H03,ρ1,s3.g.sub,s3.rd,?_⟩;rw[t2];intro H4 H04 g4;have hD4:H4 Da=some (.lst ys):=g4.s _ _ hD3;have n4:H04 Da=none:=by
      cases qq:H04 Da with|none=>rfl|some o=>have:=g4.nw Da (by rw[qq];simp) n3;rw[hD3] at this;cases this
     have htake:ds.take (i+1)=ds.take i++[ds[i]]:=by rw[List.take_add_one,List.getElem?_eq_getElem hlt];rfl
     have g04:=(gg.trans g2).trans (s3.g.trans g4);rcases t3 with⟨rfl,y,xs,t3,t4,_⟩|⟨rfl,t4⟩
     .rw[if_pos rfl]
      refine⟨H04,ρ1,g4.sub,s3.rd.mono g4.z,?_⟩;rw[t3];intro yv H5 H05 g5 ry;have hD5:H5 Da=some (.lst ys):=g5.s _ _ hD4;have n5:H05 Da=none:=by
       cases qq:H05 Da with|none=>rfl|some o=>have:=g5.nw Da (by rw[qq];simp) n4;rw[hD4] at this;cases this
      have gall:=g04.trans g5;refine⟨hD5,ds.length-(i+1),by omega,rfl,hlt,hσ3,H05,⟨λb o e=>?_,gall.z,λb o e=>?_,gall.nw⟩,n5,aB,back (g4.z.trans g5.z),es1++[y],?_,?_⟩
      .rw[av (bh e hDa)];exact gall.s _ _ e
      .rw[av (by intro z;subst z;rw[n5] at e;cases e)];exact gall.sub _ _ e
      .rw[htake]
       refine gG hes1 ?_;rw[fV t1 t2 t3];rfl
      .exact(hys.mono ((g2.z.trans s3.g.z).trans (g4.z.trans g5.z))).app (Reps.cons ry Reps.nil)
     .rw[if_neg Bool.false_ne_true]
      refine⟨ds.length-(i+1),by omega,rfl,hlt,hσ3,H04,g04,n4,hD4,back g4.z,es1,?_,hys.mono ((g2.z.trans s3.g.z).trans g4.z)⟩;rw[htake];rw[show es1=es1++[] by simp];refine gG hes1 ?_;rw[qj t1 t2];rfl
  .have hi2:i=ds.length:=by omega
   refine .inl ⟨it.stop i H' Ha' gg.z gg.sub (by omega),?_⟩;rw[hi2,List.take_length] at hes1;rw[e2] at hes1;cases hes1;exact q Da ys H' Ha' (g1.trans gg) (g1.s.free hDa) hD0 hDl hys
structure Kg (X:Cx) (E:XK) (ifs:List Expr) (f:Ev->ai D):Prop where
 o:Ig X ifs (HZ X.K E f)
noncomputable def mYes:Ev->ai D:=λ_=>.ok (.bl true)
theorem gC:Kg X E [] mYes:=⟨λpins s σ H Q I ⟨Ha,ρ,hs,hr,q⟩=>yo pins s σ H Q I (q H Ha (aU.refl hs))⟩
theorem lh(h:DT X E c f):Kg X E [c] f:=⟨D0 h.o⟩
structure JX (X:Cx) (E:XK) (e:Expr) (f:Ev->ai D):Prop where
 ev:PE X e (tF X.K E f)
 st:∀{i:Nat}{x:Str}{pos' spos:Pos},X.N.Nodup->X.N[i]?=some x->X.env.scope.names.lookup x=some .local -> swapsWith e (some (.Name x pos')) spos.line X.env=pure true->PS X (.Assign [.Name x pos'] e spos) (Dv (tF X.K E f) (yU i))
theorem Ma(N:List Str)(n:Nat)(fr:List Nat)(hc:X.calm=true)(hi:DI X E tgt iter src)(hok:wD n tg)
  (blk:∀s H C fp pn,(∀He H0e,DG (cx X N scope s H C fp pn) E He H0e tgt tg)/\Kg (cx X N scope s H C fp pn) E ifs tt/\DE (cx X N scope s H C fp pn) E elt fe)
  (hfr:xX X N n fr scope)(hcell:∀x∈scope.names,x.2≠.cell)(hfree:∀x∈scope.names,x.2=.free->X.env.scope.names.lookup x.1=some .cell)(hkind:scope.kind=.function)(hnames:∀x∈scope.names,x.2=.local -> scope.names.lookup x.1=some .local)
  (hs:∀x,foldedSetIterable iter X.env x=pure x:=by intro _;rfl):JX X E (.ListComp elt [⟨tgt,iter,ifs,0⟩] scope pos) (cG n fr src tg tt fe):=by
 have blk':∀s H C fp pn,PG (cx X N scope s H C fp pn) tgt (G7 X.K tg)/\Ig (cx X N scope s H C fp pn) ifs (HZ X.K E tt)/\PE (cx X N scope s H C fp pn) elt (tD X.K E fe):=λs H C fp pn =>
  ⟨λpins s' σ' H' v u Q' I r ⟨He,H0e,q'⟩=>((blk s H C fp pn).1 He H0e).o pins s' σ' H' v u Q' I r q',(blk s H C fp pn).2.1.o,(blk s H C fp pn).2.2.o⟩
 have first:∀{pins:List (Addr×Obj)}{s:Shared}{σ:L2.St}{H:Hp}{Q:VK}{RR:Value->Addr->Result->Shared->Prop},L2.Inv X pins σ H s->tF X.K E (cG n fr src tg tt fe) σ H Q ->
   (∀(Da C:Addr) (s6:Shared) (H5:Hp) (m:Str->Option Value),L2.Inv X pins σ H5 s6->s6.heap.Ns C m->lJ X pins H5 C->Q (.ref Da) H5->RR (.ref Da) C (.ok .next) s6) ->
   wpAny (model X.prog X.w) X.A (eval iter X.env) (λx sg=>wpAny (model X.prog X.w) X.A (pyIter x) (λit si=>wpAny (model X.prog X.w) X.A (newList []) (λacc sj =>
    wpAny (model X.prog X.w) X.A (newFunctionEnv scope X.env.globals (eX X.env.cells scope.names []) [] X.env.qual none .none (some X.env)) (λcenv sk =>
     codeAny (model X.prog X.w) X.A (.compStart (.ListComp elt [⟨tgt,iter,ifs,0⟩] scope pos) 0 it acc { cenv with scope:=relabel scope X.env }) (RR acc cenv.locals) sk) X.xe sj) X.xe si) X.xe sg) X.xe s:=by
  intro pins s σ H Q RR I ⟨Ha,ρ,hsame,hr,q⟩ fin;refine cw (hi.o pins s σ H (λJ H1=>nT n fr (G7 X.K tg) (HZ X.K E tt) (tD X.K E fe) J σ H1 Q) I ⟨Ha,ρ,hsame,hr,?_⟩) λv s1 h1=>cw h1 λitv s2 h2=>sr (N:=N) hc hfr hcell hfree hkind blk' h2 fin;unfold cG at q;cases e1:src ρ with
  |stuck|exn x=>rw[e1] at q;exact q
  |ok ds =>
   rw[e1] at q;intro J H1 H01 g1 it;replace q:match (if ds.length<=line then match bJ (cE n fr ρ) tg tt fe ds with
     |.ok es=>ai.ok (D.lst es)
     |_=>.stuck else .stuck) with
    |.ok (.lst ds)=>∀p vs H' Ha',aU H Ha H' Ha'->H p=none->Ha' p=none->H' p=some (.lst vs)->Reps X.K Ha' ds vs->Q (.ref p) H'
    |.ok _=>False
    |.exn x=>∀C ox H' Ha',aU H Ha H' Ha'->zJ X.K Ha' x C ox->E C ox H'
    |.stuck=>False:=q
   by_cases hl:ds.length<=line
   .rw[if_pos hl] at q
    cases e2:bJ (cE n fr ρ) tg tt fe ds with
    |stuck|exn x=>rw[e2] at q;exact q.elim
    |ok es =>
     rw[e2] at q;exact xN hsame g1 it hl e2 (hr.mono g1.z) hok q
   .rw[if_neg hl] at q;exact q.elim
 have hcl:∀{pins:List (Addr×Obj)}{s:Shared}{σ:L2.St}{H:Hp},L2.Inv X pins σ H s->closureFor scope X.env=pure (eX X.env.cells scope.names []):=λ{pins s σ H} I=>jj λy hy hf=>I.ok.has y.1 (.inl (hfree y hy hf));refine⟨λpins s σ H Q I h=>?_,λ{i x pos' spos} hN hi' hx hsw pins s σ H D' I h=>?_⟩
 .rw[eval_ListComp]
  refine wpAny_comprehension_free (use:=none) rfl hs (hcl I) hkind hnames (first (RR:=λacc C=>compPost (model X.prog X.w) X.A X.xe none (EP X pins σ Q) acc C) I h λDa C s6 H5 m I6 ns fC q=>?_);refine⟨m,ns,λh' sb=>⟨.ref Da,H5,?_,rfl,q⟩⟩;exact I6.turned (t':=s6.toks) (it:=C) (λb o hb e=>(sb.2 b hb).trans e) fC.1 fC.2.1 fC.2.2.2.1 fC.2.2.2.2.1 fC.2.2.2.2.2
 .rw[exec_Assign_Name_used _ _ _ _ hsw]
  refine wpAny_bind (wpAny_standAt (wpAny_bind ?_));show wpAny _ X.A (do let _ ←comprehension (.ListComp elt [⟨tgt,iter,ifs,0⟩] scope pos) scope X.env _ (newList []) false (eval iter X.env) (some (assign (.Name x pos') X.env))) _ _ s;refine wpAny_bind (wpAny_mono (wpAny_comprehension_free (use:=some (assign (.Name x pos') X.env)) (Q:=λ_ s'=>SP X pins D' .next s') rfl hs (hcl I) hkind hnames
   (first (RR:=λacc C=>compPost (model X.prog X.w) X.A X.xe (some (assign (.Name x pos') X.env)) (λ_ s'=>SP X pins D' .next s') acc C) I h λDa C s6 H5 m I6 ns fC q=>?_)) (λ_ s' hq=>wpAny_pure (wpAny_pure hq)) λ_ _ e=>e)
  show wpAny _ X.A (assign (.Name x pos') X.env (.ref Da)) _ _ _;refine wpAny_assign_Name (lN (v:=.ref Da) I6 hN hi' (.inl hx) rfl (λs' I' ⟨a,sb,ha⟩=>?_) (.inr hx));have hCa:C≠a:=by
   rcases ha with rfl|ha
   .exact fC.2.1
   .exact λz=>fC.2.2.2.2.1 x a ha z.symm
  refine⟨m,ns.sameBut sb hCa,λh' sb'=>⟨_,H5,?_,q⟩⟩;exact I'.turned (t':=s'.toks) (it:=C) (λb o hb e=>(sb'.2 b hb).trans e) fC.1 fC.2.1 fC.2.2.2.1 fC.2.2.2.2.1 fC.2.2.2.2.2
theorem FJ(h:JX X E e f):DF X E e f:=⟨h.ev⟩
theorem ji{fr:List Nat}(h:JX X E e (cG n fr src tg tt fe)):DE X E e (cG n fr src tg tt fe):=CL sq (FJ h)
section
variable {X:Cx}{E:XK}{He H0e:Hp}{e:Expr}{f:Ev->ai D}{s:Ev->ai Fl}{pos:Pos}{st:Stmt}
noncomputable def unown(i:Nat) (ρ:Ev):Ev:=match ρ[i]? with
 |some (.ow d)=>ρ.set i (.sh d)
 |_=>ρ
noncomputable def Bk(i:Nat) (s:Ev->ai Fl):Ev->ai Fl:=λρ=>s (unown i ρ)
theorem df.unown{K:W.Frag}(h:df K He H0e Ha σ H ρ)(i:Nat):∃Ha',aA Ha Ha'/\df K He H0e Ha' σ H (DL.unown i ρ):=by
 unfold DL.unown;cases e:ρ[i]? with
 |none=>exact⟨Ha,aA.refl _,h⟩
 |some s =>
  cases s with
  |no|sh d|ox j ds|pt a=>exact⟨Ha,aA.refl _,h⟩
  |ow d =>
   obtain⟨a,k1,k2,k3,k4⟩:=h.ow i d e;obtain⟨o,h5,hrep⟩:∃o,H a=some o/\∀Hb,aA Ha Hb->Hb a=some o->Rep K Hb d (.ref a):=by
    cases d with
    |lst ds=>obtain⟨vs,h5,h6⟩:=k4;exact⟨_,h5,λHb z e=>aH.mpr ⟨a,vs,rfl,eD.of e,h6.mono z⟩⟩
    |dic ks ds=>obtain⟨vs,h5,hl,h6⟩:=k4;exact⟨_,h5,λHb z e=>by rw[Rep];exact⟨a,_,vs,rfl,.inl e,rfl,hl,h6.mono z⟩⟩
    |_=>exact k4.elim
   have z:aA Ha (upd Ha a o):=λb o' q=>by rw[av (by intro z;subst z;rw[k3] at q;cases q)];exact q
   have h':df K He H0e (upd Ha a o) σ H (ρ.set i .no):=by
    have nset:∀(j:Nat) (s:Sl),(ρ.set i .no)[j]?=some s->s≠.no->j≠i/\ρ[j]?=some s:=λj s q hs=>by
     by_cases hj:i=j
     .subst hj
      rw[List.getElem?_set_self'] at q;rw[e] at q;cases q;exact absurd rfl hs
     .rw[List.getElem?_set_ne hj] at q;exact⟨λz=>hj z.symm,q⟩
    refine⟨⟨h.g.s,h.g.z.trans z,λb o' q=>?_,λb q1 q2=>?_⟩,λj d' q=>?_,λj d' q=>?_,λj k d1 d2 hn q1 q2=>?_,by simp [h.ln],h.ex.upd (λj s q=>?_) z (λb us _ eb=>eb) λq us _ q0 hq hd=>?_⟩
    rotate_left 5
    .by_cases hs:s=.no
     .exact .inr (.inr (.inl hs))
     .exact .inl ⟨(nset j s q hs).2,rfl⟩
    .have hq':q≠a:=by
      intro zz;subst zz;exact hd i _ e k1
     exact⟨hq,by rw[av hq'];exact q0⟩
    .by_cases hb:b=a
     .subst hb;rw[aB] at q;cases q;exact h5
     .rw[av hb] at q;exact h.g.sub _ _ q
    .by_cases hb:b=a
     .subst hb;exact k2
     .rw[av hb] at q1;exact h.g.nw b q1 q2
    .obtain⟨hj,q⟩:=nset j _ q (λz=>nomatch z)
     obtain⟨v,q1,q2⟩:=h.rd j d' q;exact⟨v,q1,q2.mono z⟩
    .obtain⟨hj,q⟩:=nset j _ q (λz=>nomatch z)
     obtain⟨b,q1,q2,q3,q4⟩:=h.ow j d' q;have hb:b≠a:=by
      intro zz;subst zz;exact h.ap j i d' d hj q e (by rw[q1,k1])
     refine⟨b,q1,q2,by rw[av hb];exact q3,?_⟩;cases d' with|lst ds'=>obtain⟨vs',h7,h8⟩:=q4;exact⟨vs',h7,h8.mono z⟩|dic ks' ds'=>obtain⟨vs',h7,hl,h8⟩:=q4;exact⟨vs',h7,hl,h8.mono z⟩| _=>exact q4.elim
    .obtain⟨_,q1⟩:=nset j _ q1 (λz=>nomatch z)
     obtain⟨_,q2⟩:=nset k _ q2 (λz=>nomatch z);exact h.ap j k d1 d2 hn q1 q2
   refine⟨_,z,?_⟩;have hp:=h'.put (i:=i) (d:=d) (v:=.ref a) (hrep _ z aB);rw[List.set_set] at hp;have hσ:σ.set i (some (V.ref a))=σ:=by
    apply List.ext_getElem?;intro k
    by_cases hk:i=k
    .subst hk
     obtain⟨hil,_⟩:=List.getElem?_eq_some_iff.mp k1;rw[List.getElem?_set_self hil,k1]
    .rw[List.getElem?_set_ne hk]
   rw[hσ] at hp;exact hp
theorem Hl(i:Nat)(h:DS X E He H0e st s):DS X E He H0e st (Bk i s):=⟨bB h.o λD' σ H ⟨Ha,ρ,hr,q⟩=>by
 obtain⟨Ha',z,hr'⟩:=hr.unown i;exact⟨Ha',DL.unown i ρ,hr',bQ.grow (r:=s (DL.unown i ρ)) q z⟩⟩
end
theorem ni(N:List Str)(n:Nat)(fr:List Nat)(hc:X.calm=true)(hi:DI X E tgt iter src)(hok:wD n tg)
  (blk:∀s H C fp pn,(∀He H0e,DG (cx X N scope s H C fp pn) E He H0e tgt tg)/\Kg (cx X N scope s H C fp pn) E ifs tt/\DE (cx X N scope s H C fp pn) E elt fe)
  (hfr:xX X N n fr scope)(hcell:(scope.names.all λx=>!(x.2==.cell))=true)(hfree:(scope.names.all λx=>!(x.2==.free)||(X.env.scope.names.lookup x.1==some .cell))=true)(hkind:scope.kind=.function)
  (hnames:(scope.names.all λx=>!(x.2==.local)||(scope.names.lookup x.1==some .local))=true)
  (hs:∀x,foldedSetIterable iter X.env x=pure x:=by intro _;rfl):JX X E (.ListComp elt [⟨tgt,iter,ifs,0⟩] scope pos) (cG n fr src tg tt fe):=by
 refine Ma N n fr hc hi hok blk hfr (λx hx z=>?_) (λx hx z=>?_) hkind (λx hx z=>?_) hs
 .have:=List.all_eq_true.mp hcell x hx
  rw[z] at this;simp at this
 .have:=List.all_eq_true.mp hfree x hx
  rw[z] at this;simpa using this
 .have:=List.all_eq_true.mp hnames x hx
  rw[z] at this;simpa using this
theorem Ez(hN:X.N.Nodup)(hi:X.N[i]?=some x)(hx:X.env.scope.names.lookup x=some .local)(hl:lI f)(he:JX X E e f)(hs:swapsWith e (some (.Name x pos')) pos.line X.env=pure true:=by rfl):DS X E He H0e (.Assign [.Name x pos'] e pos) (bg i f):=by
 refine⟨bB (he.st hN hi hx hs) λD σ H ⟨Ha,ρ,h,q⟩=>?_⟩;refine uJ hl ⟨Ha,ρ,h.g.sub,h.rd,?_⟩;refine plain h q λd v H' Ha' _ g rp q'=>?_;exact q' _ H' Ha' (aA.refl _) ((h.grow g).put rp)
end DL
namespace Com
open PySem L2 DL
noncomputable def dW:Ev->ai Fl :=
 (az (gi (iT 1) (ae (aa 1) (dC (.int 0)) i5)
 (az (qP 0 1 (ah (aa 1) (ah (ae (aa 0) (aa 1) cN) aF)))
 aq))
 (az (bM (ar (ah (aa 0) aF) (m1 AE)))
 aq))
noncomputable def ie:List D->ai D:=cn 2 dW
noncomputable def eg:Ev->ai Fl :=
 (az (bg 2 (ar (ah (aa 0) (ah (aa 1) aF)) ie))
 (az (bM (ar (ah (ae (aa 0) (aa 2) lp) (ah (ae (aa 1) (aa 2) lp) aF)) eQ))
 aq))
noncomputable def qX:List D->ai D:=cn 3 eg
noncomputable def xT:Ev->ai Fl :=
 (az (bM (gW (cC (aa 0) (gF "int")) (dE (cC (aa 0) (gF "bool")))))
 aq)
noncomputable def m_is_whole:List D->ai D:=cn 1 xT
noncomputable def de:Ev->ai Fl :=
 (az (bg 2 (ar (ah (aa 0) aF) (m1 AE)))
 (az (bg 3 (ar (ah (aa 1) aF) (m1 AE)))
 (az (gi (iT 3) (ae (aa 3) (dC (.int 0)) i5)
 (az (bg 4 (ae (aa 2) (aa 3) cN))
 (az (bg 2 (aa 3))
 (az (bg 3 (aa 4))
 aq))))
 (az (bM (aa 2))
 aq))))
noncomputable def m_common_divisor:List D->ai D:=cn 5 de
noncomputable def nN:Ev->ai Fl :=
 (az (dX (jb (dE (ar (ah (aa 0) aF) m_is_whole)) (dE (ar (ah (aa 1) aF) m_is_whole)))
 (az d7
 aq)
 aq)
 (az (dX (ae (aa 1) (dC (.int 0)) gR)
 (az d7
 aq)
 aq)
 (az (bg 2 (ar (ah (aa 0) (ah (aa 1) aF)) m_common_divisor))
 (az (dX (ae (aa 1) (dC (.int 0)) Ic)
 (az (bg 2 (cC (aa 2) JN))
 aq)
 aq)
 (az (bM (ar (ah (ae (aa 0) (aa 2) lp) (ah (ae (aa 1) (aa 2) lp) aF)) eQ))
 aq)))))
noncomputable def m_ratio:List D->ai D:=cn 3 nN
noncomputable def sJ:Ev->ai Fl :=
 (az (bM (ae (ae (ae (aa 0) (dC (.int 0)) aN) (ae (aa 1) (dC (.int 1)) aN) bR) (ae (ae (aa 1) (dC (.int 0)) aN) (ae (aa 0) (dC (.int 1)) aN) bR) Ic))
 aq)
noncomputable def m_is_less:List D->ai D:=cn 2 sJ
theorem AJ{f:α->ai β}:(ai.ok a).bind f=f a:=rfl
theorem fI(h:s ρ=.ok (.nx ρ')):az s t ρ=t ρ':=by unfold az;rw[h];rfl
theorem sX(h:s ρ=.ok (.rt d)):az s t ρ=.ok (.rt d):=by unfold az;rw[h];rfl
theorem Be(h:s ρ=.ok (.nx ρ')):az s aq ρ=.ok (.nx ρ'):=by unfold az;rw[h];rfl
theorem wY(h:f ρ=.ok d):bg i f ρ=.ok (.nx (ρ.set i (.sh d))):=by unfold bg;rw[h];rfl
theorem sZ(h:f (fu ρ)=.ok d):bM f ρ=.ok (.rt d):=by unfold bM;rw[h];rfl
theorem G5(h:c (fu ρ)=.ok (.bl false)):dX c s t ρ=t ρ:=by unfold dX;rw[h];rfl
theorem jy:i5 (.int i) (.int j)=.ok (.bl (!(i==j))):=by unfold i5;rw[if_pos ⟨rfl,rfl⟩,b6]
theorem l5:gR (.int i) (.int j)=.ok (.bl (i==j)):=by unfold gR;rw[if_pos ⟨rfl,rfl⟩,b6]
theorem f9(h:f ρ=.ok x)(h':fa ρ=.ok xs):ah f fa ρ=.ok (x::xs):=by unfold ah;rw[h,AJ,h'];rfl
theorem iD(h:f ρ=.ok x)(h':g ρ=.ok y):ae f g op ρ=op x y:=by unfold ae;rw[h,AJ,h'];rfl
theorem lA(h:fa ρ=.ok xs):ar fa m ρ=m xs:=by unfold ar;rw[h];rfl
theorem xu(h:b≠0):cN (.int a) (.int b)=.ok (.int (a.fmod b)):=by
 show(if decide (b≠0)=true then ai.ok (D.int (a.fmod b)) else .stuck)=_;rw[if_pos (decide_eq_true h)]
theorem uk(h:d5 a b=true):lp (.int a) (.int b)=.ok (.int (a.fdiv b)):=by
 show(if d5 a b=true then ai.ok (D.int (a.fdiv b)) else .stuck)=_;rw[if_pos h]
theorem oT(a b:Int):Int.gcd b (a.fmod b)=Int.gcd a b:=by
 rw[Int.fmod_def,Int.gcd_sub_mul_left_right,Int.gcd_comm]
theorem yW{a b:Int}(h:b≠0):(a.fmod b).natAbs<b.natAbs:=by
 rcases Int.lt_or_gt_of_ne h with hb|hb
 .have h1:=Int.fmod_lt_of_pos (-a) (show 0 < -b by omega)
  have h2:=Int.fmod_nonneg_of_pos (-a) (show 0 < -b by omega);rw[Int.neg_fmod_neg] at h1 h2;omega
 .have h1:=Int.fmod_lt_of_pos a hb
  have h2:=Int.fmod_nonneg_of_pos a hb;omega
theorem k9:∀(n:Nat) (a b:Int),b.natAbs<n->∃g:Int,g.natAbs=Int.gcd a b /\
  cb (ae (aa 1) (dC (.int 0)) i5) (az (qP 0 1 (ah (aa 1) (ah (ae (aa 0) (aa 1) cN) aF))) aq) n [.sh (.int a),.sh (.int b)]=.ok (.nx [.sh (.int g),.sh (.int 0)])
 |0,a,b,h=>absurd h (Nat.not_lt_zero _)
 |n+1,a,b,h=>by
  unfold cb;have c:(ae (aa 1) (dC (.int 0)) i5) (fu [.sh (.int a),.sh (.int b)])=.ok (.bl (!(b==0))):=jy;rw[c]
  by_cases hb:b=0
  .subst hb
   exact⟨a,by simp,rfl⟩
  .have e:(!(b==0))=true:=by simp [hb]
   obtain⟨g,h1,h2⟩:=k9 n b (a.fmod b) (by have:=yW (a:=a) hb;omega);refine⟨g,by rw[h1,oT],?_⟩;rw[←h2];rw[e];have st:(az (qP 0 1 (ah (aa 1) (ah (ae (aa 0) (aa 1) cN) aF))) aq) [.sh (.int a),.sh (.int b)]=.ok (.nx [.sh (.int b),.sh (.int (a.fmod b))]):=by
    refine Be ?_;unfold qP;have:(ah (aa 1) (ah (ae (aa 0) (aa 1) cN) aF)) [.sh (.int a),.sh (.int b)]=.ok [.int b,.int (a.fmod b)]:=by
     exact f9 rfl (f9 (xu hb) rfl)
    rw[this];rfl
   show(ai.bind _ _)=_;rw[st];rfl
theorem xJ(a b:Int):ie [.int a,.int b]=.ok (.int (Int.gcd a b)):=by
 obtain⟨g,h1,h2⟩:=k9 (b.natAbs+1) a b (Nat.lt_succ_self _);have w:gi (iT 1) (ae (aa 1) (dC (.int 0)) i5) (az (qP 0 1 (ah (aa 1) (ah (ae (aa 0) (aa 1) cN) aF))) aq) [.sh (.int a),.sh (.int b)]=.ok (.nx [.sh (.int g),.sh (.int 0)]):=h2;have r:dW [.sh (.int a),.sh (.int b)]=.ok (.rt (.int (if g<0 then -g else g))):=by
  unfold dW;rw[fI w];exact sX (sZ rfl)
 show(dW [.sh (.int a),.sh (.int b)]).bind _=_;rw[r];show ai.ok (D.int (if g<0 then -g else g))=_
 congr 2
 rw[←h1];split<;>omega
theorem mR:∀(n:Nat) (x y:D) (a b:Int) (r:Sl),0<=a->0<=b->b.natAbs<n->∃r',
  cb (ae (aa 3) (dC (.int 0)) i5) (az (bg 4 (ae (aa 2) (aa 3) cN)) (az (bg 2 (aa 3)) (az (bg 3 (aa 4)) aq))) n [.sh x,.sh y,.sh (.int a),.sh (.int b),r]=.ok (.nx [.sh x,.sh y,.sh (.int (Int.gcd a b)),.sh (.int 0),r'])
 |0,_,_,a,b,_,_,_,h=>absurd h (Nat.not_lt_zero _)
 |n+1,x,y,a,b,r,ha,hb0,h=>by
  unfold cb;have c:∀r,(ae (aa 3) (dC (.int 0)) i5) (fu [.sh x,.sh y,.sh (.int a),.sh (.int b),r])=.ok (.bl (!(b==0))):=λr=>jy;rw[c]
  by_cases hb:b=0
  .subst hb
   refine⟨r,?_⟩;have e:((Int.gcd a 0:Nat):Int)=a:=by simp;omega
   rw[e];rfl
  .have e:(!(b==0))=true:=by simp [hb]
   have hp:0<b:=by omega
   obtain⟨r',h2⟩:=mR n x y b (a.fmod b) (.sh (.int (a.fmod b))) hb0 (Int.fmod_nonneg_of_pos a hp) (by have:=yW (a:=a) hb;omega);refine⟨r',?_⟩;rw[oT] at h2;rw[←h2,e];have st:(az (bg 4 (ae (aa 2) (aa 3) cN)) (az (bg 2 (aa 3)) (az (bg 3 (aa 4)) aq))) [.sh x,.sh y,.sh (.int a),.sh (.int b),r]=.ok (.nx [.sh x,.sh y,.sh (.int b),.sh (.int (a.fmod b)),.sh (.int (a.fmod b))]):=by
    have m:(ae (aa 2) (aa 3) cN) [.sh x,.sh y,.sh (.int a),.sh (.int b),r]=.ok (.int (a.fmod b)):=by
     exact xu hb
    rw[fI (wY m)];rfl
   show(ai.bind _ _)=_;rw[st];rfl
theorem i6(a b:Int):m_common_divisor [.int a,.int b]=.ok (.int (Int.gcd a b)):=by
 have e:∀i:Int,(if i<0 then -i else i)=(i.natAbs:Int):=λi=>by split<;>omega
 obtain⟨r',h⟩:=mR ((b.natAbs:Int).natAbs+1) (.int a) (.int b) a.natAbs b.natAbs .no (Int.natCast_nonneg _) (Int.natCast_nonneg _) (Nat.lt_succ_self _);have hg:Int.gcd (a.natAbs:Int) (b.natAbs:Int)=Int.gcd a b:=by simp [Int.gcd]
 rw[hg] at h;have r:de [.sh (.int a),.sh (.int b),.no,.no,.no]=.ok (.rt (.int (Int.gcd a b))):=by
  unfold de;rw[fI (ρ':=[.sh (.int a),.sh (.int b),.sh (.int (a.natAbs:Int)),.no,.no]) (by rw[←e a];rfl)];rw[fI (ρ':=[.sh (.int a),.sh (.int b),.sh (.int (a.natAbs:Int)),.sh (.int (b.natAbs:Int)),.no]) (by rw[←e b];rfl)];have w:gi (iT 3) (ae (aa 3) (dC (.int 0)) i5) (az (bg 4 (ae (aa 2) (aa 3) cN)) (az (bg 2 (aa 3)) (az (bg 3 (aa 4)) aq))) [.sh (.int a),.sh (.int b),.sh (.int (a.natAbs:Int)),.sh (.int (b.natAbs:Int)),.no]=.ok (.nx [.sh (.int a),.sh (.int b),.sh (.int (Int.gcd a b)),.sh (.int 0),r']):=h;rw[fI w];exact sX (sZ rfl)
 show(de [.sh (.int a),.sh (.int b),.no,.no,.no]).bind _=_;rw[r];rfl
theorem xg:(2:Nat) ^ 64<=wL:=by rw[mw];exact Nat.pow_le_pow_right (by decide) (by decide)
theorem Jr{i:Int}(h:i.natAbs<18446744073709551616):i.natAbs<wL:=Nat.lt_of_lt_of_le h xg
theorem eU(h:i.natAbs<18446744073709551616)(h':j.natAbs<18446744073709551616):du i j=true:=by
 unfold du;rw[Bool.and_eq_true];exact⟨decide_eq_true (Jr h),decide_eq_true (Jr h')⟩
theorem di(h:i.natAbs<wL)(h':j.natAbs<wL):du i j=true:=by
 unfold du;rw[Bool.and_eq_true];exact⟨decide_eq_true h,decide_eq_true h'⟩
theorem CJ(h0:j≠0)(h:j.natAbs<B9):d5 i j=true:=by
 unfold d5;rw[Bool.and_eq_true,Bool.or_eq_true];exact⟨decide_eq_true h0,.inl (decide_eq_true h)⟩
theorem jC(h0:j≠0)(h:i.natAbs<nQ):d5 i j=true:=by
 unfold d5;rw[Bool.and_eq_true,Bool.or_eq_true];exact⟨decide_eq_true h0,.inr (decide_eq_true h)⟩
theorem oO{k:Nat}(h:ds[k]?=some d):aN (.lst ds) (.int (k:Int))=.ok d:=by
 unfold aN;simp only[eh h]
theorem d4{a b:Int}(hb:0<b):0<=a.fmod b/\a.fmod b<b:=⟨Int.fmod_nonneg_of_pos a hb,Int.fmod_lt_of_pos a hb⟩
theorem Aq{n k:Nat}(h:k<n):(DL.intsFrom 0 n).drop k=.int (k:Int)::(DL.intsFrom 0 n).drop (k+1):=by
 have hl:(DL.intsFrom 0 n).length=n:=by unfold DL.intsFrom;simp
 rw[List.drop_eq_getElem_cons (by rw[hl];exact h)]
 congr 1
 unfold DL.intsFrom;simp
theorem Cd:(DL.intsFrom 0 n).drop n=[]:=by
 have hl:(DL.intsFrom 0 n).length=n:=by unfold DL.intsFrom;simp
 exact List.drop_eq_nil_of_le (by omega)
theorem cQ(h1:tg ρ d=.ok ρ1)(h2:s ρ1=.ok (.nx ρ2)):bL tg s (d::r) ρ=bL tg s r ρ2:=by
 rw[bL,h1,AJ,h2,AJ]
noncomputable def Jv:D->Bool
 |.int _=>true
 |_=>false
theorem fB(d:D):m_is_whole [d]=.ok (.bl (Jv d)):=by cases d<;>first|rfl|(rename_i k _;cases k<;>rfl)
theorem ez{a g:Int}(hg:0<g):a.fdiv g=a / g:=Int.fdiv_eq_ediv_of_nonneg a (by omega)
theorem iS(h:b≠0):0<(Int.gcd a b:Int):=by
 have:=Int.gcd_pos_of_ne_zero_right a h;omega
theorem Ia(hb:0<b)(h1:a.natAbs<nQ)(h2:b.natAbs<nQ):qX [.int a,.int b]=.ok (.tup [.int (a / Int.gcd a b),.int (b / Int.gcd a b)]):=by
 have hg:=iS (a:=a) (b:=b) (by omega);have r:eg [.sh (.int a),.sh (.int b),.no]=.ok (.rt (.tup [.int (a / Int.gcd a b),.int (b / Int.gcd a b)])):=by
  unfold eg;rw[fI (ρ':=[.sh (.int a),.sh (.int b),.sh (.int (Int.gcd a b))]) (wY ((lA (xs:=[.int a,.int b]) rfl).trans (xJ a b)))];refine sX (sZ ?_);refine(lA (xs:=[.int (a / Int.gcd a b),.int (b / Int.gcd a b)]) (f9 ?_ (f9 ?_ rfl))).trans rfl
  .rw[←ez hg]
   exact(iD (x:=.int a) (y:=.int (Int.gcd a b)) rfl rfl).trans (uk (jC (by omega) h1))
  .rw[←ez hg]
   exact(iD (x:=.int b) (y:=.int (Int.gcd a b)) rfl rfl).trans (uk (jC (by omega) h2))
 show(eg [.sh (.int a),.sh (.int b),.no]).bind _=_;rw[r];rfl
theorem Br(hb:0<b)(h1:a.natAbs<nQ)(h2:b.natAbs<nQ):m_ratio [.int a,.int b]=.ok (.tup [.int (a / Int.gcd a b),.int (b / Int.gcd a b)]):=by
 have hg:=iS (a:=a) (b:=b) (by omega);have r:nN [.sh (.int a),.sh (.int b),.no]=.ok (.rt (.tup [.int (a / Int.gcd a b),.int (b / Int.gcd a b)])):=by
  unfold nN;rw[fI (ρ':=[.sh (.int a),.sh (.int b),.no]) (G5 (t:=aq) rfl)];rw[fI (ρ':=[.sh (.int a),.sh (.int b),.no]) (G5 (t:=aq) ((iD (x:=.int b) (y:=.int 0) rfl rfl).trans (l5.trans (by rw[beq_eq_false_iff_ne.mpr (by omega)]))))];rw[fI (ρ':=[.sh (.int a),.sh (.int b),.sh (.int (Int.gcd a b))]) (wY ((lA (xs:=[.int a,.int b]) rfl).trans (i6 a b)))];rw[fI (ρ':=[.sh (.int a),.sh (.int b),.sh (.int (Int.gcd a b))]) (G5 (t:=aq) (by
   show ai.ok (D.bl (decide (b<0)))=_;rw[decide_eq_false (by omega)]))]
  refine sX (sZ ?_);refine(lA (xs:=[.int (a / Int.gcd a b),.int (b / Int.gcd a b)]) (f9 ?_ (f9 ?_ rfl))).trans rfl
  .rw[←ez hg]
   exact(iD (x:=.int a) (y:=.int (Int.gcd a b)) rfl rfl).trans (uk (jC (by omega) h1))
  .rw[←ez hg]
   exact(iD (x:=.int b) (y:=.int (Int.gcd a b)) rfl rfl).trans (uk (jC (by omega) h2))
 show(nN [.sh (.int a),.sh (.int b),.no]).bind _=_;rw[r];rfl
noncomputable def KZ(p q:Int):D:=.tup [.int p,.int q]
end Com
open Com
namespace Com
open PySem L2 DL
noncomputable abbrev gV:=Int×Int
noncomputable def fr(x:gV):D:=KZ x.1 x.2
noncomputable def uC:Nat:=1000000000000000000000000000000000000000000000000000000000000
theorem HR:uC<=B9:=by rw[zL];exact Nat.le_trans (show uC<=2 ^ 200 by decide) (Nat.pow_le_pow_right (by decide) (by decide))
theorem EY:uC<=nQ:=by rw[my];exact Nat.le_trans (show uC<=2 ^ 200 by decide) (Nat.pow_le_pow_right (by decide) (by decide))
theorem zI:uC<=wL:=by rw[mw];exact Nat.le_trans (show uC<=2 ^ 200 by decide) (Nat.pow_le_pow_right (by decide) (by decide))
theorem nP:nQ<=wL:=by rw[my,mw];exact Nat.pow_le_pow_right (by decide) (by decide)
structure Low (x:gV):Prop where
 q1:1<=x.2
 g1:Int.gcd x.1 x.2=1
structure fG (x:gV):Prop extends Low x where
 pN:x.1.natAbs<uC
 qN:x.2.natAbs<uC
noncomputable def bA(a b:Int):gV:=(a / Int.gcd a b,b / Int.gcd a b)
theorem cP(hb:0<b):Low (bA a b):=by
 have hg:=iS (a:=a) (b:=b) (by omega);refine⟨?_,Int.gcd_ediv_gcd_ediv_gcd (by omega)⟩;have:=Int.ediv_gcd_ne_zero_if_ne_zero_right a (show b≠0 by omega);have h2:0<=b / (Int.gcd a b:Int):=Int.ediv_nonneg (by omega) (by omega);show 1<=b / (Int.gcd a b:Int);omega
theorem En:(bA a b).1*b=a*(bA a b).2:=by
 unfold bA;obtain⟨x,hx⟩:=Int.gcd_dvd_left a b;obtain⟨y,hy⟩:=Int.gcd_dvd_right a b
 by_cases hg:(Int.gcd a b:Int)=0
 .simp only[hg,Int.ediv_zero,Int.zero_mul,Int.mul_zero]
 .generalize hG:(Int.gcd a b:Int)=G at *
  have e1:a / G=x:=by rw[hx];exact Int.mul_ediv_cancel_left x hg
  have e2:b / G=y:=by rw[hy];exact Int.mul_ediv_cancel_left y hg
  show a / G*b=a*(b / G);rw[e1,e2]
  calc x*b=x*(G*y):=by rw[←hy]
   _=G*x*y:=by grind
   _=a*y:=by rw[←hx]
theorem tP:(bA a b).1.natAbs<=a.natAbs:=Int.natAbs_ediv_le_natAbs _ _
theorem tO:(bA a b).2.natAbs<=b.natAbs:=Int.natAbs_ediv_le_natAbs _ _
theorem vm(hx:Low x)(hy:Low y)(h:x.1*y.2=y.1*x.2):x=y:=by
 have d1:x.2∣y.2:=by
  have:x.2∣x.1*y.2:=⟨y.1,by rw[h];exact Int.mul_comm _ _⟩
  rw[←Int.dvd_gcd_mul_iff_dvd_mul,Int.gcd_comm,hx.g1] at this;simpa using this
 have d2:y.2∣x.2:=by
  have:y.2∣y.1*x.2:=⟨x.1,by rw[←h];exact Int.mul_comm _ _⟩
  rw[←Int.dvd_gcd_mul_iff_dvd_mul,Int.gcd_comm,hy.g1] at this;simpa using this
 have e:x.2=y.2:=Int.dvd_antisymm (by have:=hx.q1;omega) (by have:=hy.q1;omega) d1 d2;have e1:x.1=y.1:=by
  rw[e] at h;exact Int.eq_of_mul_eq_mul_right (by have:=hy.q1;omega) h
 exact Prod.ext e1 e
theorem uQ(hb:0<b)(h1:a.natAbs<nQ)(h2:b.natAbs<nQ):m_ratio [.int a,.int b]=.ok (fr (bA a b)):=Br hb h1 h2
theorem Jt(hb:0<b)(h1:a.natAbs<uC)(h2:b.natAbs<uC):fG (bA a b):=⟨cP hb,Nat.lt_of_le_of_lt tP h1,Nat.lt_of_le_of_lt tO h2⟩
noncomputable def flt(x y:gV):Bool:=decide (x.1*y.2<y.1*x.2)
theorem aG{α:Type}{a b:α}(h:a=b):a=b:=h
noncomputable def Gg(t:Ev->ai Fl) (r:Fl):ai Fl:=match r with
 |.nx ρ'=>t ρ'
 |r=>.ok r
noncomputable def IB(i:Nat) (ρ:Ev) (d:D):ai Fl:=.ok (.nx (ρ.set i (.sh d)))
noncomputable def ID(d:D):ai Fl:=.ok (.rt d)
noncomputable def FG(ρ:Ev) (_:D):ai Fl:=.ok (.nx ρ)
noncomputable def KQ(s t:Ev->ai Fl) (ρ:Ev) (x:D):ai Fl:=match x with
 |.bl b=>if b=true then s ρ else t ρ
 |_=>.stuck
noncomputable def Jb(i:Nat) (ρ:Ev) (d:D):ai Fl:=match d with
 |.lst ds=>.ok (.nx (ρ.set i (.ow (.lst ds))))
 |_=>.stuck
noncomputable def GL(s:Option Sl) (k:List D->ai Fl):ai Fl:=match s with
 |some (.ow (.lst ds))=>k ds
 |_=>.stuck
noncomputable def JO(i:Nat) (ρ:Ev) (ds:List D) (d:D):ai Fl:=if ds.length<line then .ok (.nx (ρ.set i (.ow (.lst (ds++[d]))))) else .stuck
noncomputable def fP(i:Nat) (ρ:Ev) (k:Ev->ai D) (ds:List D) (d:D):ai Fl:=(k ρ).bind (DL.putAt ρ i ds d)
noncomputable def I0(i j:Nat) (ρ:Ev) (ds:List D):ai Fl:=match ds with
 |[x,y]=>.ok (.nx ((ρ.set i (.sh x)).set j (.sh y)))
 |_=>.stuck
noncomputable def k2(g:Ev->ai D) (op:D->D->ai D) (ρ:Ev) (x:D):ai D:=(g ρ).bind (op x)
noncomputable def xM(x:D) (xs:List D):ai (List D):=.ok (x::xs)
noncomputable def FL(fa:Ev->ai (List D)) (ρ:Ev) (x:D):ai (List D):=(fa ρ).bind (xM x)
noncomputable def HF(g:Ev->ai D) (ρ:Ev) (x:D):ai D:=match x with
 |.bl true=>g ρ
 |.bl false=>.ok (.bl false)
 |_=>.stuck
noncomputable def KL(g:Ev->ai D) (ρ:Ev) (x:D):ai D:=match x with
 |.bl true=>.ok (.bl true)
 |.bl false=>g ρ
 |_=>.stuck
noncomputable def Jg(x:D):ai D:=match x with
 |.bl b=>.ok (.bl (!b))
 |_=>.stuck
noncomputable def G4(f g:Ev->ai D) (ρ:Ev) (x:D):ai D:=match x with
 |.bl true=>f ρ
 |.bl false=>g ρ
 |_=>.stuck
noncomputable def Ij(s:Option Sl):ai D:=match s with
 |some (.sh d)=>.ok d
 |_=>.stuck
noncomputable def zU(s:Sl):Sl:=match s with
 |.ow d=>.sh d
 |.ox _ ds=>.sh (.tup ds)
 |x=>x
noncomputable def Gj(r:Fl):ai D:=match r with
 |.nx _=>.ok .non
 |.rt d=>.ok d
 |_=>.stuck
noncomputable def Lr(x:D):ai (Option Int):=match x with
 |.int i=>.ok (some i)
 |_=>.stuck
noncomputable def Bc(x:D) (l:Option Int) (h:Option Int):ai D:=nY x l h
noncomputable def KD(hi:Ev->ai (Option Int)) (ρ:Ev) (x:D) (l:Option Int):ai D:=(hi ρ).bind (Bc x l)
noncomputable def IA(lo hi:Ev->ai (Option Int)) (ρ:Ev) (x:D):ai D:=(lo ρ).bind (KD hi ρ x)
noncomputable def JB(tg:Ev->D->ai Ev) (s:Ev->ai Fl) (ρ:Ev) (d:D):ai Fl:=match d with
 |.lst ds=>bL tg s ds ρ
 |_=>.stuck
noncomputable def EM(op':D->D->ai D) (h:Ev->ai D) (ρ:Ev) (y z:D):ai D:=match z with
 |.bl true=>(h ρ).bind (op' y)
 |.bl false=>.ok (.bl false)
 |_=>.stuck
noncomputable def Hz(op op':D->D->ai D) (h:Ev->ai D) (ρ:Ev) (x y:D):ai D:=(op x y).bind (EM op' h ρ y)
noncomputable def LF(op op':D->D->ai D) (g h:Ev->ai D) (ρ:Ev) (x:D):ai D:=(g ρ).bind (Hz op op' h ρ x)
section
variable {s t:Ev->ai Fl}{f g h:Ev->ai D}{fa:Ev->ai (List D)}{ρ r:Ev}{i j:Nat}{d x y:D}{ds xs:List D}{op op':D->D->ai D}{a b:Int}
theorem fR{a:α}{k:α->ai β}:(ai.ok a).bind k=k a:=aG rfl
theorem o8:az s t ρ=(s ρ).bind (Gg t):=aG rfl
theorem kn:Gg t (.nx ρ)=t ρ:=aG rfl
theorem km:Gg t (.rt d)=.ok (.rt d):=aG rfl
theorem kD:aq ρ=.ok (.nx ρ):=aG rfl
theorem o7:bg i f ρ=(f ρ).bind (IB i ρ):=aG rfl
theorem kj:IB i ρ d=.ok (.nx (ρ.set i (.sh d))):=aG rfl
theorem pd:bM f ρ=(f (fu ρ)).bind ID:=aG rfl
theorem kr:ID d=.ok (.rt d):=aG rfl
theorem kR:n8 f ρ=(f (fu ρ)).bind (FG ρ):=aG rfl
theorem ir:FG ρ d=.ok (.nx ρ):=aG rfl
theorem vK:dX f s t ρ=(f (fu ρ)).bind (KQ s t ρ):=aG rfl
theorem pI:KQ s t ρ (.bl true)=s ρ:=aG rfl
theorem pH:KQ s t ρ (.bl false)=t ρ:=aG rfl
theorem pj:jr i f ρ=(f ρ).bind (Jb i ρ):=aG rfl
theorem kB:Jb i ρ (.lst ds)=.ok (.nx (ρ.set i (.ow (.lst ds)))):=aG rfl
theorem pR:dN i f ρ=GL ρ[i]? λds=>(f ρ).bind (JO i ρ ds):=aG rfl
theorem kA{k:List D->ai Fl}:GL (some (.ow (.lst ds))) k=k ds:=aG rfl
theorem ee(h:decide (ds.length<=999)=true):JO i ρ ds d=.ok (.nx (ρ.set i (.ow (.lst (ds++[d]))))):=if_pos (Nat.lt_of_le_of_lt (of_decide_eq_true h) (by decide))
theorem pe:Bj i f g ρ=GL ρ[i]? λds=>(f ρ).bind (fP i ρ g ds):=aG rfl
theorem ku:fP i ρ g ds d=(g ρ).bind (DL.putAt ρ i ds d):=aG rfl
theorem pK:Bk i s ρ=s (unown i ρ):=aG rfl
theorem ph:qP i j fa ρ=(fa ρ).bind (I0 i j ρ):=aG rfl
theorem kz:I0 i j ρ [x,y]=.ok (.nx ((ρ.set i (.sh x)).set j (.sh y))):=aG rfl
theorem vS:cC f o ρ=(f ρ).bind o:=aG rfl
theorem vR:ae f g op ρ=(f ρ).bind (k2 g op ρ):=aG rfl
theorem pQ:k2 g op ρ x=(g ρ).bind (op x):=aG rfl
theorem vQ:ar fa m ρ=(fa ρ).bind m:=aG rfl
theorem pA:aF ρ=.ok []:=aG rfl
theorem kS:ah f fa ρ=(f ρ).bind (FL fa ρ):=aG rfl
theorem iw:FL fa ρ x=(fa ρ).bind (xM x):=aG rfl
theorem iu:xM x xs=.ok (x::xs):=aG rfl
theorem pS:gW f g ρ=(f ρ).bind (HF g ρ):=aG rfl
theorem kU:HF g ρ (.bl true)=g ρ:=aG rfl
theorem kT:HF g ρ (.bl false)=.ok (.bl false):=aG rfl
theorem vG:jb f g ρ=(f ρ).bind (KL g ρ):=aG rfl
theorem pw:KL g ρ (.bl true)=.ok (.bl true):=aG rfl
theorem pv:KL g ρ (.bl false)=g ρ:=aG rfl
theorem pz:dE f ρ=(f ρ).bind Jg:=aG rfl
theorem kC:Jg (.bl c)=.ok (.bl (!c)):=aG rfl
theorem pG:FK h f g ρ=(h ρ).bind (G4 f g ρ):=aG rfl
theorem kN:G4 f g ρ (.bl true)=f ρ:=aG rfl
theorem kM:G4 f g ρ (.bl false)=g ρ:=aG rfl
theorem oV:aa i ρ=Ij ρ[i]?:=aG rfl
theorem j8:Ij (some (.sh d))=.ok d:=aG rfl
theorem Cn:dC d ρ=.ok d:=aG rfl
theorem ki:fu []=[]:=aG rfl
theorem o6:fu (c::r)=zU c::fu r:=aG rfl
theorem kh:zU (.ow d)=.sh d:=aG rfl
theorem nF:zU (.ox j ds)=.sh (.tup ds):=aG rfl
theorem kg:zU (.sh d)=.sh d:=aG rfl
theorem ke:zU .no=.no:=aG rfl
theorem pb:cn n s ds=(s (ds.map Sl.sh++List.replicate (n-ds.length) .no)).bind Gj:=aG rfl
theorem kq:Gj (.rt d)=.ok d:=aG rfl
theorem ko:Gj (.nx ρ)=.ok .non:=aG rfl
theorem vF:eu f ρ=(f ρ).bind Lr:=aG rfl
theorem pq:Lr (.int a)=.ok (some a):=aG rfl
theorem vH:eM ρ=.ok none:=aG rfl
theorem vB:AD f lo hi ρ=(f ρ).bind (IA lo hi ρ):=aG rfl
theorem o5:IA lo hi ρ x=(lo ρ).bind (KD hi ρ x):=aG rfl
theorem o4:KD hi ρ x l=(hi ρ).bind (Bc x l):=aG rfl
theorem oZ:Bc (.lst ds) l l'=.ok (.lst (qZ ds l l')):=aG rfl
theorem pL:n6 f tg s ρ=(f ρ).bind (JB tg s ρ):=aG rfl
theorem kQ:JB tg s ρ (.lst ds)=bL tg s ds ρ:=aG rfl
theorem ix:iB op op' f g h ρ=(f ρ).bind (LF op op' g h ρ):=aG rfl
theorem vL:LF op op' g h ρ x=(g ρ).bind (Hz op op' h ρ x):=aG rfl
theorem pP:Hz op op' h ρ x y=(op x y).bind (EM op' h ρ y):=aG rfl
theorem pO:EM op' h ρ y (.bl true)=(h ρ).bind (op' y):=aG rfl
theorem pM:EM op' h ρ y (.bl false)=.ok (.bl false):=aG rfl
theorem pF:vx (λ_ _=>true) o (.int a) (.int b)=.ok (o a b):=aG rfl
theorem pT:cq (.int a) (.int b)=.ok (.int (a+b)):=aG rfl
theorem iX(h:decide (ds.length+es.length<=1000)=true):cq (.lst ds) (.lst es)=.ok (.lst (ds++es)):=if_pos (Nat.le_trans (of_decide_eq_true h) (by decide))
theorem vJ:m1 m [x]=m x:=aG rfl
theorem vI:m2 m [x,y]=m x y:=aG rfl
theorem da:dJ (.lst ds)=.ok (.int ds.length):=aG rfl
theorem kE:dJ (.tup ds)=.ok (.int ds.length):=aG rfl
theorem oX(h:decide (ds.length<=1000)=true):eQ ds=.ok (.tup ds):=if_pos (Nat.le_trans (of_decide_eq_true h) (by decide))
theorem pE(h:decide (ds.length<=1000)=true):dj ds=.ok (.lst ds):=if_pos (Nat.le_trans (of_decide_eq_true h) (by decide))
theorem dw:gF "str" (.str z)=.ok (.bl true):=aG rfl
theorem cL:gF "tuple" (.tup ds)=.ok (.bl true):=aG rfl
theorem cW:gF "list" (.lst ds)=.ok (.bl true):=aG rfl
theorem eW:ll (.non) .non=.ok (.bl true):=aG rfl
theorem eB:iA (.non) .non=.ok (.bl false):=aG rfl
theorem eV:ll (.tup ds) .non=.ok (.bl false):=aG rfl
theorem eA:iA (.tup ds) .non=.ok (.bl true):=aG rfl
theorem bV(h:du a b=true):bR (.int a) (.int b)=.ok (.int (a*b)):=if_pos h
theorem pC(h:(b==0)=false):cN (.int a) (.int b)=.ok (.int (a.fmod b)):=xu (λz=>by rw[z] at h;cases h)
theorem l4(h:d5 a b=true):lp (.int a) (.int b)=.ok (.int (a.fdiv b)):=if_pos h
theorem vC:cT ρ (i::is) (d::ds)=cT (ρ.set i (.sh d)) is ds:=aG rfl
theorem o9:cT ρ [] ds=ρ:=aG rfl
noncomputable def Lk(i:Nat) (ρ:Ev) (s:Option Sl):Ev:=match s with
 |some (.ow d)=>ρ.set i (.sh d)
 |_=>ρ
theorem vA:unown i ρ=Lk i ρ ρ[i]?:=aG rfl
theorem oW:Lk i ρ (some (.ow d))=ρ.set i (.sh d):=aG rfl
theorem vE{j:Int}(h:xC ds.length j=some n):DL.putAt ρ i ds d (.int j)=.ok (.nx (ρ.set i (.ow (.lst (ds.set n d))))):=by
 unfold DL.putAt;simp only[h]
theorem iW:aN (.lst (x0::xs)) (.int 0)=.ok x0:=by
 unfold aN;simp only[show atI (x0::xs) 0=some x0 from eh (j:=0) rfl]
theorem kK:aN (.tup (x0::xs)) (.int 0)=.ok x0:=by
 unfold aN;simp only[show atI (x0::xs) 0=some x0 from eh (j:=0) rfl]
theorem iV:aN (.lst (x0::x1::xs)) (.int 1)=.ok x1:=by
 unfold aN;simp only[show atI (x0::x1::xs) 1=some x1 from eh (j:=1) rfl]
theorem kJ:aN (.tup (x0::x1::xs)) (.int 1)=.ok x1:=by
 unfold aN;simp only[show atI (x0::x1::xs) 1=some x1 from eh (j:=1) rfl]
theorem kL:aN (.lst (x0::x1::x2::xs)) (.int 2)=.ok x2:=by
 unfold aN;simp only[show atI (x0::x1::x2::xs) 2=some x2 from eh (j:=2) rfl]
theorem kI:aN (.tup (x0::x1::x2::xs)) (.int 2)=.ok x2:=by
 unfold aN;simp only[show atI (x0::x1::x2::xs) 2=some x2 from eh (j:=2) rfl]
theorem kH:aN (.tup (x0::x1::x2::x3::xs)) (.int 3)=.ok x3:=by
 unfold aN;simp only[show atI (x0::x1::x2::x3::xs) 3=some x3 from eh (j:=3) rfl]
theorem kG:aN (.tup (x0::x1::x2::x3::x4::xs)) (.int 4)=.ok x4:=by
 unfold aN;simp only[show atI (x0::x1::x2::x3::x4::xs) 4=some x4 from eh (j:=4) rfl]
theorem vP:((0:Nat):Int)=0:=aG rfl
theorem vO:((2:Nat):Int)=2:=aG rfl
theorem vN:((4:Nat):Int)=4:=aG rfl
theorem vM:((5:Nat):Int)=5:=aG rfl
end
noncomputable def Fm(fa:Ev->ai (List D)) (ρ:Ev) (x:D):ai D:=match x with
 |.str z=>(fa ρ).bind (j7 z)
 |_=>.stuck
theorem kF:so f fa ρ=(f ρ).bind (Fm fa ρ):=aG rfl
theorem iq:Fm fa ρ (.str z)=(fa ρ).bind (j7 z):=aG rfl
end Com
local macro_rules|`(tactic|open_line with[$xs,*])=>`(tactic|simp only[fR,o8,kn,km,kD,o7,kj,pd,kr,kR,ir,vK,pI,pH,pj,kB,pR,kA,pe,ku,pK,ph,kz,vS,vR,pQ,vQ,pA,kS,iw,iu,pS,kU,kT,vG,pw,pv,pz,kC,pG,kN,kM,oV,j8,Cn,ki,o6,kh,kg,ke,pb,kq,ko,vF,pq,vH,vB,o5,o4,oZ,pL,kQ,ix,vL,pP,pO,pM,pF,pT,vJ,vI,da,kE,l5,jy,List.map_cons,List.map_nil,List.length_cons,List.length_nil,List.replicate_succ,List.replicate_zero,List.nil_append,List.cons_append,List.getElem?_cons_zero,List.getElem?_cons_succ,List.set_cons_zero,List.set_cons_succ,Nat.sub_zero,Nat.reduceSub,Nat.reduceAdd,Nat.add_zero,Nat.zero_add,Bool.not_true,Bool.not_false,oX,pE,iX,ee,pC,vC,o9,vA,oW,iW,iV,kL,kK,kJ,kI,kH,kG,decide_true,decide_false,Nat.reduceLeDiff,Nat.reduceBEq,Int.reduceBEq,beq_self_eq_true,DL.dOne,DL.mYes,dw,cL,cW,eW,eB,eV,eA,vP,vO,vN,vM,Int.reduceLT,Int.reduceLE,Int.reduceSub,Int.reduceAdd,Int.reduceMul,Int.reduceNeg,kF,iq,Int.reduceToNat,Bool.and_self,$[$xs:term],*])
namespace Com
open PySem L2 DL
noncomputable def fY:Ev->ai Fl :=
 (az (dX (jb (dE (cC (aa 0) (gF "str"))) (dE (iB J9 J9 (dC (.int 1)) (ar (ah (aa 0) aF) (m1 dJ)) (dC (.int 8)))))
 (az (bM (dC (.bl false)))
 aq)
 aq)
 (az (bM (ar (ah (cG 1 [] (Dx (aa 0)) (bb 0) mYes (ae (aa 0) (dC (.str "abcdefghijklmnopqrstuvwxyz")) we)) aF) (m1 EJ)))
 aq))
noncomputable def m_is_name:List D->ai D:=cn 1 fY
noncomputable def c3:Ev->ai Fl :=
 (az (dX (jb (dE (cC (aa 0) (gF "tuple"))) (ae (ar (ah (aa 0) aF) (m1 dJ)) (dC (.int 2)) i5))
 (az (bM (dC (.bl false)))
 aq)
 aq)
 (az (dX (jb (dE (ar (ah (ae (aa 0) (dC (.int 0)) aN) aF) m_is_whole)) (dE (ar (ah (ae (aa 0) (dC (.int 1)) aN) aF) m_is_whole)))
 (az (bM (dC (.bl false)))
 aq)
 aq)
 (az (bM (gW (ae (ae (aa 0) (dC (.int 1)) aN) (dC (.int 1)) K4) (ae (ar (ah (ae (aa 0) (dC (.int 0)) aN) (ah (ae (aa 0) (dC (.int 1)) aN) aF)) m_common_divisor) (dC (.int 1)) gR)))
 aq)))
noncomputable def m_is_ratio:List D->ai D:=cn 1 c3
noncomputable def HM:Str:="abcdefghijklmnopqrstuvwxyz"
noncomputable def mM(c:Nat):Bool:=Jf ⟨#[c]⟩ HM
noncomputable def nameB(z:Str):Bool:=decide (1<=z.length)&&(decide (z.length<=8)&&z.cps.toList.all mM)
noncomputable def Jm:D->Bool
 |.str z=>nameB z
 |_=>false
noncomputable def J8:D->Bool
 |.str z=>decide (z.length<=line)
 |_=>true
theorem sA:∀{ds:List D},(∀d∈ds,∃ρ1,tg b d=.ok ρ1/\tt ρ1=.ok (.bl true)/\fe ρ1=.ok (F d))->bJ b tg tt fe ds=.ok (ds.map F)
 |[],_=>rfl
 |d::r,h=>by
  obtain⟨ρ1,h1,h2,h3⟩:=h d List.mem_cons_self;rw[fV h1 h2 h3,sA (λe he=>h e (List.mem_cons_of_mem _ he))];rfl
theorem mU{α:Type}(F:α->Bool):∀(cs:List α),fE (cs.map λc=>D.bl (F c))=some (cs.map F)
 |[]=>rfl
 |c::r=>by
  show(fE (r.map λc=>D.bl (F c))).map (F c::·)=_;rw[mU F r];rfl
theorem xr(hz:z.length<=line):cG 1 [] (Dx (aa 0)) (bb 0) mYes (ae (aa 0) (dC (.str "abcdefghijklmnopqrstuvwxyz")) we) [.sh (.str z)]=.ok (.lst (z.cps.toList.map λc=>.bl (mM c))):=by
 have hl:(gZ z).length<=line:=by rw[jq];exact hz
 unfold cG;show(if(gZ z).length<=line then _ else _)=_;rw[if_pos hl];have:bJ (cE 1 [] [.sh (.str z)]) (bb 0) mYes (ae (aa 0) (dC (.str "abcdefghijklmnopqrstuvwxyz")) we) (gZ z)=.ok (z.cps.toList.map λc=>D.bl (mM c)):=by
  unfold gZ
  induction z.cps.toList with
  |nil=>rfl
  |cons c r ih =>
   rw[List.map_cons,fV (x:=.bl (mM c)) rfl rfl rfl,ih];rfl
 rw[this]
theorem xD(h:J8 d=true):m_is_name [d]=.ok (.bl (Jm d)):=by
 cases d with
 |str z =>
  have hz:z.length<=line:=of_decide_eq_true h;have hlen:dJ (.str z)=.ok (.int z.length):=if_pos hz;show cn 1 fY _=.ok (.bl (nameB z));unfold nameB
  by_cases h1:1<=z.length
  .by_cases h8:z.length<=8
   .have e1:decide ((1:Int)<=(z.length:Int))=true:=decide_eq_true (by omega)
    have e2:decide ((z.length:Int)<=8)=true:=decide_eq_true (by omega);open_line with[fY,hlen,e1,e2,xr hz,EJ,mU,decide_eq_true h1,decide_eq_true h8,Bool.true_and]
    simp [List.all_map,Function.comp_def]
   .have e1:decide ((1:Int)<=(z.length:Int))=true:=decide_eq_true (by omega)
    have e2:decide ((z.length:Int)<=8)=false:=decide_eq_false (by omega);open_line with[fY,hlen,e1,e2,decide_eq_true h1,decide_eq_false h8,Bool.false_and,Bool.and_false]
  .have e1:decide ((1:Int)<=(z.length:Int))=false:=decide_eq_false (by omega)
   open_line with[fY,hlen,e1,decide_eq_false h1,Bool.false_and]
 |ob k _=>cases k<;>rfl
 |_=>rfl
noncomputable def oe:D->Bool
 |.tup [.int p,.int q]=>decide (1<=q)&&(Int.gcd p q==1)
 |_=>false
theorem Hd{g:Nat}:((g:Int)==1)=(g==1):=by
 cases h:(g==1) with
 |true=>rw[eq_of_beq h];rfl
 |false =>
  have:g≠1:=λz=>by rw[z] at h;cases h
  exact beq_eq_false_iff_ne.mpr (by omega)
theorem F2{xs:List D}:(∃x y,xs=[x,y])∨xs.length≠2:=by
 match xs with
 |[]=>exact .inr (by decide)
 |[x]=>exact .inr (by simp)
 |[x,y]=>exact .inl ⟨x,y,rfl⟩
 |x::y::z::r=>exact .inr (by simp)
theorem Bq:∀{xs:List D},xs.length≠2->oe (.tup xs)=false
 |[],_=>rfl
 |[x],_=>by cases x<;>rfl
 |[x,y],h=>absurd rfl h
 |x::y::z::r,_=>by cases x<;>cases y<;>rfl
theorem xc:oe (.tup [x,y])=(Jv x&&(Jv y&&oe (.tup [x,y]))):=by
 cases x<;>cases y<;>rfl
theorem tQ(d:D):m_is_ratio [d]=.ok (.bl (oe d)):=by
 cases d with
 |tup xs =>
  rcases F2 (xs:=xs) with⟨x,y,rfl⟩|h
  .rw[xc]
   show cn 1 c3 _=_;cases hx:Jv x with
   |false=>open_line with[c3,fB,hx,Bool.false_and]
   |true =>
    cases hy:Jv y with
    |false=>open_line with[c3,fB,hx,hy,Bool.false_and,Bool.true_and]
    |true =>
     cases x<;>first|(cases hx;done)|skip
     cases y<;>first|(cases hy;done)|skip
     rename_i p q;show _=ai.ok (D.bl (decide (1<=q)&&(Int.gcd p q==1)))
     by_cases hq:1<=q
     .open_line with[c3,fB,hx,hy,i6,Bool.true_and,decide_eq_true hq,Hd]
     .open_line with[c3,fB,hx,hy,i6,Bool.true_and,decide_eq_false hq,Bool.false_and]
  .have e2:((xs.length:Int)==2)=false:=beq_eq_false_iff_ne.mpr (by omega)
   rw[Bq h];show cn 1 c3 _=_;open_line with[c3,e2]
 |ob k _=>cases k<;>rfl
 |_=>rfl
theorem EK{α:Type}{F:α->D}{xs:List α}:qZ (xs.map F) lo hi=((xs.drop (HT.sIx xs.length 0 lo)).take (HT.sIx xs.length xs.length hi-HT.sIx xs.length 0 lo)).map F:=by
 unfold qZ;rw[List.length_map,←List.map_drop,←List.map_take]
end Com
namespace DL
open PySem PySem.Spec PyProof.Rows L2
structure FQ (k:Nat) (A:Around):Prop where
 dp:A.depth+3*k+5<recursionLimit
 un:A.units+16*k+200<cLine
theorem cS.h{k:Nat}(r:cS k A):FQ k A:=⟨r.dp,r.un⟩
structure LN (P:Program) (w:World) (K:W.Frag) (mg:Str->Option Value) (base:Heap) (k:Nat) (f:Addr) (fd:FuncData) (ps:List Str) (sp:Sp):Prop where
 len:∀vs H Q E,sp vs H Q E->vs.length=ps.length
 run:∀(A:Around) (outer:List PySem.Env) (s:Shared) (H:Hp) (args:Args) (us:List Value) (vs:List V) (Q:VK) (E:XK),FQ k A->C2 P w K mg base A outer s H->BindsTo s fd args (ps.zip us)->bz vs us->sp vs H Q E ->
  codeAny (model P w) A (.call (.ref f) args) (CR CX0 outer P w H s Q E) s
theorem LN.ok{K:W.Frag}{k:Nat}{ps:List Str}(F:LN P w K mg base k f fd ps sp):fk P w K mg base CX0 k f fd ps sp :=
 ⟨F.len,λA outer s H args us vs Q E hr=>F.run A outer s H args us vs Q E (cS.h hr)⟩
section
variable {X:Cx}{pins:List (Addr×Obj)}{σ:L2.St}{H:Hp}{s:Shared}{h':Heap}
theorem zP{fp:List Addr}(I:Inv X pins σ H s)(k:∀b o,b∉fp->s.heap.get? b=some o->h'.get? b=some o)(hf:∀b∈fp,lJ X pins H b)(hT:s.heap.objs.size<=T)
  (new:cF X.prog X.w (upd H T (.tup xs)) h' T (.tup xs)):Inv X pins σ (upd H T (.tup xs)) { s with heap:=h',toks:=t' }:=by
 have hn:H T=none:=I.hok.fresh hT;have nit:∀b u,H b=some u->b∉fp:=λb u e z=>by rw[(hf b z).1] at e;cases e
 refine I.step (g':=s.gens) (d':=s.drawn) (ch:=fp) (λb hb=>?_) (λb o _ _ hc e _=>k b o hc e) (λb o _ _ hc e _=>⟨o.slots,k b o hc e⟩) (λb o _ e n=>?_)
  (λb o hc e=>⟨o,k b o hc e⟩) (λb xs e=>by rw[av (bh e hn)];exact e) (λb o u e=>by rw[av (bh e hn)];exact e) (λb ps e=>⟨#[],by rw[av (bh e hn),e];simp⟩) (λm hm=>?_) (λb u e=>?_) I.bare
 .obtain⟨_,f1,_,f3,f4,f5⟩:=hf b hb
  exact⟨f3,f1,f4,f5⟩
 .rw[av (Nat.ne_of_lt (Nat.lt_of_lt_of_le (Heap.lt_size e) hT))];exact n
 .obtain⟨o,es,ep,ho,r⟩:=hm
  exact⟨o,es,ep,k _ o (λz=>(hf _ z).2.1 rfl) ho,r⟩
 .by_cases hb:b=T
  .subst hb;rw[aB] at e;cases e;exact new
  .rw[av hb] at e
   refine(I.hok b u e).stay (λc v hc q=>k c v ?_ q) (λc q=>by rw[av (bh q hn)];exact q) λc xs q=>by rw[av (bh q hn)];exact q
   rcases hc with z|z
   .rw[z];exact nit b u e
   .exact nit c _ z
theorem Dp{fp:List Addr}(I:Inv X pins σ H s)(k:∀b o,b∉fp->s.heap.get? b=some o->h'.get? b=some o)(hf:∀b∈fp,lJ X pins H b):Inv X pins σ H { s with heap:=h',toks:=t' }:=by
 have nit:∀b u,H b=some u->b∉fp:=λb u e z=>by rw[(hf b z).1] at e;cases e
 refine I.step (g':=s.gens) (d':=s.drawn) (ch:=fp) (λb hb=>?_) (λb o _ _ hc e _=>k b o hc e) (λb o _ _ hc e _=>⟨o.slots,k b o hc e⟩) (λb o _ e n=>n)
  (λb o hc e=>⟨o,k b o hc e⟩) (λb xs e=>e) (λb o u e=>e) (λb ps e=>⟨#[],by rw[e];simp⟩) (λm hm=>?_) (λb u e=>?_) I.bare
 .obtain⟨_,f1,_,f3,f4,f5⟩:=hf b hb
  exact⟨f3,f1,f4,f5⟩
 .obtain⟨o,es,ep,ho,r⟩:=hm
  exact⟨o,es,ep,k _ o (λz=>(hf _ z).2.1 rfl) ho,r⟩
 .refine(I.hok b u e).stay (λc v hc q=>k c v ?_ q) (λ_ q=>q) λ_ _ q=>q
  rcases hc with z|z
  .rw[z];exact nit b u e
  .exact nit c _ z
end
noncomputable def LL(K:W.Frag) (a:Addr):It :=
 ⟨λi H=>∃xs x,eD K H a xs/\xs[i]?=some x,λi H x H'=>∃p y,H p=none/\x=.ref p/\(∀xs,eD K H a xs->xs[i]?=some y)/\H'=upd H p (.tup [.int i,y]),λi H=>∃xs,eD K H a xs/\xs.length<=i⟩
theorem zS{P:Program}{w:World}{K:W.Frag}{elts:List Expr}{k:Nat}{pos:Pos}(a it e:Addr)(hne:e≠it)(hae:a≠e)(hai:a≠it) :
  xW P w K (.Tuple elts k pos) (LL K a) [e,it] e (λi h=>(∃old,IsEnum h e it i old)/\h.IsListIter it a i) where
 mem:=by simp
 obj:=λi h st b hb=>by
  obtain⟨⟨old,he⟩,o,h1,h2,h3⟩:=st;rcases List.mem_cons.mp hb with rfl|hb
  .exact⟨_,he,λv z=>by cases z⟩
  .rcases List.mem_cons.mp hb with rfl|hb
   .exact⟨o,h1,λv z=>by rw[h3] at z;cases z⟩
   .cases hb
 keep:=λi h h' st k=>by
  obtain⟨⟨old,he⟩,hi⟩:=st;exact⟨⟨old,k e (by simp) _ he⟩,hi.at λo y=>k it (by simp) o y⟩
 item:=by
  intro X hP hw hK hc i pins s σ H E I hf st hg;subst hP hw hK;obtain⟨xs,x,hq,hx⟩:=hg;obtain⟨its,rv,p,hz⟩:=I.list hq;obtain⟨u,hu,ru⟩:=rv.get hx;have W:=WalksT.enumerate (prog:=X.prog) (w:=X.w) (I.ok.hd hc) e it a hne hae hai its.toArray;have hil:i<its.toArray.size:=by simpa using (List.getElem?_eq_some_iff.mp hu).1
  refine W.item i s _ _ hil ⟨st.1,st.2,p.isList⟩ λT vals h' tk hPt hT hTup hMid hk=>?_;refine⟨_,rfl,W.go elts k pos i T _ _ _ hMid λh'' st'' hk''=>?_⟩;obtain⟨t,y,hy,rfl⟩:=hPt;have hyu:y=u:=by
   have:its[i]?=some y:=by simpa using hy
   rw[hu] at this;cases this;rfl
  subst hyu;obtain⟨o,ho,hr⟩:=hTup;have ho':=hk'' T o (W.apart i T _ hMid) ho;refine⟨.ref T,upd H T (.tup [.int i,x]),zP (s:=s) (h':=h'') (t':=tk) I (λb o hb e=>hk'' b o hb (hk b o hb e)) hf hT ⟨by show 2<=sizeLine;decide,[.int i t,y],.cons ⟨t,rfl⟩ (.cons ru .nil),o,ho',hr⟩,rfl,⟨T,x,I.hok.fresh hT,rfl,λys hy=>by rw[I.list_inj hy hq];exact hx,rfl⟩,⟨st''.1,st''.2.1⟩,λb hb=>?_⟩;have hb0:=(hf b hb).1;obtain⟨ob,hob,_⟩:∃o,s.heap.get? b=some o/\∀v,o.data≠.cell v:=by
   obtain⟨⟨old,he⟩,o,h1,h2,h3⟩:=st;rcases List.mem_cons.mp hb with rfl|hb
   .exact⟨_,he,λv z=>by cases z⟩
   .rcases List.mem_cons.mp hb with rfl|hb
    .exact⟨o,h1,λv z=>by rw[h3] at z;cases z⟩
    .cases hb
  rw[av (Nat.ne_of_lt (Nat.lt_of_lt_of_le (Heap.lt_size hob) hT))];exact hb0
 done:=by
  intro X hP hw hK hc i pins s σ H E I hf st hg;subst hP hw hK;obtain⟨xs,hq,hx⟩:=hg;obtain⟨its,rv,p,hz⟩:=I.list hq;have hl:=rv.length;obtain⟨⟨old,he⟩,hi⟩:=st;exact wpAny_pyNext_enum_end (I.ok.hd hc) he hi p.isList (by simp;omega) λh' hx=>⟨rfl,Dp (t':=s.toks) I (λb o hb e=>hx b o (λz=>hb (by simp [z])) e) hf⟩
 self:=λ_ _ _ _ _ st h=>by
  obtain⟨⟨old,he⟩,_⟩:=st;exact wpAny_pyIter_enum he h
section
variable {X:Cx}{E:XK}{elts:List Expr}{k:Nat}{tp:Pos}{e a b:Expr}{f g:Ev->ai D}
noncomputable def Jy(K:W.Frag) (ta:TA):TI:=λσ H R=>ta σ H λvs H1=>∃a,vs=[.ref a]/\(∃xs,eD K H1 a xs)/\R (LL K a) H1
theorem D1(hg:Gl X "enumerate")(hm:X.mg "enumerate"=none)(ha:PA X [a] ta)(hs:starEach [a] X.env=[(false,eval a X.env)]:=by rfl):PI X (.Tuple elts k tp) (.Call (.Name "enumerate" p) [a] [] pos) (Jy X.K ta):=by
 intro pins s σ H R I h;refine Call_ (oJ I hg hm PyProof.Rows.Boot.«enumerate» (PyProof.Rows.callWith_type1 (cw (ha pos pins s σ H _ I h) λus s1 ⟨vs,H1,I1,r1,q1⟩=>?_) hs rfl));obtain⟨l,e,⟨xs,hq⟩,q⟩:=q1;subst e;cases r1 with
 |cons r rr =>
  cases rr;cases r;obtain⟨its,rv,p,hz⟩:=I1.list hq;have hlt:l<s1.heap.objs.size:=by obtain⟨o,n,e,_⟩:=p;exact Heap.lt_size e
  refine call_enumerate_list p.isList λh' he hi hsz hk=>?_;refine wpAny_pyIter_enum he ?_;refine⟨s1.heap.objs.size+1,[s1.heap.objs.size+1,s1.heap.objs.size],_,_,H1,rfl,I1.kept (t':=s1.toks) hk,zS l s1.heap.objs.size (s1.heap.objs.size+1) (Nat.succ_ne_self _) (Nat.ne_of_lt (Nat.lt_succ_of_lt hlt)) (Nat.ne_of_lt hlt),⟨⟨_,he⟩,hi⟩,λb hb=>?_,q⟩;have hb':s1.heap.objs.size<=b:=by
   rcases List.mem_cons.mp hb with rfl|hb
   .omega
   .rcases List.mem_cons.mp hb with rfl|hb
    .exact Nat.le_refl _
    .cases hb
  exact I1.fpOk hb' (I1.hok.fresh hb')
noncomputable def numbered(n:Nat):List D->List D
 |[]=>[]
 |d::ds=>.tup [.int n,d]::numbered (n+1) ds
theorem gu:∀(ds:List D) (n:Nat),(numbered n ds).length=ds.length
 |[],_=>rfl
 |d::ds,n=>by simp [numbered,gu ds]
theorem gw:∀(ds:List D) (n i:Nat),(numbered n ds)[i]?=(ds[i]?).map λd=>D.tup [.int (n+i:Nat),d]
 |[],_,_=>by simp [numbered]
 |d::ds,n,0=>by simp [numbered]
 |d::ds,n,i+1=>by simp only[numbered,List.getElem?_cons_succ];rw[gw ds (n+1) i,show n+1+i=n+(i+1) by omega]
noncomputable def wV(f:Ev->ai D):Ev->ai (List D):=λρ=>(f ρ).bind λd=>match d with
 |.lst ds=>.ok (numbered 0 ds)
 |_=>.stuck
theorem Dr{K:W.Frag}{vs:List V}(hs:aA Ha H)(hp:H p=none)(r:Reps K Ha ds vs):∃H₀2,aU H Ha (upd H p (.tup vs)) H₀2/\Rep K H₀2 (.tup ds) (.ref p) :=
 ⟨upd Ha p (.tup vs),bo hs hp,aJ.mpr ⟨p,vs,rfl,jc.of aB,r.mono (bo (o:=.tup vs) hs hp).z⟩⟩
theorem nM(hg:Gl X "enumerate")(hm:X.mg "enumerate"=none)(h:DE X E a f)(hn:H0 a=true:=by exact rfl):DI X E (.Tuple elts k tp) (.Call (.Name "enumerate" p) [a] [] pos) (wV f):=by
 refine⟨gk (D1 hg hm (dO h.o gq (dM hn)) (dM hn)) λσ H R ⟨Ha,ρ,hs,hr,q⟩=>⟨Ha,ρ,hs,hr,?_⟩⟩;unfold wV at q;cases e1:f ρ with
 |stuck|exn x=>rw[e1] at q;exact q
 |ok d =>
  rw[e1] at q;intro v H1 H01 g1 r1;cases d with
  |lst ds =>
   obtain⟨l,vs,rfl,hv,hrv⟩:=aH.mp r1;refine⟨l,rfl,⟨vs,aA.sqL g1.sub hv⟩,q _ H1 H01 g1 ⟨λi H' Ha' s1 s2 hi=>?_,λi H' Ha' x H2 d s1 s2 hd hy=>?_,λi H' Ha' s1 s2 hi=>?_⟩⟩
   .rw[gu] at hi
    exact⟨vs,vs[i]'(by rw[←hrv.length];exact hi),aA.sqL (s1.trans s2) hv,by simp⟩
   .obtain⟨p,y,hp,rfl,hy,rfl⟩:=hy
    rw[gw] at hd;cases ei:ds[i]? with
    |none=>rw[ei] at hd;cases hd
    |some d' =>
     rw[ei] at hd;cases hd;obtain⟨u,k1,k2⟩:=hrv.get ei;have:=hy vs (aA.sqL (s1.trans s2) hv);rw[k1] at this;cases this;exact Dr s2 hp (Reps.cons (au.mpr (by simp)) (Reps.cons (k2.mono s1) Reps.nil))
   .rw[gu] at hi
    exact⟨vs,aA.sqL (s1.trans s2) hv,by rw[←hrv.length];exact hi⟩
  |_=>exact q.elim
end
end DL
namespace Com
open PySem L2 DL
noncomputable def Fo(tg:Ev->D->ai Ev) (s:Ev->ai Fl) (ρ:Ev) (ds:List D):ai Fl:=bL tg s ds ρ
noncomputable def E8(d:D):ai (List D):=match d with
 |.lst ds=>.ok (numbered 0 ds)
 |_=>.stuck
noncomputable def E7(d:D):ai (List D):=match d with
 |.lst ds=>.ok ds
 |_=>.stuck
noncomputable def E6(d:D):ai (List D):=match d with
 |.tup ds=>.ok ds
 |_=>.stuck
noncomputable def dH(n:Nat) (fr:List Nat) (tg:Ev->D->ai Ev) (tt fe:Ev->ai D) (ρ:Ev) (ds:List D):ai D:=if ds.length<=line then match bJ (cE n fr ρ) tg tt fe ds with
  |.ok es=>.ok (.lst es)
  |_=>.stuck
 else .stuck
noncomputable def Ck(tg:Ev->D->ai Ev) (s:Ev->ai Fl) (ρ:Ev) (d:D):ai Fl:=match d with
 |.int j=>if -4611686018427387904<=j/\j<4611686018427387904 then bL tg s (intsFrom 0 j.toNat) ρ else .stuck
 |_=>.stuck
section
variable {s t:Ev->ai Fl}{f g h:Ev->ai D}{src:Ev->ai (List D)}{fa:Ev->ai (List D)}{ρ r:Ev}{i j n:Nat}{d x y:D}{ds es xs:List D}{a b:Int}{tg:Ev->D->ai Ev}{tt fe:Ev->ai D}{fr:List Nat}
theorem nG:je src tg s ρ=(src ρ).bind (Fo tg s ρ):=aG rfl
theorem kP:Fo tg s ρ ds=bL tg s ds ρ:=aG rfl
theorem nE:wV f ρ=(f ρ).bind E8:=aG rfl
theorem kc:E8 (.lst ds)=.ok (numbered 0 ds):=aG rfl
theorem nD:lO f ρ=(f ρ).bind E7:=aG rfl
theorem ka:E7 (.lst ds)=.ok ds:=aG rfl
theorem nC:Ba f ρ=(f ρ).bind E6:=aG rfl
theorem j9:E6 (.tup ds)=.ok ds:=aG rfl
theorem cR:cG n fr src tg tt fe ρ=(src ρ).bind (dH n fr tg tt fe ρ):=aG rfl
theorem pJ(h:(ds.length==is.length)=true):fj is ρ (.tup ds)=.ok (cT ρ is ds):=by
 show(match (if ds.length=is.length then some ds else none) with|some ds=>ai.ok (cT ρ is ds)|none=>.stuck)=_;rw[if_pos (eq_of_beq h)]
theorem kO:mF f tg s ρ=(f (fu ρ)).bind (Ck tg s ρ):=aG rfl
theorem il{k:Nat}(h:k<=1000000):Ck tg s ρ (.int (k:Int))=bL tg s (intsFrom 0 k) ρ:=by
 unfold Ck;dsimp only;rw[if_pos ⟨by omega,by omega⟩,Int.toNat_natCast]
theorem oY{l h:Option Int}(c:(HT.sIx ds.length 0 l==0&&HT.sIx ds.length ds.length h==ds.length)=false):Bc (.tup ds) l h=.ok (.tup (qZ ds l h)):=by
 show(if _ then _ else _)=_;rw[if_neg (λz=>by rw[z.1,z.2] at c;simp at c)]
theorem yY:Hv (.int a) (.int b)=.ok (.int (if b > a then b else a)):=aG rfl
theorem yZ:jF (.bl true)=.ok (.int 1):=aG rfl
theorem tX:jF (.bl false)=.ok (.int 0):=aG rfl
theorem l3:qY (.int 10) (.int 18)=.ok (.int 1000000000000000000):=aG rfl
theorem wo(hl:ds.length<=1000000)(h:∀d∈ds,∃ρ1,tg (cE n fr ρ) d=.ok ρ1/\tt ρ1=.ok (.bl true)/\fe ρ1=.ok (F d)):dH n fr tg tt fe ρ ds=.ok (.lst (ds.map F)):=by
 unfold dH;rw[if_pos (show ds.length<=line from hl),sA h]
theorem mS:∀{ds:List D},(∀d∈ds,∃ρ1,tg B d=.ok ρ1/\tt ρ1=.ok (.bl (p d))/\(p d=true->fe ρ1=.ok (F d)))->bJ B tg tt fe ds=.ok ((ds.filter p).map F)
 |[],_=>rfl
 |d::ds,h=>by
  obtain⟨ρ1,h1,h2,h3⟩:=h d List.mem_cons_self;have ih:=mS (ds:=ds) λd hd=>h d (List.mem_cons_of_mem _ hd);unfold bJ;rw[h1,AJ,h2,AJ];cases hp:p d with
  |true =>
   show(fe ρ1).bind _=_;rw[h3 hp,AJ,ih,AJ,List.filter_cons_of_pos hp];rfl
  |false =>
   show bJ B tg tt fe ds=_;rw[ih,List.filter_cons_of_neg (by rw[hp];decide)]
theorem mO(hl:ds.length<=1000000)(h:∀d∈ds,∃ρ1,tg (cE n fr ρ) d=.ok ρ1/\tt ρ1=.ok (.bl (p d))/\(p d=true->fe ρ1=.ok (F d))):dH n fr tg tt fe ρ ds=.ok (.lst ((ds.filter p).map F)):=by
 unfold dH;rw[if_pos (show ds.length<=line from hl),mS h]
end
theorem EZ:uC<=2 ^ 200:=by decide
noncomputable def un(s x:gV):gV:=(s.1*x.2+x.1*s.2,s.2*x.2)
end Com
local macro_rules|`(tactic|open_line with[$xs,*])=>`(tactic|simp only[fR,o8,kn,km,kD,o7,kj,pd,kr,kR,ir,vK,pI,pH,pj,kB,pR,kA,pe,ku,pK,ph,kz,vS,vR,pQ,vQ,pA,kS,iw,iu,pS,kU,kT,vG,pw,pv,pz,kC,pG,kN,kM,oV,j8,Cn,ki,o6,kh,kg,ke,nF,pb,kq,ko,vF,pq,vH,vB,o5,o4,oZ,pL,kQ,ix,vL,pP,pO,pM,pF,pT,vJ,vI,da,kE,l5,jy,List.map_cons,List.map_nil,List.length_cons,List.length_nil,List.replicate_succ,List.replicate_zero,List.nil_append,List.cons_append,List.getElem?_cons_zero,List.getElem?_cons_succ,List.set_cons_zero,List.set_cons_succ,Nat.sub_zero,Nat.reduceSub,Nat.reduceAdd,Nat.add_zero,Nat.zero_add,Bool.not_true,Bool.not_false,oX,pE,iX,ee,pC,vC,o9,vA,oW,iW,iV,kL,kK,kJ,kI,kH,kG,decide_true,decide_false,Nat.reduceLeDiff,Nat.reduceBEq,Int.reduceBEq,beq_self_eq_true,DL.dOne,DL.mYes,dw,cL,cW,eW,eB,eV,eA,vP,vO,vN,vM,Int.reduceLT,Int.reduceLE,Int.reduceSub,Int.reduceAdd,Int.reduceMul,Int.reduceNeg,kF,iq,Int.reduceToNat,Bool.and_self,nG,kP,nE,kc,nD,ka,nC,j9,cR,pJ,kO,oY,yY,yZ,tX,l3,$[$xs:term],*])
local macro_rules|`(tactic|open_line with[$xs,*] seeing $h)=>`(tactic|simp only[fR,o8,kn,km,kD,o7,kj,pd,kr,kR,ir,vK,pI,pH,pj,kB,pR,kA,pe,ku,pK,ph,kz,vS,vR,pQ,vQ,pA,kS,iw,iu,pS,kU,kT,vG,pw,pv,pz,kC,pG,kN,kM,oV,j8,Cn,ki,o6,kh,kg,ke,nF,pb,kq,ko,vF,pq,vH,vB,o5,o4,oZ,pL,kQ,ix,vL,pP,pO,pM,pF,pT,vJ,vI,da,kE,l5,jy,List.map_cons,List.map_nil,List.length_cons,List.length_nil,List.replicate_succ,List.replicate_zero,List.nil_append,List.cons_append,List.getElem?_cons_zero,List.getElem?_cons_succ,List.set_cons_zero,List.set_cons_succ,Nat.sub_zero,Nat.reduceSub,Nat.reduceAdd,Nat.add_zero,Nat.zero_add,Bool.not_true,Bool.not_false,oX,pE,iX,ee,pC,vC,o9,vA,oW,iW,iV,kL,kK,kJ,kI,kH,kG,decide_true,decide_false,Nat.reduceLeDiff,Nat.reduceBEq,Int.reduceBEq,beq_self_eq_true,DL.dOne,DL.mYes,dw,cL,cW,eW,eB,eV,eA,vP,vO,vN,vM,Int.reduceLT,Int.reduceLE,Int.reduceSub,Int.reduceAdd,Int.reduceMul,Int.reduceNeg,kF,iq,Int.reduceToNat,Bool.and_self,nG,kP,nE,kc,nD,ka,nC,j9,cR,pJ,kO,oY,yY,yZ,tX,l3,$[$xs:term],*] at $(⟨h⟩):ident)
namespace Com
open PySem L2 DL
theorem oH(ha:0<=a)(hb:0<b):0<=(bA a b).1:=Int.ediv_nonneg ha (by omega)
theorem Eo(ha:0<a)(hb:0<b):0<(bA a b).1:=by
 have hg:0<(Int.gcd a b:Int):=iS (by omega);have hd:(Int.gcd a b:Int)∣a:=Int.gcd_dvd_left ..;exact Int.ediv_pos_of_pos_of_dvd ha (by omega) hd
theorem Ib(h0:0<=a)(h1:a<(uC:Int)):fG (a,1):=⟨⟨by show(1:Int)<=1;decide,by show Int.gcd a 1=1;exact Int.gcd_one_right ..⟩,by show a.natAbs<uC;omega,by show(1:Int).natAbs<uC;decide⟩
theorem Js(h0:0<=a)(h1:a<(uC:Int)):a.natAbs<nQ:=Nat.lt_of_lt_of_le (show a.natAbs<uC by omega) EY
theorem tU(P:Nat->Ev->Prop)(h:∀k,k<n->∀ρ,P k ρ->∃ρ2,body (ρ.set i (.sh (.int (k:Int))))=.ok (.nx ρ2)/\P (k+1) ρ2)(h0:P 0 ρ):∃ρ',bL (bb i) body (intsFrom 0 n) ρ=.ok (.nx ρ')/\P n ρ':=by
 have key:∀(m k:Nat) (ρ:Ev),k+m=n->P k ρ->∃ρ',bL (bb i) body ((intsFrom 0 n).drop k) ρ=.ok (.nx ρ')/\P n ρ':=by
  intro m
  induction m with
  |zero =>
   intro k ρ hk hp;have:k=n:=by omega
   subst this;rw[Cd];exact⟨ρ,rfl,hp⟩
  |succ m ih =>
   intro k ρ hk hp;obtain⟨ρ2,h1,h2⟩:=h k (by omega) ρ hp;rw[Aq (by omega),cQ (tg:=bb i) rfl h1];exact ih (k+1) ρ2 (by omega) h2
 exact key n 0 ρ (by omega) h0
theorem yV(P:Nat->Ev->Prop)(h:∀k d,ds[k]?=some d->∀ρ,P k ρ->∃ρ1 ρ2,tg ρ d=.ok ρ1/\body ρ1=.ok (.nx ρ2)/\P (k+1) ρ2)(h0:P 0 ρ):∃ρ',bL tg body ds ρ=.ok (.nx ρ')/\P ds.length ρ':=by
 have key:∀(m k:Nat) (ρ:Ev),k+m=ds.length->P k ρ->∃ρ',bL tg body (ds.drop k) ρ=.ok (.nx ρ')/\P ds.length ρ':=by
  intro m
  induction m with
  |zero =>
   intro k ρ hk hp;have:k=ds.length:=by omega
   subst this;rw[List.drop_length];exact⟨ρ,rfl,hp⟩
  |succ m ih =>
   intro k ρ hk hp;have hlt:k<ds.length:=by omega
   obtain⟨ρ1,ρ2,h1,h2,h3⟩:=h k ds[k] (List.getElem?_eq_getElem hlt) ρ hp;rw[List.drop_eq_getElem_cons hlt,cQ h1 h2];exact ih (k+1) ρ2 (by omega) h3
 exact key ds.length 0 ρ (by omega) h0
theorem ux:("abcdefghijklmnopqrstuvwxyz":Str).cps.toList=(List.range 26).map (97 + ·):=by decide +kernel
theorem HL:∀n,n<26->mM (97+n)=true:=by decide +kernel
theorem HK(h0:0<=v)(h1:v<26):aN (.str "abcdefghijklmnopqrstuvwxyz") (.int v)=.ok (.str ⟨#[97+v.toNat]⟩):=by
 obtain⟨n,rfl⟩:=Int.eq_ofNat_of_zero_le h0;have hn:n<26:=by omega
 have e:atI ("abcdefghijklmnopqrstuvwxyz":Str).cps.toList ((n:Nat):Int)=some (97+n):=eh (by rw[ux];simp [hn]);show(if("abcdefghijklmnopqrstuvwxyz":Str).length<=line then(match atI ("abcdefghijklmnopqrstuvwxyz":Str).cps.toList ((n:Nat):Int) with|some c=>ai.ok (D.str ⟨#[c]⟩)|none=>.stuck) else .stuck)=_;rw[if_pos (by decide),e];rfl
theorem yJ:∀cs:List Nat,Str.join "" (cs.map λc=>(⟨#[c]⟩:Str))=⟨cs.toArray⟩
 |[]=>rfl
 |[c]=>rfl
 |c::d::cs=>by
  show(⟨#[c]⟩:Str)++""++Str.join "" ((d::cs).map λc=>(⟨#[c]⟩:Str))=_;rw[yJ (d::cs)];apply Str.ext';show(#[c]++("":Str).cps)++(d::cs).toArray=_;have:("":Str).cps=#[]:=rfl;rw[this];simp
theorem yd:∀cs:List Nat,fH (cs.map λc=>D.str ⟨#[c]⟩)=some (cs.map λc=>(⟨#[c]⟩:Str))
 |[]=>rfl
 |c::cs=>by
  show(fH (cs.map λc=>D.str ⟨#[c]⟩)).map _=_;rw[yd cs];rfl
theorem xB{cs:List Nat}(h:cs.length<=1000):j7 "" [.lst (cs.map λc=>D.str ⟨#[c]⟩)]=.ok (.str ⟨cs.toArray⟩):=by
 have J8:fA "" (cs.map λc=>(⟨#[c]⟩:Str))=true:=by
  unfold fA;have e:((cs.map λc=>(⟨#[c]⟩:Str)).map (·.length)).sum=cs.length:=by
   clear h
   induction cs with
   |nil=>rfl
   |cons c cs ih =>
    simp only[List.map_cons,List.sum_cons,List.length_cons,ih];show 1+cs.length=_;omega
  rw[e,Bool.and_eq_true];exact⟨by decide,decide_eq_true (by rw[List.length_map];omega)⟩
 show(match fH (cs.map λc=>D.str ⟨#[c]⟩) with|some ys=>if fA "" ys=true then ai.ok (D.str (Txt.join "" ys)) else .stuck|none=>.stuck)=_;rw[yd];show(if fA "" _=true then ai.ok (D.str (Txt.join "" _)) else .stuck)=_;rw[if_pos J8];show ai.ok (D.str (Builtin.Str.glued "" _))=_;rw[StrLaws.glued_eq_join,yJ]
structure lG (zs:List Str):Prop where
 nd:zs.Nodup
 nm:∀z∈zs,nameB z=true
theorem Hy(a:List Nat):(⟨a.toArray⟩:Str).length=a.length:=by show a.toArray.size=_;simp
structure uA where
 a:Str
 b:Str
 w:Str
 l:gV
 o:Option gV
noncomputable def bu:Option gV->D
 |none=>.non
 |some x=>fr x
noncomputable def bO(t:uA):D:=.tup [.str t.a,.str t.b,.str t.w,fr t.l,bu t.o]
structure qG (zs:List Str) (t:uA):Prop where
 a:t.a∈zs
 b:t.b∈zs
 ne:t.a≠t.b
 w:t.w="one"∨t.w="both"
 l:fG t.l
 l0:0<=t.l.1
 o:∀x,t.o=some x->fG x/\0<x.1
theorem lM{zs:List Str}{k:Int}(h0:0<=k)(h1:k<zs.length):∃z,zs[k.toNat]?=some z/\aN (.lst (zs.map D.str)) (.int k)=.ok (.str z):=by
 obtain⟨n,rfl⟩:=Int.eq_ofNat_of_zero_le h0;have hn:n<zs.length:=by omega
 refine⟨zs[n],by simp [hn],oO ?_⟩;rw[List.getElem?_map,List.getElem?_eq_getElem hn];rfl
theorem Dg{k:Int}(h0:0<=k)(h1:k<2):∃z:Str,(z="one"∨z="both")/\aN (.lst [.str "one",.str "both"]) (.int k)=.ok (.str z):=by
 have:k=0∨k=1:=by omega
 rcases this with rfl|rfl
 .exact⟨_,.inl rfl,iW⟩
 .exact⟨_,.inr rfl,iV⟩
theorem sL{n d e:Int}(h2:2<=n)(d0:0<=d)(d1:d<n)(e0:0<=e)(e1:e<n-1):(0<=(d+1+e).fmod n/\(d+1+e).fmod n<n)/\(d+1+e).fmod n≠d:=by
 refine⟨d4 (by omega),?_⟩;rw[Int.fmod_eq_emod_of_nonneg _ (by omega)]
 by_cases h:d+1+e<n
 .rw[Int.emod_eq_of_lt (by omega) h];omega
 .have:(d+1+e) % n=d+1+e-n:=by
   rw[←Int.sub_emod_right (d+1+e) n,Int.emod_eq_of_lt (by omega) (by omega)]
  rw[this];omega
theorem j0{α:Type}{zs:List α}(nd:zs.Nodup){i j:Nat}{x y:α}(hi:zs[i]?=some x)(hj:zs[j]?=some y)(hij:i≠j):x≠y:=by
 intro e;subst e;obtain⟨h1,e1⟩:=List.getElem?_eq_some_iff.mp hi;obtain⟨h2,e2⟩:=List.getElem?_eq_some_iff.mp hj;exact hij ((List.getElem_inj nd).mp (e1.trans e2.symm))
noncomputable def mW:Ev->ai Fl :=
 (az (bM (gW (ar (ah (aa 0) aF) m_is_ratio) (ae (ae (aa 0) (dC (.int 0)) aN) (dC (.int 0)) K4)))
 aq)
noncomputable def m_is_length:List D->ai D:=cn 1 mW
noncomputable def qB:Ev->ai Fl :=
 (az (bM (jb (ae (aa 0) (dC (.non)) ll) (gW (ar (ah (aa 0) aF) m_is_ratio) (ae (ae (aa 0) (dC (.int 0)) aN) (dC (.int 0)) Hw))))
 aq)
noncomputable def m_is_worth:List D->ai D:=cn 1 qB
noncomputable def wA:Ev->ai Fl :=
 (az (dX (jb (dE (cC (aa 0) (gF "tuple"))) (ae (ar (ah (aa 0) aF) (m1 dJ)) (dC (.int 5)) i5))
 (az (bM (dC (.bl false)))
 aq)
 aq)
 (az (dX (jb (dE (ar (ah (ae (aa 0) (dC (.int 0)) aN) aF) m_is_name)) (jb (dE (ar (ah (ae (aa 0) (dC (.int 1)) aN) aF) m_is_name)) (ae (ae (aa 0) (dC (.int 0)) aN) (ae (aa 0) (dC (.int 1)) aN) gR)))
 (az (bM (dC (.bl false)))
 aq)
 aq)
 (az (dX (jb (dE (cC (ae (aa 0) (dC (.int 2)) aN) (gF "str"))) (ae (ae (aa 0) (dC (.int 2)) aN) (dC (.tup [(.str "one"),(.str "both")])) cZ))
 (az (bM (dC (.bl false)))
 aq)
 aq)
 (az (bM (gW (ar (ah (ae (aa 0) (dC (.int 3)) aN) aF) m_is_length) (ar (ah (ae (aa 0) (dC (.int 4)) aN) aF) m_is_worth)))
 aq))))
noncomputable def m_is_tie:List D->ai D:=cn 1 wA
noncomputable def fX:Ev->ai Fl :=
 (az (dX (jb (dE (cC (aa 0) (gF "list"))) (dE (iB J9 J9 (dC (.int 2)) (ar (ah (aa 0) aF) (m1 dJ)) (dC (.int 7)))))
 (az d7
 aq)
 aq)
 (az (je (wV (aa 0)) (fj [1,2])
 (az (dX (jb (dE (ar (ah (aa 2) aF) m_is_name)) (ae (aa 2) (AD (aa 0) eM (eu (aa 1))) we))
 (az d7
 aq)
 aq)
 aq))
 aq))
noncomputable def m_look_at_places:List D->ai D:=cn 3 fX
noncomputable def iH:Ev->ai Fl :=
 (az (dX (jb (dE (cC (aa 0) (gF "list"))) (ae (ar (ah (aa 0) aF) (m1 dJ)) (dC (.int 14)) Hw))
 (az d7
 aq)
 aq)
 (az (je (wV (aa 0)) (fj [2,3])
 (az (dX (jb (dE (ar (ah (aa 3) aF) m_is_tie)) (jb (ae (ae (aa 3) (dC (.int 0)) aN) (aa 1) cZ) (ae (ae (aa 3) (dC (.int 1)) aN) (aa 1) cZ)))
 (az d7
 aq)
 aq)
 aq))
 aq))
noncomputable def m_look_at_ties:List D->ai D:=cn 4 iH
noncomputable def qC:Ev->ai Fl :=
 (az (bM (gW (ar (ah (aa 0) aF) m_is_name) (ae (aa 0) (aa 1) we)))
 aq)
noncomputable def m_is_place:List D->ai D:=cn 2 qC
noncomputable def jk:Ev->ai Fl :=
 (az (dX (jb (dE (cC (aa 0) (gF "tuple"))) (ae (ar (ah (aa 0) aF) (m1 dJ)) (dC (.int 4)) i5))
 (az d7
 aq)
 aq)
 (az (n8 (ar (ah (ae (aa 0) (dC (.int 0)) aN) aF) m_look_at_places))
 (az (n8 (ar (ah (ae (aa 0) (dC (.int 1)) aN) (ah (ae (aa 0) (dC (.int 0)) aN) aF)) m_look_at_ties))
 (az (dX (dE (ar (ah (ae (aa 0) (dC (.int 2)) aN) (ah (ae (aa 0) (dC (.int 0)) aN) aF)) m_is_place))
 (az d7
 aq)
 aq)
 (az (dX (jb (dE (ar (ah (ae (aa 0) (dC (.int 3)) aN) (ah (ae (aa 0) (dC (.int 0)) aN) aF)) m_is_place)) (ae (ae (aa 0) (dC (.int 3)) aN) (ae (aa 0) (dC (.int 2)) aN) gR))
 (az d7
 aq)
 aq)
 aq)))))
noncomputable def m_look_at_web:List D->ai D:=cn 1 jk
structure fL where
 ps:List Str
 ts:List uA
 fi:Str
 la:Str
noncomputable def bp(w:fL):D:=.tup [.lst (w.ps.map D.str),.lst (w.ts.map bO),.str w.fi,.str w.la]
structure cf (w:fL):Prop where
 n2:2<=w.ps.length
 n7:w.ps.length<=7
 nm:lG w.ps
 t14:w.ts.length<=14
 ts:∀t∈w.ts,qG w.ps t
 fi:w.fi∈w.ps
 la:w.la∈w.ps
 ne:w.fi≠w.la
theorem iQ(h:nameB z=true):m_is_name [.str z]=.ok (.bl true):=by
 have hl:z.length<=8:=by
  unfold nameB at h;simp only[Bool.and_eq_true,decide_eq_true_eq] at h;exact h.2.1
 rw[xD (show J8 (.str z)=true from decide_eq_true (Nat.le_trans hl (by decide)))];show ai.ok (D.bl (nameB z))=_;rw[h]
theorem oa(h:Low x):m_is_ratio [fr x]=.ok (.bl true):=by
 rw[tQ];show ai.ok (D.bl (oe (.tup [.int x.1,.int x.2])))=_;have h1:=h.q1;have h2:=h.g1;show ai.ok (D.bl (decide (1<=x.2)&&(Int.gcd x.1 x.2==1)))=_;rw[decide_eq_true h1,h2];rfl
theorem vp(h:Low x)(h0:0<=x.1):m_is_length [fr x]=.ok (.bl true):=by
 have e:fr x=.tup [.int x.1,.int x.2]:=rfl;have h1:=oa h;rw[e] at h1 ⊢;open_line with[m_is_length,mW,h1,decide_eq_true h0,decide_eq_true (show x.1≥0 from h0)]
theorem wN(h:∀x,o=some x->Low x/\0<x.1):m_is_worth [bu o]=.ok (.bl true):=by
 cases o with
 |none=>rfl
 |some x =>
  obtain⟨hx,h0⟩:=h x rfl;have e:bu (some x)=.tup [.int x.1,.int x.2]:=rfl;have h1:=oa hx;rw[show fr x=.tup [.int x.1,.int x.2] from rfl] at h1;rw[e];open_line with[m_is_worth,qB,h1,decide_eq_true h0]
theorem y0:gR (.str x) (.str y)=.ok (.bl (x==y)):=by unfold gR;rw[if_pos ⟨rfl,rfl⟩,b6]
theorem A4(nm:lG zs)(h:qG zs t):m_is_tie [bO t]=.ok (.bl true):=by
 obtain⟨a,b,w,l,o⟩:=t;obtain⟨ha,hb,hne,hw,hl,hl0,ho⟩:=h;have h1:=iQ (nm.nm a ha);have h2:=iQ (nm.nm b hb);have h3:=vp hl.toLow hl0;have h4:=wN (o:=o) λx hx=>⟨(ho x hx).1.toLow,(ho x hx).2⟩
 have h5:(a==b)=false:=beq_eq_false_iff_ne.mpr hne;have h6:cZ (.str w) (.tup [.str "one",.str "both"])=.ok (.bl false):=by
  rcases hw with rfl|rfl<;>rfl
 have e:bO ⟨a,b,w,l,o⟩=.tup [.str a,.str b,.str w,fr l,bu o]:=rfl;rw[e];open_line with[m_is_tie,wA,h1,h2,y0,h5,h6,h3,h4]
theorem zC{zs:List Str}:(zs.map D.str).any (λd=>b6 d (.str z))=decide (z∈zs):=by
 induction zs with
 |nil=>rfl
 |cons y zs ih =>
  rw[List.map_cons,List.any_cons,ih];show((y==z)||decide (z∈zs))=_
  by_cases h:y=z
  .subst h;simp
  .have:(y==z)=false:=beq_eq_false_iff_ne.mpr h
   rw[this,Bool.false_or];have:z∈y::zs↔z∈zs:=by simp [Ne.symm h]
   exact decide_eq_decide.mpr this.symm
theorem rA{zs:List Str}:(zs.map D.str).all (aZ n)=true:=List.all_eq_true.mpr λd hd=>by
 obtain⟨z,_,rfl⟩:=List.mem_map.mp hd;cases n<;>rfl
theorem yP{zs:List Str}:we (.str z) (.lst (zs.map D.str))=.ok (.bl (decide (z∈zs))):=by
 have e:Ce (.str z) (.lst (zs.map D.str))=some (decide (z∈zs)):=(if_pos ⟨rfl,rA⟩).trans (congrArg some zC);unfold we;rw[e]
theorem xo{zs:List Str}:cZ (.str z) (.lst (zs.map D.str))=.ok (.bl (!(decide (z∈zs)))):=by
 have e:Ce (.str z) (.lst (zs.map D.str))=some (decide (z∈zs)):=(if_pos ⟨rfl,rA⟩).trans (congrArg some zC);unfold cZ;rw[e]
theorem oh{zs:List Str}(h:nameB z=true)(hz:z∈zs):m_is_place [.str z,.lst (zs.map D.str)]=.ok (.bl true):=by
 open_line with[m_is_place,qC,iQ h,yP,decide_eq_true hz]
theorem jZ{α:Type}{F:α->D}{xs:List α}{k:Nat}(h:(numbered 0 (xs.map F))[k]?=some d):∃x,xs[k]?=some x/\d=.tup [.int (k:Int),F x]:=by
 rw[gw,List.getElem?_map] at h;cases e:xs[k]? with
 |none=>rw[e] at h;cases h
 |some x =>
  rw[e] at h;cases h;exact⟨x,rfl,by simp⟩
theorem CN{α:Type}{F:α->D}{xs:List α}{k:Nat}(h:k<=xs.length):qZ (xs.map F) none (some (k:Int))=(xs.take k).map F:=by
 rw[EK,HT.sIx_none,HT.sIx_nat,Nat.min_eq_left h,List.drop_zero,Nat.sub_zero]
theorem Aa(h2:2<=zs.length)(h7:zs.length<=7)(nm:lG zs):m_look_at_places [.lst (zs.map D.str)]=.ok .non:=by
 obtain⟨ρ',hl,_⟩:=yV (ds:=numbered 0 (zs.map D.str)) (tg:=fj [1,2]) (ρ:=[.sh (.lst (zs.map D.str)),.no,.no])
  (body:=(az (dX (jb (dE (ar (ah (aa 2) aF) m_is_name)) (ae (aa 2) (AD (aa 0) eM (eu (aa 1))) we)) (az d7 aq) aq) aq))
  (λk ρ=>∃a b,ρ=[.sh (.lst (zs.map D.str)),a,b]) (by
   rintro k d hd ρ ⟨a,b,rfl⟩;obtain⟨z,hz,rfl⟩:=jZ hd;refine⟨_,[.sh (.lst (zs.map D.str)),.sh (.int (k:Int)),.sh (.str z)],pJ rfl,?_,_,_,rfl⟩;have hk:k<zs.length:=(List.getElem?_eq_some_iff.mp hz).1;have hnot:decide (z∈zs.take k)=false:=decide_eq_false λhm=>by
    obtain⟨j,hj⟩:=List.mem_iff_getElem?.mp hm;have hjk:j<k:=by have:=(List.getElem?_eq_some_iff.mp hj).1;simp at this;omega
    rw[List.getElem?_take_of_lt hjk] at hj;exact j0 nm.nd hj hz (by omega) rfl
   open_line with[iQ (nm.nm z (List.mem_of_getElem? hz)),CN (Nat.le_of_lt hk),yP,hnot]) ⟨.no,.no,rfl⟩
 have e1:decide ((2:Int)<=(zs.length:Int))=true:=decide_eq_true (by omega);have e2:decide ((zs.length:Int)<=7)=true:=decide_eq_true (by omega);open_line with[m_look_at_places,fX,List.length_map,e1,e2,hl]
theorem nt{ts:List uA}(h14:ts.length<=14)(nm:lG zs)(ht:∀t∈ts,qG zs t):m_look_at_ties [.lst (ts.map bO),.lst (zs.map D.str)]=.ok .non:=by
 obtain⟨ρ',hl,_⟩:=yV (ds:=numbered 0 (ts.map bO)) (tg:=fj [2,3]) (ρ:=[.sh (.lst (ts.map bO)),.sh (.lst (zs.map D.str)),.no,.no])
  (body:=(az (dX (jb (dE (ar (ah (aa 3) aF) m_is_tie)) (jb (ae (ae (aa 3) (dC (.int 0)) aN) (aa 1) cZ) (ae (ae (aa 3) (dC (.int 1)) aN) (aa 1) cZ))) (az d7 aq) aq) aq))
  (λk ρ=>∃a b,ρ=[.sh (.lst (ts.map bO)),.sh (.lst (zs.map D.str)),a,b]) (by
   rintro k d hd ρ ⟨a,b,rfl⟩;obtain⟨t,ht',rfl⟩:=jZ hd;refine⟨_,[.sh (.lst (ts.map bO)),.sh (.lst (zs.map D.str)),.sh (.int (k:Int)),.sh (bO t)],pJ rfl,?_,_,_,rfl⟩;have hT:=ht t (List.mem_of_getElem? ht');have h1:=A4 nm hT;rw[show bO t=.tup [.str t.a,.str t.b,.str t.w,fr t.l,bu t.o] from rfl] at h1 ⊢;open_line with[h1,xo,decide_eq_true hT.a,decide_eq_true hT.b]) ⟨.no,.no,rfl⟩
 have e1:decide ((14:Int)<(ts.length:Int))=false:=decide_eq_false (by omega);open_line with[m_look_at_ties,iH,List.length_map,e1,decide_eq_false (show ¬(ts.length:Int) > 14 by omega),hl]
theorem FX(h:cf w):m_look_at_web [bp w]=.ok .non:=by
 obtain⟨ps,ts,fi,la⟩:=w;have h1:=Aa h.n2 h.n7 h.nm;have h2:=nt h.t14 h.nm h.ts;have h3:=oh (h.nm.nm fi h.fi) h.fi;have h4:=oh (h.nm.nm la h.la) h.la;have h5:(la==fi)=false:=beq_eq_false_iff_ne.mpr (Ne.symm h.ne);rw[show bp ⟨ps,ts,fi,la⟩=.tup [.lst (ps.map D.str),.lst (ts.map bO),.str fi,.str la] from rfl];open_line with[m_look_at_web,jk,h1,h2,h3,h4,y0,h5]
noncomputable def gT:Ev->ai Fl :=
 (az (bg 1 (dC (.int 1)))
 (az (n6 (aa 0) (bb 2)
 (az (bg 1 (ae (ae (aa 1) (ar (ah (aa 1) (ah (ae (aa 2) (dC (.int 1)) aN) aF)) m_common_divisor) lp) (ae (aa 2) (dC (.int 1)) aN) bR))
 aq))
 (az (bM (aa 1))
 aq)))
noncomputable def m_shared_bottom:List D->ai D:=cn 3 gT
noncomputable def qD:Ev->ai Fl :=
 (az (bM (ae (ae (aa 0) (dC (.int 0)) aN) (ae (aa 1) (ae (aa 0) (dC (.int 1)) aN) lp) bR))
 aq)
noncomputable def m_as_whole:List D->ai D:=cn 2 qD
noncomputable def iF:Ev->ai Fl :=
 (az (bg 1 (ar (ah (cG 1 [] (lO (aa 0)) (bb 0) (ae (aa 0) (dC (.non)) iA) (aa 0)) aF) m_shared_bottom))
 (az (bM (ar (ah (cG 1 [1] (lO (aa 0)) (bb 0) mYes (FK (ae (aa 0) (dC (.non)) ll) (dC (.non)) (ar (ah (aa 0) (ah (aa 1) aF)) m_as_whole))) (ah (aa 1) aF)) eQ))
 aq))
noncomputable def m_on_one_scale:List D->ai D:=cn 2 iF
noncomputable def bD(ks:List Nat):D:=.lst (ks.map λ(k:Nat)=>D.int (k:Int))
theorem F4{w:fL}{k:Nat}(h:w.ts[k]?=some t):aN (.lst (w.ts.map bO)) (.int (k:Int))=.ok (bO t):=oO (by rw[List.getElem?_map,h];rfl)
theorem vv(h1:x.1.natAbs<wL)(h2:x.2.natAbs<wL)(h3:y.1.natAbs<wL)(h4:y.2.natAbs<wL):m_is_less [fr x,fr y]=.ok (.bl (flt x y)):=by
 rw[show fr x=.tup [.int x.1,.int x.2] from rfl,show fr y=.tup [.int y.1,.int y.2] from rfl];open_line with[m_is_less,sJ,bV (di h1 h4),bV (di h3 h2)]
 rfl
noncomputable def eC(b:Int) (x:gV):Int:=b / (Int.gcd b x.2:Int)*x.2
noncomputable def EN(xs:List gV):Int:=xs.foldl eC 1
structure sS (k:Nat) (b:Int):Prop where
 pos:0<b
 bd:b.natAbs<=2 ^ (200*k)
theorem tq{k:Nat}(h:k<=60):2 ^ (200*k)<nQ:=by rw[my];exact Nat.pow_lt_pow_right (by decide) (by omega)
theorem oU(h:b≠0):0<(Int.gcd a b:Int):=iS h
theorem sS.step{k:Nat}(h:sS k b)(hx:fG x):sS (k+1) (eC b x)/\b∣eC b x/\x.2∣eC b x:=by
 have q1:=hx.q1;have hg:0<(Int.gcd b x.2:Int):=oU (by omega);have hd:(Int.gcd b x.2:Int)∣b:=Int.gcd_dvd_left ..;have hd2:(Int.gcd b x.2:Int)∣x.2:=Int.gcd_dvd_right ..;have hq:0<b / (Int.gcd b x.2:Int):=Int.ediv_pos_of_pos_of_dvd h.pos (by omega) hd;refine⟨⟨Int.mul_pos hq (by omega),?_⟩,?_,⟨b / (Int.gcd b x.2:Int),by unfold eC;rw[Int.mul_comm]⟩⟩
 .unfold eC
  rw[Int.natAbs_mul,show 200*(k+1)=200*k+200 by omega,Nat.pow_add];refine Nat.mul_le_mul (Nat.le_trans (Int.natAbs_ediv_le_natAbs _ _) h.bd) (Nat.le_trans (Nat.le_of_lt hx.qN) EZ)
 .obtain⟨c,hc⟩:=hd
  obtain⟨d,hd'⟩:=hd2;refine⟨d,?_⟩;unfold eC;generalize (Int.gcd b x.2:Int)=g at *;have e1:b / g=c:=by rw[hc];exact Int.mul_ediv_cancel_left c (by omega)
  rw[e1,hd',hc,←Int.mul_assoc,Int.mul_comm c g]
theorem CS{xs:List gV}(hx:∀x∈xs,fG x):∀(b:Int) (k:Nat),sS k b->sS (k+xs.length) (xs.foldl eC b)/\b∣xs.foldl eC b/\∀x∈xs,x.2∣xs.foldl eC b:=by
 induction xs with
 |nil=>intro b k h;exact⟨h,Int.dvd_refl b,λx hx=>nomatch hx⟩
 |cons x xs ih =>
  intro b k h;obtain⟨h1,h2,h3⟩:=h.step (hx x List.mem_cons_self);obtain⟨k1,k2,k3⟩:=ih (λy hy=>hx y (List.mem_cons_of_mem _ hy)) _ _ h1;refine⟨?_,Int.dvd_trans h2 k2,λy hy=>?_⟩
  .rw[List.length_cons,show k+(xs.length+1)=k+1+xs.length by omega];exact k1
  .rcases List.mem_cons.mp hy with rfl|hy
   .exact Int.dvd_trans h3 k2
   .exact k3 y hy
theorem CT{L:Sl}:∀(xs:List gV) (k:Nat) (b:Int) (z:Sl),sS k b->k+xs.length<=60->(∀x∈xs,fG x)->∃z',bL (bb 2) (az (bg 1 (ae (ae (aa 1) (ar (ah (aa 1) (ah (ae (aa 2) (dC (.int 1)) aN) aF)) m_common_divisor) lp) (ae (aa 2) (dC (.int 1)) aN) bR)) aq) (xs.map fr) [L,.sh (.int b),z] =
  .ok (.nx [L,.sh (.int (xs.foldl eC b)),z']):=by
 intro xs
 induction xs with
 |nil=>intro k b z _ _ _;exact⟨z,rfl⟩
 |cons x xs ih =>
  intro k b z h hk hx;have hxx:=hx x List.mem_cons_self;have q1:=hxx.q1;obtain⟨h1,h2,h3⟩:=h.step hxx;simp only[List.length_cons] at hk;obtain⟨z',hz'⟩:=ih (k+1) _ (.sh (fr x)) h1 (by omega) (λy hy=>hx y (List.mem_cons_of_mem _ hy));refine⟨z',?_⟩;have hg:0<(Int.gcd b x.2:Int):=oU (by omega);have hdiv:d5 b (Int.gcd b x.2:Int)=true:=jC (by omega) (Nat.lt_of_le_of_lt h.bd (tq (by omega)));have hb13:(b / (Int.gcd b x.2:Int)).natAbs<nQ:=Nat.lt_of_le_of_lt (Nat.le_trans (Int.natAbs_ediv_le_natAbs _ _) h.bd) (tq (by omega));have hmul:du (b / (Int.gcd b x.2:Int)) x.2=true:=di (Nat.lt_of_lt_of_le hb13 nP) (Nat.lt_of_lt_of_le hxx.qN zI);rw[List.map_cons,cQ (ρ1:=[L,.sh (.int b),.sh (fr x)]) (ρ2:=[L,.sh (.int (eC b x)),.sh (fr x)]) rfl ?_]
  .exact hz'
  .rw[show fr x=.tup [.int x.1,.int x.2] from rfl]
   open_line with[i6,l4 hdiv,ez hg,bV hmul]
   rfl
theorem AI(hl:xs.length<=60)(hx:∀x∈xs,fG x):m_shared_bottom [.lst (xs.map fr)]=.ok (.int (EN xs)):=by
 obtain⟨z',hz⟩:=CT (L:=.sh (.lst (xs.map fr))) xs 0 1 .no ⟨by decide,by decide⟩ (by omega) hx;open_line with[m_shared_bottom,gT,hz]
 rfl
noncomputable def wI(b:Int):Option gV->D
 |none=>.non
 |some x=>.int (x.1*(b / x.2))
noncomputable def eT(os:List (Option gV)):List gV:=os.filterMap id
theorem Ak{os:List (Option gV)}:x∈eT os↔some x∈os:=by unfold eT;simp
theorem A0(hx:fG x)(hb:b.natAbs<nQ):m_as_whole [fr x,.int b]=.ok (.int (x.1*(b / x.2))):=by
 have q1:=hx.q1;have hdiv:d5 b x.2=true:=CJ (by omega) (Nat.lt_of_lt_of_le hx.qN HR);have hmul:du x.1 (b / x.2)=true:=di (Nat.lt_of_lt_of_le hx.pN zI) (Nat.lt_of_lt_of_le (Nat.lt_of_le_of_lt (Int.natAbs_ediv_le_natAbs _ _) hb) nP);rw[show fr x=.tup [.int x.1,.int x.2] from rfl];open_line with[m_as_whole,qD,l4 hdiv,ez (show 0<x.2 by omega),bV hmul]
theorem gf:∀os:List (Option gV),(os.map bu).filter (λd=>!(rP d))=(eT os).map fr
 |[]=>rfl
 |none::os=>by
  rw[List.map_cons,List.filter_cons_of_neg (by decide),gf os];rfl
 |some x::os=>by
  have:rP (bu (some x))=false:=rfl;rw[List.map_cons,List.filter_cons_of_pos (by rw[this];rfl),gf os];rfl
theorem Bi{os:List (Option gV)}(hl:os.length<=60)(hx:∀x,some x∈os->fG x):m_on_one_scale [.lst (os.map bu)]=.ok (.tup [.lst (os.map (wI (EN (eT os)))),.int (EN (eT os))]):=by
 have hxs:∀x∈eT os,fG x:=λx h=>hx x (Ak.mp h);have hls:(eT os).length<=60:=Nat.le_trans (List.length_filterMap_le _ _) hl;have h1:=AI hls hxs;obtain⟨B,_,_⟩:=CS hxs 1 0 ⟨by decide,by decide⟩;have hb:(EN (eT os)).natAbs<nQ:=Nat.lt_of_le_of_lt B.bd (tq (by omega));have c1:dH 1 [] (bb 0) (ae (aa 0) (dC (.non)) iA) (aa 0) [.sh (.lst (os.map bu)),.no] (os.map bu)=.ok (.lst ((eT os).map fr)):=by
  rw[mO (F:=id) (p:=λd=>!(rP d)) (by rw[List.length_map];omega)]
  .rw[List.map_id,gf]
  .intro d hd
   exact⟨[.sh d],rfl,rfl,λ_=>rfl⟩
 have c2:dH 1 [1] (bb 0) mYes (FK (ae (aa 0) (dC (.non)) ll) (dC (.non)) (ar (ah (aa 0) (ah (aa 1) aF)) m_as_whole)) [.sh (.lst (os.map bu)),.sh (.int (EN (eT os)))] (os.map bu)=.ok (.lst (os.map (wI (EN (eT os))))):=by
  rw[wo (F:=λd=>match d with|.tup [.int p,.int q]=>.int (p*(EN (eT os) / q))|_=>.non) (by rw[List.length_map];omega)]
  .congr 2
   rw[List.map_map];apply List.map_congr_left;intro o _;cases o<;>rfl
  .intro d hd
   obtain⟨o,ho,rfl⟩:=List.mem_map.mp hd;refine⟨[.sh (bu o),.sh (.int (EN (eT os)))],rfl,rfl,?_⟩;cases o with
   |none=>rfl
   |some x =>
    have hw:=A0 (hx x ho) hb;rw[show fr x=.tup [.int x.1,.int x.2] from rfl] at hw;rw[show bu (some x)=.tup [.int x.1,.int x.2] from rfl];open_line with[hw]
 open_line with[m_on_one_scale,iF,c1,h1,c2]
theorem uF(h1:c (fu ρ)=.ok (.bl true))(h2:s ρ=.ok (.nx ρ2)):cb c s (n+1) ρ=cb c s n ρ2:=by
 conv=>lhs;unfold cb
 rw[h1,h2];rfl
theorem rl(h1:c (fu ρ)=.ok (.bl false)):cb c s (n+1) ρ=.ok (.nx ρ):=by
 conv=>lhs;unfold cb
 rw[h1];rfl
end Com
namespace DL
open PySem PySem.Spec PyProof.Rows L2
noncomputable def IT(K:W.Frag) (E:XK) (He H0e Ha:Hp) (r:ai Fl) (D:lK):Prop:=match r with
 |.ok (.rt (.lst es))=>∀p us H Ha',aU He H0e H Ha'->He p=none->Ha' p=none->H p=some (.lst us)->Reps K Ha' es us->D.rt (.ref p) H
 |.exn x=>∀C ox H Ha',aU He H0e H Ha'->zJ K Ha' x C ox->E C ox H
 |_=>False
noncomputable def LR(K:W.Frag) (E:XK) (He H0e:Hp) (g:Ev->ai Fl):TS:=λD σ H=>∃Ha ρ,df K He H0e Ha σ H ρ/\IT K E He H0e Ha (g ρ) D
structure wJ (X:Cx) (E:XK) (He H0e:Hp) (st:List Stmt) (g:Ev->ai Fl):Prop where
 o:uB X st (LR X.K E He H0e g)
section
variable {X:Cx}{E:XK}{He H0e:Hp}{st:Stmt}{rest:List Stmt}{e:Expr}{es:List Expr}{f:Ev->ai D}{fa:Ev->ai (List D)}{s t:Ev->ai Fl}{pos:Pos}
noncomputable def Bg(t:Ev->ai Fl) (r:Fl):ai Fl:=match r with
 |.nx ρ=>t ρ
 |_=>.stuck
noncomputable def jQ(s t:Ev->ai Fl):Ev->ai Fl:=λρ=>(s ρ).bind (Bg t)
theorem iY(h1:DS X E He H0e st s)(h2:wJ X E He H0e rest t):wJ X E He H0e (st::rest) (jQ s t):=by
 refine⟨?_⟩;refine er (fQ h1.o h2.o) λD σ H ⟨Ha,ρ,h,q⟩=>⟨Ha,ρ,h,?_⟩
 unfold jQ at q;cases e1:s ρ with
 |stuck|exn x=>rw[e1] at q;exact q
 |ok r =>
  rw[e1] at q;cases r with|nx ρ'=>exact λσ' H' Ha' s' h'=>⟨Ha',ρ',h',q⟩|rt d|bk ρ'|ct ρ'=>exact q.elim
end
noncomputable def BQ(r:Fl):ai D:=match r with
 |.rt (.lst es)=>.ok (.lst es)
 |_=>.stuck
noncomputable def m7(n:Nat) (s:Ev->ai Fl) (ds:List D):ai D:=(s (ds.map Sl.sh++List.replicate (n-ds.length) .no)).bind BQ
theorem Bm(h:m7 n s ds=.ok d):∃es,d=.lst es:=by
 unfold m7 at h;cases e:s (ds.map Sl.sh++List.replicate (n-ds.length) .no) with
 |stuck|exn x=>rw[e] at h;cases h
 |ok r =>
  rw[e] at h;cases r with
  |rt d' =>
   cases d' with|lst es=>cases h;exact⟨es,rfl⟩| _=>cases h
  |_=>cases h
noncomputable def IS(K:W.Frag) (E:XK) (H Ha:Hp) (r:ai D) (Q:VK):Prop:=match r with
 |.ok (.lst es)=>∀p us H' Ha',aU H Ha H' Ha'->H p=none->Ha' p=none->H' p=some (.lst us)->Reps K Ha' es us->Q (.ref p) H'
 |.exn x=>∀C ox H' Ha',aU H Ha H' Ha'->zJ K Ha' x C ox->E C ox H'
 |_=>False
noncomputable def E9(K:W.Frag) (n:Nat) (m:List D->ai D):Sp:=λvs H Q E=>vs.length=n/\∃Ha ds,aA Ha H/\Reps K Ha ds vs/\IS K E H Ha (m ds) Q
theorem DC{K:W.Frag}(hm:∀ds d,m ds=.ok d->∃es,d=.lst es):∀vs H Q E,spD K n m vs H Q E->E9 K n m vs H Q E:=λvs H Q E ⟨h1,Ha,ds,h2,h3,q⟩=>⟨h1,Ha,ds,h2,h3,by
 cases e:m ds with
 |stuck|exn x=>rw[e] at q;exact q
 |ok d =>
  obtain⟨es,rfl⟩:=hm ds d e;rw[e] at q;intro p us H' Ha' g hp h0 hv r;have z:aA Ha' (upd Ha' p (.lst us)):=λb o eb=>by rw[av (by intro z;subst z;rw[h0] at eb;cases eb)];exact eb
  refine q (.ref p) H' (upd Ha' p (.lst us)) ⟨g.s,g.z.trans z,λb o eb=>?_,λb h1 h2=>?_⟩ (aH.mpr ⟨p,us,rfl,eD.of aB,r.mono z⟩)
  .by_cases hb:b=p
   .subst hb;rw[aB] at eb;cases eb;exact hv
   .rw[av hb] at eb;exact g.sub _ _ eb
  .by_cases hb:b=p
   .subst hb;exact hp
   .rw[av hb] at h1;exact g.nw b h1 h2⟩
theorem xH{K:W.Frag}{st:Stmt}{N ps:List Str}{k:Nat}(F:E1 K x qual st f fd)(S:fF N ps (defScope st))
  (hbody:∀(cdv:Value) (A:Around) (outer:List PySem.Env) (s0:Shared) (H Ha:Hp) (E:XK),cS k (A.deeper (envOfC qual (defScope st) s0.heap.objs.size f cdv)) ->
   wJ (nk CX0 P w K mg base N qual (defScope st) f cdv A outer s0 H E).nox E H Ha (defBody st) s):fk P w K mg base CX0 (k+1) f fd ps (E9 K ps.length (m7 N.length s)):=by
 have hpl:ps.length<=N.length:=by have:=congrArg List.length S.pre;rw[List.length_take] at this;omega
 refine F.ok S (λvs H Q E h=>h.1) λcdv A outer s0 H vs Q E hr h=>?_;obtain⟨hn,Ha,ds,hs,hv,q⟩:=h;refine⟨_,(hbody cdv A outer s0 H Ha E hr).o,Ha,ds.map Sl.sh++List.replicate (N.length-ds.length) .no,?_,?_⟩
 .refine⟨aU.refl hs,mz hv,λi d e=>?_,λi j d d' hij e=>?_,?_,OX.none rz nV⟩
  .by_cases hi:i<ds.length
   .rw[List.getElem?_append_left (by simpa using hi),List.getElem?_map] at e
    cases q:ds[i]? with|none|some d'=>rw[q] at e;cases e
   .rw[List.getElem?_append_right (by simpa using hi),List.getElem?_replicate] at e
    split at e<;>cases e
  .by_cases hi:i<ds.length
   .rw[List.getElem?_append_left (by simpa using hi),List.getElem?_map] at e
    cases q:ds[i]? with|none|some d'=>rw[q] at e;cases e
   .rw[List.getElem?_append_right (by simpa using hi),List.getElem?_replicate] at e
    split at e<;>cases e
  .unfold L2.start
   have:=hv.length;simp only[List.length_append,List.length_map,List.length_replicate];omega
 .unfold m7 at q
  cases e1:s (ds.map Sl.sh++List.replicate (N.length-ds.length) .no) with
  |stuck|exn x=>rw[e1] at q;exact q
  |ok r =>
   rw[e1] at q;cases r with
   |rt d =>
    cases d with|lst es=>exact λp us H' Ha' g hp h0 hv' rr=>q p us H' Ha' g hp h0 hv' rr| _=>exact q.elim
   |_=>exact q.elim
section
variable {X:Cx}{E:XK}{He H0e:Hp}{e:Expr}{es:List Expr}{f:Ev->ai D}{fa:Ev->ai (List D)}{pos:Pos}
theorem ED{k n:Nat}{ps:List Str}(F:fk X.prog X.w X.K X.mg X.base CX k fn fd ps (E9 X.K n m))(hr:cS k X.A)(hg:Gl X x)(hm:X.mg x=some (.ref fn))
  (hk:W.keepIn X.K (.ref fn)=true)(hb:jo X.K fd ps [])(hx:e9 CX X E)(ha:DA X E (e::es) fa)(hn:(e::es).length=n:=by rfl)(hl:∀ρ ds,fa ρ=.ok ds->ds.length=(e::es).length)
  (hdb:(x==("__debug__":Str))=false:=by decide)(he:starEach (e::es) X.env=(false,eval e X.env)::starEach es X.env:=by exact bw rfl)(hpl:(backTo pos (starEach es X.env)).any (·.1)=false:=by exact cc rfl) :
  DF X E (.Call (.Name x p) (e::es) [] pos) (ar fa m):=by
 refine⟨?_⟩;refine aR (ny F hr hg hm hk hb .nil hx ha.o hdb he hpl) λσ H Q h=>?_;obtain⟨Ha,ρ,hs,hr,q⟩:=h;refine⟨Ha,ρ,hs,hr,?_⟩;unfold ar at q;cases e1:fa ρ with
 |stuck|exn x=>rw[e1] at q;exact q
 |ok ds =>
  rw[e1] at q;intro v H1 H01 g1 r1;refine⟨?_,H01,ds,g1.sub,by simpa using r1,?_⟩
  .have:=r1.length
   have:=hl ρ ds e1;simp only[List.append_nil];omega
  .replace q:match m ds with
    |.ok (.lst ds)=>∀p vs H' Ha',aU H Ha H' Ha'->H p=none->Ha' p=none->H' p=some (.lst vs)->Reps X.K Ha' ds vs->Q (.ref p) H'
    |.ok _=>False
    |.exn x=>∀C ox H' Ha',aU H Ha H' Ha'->zJ X.K Ha' x C ox->E C ox H'
    |.stuck=>False:=q
   cases e2:m ds with
   |stuck=>rw[e2] at q;exact q|exn x=>rw[e2] at q;exact λC ox H' Ha' g ex=>q C ox H' Ha' (g1.trans g) ex
   |ok d =>
    rw[e2] at q;cases d with|lst es=>exact λp us H' Ha' g hp h0 hv rr=>q p us H' Ha' (g1.trans g) (g1.s.free hp) h0 hv rr| _=>exact q.elim
end
section
variable {X:Cx}{E:XK}{He H0e:Hp}{e a b:Expr}{es:List Expr}{f g:Ev->ai D}{fa:Ev->ai (List D)}{pos:Pos}
noncomputable def EI(x y:D):ai D:=match x,y with
 |.int i,.int j=>.ok (.int (if j<i then j else i))
 |_,_=>.stuck
theorem HA:iM X E (λxs H Q=>∃i j,xs=[.int i,.int j]/\Q (.int (if j<i then j else i)) H) (m2 EI):=FN λx y v u H Ha Q hs r r' q=>by
 cases x with
 |int i =>
  cases y with|int j=>exact⟨i,j,by rw[au.mp r,au.mp r'],bf hs q (ri _)⟩| _=>exact q.elim
 |_=>exact q.elim
end
end DL
namespace Cod
open PySem L2 DL Com
theorem HI:AE (.int c)=.ok (.int (c.natAbs:Int)):=by
 show ai.ok (D.int (if c<0 then -c else c))=_
 congr 2
 split<;>omega
noncomputable def qE:Ev->ai Fl :=
 (az (bg 2 (ar (ah (aa 0) aF) (m1 AE)))
 (az (bg 3 (aa 1))
 (az (gi (iT 3) (ae (aa 3) (dC (.int 0)) i5)
 (az (qP 2 3 (ah (aa 3) (ah (ae (aa 2) (aa 3) cN) aF)))
 aq))
 (az (bM (ar (ah (ae (aa 0) (aa 2) lp) (ah (ae (aa 1) (aa 2) lp) aF)) eQ))
 aq))))
noncomputable def bj:List D->ai D:=cn 4 qE
theorem vn{A B:Sl}:∀(n:Nat) (a b:Int),0<=a->0<=b->b.natAbs<n->cb (ae (aa 3) (dC (.int 0)) i5) (az (qP 2 3 (ah (aa 3) (ah (ae (aa 2) (aa 3) cN) aF))) aq) n [A,B,.sh (.int a),.sh (.int b)]=.ok (.nx [A,B,.sh (.int (Int.gcd a b:Int)),.sh (.int 0)])
 |0,a,b,_,_,h=>absurd h (Nat.not_lt_zero _)
 |n+1,a,b,ha,hb,h=>by
  by_cases h0:b=0
  .subst h0
   have hc:(ae (aa 3) (dC (.int 0)) i5) (fu [A,B,.sh (.int a),.sh (.int 0)])=.ok (.bl false):=by
    cases A<;>cases B<;>rfl
   rw[rl hc];have:((Int.gcd a 0:Nat):Int)=a:=by rw[Int.gcd_zero_right];omega
   rw[this]
  .have hc:(ae (aa 3) (dC (.int 0)) i5) (fu [A,B,.sh (.int a),.sh (.int b)])=.ok (.bl true):=by
    have:(b==0)=false:=beq_eq_false_iff_ne.mpr h0;cases A<;>cases B<;>open_line with[this]
   have f:=d4 (a:=a) (b:=b) (by omega);have hb0:(b==0)=false:=beq_eq_false_iff_ne.mpr h0;rw[uF (ρ2:=[A,B,.sh (.int b),.sh (.int (a.fmod b))]) hc ?_,vn n b (a.fmod b) (by omega) f.1 (by omega)]
   .rw[oT]
   .cases A<;>cases B<;>open_line with[hb0]
theorem low_ok(hb:0<b)(h1:a.natAbs<nQ)(h2:b.natAbs<nQ):bj [.int a,.int b]=.ok (fr (bA a b)):=by
 have hg:0<(Int.gcd a b:Int):=iS (by omega);have hgn:(Int.gcd (a.natAbs:Int) b:Int)=(Int.gcd a b:Int):=by
  congr 1
 have hl:=vn (A:=.sh (.int a)) (B:=.sh (.int b)) (b.natAbs+1) (a.natAbs:Int) b (by omega) (by omega) (Nat.lt_succ_self _);rw[hgn] at hl;have hwh:∀(c:Ev->ai D) (s:Ev->ai Fl),gi (iT 3) c s [.sh (.int a),.sh (.int b),.sh (.int (a.natAbs:Int)),.sh (.int b)]=cb c s (b.natAbs+1) [.sh (.int a),.sh (.int b),.sh (.int (a.natAbs:Int)),.sh (.int b)]:=λ_ _=>rfl;have d1:(Int.gcd a b:Int)∣a:=Int.gcd_dvd_left ..;have d2:(Int.gcd a b:Int)∣b:=Int.gcd_dvd_right ..;have q1:d5 a (Int.gcd a b:Int)=true:=jC (by omega) h1;have q2:d5 b (Int.gcd a b:Int)=true:=jC (by omega) h2;have e1:a.fdiv (Int.gcd a b:Int)=a / (Int.gcd a b:Int):=ez hg;have e2:b.fdiv (Int.gcd a b:Int)=b / (Int.gcd a b:Int):=ez hg;open_line with[bj,qE,HI,hwh,hl,l4 q1,l4 q2,e1,e2]
 rfl
noncomputable def S(cs:List Nat):Str:=⟨cs.toArray⟩
theorem S_inj(h:S a=S b):a=b:=by
 have:=congrArg (λs:Str=>s.cps.toList) h;simpa [S] using this
theorem JQ(a:List Nat):(S a).length=a.length:=Hy a
structure IsNm (cs:List Nat):Prop where
 l1:1<=cs.length
 l8:cs.length<=8
 ab:∀x∈cs,mM x=true
theorem IsNm.nameB(h:IsNm cs):Com.nameB (S cs)=true:=by
 unfold Com.nameB;rw[JQ];simp only[Bool.and_eq_true,decide_eq_true_eq];exact⟨h.l1,h.l8,List.all_eq_true.mpr λx hx=>h.ab x (by simpa [S] using hx)⟩
noncomputable def nmsD(css:List (List Nat)):List D:=css.map λcs=>D.str (S cs)
theorem nodup_le{α:Type}[DecidableEq α]:∀{l m:List α},l.Nodup->(∀x∈l,x∈m)->l.length<=m.length
 |[],_,_,_=>Nat.zero_le _
 |a::l,m,nd,h=>by
  rw[List.nodup_cons] at nd;have ha:=h a List.mem_cons_self;have:=nodup_le (l:=l) (m:=m.erase a) nd.2 λx hx=>by
   have hne:x≠a:=λz=>nd.1 (z▸hx);exact(List.mem_erase_of_ne hne).mpr (h x (List.mem_cons_of_mem _ hx))
  rw[List.length_erase_of_mem ha] at this;have:=List.length_pos_of_mem ha;simp only[List.length_cons];omega
noncomputable def first(es:List Int) (m:Nat):List Nat:=(List.range m).map λj=>97+((es[2+j]?).getD 0).toNat
end Cod
namespace DL
open PySem PySem.Spec PyProof.Rows L2
noncomputable def Mb(x:D):ai D:=match x with
 |.lst ds=>.ok (.lst ds.reverse)
 |_=>.stuck
noncomputable def nj(f:Ev->ai D) (lo hi:Ev->ai (Option Int)):Ev->ai D:=λρ=>(f ρ).bind λx=>(lo ρ).bind λl=>(hi ρ).bind λh=>match x with
 |.lst ds=>.ok (.lst (qZ ds l h))
 |_=>.stuck
section
variable {X:Cx}{E:XK}{a:Expr}{f:Ev->ai D}{pos p2:Pos}
theorem v8{lo hi:Option Expr}(ha:DE X E a f)(hl:DO X E lo fl)(hh:DO X E hi fh):DF X E (.Subscript a (.Slice lo hi none p2) pos) (nj f fl fh):=by
 refine⟨aR (uT yf ha.o hl.o hh.o) λσ H Q ⟨Ha,ρ,hs,hr,q⟩=>⟨Ha,ρ,hs,hr,?_⟩⟩;unfold nj at q;cases e1:f ρ with
 |stuck|exn x=>rw[e1] at q;exact q
 |ok x =>
  rw[e1] at q;intro v H1 H01 g1 r1;refine⟨H01,ρ,g1.sub,hr.mono g1.z,?_⟩;simp only[ai.bind] at q;cases e2:fl ρ with
  |stuck=>rw[e2] at q;exact q|exn x=>rw[e2] at q;exact λC ox H' Ha' g' ex=>q C ox H' Ha' (g1.trans g') ex
  |ok l =>
   rw[e2] at q;intro H2 H02 g2;refine⟨H02,ρ,g2.sub,(hr.mono g1.z).mono g2.z,?_⟩;simp only[ai.bind] at q;cases e3:fh ρ with
   |stuck=>rw[e3] at q;exact q|exn x=>rw[e3] at q;exact λC ox H' Ha' g' ex=>q C ox H' Ha' ((g1.trans g2).trans g') ex
   |ok h =>
    rw[e3] at q;intro H3 H03 g3;simp only[ai.bind] at q;have g:=(g1.trans g2).trans g3;cases x with
    |lst ds =>
     simp only at q;obtain⟨b,vs,rfl,h1,h2⟩:=aH.mp ((r1.mono g2.z).mono g3.z);refine⟨b,vs,rfl,aA.sqL g3.sub h1,λp hp=>?_⟩;have h0:H03 p=none:=g3.sub.free hp;refine q p _ _ H03 (g.trans ⟨λb o q=>by rw[av (bh q hp)];exact q,aA.refl _,λb o q=>?_,λa h1 h2=>absurd h2 h1⟩) (g.s.free hp) h0 aB (h2.cut l h);rw[av (by intro z;subst z;rw[h0] at q;cases q)];exact g3.sub _ _ q
    |_=>exact q.elim
end
theorem LB{α:Type}{us:List α}(h:us.length=1):∃a,us=[a]:=List.length_eq_one_iff.mp h
theorem LA{α:Type}{us:List α}(h:us.length=2):∃a b,us=[a,b]:=by
 cases us with|nil=>cases h|cons a us=>obtain⟨b,rfl⟩:=LB (Nat.succ.inj h);exact⟨a,b,rfl⟩
theorem L9{α:Type}{us:List α}(h:us.length=3):∃a b c,us=[a,b,c]:=by
 cases us with|nil=>cases h|cons a us=>obtain⟨b,c,rfl⟩:=LA (Nat.succ.inj h);exact⟨a,b,c,rfl⟩
noncomputable def KP(d:D):Bool:=match d with
 |.dic [] []=>true
 |_=>false
section
variable {X:Cx}{E:XK}{pins:List (Addr×Obj)}{σ:L2.St}{H:Hp}{s:Shared}
theorem zY(I:Inv X pins σ H s)(h:KP d=true)(r:Rep X.K H d v)(q:aX v u):∃a,u=.ref a/\(a==sysModules)=false/\s.heap.DictOf (b4 X.prog X.w) a []:=by
 unfold KP at h;split at h
 .rw[Rep] at r
  obtain⟨a,kvs,vs,h1,h2,h3,h4,h5⟩:=r;have:kvs=[]:=by rw[h3];rfl
  subst this h1;obtain rfl:u=Value.ref a:=q;obtain⟨_,n1,vs',k1,d1⟩:=(show cF X.prog X.w H s.heap a (.dK []) from h2.ok I.hok)
  obtain rfl:vs'=[]:=by cases k1;rfl
  exact⟨a,rfl,n1,d1⟩
 .cases h
end
noncomputable def Ax(a:Addr) (H:Hp):Hp:=λb=>if b=a then none else H b
theorem eG(h:b≠a):Ax a H b=H b:=if_neg h
theorem cX:Ax a H a=none:=if_pos rfl
structure fb (K:W.Frag) (He H0e Ha:Hp) (σ:L2.St) (H:Hp) (ρ:Ev) (a:Addr) (st:List D) (vs:List V):Prop where
 ha:He a=none
 h0:H0e a=none
 hl:H a=some (.lst vs)
 r:Reps K Ha st vs
 s:df K (upd He a (.lst vs)) H0e Ha σ H ρ
theorem OX.he{K:W.Frag}(hn:∀b,He b=Option.none->He' b=Option.none)(h:OX K He Ha σ H ρ):OX K He' Ha σ H ρ:=⟨λi j ds e=>by
 obtain⟨a,p,h1,⟨vs,es,us,r1,r2,r3,r⟩,h2⟩:=h.1 i j ds e;exact⟨a,p,h1,⟨vs,es,us,hn _ r1,r2,hn _ r3,r⟩,h2⟩,h.2⟩
section
variable {K:W.Frag}{He H0e Ha H:Hp}{σ:L2.St}{ρ:Ev}{a:Addr}{st st':List D}{vs us:List V}
theorem fb.n0(h:fb K He H0e Ha σ H ρ a st vs):Ha a=none:=by
 cases q:Ha a with
 |none=>rfl
 |some o =>
  have:=h.s.g.nw a (by rw[q];simp) h.h0;rw[aB] at this;cases this
theorem fb.back(h:fb K He H0e Ha σ H ρ a st vs)(z:aA Ha Ha')(s':df K (upd He a (.lst vs)) H0e Ha' σ' H' ρ'):fb K He H0e Ha' σ' H' ρ' a st vs :=
 ⟨h.ha,h.h0,s'.g.s _ _ aB,h.r.mono z,s'⟩
theorem fb.change(h:fb K He H0e Ha σ H ρ a st vs)(g:aU (Ax a H) Ha H' Ha')(n:Ha' a=none)(hl:H' a=some (.lst us))(r:Reps K Ha' st' us):fb K He H0e Ha' σ H' ρ a st' us:=by
 have hne:∀b,upd He a (.lst us) b=none->b≠a/\He b=none:=λb e=>by
  by_cases c:b=a
  .subst c;rw[aB] at e;cases e
  .rw[av c] at e;exact⟨c,e⟩
 have hnn:∀b,upd He a (.lst vs) b=none->upd He a (.lst us) b=none:=λb e=>by
  by_cases c:b=a
  .subst c;rw[aB] at e;cases e
  .rw[av c] at e ⊢;exact e
 have gone:∀b o,b≠a->H b=some o->H' b=some o:=λb o c e=>g.s _ _ (by rw[eG c];exact e);have n':∀b,Ha b=none->(∃o,H b=some o/\b≠a)->Ha' b=none:=λb e ⟨o,e1,c⟩=>by
  cases q:Ha' b with
  |none=>rfl
  |some u =>
   have:=g.nw b (by rw[q];simp) e;rw[eG c,e1] at this;cases this
 refine⟨h.ha,h.h0,hl,r,⟨⟨λb o e=>?_,h.s.g.z.trans g.z,g.sub,λb h1 h2=>?_⟩,h.s.rd.mono g.z,λi d e=>?_,h.s.ap,h.s.ln,(h.s.ex.he hnn).upd (λj s e=>.inl ⟨e,rfl⟩) g.z (λb ws hb e=>gone b _ (hne b hb).1 e) λp ws hp q0 hq _=>⟨gone p _ (hne p hp).1 hq,n' p q0 ⟨_,hq,(hne p hp).1⟩⟩⟩⟩
 .by_cases c:b=a
  .subst c;rw[aB] at e;cases e;exact hl
  .rw[av c] at e
   exact gone b o c (h.s.g.s _ _ (by rw[av c];exact e))
 .by_cases c:b=a
  .subst c;exact absurd n h1
  .rw[av c]
   cases q:Ha b with
   |some u =>
    have:=h.s.g.nw b (by rw[q];simp) h2;rw[av c] at this;exact this
   |none =>
    have:=g.nw b h1 q;rw[eG c] at this;cases q2:He b with|none=>rfl|some u=>rw[h.s.g.s b u (by rw[av c];exact q2)] at this;cases this
 .obtain⟨b,k1,k2,k3,k4⟩:=h.s.ow i d e
  cases d with
  |lst ds =>
   obtain⟨ws,k5,k6⟩:=k4;have c:b≠a:=(hne b (hnn b k2)).1;exact⟨b,k1,hnn b k2,n' b k3 ⟨_,k5,c⟩,ws,gone b _ c k5,k6.mono g.z⟩
  |dic ks ds =>
   obtain⟨ws,k5,kl,k6⟩:=k4;have c:b≠a:=(hne b (hnn b k2)).1;exact⟨b,k1,hnn b k2,n' b k3 ⟨_,k5,c⟩,ws,gone b _ c k5,kl,k6.mono g.z⟩
  |_=>exact k4.elim
end
noncomputable def tM(K:W.Frag) (He H0e:Hp) (a:Addr) (f:Ev->List D->ai (D×List D)):TE:=λσ H Q=>∃Ha ρ st vs,fb K He H0e Ha σ H ρ a st vs/\match f ρ st with
 |.ok (d,st')=>∀v H' Ha' us,aA Ha Ha'->fb K He H0e Ha' σ H' ρ a st' us->Rep K Ha' d v->Q v H'
 |.exn _=>False
 |.stuck=>False
noncomputable def LX(K:W.Frag) (He H0e:Hp) (a:Addr) (f:Ev->List D->ai (List D×List D)):TA:=λσ H Q=>∃Ha ρ st vs,fb K He H0e Ha σ H ρ a st vs/\match f ρ st with
 |.ok (ds,st')=>∀xs H' Ha' us,aA Ha Ha'->fb K He H0e Ha' σ H' ρ a st' us->Reps K Ha' ds xs->Q xs H'
 |.exn _=>False
 |.stuck=>False
noncomputable def LV(K:W.Frag) (He H0e:Hp) (a:Addr) (f:Ev->List D->ai (D×List D)):TT:=λσ H Q=>∃Ha ρ st vs,fb K He H0e Ha σ H ρ a st vs/\match f ρ st with
 |.ok (.bl b,st')=>∀H' Ha' us,aA Ha Ha'->fb K He H0e Ha' σ H' ρ a st' us->Q b H'
 |.ok _=>False
 |.exn _=>False
 |.stuck=>False
structure DM (X:Cx) (He H0e:Hp) (a:Addr) (e:Expr) (f:Ev->List D->ai (D×List D)):Prop where
 o:PE X e (tM X.K He H0e a f)
structure HW (X:Cx) (He H0e:Hp) (a:Addr) (es:List Expr) (f:Ev->List D->ai (List D×List D)):Prop where
 o:PA X es (LX X.K He H0e a f)
structure Kf (X:Cx) (He H0e:Hp) (a:Addr) (e:Expr) (f:Ev->List D->ai (D×List D)):Prop where
 o:PT X e (LV X.K He H0e a f)
noncomputable def mP(f:Ev->ai D):Ev->List D->ai (D×List D):=λρ st=>(f ρ).bind λd=>.ok (d,st)
noncomputable def rR(st:List D) (d:D):ai (D×List D):=if tW d=true then .ok (d,st) else .stuck
noncomputable def ik(s:Option Sl) (a:Addr):Bool:=match s with
 |some (.pt b)=>b==a
 |_=>false
noncomputable def vw(i:Nat) (ρ:Ev) (st:List D):Ev:=(fu ρ).set i (.sh (.lst st))
noncomputable def mV(i:Nat) (a:Addr) (f:Ev->ai D):Ev->List D->ai (D×List D):=λρ st=>if ik ρ[i]? a=true then(f (vw i ρ st)).bind (rR st) else .stuck
section
variable {X:Cx}{E:XK}{He H0e:Hp}{a:Addr}{e b:Expr}{es:List Expr}{pos:Pos}{f:Ev->ai D}{fm gm:Ev->List D->ai (D×List D)}{fa:Ev->List D->ai (List D×List D)}
theorem aM(he:DE X E e f):DM X He H0e a e (mP f):=⟨aR he.o λσ H Q ⟨Ha,ρ,st,vs,h,q⟩=>⟨Ha,ρ,h.s.g.sub,h.s.rd,by
 unfold mP at q;cases e1:f ρ with
 |stuck=>rw[e1] at q;exact q|exn x=>rw[e1] at q;exact q.elim
 |ok d =>
  rw[e1] at q;exact λv H' Ha' g rp=>q v H' Ha' vs g.z (h.back g.z (h.s.grow g)) rp⟩⟩
theorem fb.view{K:W.Frag}{st:List D}{vs:List V}(h:fb K He H0e Ha σ H ρ a st vs)(hp:ik ρ[i]? a=true):aA (upd (frz (upd He a (.lst vs)) Ha H) a (.lst vs)) H/\aA (frz (upd He a (.lst vs)) Ha H) (upd (frz (upd He a (.lst vs)) Ha H) a (.lst vs))/\Reads K (upd (frz (upd He a (.lst vs)) Ha H) a (.lst vs)) σ (vw i ρ st):=by
 have hz:frz (upd He a (.lst vs)) Ha H a=none:=by unfold frz;rw[aB];exact h.n0
 have z:aA (frz (upd He a (.lst vs)) Ha H) (upd (frz (upd He a (.lst vs)) Ha H) a (.lst vs)):=λb o e=>by rw[av (by intro z;subst z;rw[hz] at e;cases e)];exact e
 refine⟨λb o e=>?_,z,λj d e=>?_⟩
 .by_cases c:b=a
  .subst c;rw[aB] at e;cases e;exact h.hl
  .rw[av c] at e;exact h.s.frz_le _ _ e
 .unfold vw at e
  by_cases c:i=j
  .subst c
   unfold ik at hp;cases q:ρ[i]? with
   |none=>rw[q] at hp;cases hp
   |some s =>
    rw[q] at hp;cases s with
    |pt b =>
     have hb:b=a:=eq_of_beq hp;subst hb;have hil:i<(fu ρ).length:=by unfold fu;rw[List.length_map];exact(List.getElem?_eq_some_iff.mp q).1
     rw[List.getElem?_set_self hil] at e;cases e;exact⟨_,h.s.ex.2 i b q,aH.mpr ⟨b,vs,rfl,eD.of aB,(h.r.mono h.s.frz_sub).mono z⟩⟩
    |_=>cases hp
  .rw[List.getElem?_set_ne c] at e
   obtain⟨v,h1,h2⟩:=h.s.looks j d e;exact⟨v,h1,h2.mono z⟩
theorem fb.behind{K:W.Frag}{st:List D}{vs:List V}(h:fb K He H0e Ha σ H ρ a st vs)(g:aU H (upd (frz (upd He a (.lst vs)) Ha H) a (.lst vs)) H' J):aA Ha J/\aA Ha (fZ Ha J)/\fb K He H0e (fZ Ha J) σ H' ρ a st vs:=by
 have hz:frz (upd He a (.lst vs)) Ha H a=none:=by unfold frz;rw[aB];exact h.n0
 have z0:aA (frz (upd He a (.lst vs)) Ha H) (upd (frz (upd He a (.lst vs)) Ha H) a (.lst vs)):=λb o e=>by rw[av (by intro z;subst z;rw[hz] at e;cases e)];exact e
 have hJ:aA Ha J:=h.s.frz_sub.trans (z0.trans g.z);have z:aA Ha (fZ Ha J):=λb o e=>by unfold fZ;rw[e]
 refine⟨hJ,z,h.back z ?_⟩;have ja:J a=some (.lst vs):=g.z _ _ aB;have g':aU H (frz (upd He a (.lst vs)) Ha H) H' (Ax a J):=⟨g.s,λb o e=>by
   have c:b≠a:=by intro c;subst c;rw[hz] at e;cases e
   rw[eG c];exact g.z _ _ (z0 _ _ e),λb o e=>by
   by_cases c:b=a
   .subst c;rw[cX] at e;cases e
   .rw[eG c] at e;exact g.sub _ _ e,λb h1 h2=>by
   by_cases c:b=a
   .subst c;exact absurd cX h1
   .rw[eG c] at h1;exact g.nw b h1 (by rw[av c];exact h2)⟩
 have hs:=h.s.behind g';have e:fZ Ha (Ax a J)=fZ Ha J:=by
  funext b;unfold fZ
  by_cases c:b=a
  .subst c;rw[h.n0,cX,ja]
  .rw[eG c]
 rw[e] at hs;exact hs
theorem k8(he:DE X E e f):DM X He H0e a e (mV i a f):=⟨aR he.o λσ H Q ⟨Ha,ρ,st,vs,h,q⟩=>by
 unfold mV at q
 by_cases hp:ik ρ[i]? a=true
 .rw[if_pos hp] at q
  obtain⟨v1,v2,v3⟩:=h.view hp;refine⟨_,vw i ρ st,v1,v3,?_⟩;cases e1:f (vw i ρ st) with
  |stuck=>rw[e1] at q;exact q|exn x=>rw[e1] at q;exact q.elim
  |ok d =>
   rw[e1] at q;intro v H' J g rp;obtain⟨hJ,z,hm⟩:=h.behind g;replace q:match rR st d with
    |.ok (d,st')=>∀v H' Ha' us,aA Ha Ha'->fb X.K He H0e Ha' σ H' ρ a st' us->Rep X.K Ha' d v->Q v H'
    |.exn _=>False
    |.stuck=>False:=q
   unfold rR at q
   by_cases fl:tW d=true
   .rw[if_pos fl] at q
    exact q v H' (fZ Ha J) vs z hm (rp.flat_to (ES hJ) fl)
   .rw[if_neg fl] at q;exact q.elim
 .rw[if_neg hp] at q;exact q.elim⟩
noncomputable def mB(f g:Ev->List D->ai (D×List D)) (op:D->D->ai D):Ev->List D->ai (D×List D):=λρ st=>(f ρ st).bind λp=>(g ρ p.2).bind λq=>(op p.1 q.1).bind λd=>.ok (d,q.2)
theorem gb(ho:qL X.K E r op)(σ:L2.St)(H:Hp)(Q:VK)(h:tM X.K He H0e a (mB fm gm op) σ H Q):HY r (tM X.K He H0e a fm) (tM X.K He H0e a gm) σ H Q:=by
 obtain⟨Ha,ρ,st,vs,h,q⟩:=h;refine⟨Ha,ρ,st,vs,h,?_⟩;unfold mB at q;cases e1:fm ρ st with
 |stuck|exn x=>rw[e1] at q;exact q
 |ok p =>
  obtain⟨x,s1⟩:=p;rw[e1] at q;intro v H1 H01 us z1 h1 r1;refine⟨H01,ρ,s1,us,h1,?_⟩;simp only[ai.bind] at q;cases e2:gm ρ s1 with
  |stuck|exn x=>rw[e2] at q;exact q
  |ok p2 =>
   obtain⟨y,s2⟩:=p2;rw[e2] at q;intro u H2 H02 us2 z2 h2 r2;refine ho x y v u H2 H02 Q h2.s.g.sub (r1.mono z2) r2 ?_;simp only at q;cases e3:op x y with
   |stuck=>rw[e3] at q;exact q|exn x=>rw[e3] at q;exact q.elim
   |ok d =>
    rw[e3] at q;exact λv' H' Ha' g rp=>q v' H' Ha' us2 ((z1.trans z2).trans g.z) (h2.back g.z (h2.s.grow g)) rp
theorem FH(h:eE X (binaryOp op) r)(ho:qL X.K E r o)(ha:DM X He H0e a l fm)(hb:DM X He H0e a b gm):DM X He H0e a (.BinOp l op b pos) (mB fm gm o):=⟨aR (Fe h ha.o hb.o) (gb ho)⟩
theorem Hm(h:eE X (compareOp op) r)(ho:qL X.K E r o)(ha:DM X He H0e a l fm)(hb:DM X He H0e a b gm)(hm:behindInMarks op b=false):DM X He H0e a (.Compare l [op] [b] pos) (mB fm gm o):=⟨aR (yr h ha.o hb.o hm) (gb ho)⟩
theorem JJ(h:C1 X r)(ho:qL X.K E r o)(ha:DM X He H0e a l fm)(hb:DM X He H0e a b gm)(hs:lF b:=by intro _ _;rfl):DM X He H0e a (.Subscript l b pos) (mB fm gm o):=⟨aR (Ff h ha.o hb.o hs) (gb ho)⟩
noncomputable def c7:Ev->List D->ai (List D×List D):=λ_ st=>.ok ([],st)
noncomputable def bG(f:Ev->List D->ai (D×List D)) (fa:Ev->List D->ai (List D×List D)):Ev->List D->ai (List D×List D):=λρ st=>(f ρ st).bind λp=>(fa ρ p.2).bind λq=>.ok (p.1::q.1,q.2)
theorem bF:HW X He H0e a [] c7:=⟨nz gq λσ H Q ⟨Ha,ρ,st,vs,h,q⟩=>q [] H Ha vs (aA.refl _) h Reps.nil⟩
theorem aW(ha:DM X He H0e a e fm)(hr:HW X He H0e a es fa)(hs:starEach (e::es) X.env=(false,eval e X.env)::starEach es X.env:=by exact bw rfl):HW X He H0e a (e::es) (bG fm fa):=⟨nz (dO ha.o hr.o hs) λσ H Q ⟨Ha,ρ,st,vs,h,q⟩=>⟨Ha,ρ,st,vs,h,by
 unfold bG at q;cases e1:fm ρ st with
 |stuck|exn x=>rw[e1] at q;exact q
 |ok p =>
  obtain⟨x,s1⟩:=p;rw[e1] at q;intro v H1 H01 us z1 h1 r1;refine⟨H01,ρ,s1,us,h1,?_⟩;simp only[ai.bind] at q;cases e2:fa ρ s1 with
  |stuck|exn x=>rw[e2] at q;exact q
  |ok p2 =>
   obtain⟨ys,s2⟩:=p2;rw[e2] at q;exact λxs H2 H02 us2 z2 h2 r2=>q _ H2 H02 us2 (z1.trans z2) h2 (Reps.cons (r1.mono z2) r2)⟩⟩
noncomputable def mA(fa:Ev->List D->ai (List D×List D)) (m:List D->ai D):Ev->List D->ai (D×List D):=λρ st=>(fa ρ st).bind λp=>(m p.1).bind λd=>.ok (d,p.2)
end
inductive dY where
 |nx (ρ:Ev) (st:List D)|rt (d:D) (st:List D)|bk (ρ:Ev) (st:List D)|ct (ρ:Ev) (st:List D)
structure JU (K:W.Frag) (He H0e Ha H:Hp) (a:Addr) (st:List D):Prop where
 g:aU He H0e H Ha
 n:Ha a=none
 l:∃us,H a=some (.lst us)/\Reps K Ha st us
noncomputable def dZ(K:W.Frag) (He H0e:Hp) (a:Addr) (Ha:Hp) (r:ai dY) (D:lK):Prop:=match r with
 |.ok (.nx ρ st)=>∀σ H Ha' vs,aA Ha Ha'->fb K He H0e Ha' σ H ρ a st vs->D.nx σ H
 |.ok (.rt d st)=>∀v H Ha',aA Ha Ha'->JU K He H0e Ha' H a st->Rep K Ha' d v->D.rt v H
 |.ok (.bk ρ st)=>∀σ H Ha' vs,aA Ha Ha'->fb K He H0e Ha' σ H ρ a st vs->D.bk σ H
 |.ok (.ct ρ st)=>∀σ H Ha' vs,aA Ha Ha'->fb K He H0e Ha' σ H ρ a st vs->D.ct σ H
 |.exn _=>False
 |.stuck=>False
theorem dZ.grow{K:W.Frag}{D:lK}(h:dZ K He H0e a Ha r D)(s:aA Ha Hb):dZ K He H0e a Hb r D:=by
 cases r with
 |ok f =>
  cases f with|nx ρ st=>exact λσ H Ha' vs s'=>h σ H Ha' vs (s.trans s')|rt d st=>exact λv H Ha' s'=>h v H Ha' (s.trans s')|bk ρ st=>exact λσ H Ha' vs s'=>h σ H Ha' vs (s.trans s')|ct ρ st=>exact λσ H Ha' vs s'=>h σ H Ha' vs (s.trans s')
 |exn x=>exact h
 |stuck=>exact h
noncomputable def J4(K:W.Frag) (He H0e:Hp) (a:Addr) (g:Ev->List D->ai dY):TS:=λD σ H=>∃Ha ρ st vs,fb K He H0e Ha σ H ρ a st vs/\dZ K He H0e a Ha (g ρ st) D
structure SM (X:Cx) (He H0e:Hp) (a:Addr) (st:Stmt) (g:Ev->List D->ai dY):Prop where
 o:PS X st (J4 X.K He H0e a g)
structure EV (X:Cx) (He H0e:Hp) (a:Addr) (st:List Stmt) (g:Ev->List D->ai dY):Prop where
 o:uB X st (J4 X.K He H0e a g)
section
variable {X:Cx}{E:XK}{He H0e:Hp}{a:Addr}{st:Stmt}{rest:List Stmt}{e b:Expr}{es:List Expr}{pos:Pos}{f:Ev->ai D}{fm gm:Ev->List D->ai (D×List D)}{s t:Ev->List D->ai dY}
noncomputable def bX:Ev->List D->ai dY:=λρ st=>.ok (.nx ρ st)
noncomputable def yG(t:Ev->List D->ai dY) (r:dY):ai dY:=match r with
 |.nx ρ st=>t ρ st
 |r=>.ok r
noncomputable def bc(s t:Ev->List D->ai dY):Ev->List D->ai dY:=λρ st=>(s ρ st).bind (yG t)
theorem bP:EV X He H0e a [] bX:=⟨er nv λD σ H ⟨Ha,ρ,st,vs,h,q⟩=>q σ H Ha vs (aA.refl _) h⟩
theorem aC(h1:SM X He H0e a st s)(h2:EV X He H0e a rest t):EV X He H0e a (st::rest) (bc s t):=by
 refine⟨?_⟩;refine er (fQ h1.o h2.o) λD σ H ⟨Ha,ρ,st,vs,h,q⟩=>⟨Ha,ρ,st,vs,h,?_⟩
 unfold bc at q;cases e1:s ρ st with
 |stuck|exn x=>rw[e1] at q;exact q
 |ok r =>
  rw[e1] at q;cases r with|nx ρ' st'=>exact λσ' H' Ha' vs' s' h'=>⟨Ha',ρ',st',vs',h',dZ.grow (r:=t ρ' st') q s'⟩|rt d st'|bk ρ' st'|ct ρ' st'=>exact q
noncomputable def xw(st:List D) (r:Fl):ai dY:=match r with
 |.nx ρ=>.ok (.nx ρ st)
 |.bk ρ=>.ok (.bk ρ st)
 |.ct ρ=>.ok (.ct ρ st)
 |.rt _=>.stuck
noncomputable def cO(g:Ev->ai Fl):Ev->List D->ai dY:=λρ st=>(g ρ).bind (xw st)
theorem cm(h:∀vs,DS X E (upd He a (.lst vs)) H0e st g):SM X He H0e a st (cO g):=by
 refine⟨?_⟩;rintro pins sh σ H D I ⟨Ha,ρ,st,vs,hm,q⟩;refine(h vs).o pins sh σ H D I ⟨Ha,ρ,hm.s,?_⟩;unfold cO at q;cases e1:g ρ with
 |stuck=>rw[e1] at q;exact q|exn x=>rw[e1] at q;exact q.elim
 |ok r =>
  rw[e1] at q;cases r with|nx ρ'=>exact λσ' H' Ha' z h'=>q σ' H' Ha' vs z (hm.back z h')|bk ρ'=>exact λσ' H' Ha' z h'=>q σ' H' Ha' vs z (hm.back z h')|ct ρ'=>exact λσ' H' Ha' z h'=>q σ' H' Ha' vs z (hm.back z h')|rt d=>exact q.elim
noncomputable def B4(i:Nat) (ρ:Ev) (p:D×List D):ai dY:=.ok (.nx (ρ.set i (.sh p.1)) p.2)
noncomputable def d9(i:Nat) (f:Ev->List D->ai (D×List D)):Ev->List D->ai dY:=λρ st=>(f ρ st).bind (B4 i ρ)
theorem cM(hN:X.N.Nodup)(hi:X.N[i]?=some x)(hx:AS X.env.scope x)(he:DM X He H0e a e fm)(hs:swapsWith e (some (.Name x pos')) pos.line X.env=pure false:=by rfl)
  (hf:X.fn x=true∨X.env.scope.names.lookup x=some .local := by first|exact .inl rfl|exact .inr rfl|assumption):SM X He H0e a (.Assign [.Name x pos'] e pos) (d9 i fm):=by
 refine⟨?_⟩;refine bB (lQ hN hi hx he.o hs hf) λD σ H ⟨Ha,ρ,st,vs,h,q⟩=>⟨Ha,ρ,st,vs,h,?_⟩
 unfold d9 at q;cases e1:fm ρ st with
 |stuck|exn x=>rw[e1] at q;exact q
 |ok p =>
  obtain⟨d,st'⟩:=p;rw[e1] at q;exact λv H' Ha' us z h' rp=>q _ H' Ha' us z (h'.back (aA.refl _) (h'.s.put rp))
noncomputable def B5(p:D×List D):ai dY:=.ok (.rt p.1 p.2)
noncomputable def Ei(f:Ev->List D->ai (D×List D)):Ev->List D->ai dY:=λρ st=>(f ρ st).bind B5
theorem fb.out{K:W.Frag}{st:List D}{vs:List V}(h:fb K He H0e Ha σ H ρ a st vs)(z:aA Ha J)(hs:aA J H)(hw:∀b,J b≠none->Ha b=none->upd He a (.lst vs) b=none)(n:J a=none):JU K He H0e J H a st :=
 ⟨⟨λb o e=>h.s.g.s _ _ (by rw[av (by intro c;subst c;rw[h.ha] at e;cases e)];exact e),h.s.g.z.trans z,hs,λb h1 h2=>by
  have key:upd He a (.lst vs) b=none:=by
   cases q:Ha b with|none=>exact hw b h1 q|some o=>exact h.s.g.nw b (by rw[q];simp) h2
  by_cases c:b=a
  .subst c;exact h.ha
  .rw[av c] at key;exact key⟩,n,vs,h.hl,h.r.mono z⟩
theorem F9(he:DM X He H0e a e fm):SM X He H0e a (.Return (some e) pos) (Ei fm):=by
 refine⟨?_⟩;refine bB (tf he.o) λD σ H ⟨Ha,ρ,st,vs,h,q⟩=>⟨Ha,ρ,st,vs,h,?_⟩
 unfold Ei at q;cases e1:fm ρ st with
 |stuck|exn x=>rw[e1] at q;exact q
 |ok p =>
  obtain⟨d,st'⟩:=p;rw[e1] at q;exact λv H' Ha' us z h' rp=>q v H' Ha' z (h'.out (aA.refl _) h'.s.g.sub (λb h1 h2=>absurd h2 h1) h'.n0) rp
noncomputable def fz(f:Ev->ai D):Ev->List D->ai dY:=λρ st=>(f (fu ρ)).bind λd=>.ok (.rt d st)
theorem fq(he:DE X E e f):SM X He H0e a (.Return (some e) pos) (fz f):=by
 refine⟨?_⟩;refine bB (tf he.o) λD σ H ⟨Ha,ρ,st,vs,h,q⟩=>⟨frz (upd He a (.lst vs)) Ha H,fu ρ,h.s.frz_le,h.s.looks,?_⟩
 unfold fz at q;cases e1:f (fu ρ) with
 |stuck=>rw[e1] at q;exact q|exn x=>rw[e1] at q;exact q.elim
 |ok d =>
  rw[e1] at q;intro v H' J g rp;have hz:frz (upd He a (.lst vs)) Ha H a=none:=by unfold frz;rw[aB];exact h.n0
  have z:aA Ha J:=h.s.frz_sub.trans g.z;have n:J a=none:=by
   cases qq:J a with|none=>rfl|some o=>have:=g.nw a (by rw[qq];simp) hz;rw[h.hl] at this;cases this
  have hg:=h.s.frz_grow.trans g;refine q v H' J z ⟨⟨λb o e=>hg.s _ _ (by rw[av (by intro c;subst c;rw[h.ha] at e;cases e)];exact e),hg.z,hg.sub,λb h1 h2=>?_⟩,n,vs,g.s _ _ h.hl,h.r.mono z⟩ rp;have key:=hg.nw b h1 h2
  by_cases c:b=a
  .subst c;exact h.ha
  .rw[av c] at key;exact key
noncomputable def Ej(s t:Ev->List D->ai dY) (ρ:Ev) (p:D×List D):ai dY:=match p.1 with
 |.bl b=>if b=true then s ρ p.2 else t ρ p.2
 |_=>.stuck
noncomputable def Al(c:Ev->List D->ai (D×List D)) (s t:Ev->List D->ai dY):Ev->List D->ai dY:=λρ st=>(c ρ st).bind (Ej s t ρ)
theorem nW(hc:Kf X He H0e a c fm)(ha:EV X He H0e a sa s)(hb:EV X He H0e a sb t):SM X He H0e a (.If c sa sb pos) (Al fm s t):=by
 refine⟨?_⟩;refine bB (BC hc.o ha.o hb.o) λD σ H ⟨Ha,ρ,st,vs,h,q⟩=>⟨Ha,ρ,st,vs,h,?_⟩
 unfold Al at q;cases e1:fm ρ st with
 |stuck|exn x=>rw[e1] at q;exact q
 |ok p =>
  obtain⟨d,st'⟩:=p;rw[e1] at q;cases d with
  |bl b =>
   intro H' Ha' us z h';replace q:dZ X.K He H0e a Ha (if b=true then s ρ st' else t ρ st') D:=q;cases b with|true=>rw[if_pos rfl] at q ⊢;exact⟨Ha',ρ,st',us,h',q.grow z⟩|false=>rw[if_neg Bool.false_ne_true] at q ⊢;exact⟨Ha',ρ,st',us,h',q.grow z⟩
  |_=>exact q.elim
end
section
variable {X:Cx}{E:XK}{He H0e:Hp}{a:Addr}{st:Stmt}{e l b:Expr}{rest es:List Expr}{pos:Pos}{f:Ev->ai D}{fm gm:Ev->List D->ai (D×List D)}{s t:Ev->List D->ai dY}
theorem ug(h:eE X (compareOp op) r)(ho:qL X.K E r o)(ha:DM X He H0e a l fm)(hb:DM X He H0e a b gm)(hm:behindInMarks op b=false):Kf X He H0e a (.Compare l [op] [b] pos) (mB fm gm o):=by
 refine⟨?_⟩;refine gj (ym h ha.o hb.o hm) λσ H Q h=>?_;have w:tM X.K He H0e a (mB fm gm o) σ H λx H'=>∃k,x=.bl k/\Q k H':=by
  obtain⟨Ha,ρ,st,vs,h,q⟩:=h;refine⟨Ha,ρ,st,vs,h,?_⟩;cases e1:mB fm gm o ρ st with
  |stuck|exn x=>rw[e1] at q;exact q
  |ok p =>
   obtain⟨d,st'⟩:=p;rw[e1] at q;intro v H1 H01 us z h1 r1;cases d with|bl b=>rw[aI.mp r1];exact⟨b,rfl,q H1 H01 us z h1⟩| _=>exact q.elim
 exact gb ho σ H _ w
noncomputable def mT(f:Ev->ai D):Ev->List D->ai (D×List D):=λρ st=>(f (fu ρ)).bind λd=>.ok (d,st)
theorem p8(h:DT X E e f):Kf X He H0e a e (mT f):=⟨gj h.o λσ H Q ⟨Ha,ρ,st,vs,h,q⟩=>⟨frz (upd He a (.lst vs)) Ha H,fu ρ,h.s.frz_le,h.s.looks,by
 unfold mT at q;cases e1:f (fu ρ) with
 |stuck=>rw[e1] at q;exact q|exn x=>rw[e1] at q;exact q.elim
 |ok d =>
  rw[e1] at q;cases d with
  |bl b=>exact λH' J g=>q H' Ha vs (aA.refl _) (h.back (aA.refl _) (h.s.same g.s))
  |_=>exact q.elim⟩⟩
noncomputable def J7(i:Nat) (a:Addr) (f:Ev->ai D):Ev->List D->ai (D×List D):=λρ st=>if ik ρ[i]? a=true then(f (vw i ρ st)).bind λd=>.ok (d,st) else .stuck
theorem CD(h:DT X E e f):Kf X He H0e a e (J7 i a f):=⟨gj h.o λσ H Q ⟨Ha,ρ,st,vs,h,q⟩=>by
 unfold J7 at q
 by_cases hp:ik ρ[i]? a=true
 .rw[if_pos hp] at q
  obtain⟨v1,v2,v3⟩:=h.view hp;refine⟨_,vw i ρ st,v1,v3,?_⟩;cases e1:f (vw i ρ st) with
  |stuck=>rw[e1] at q;exact q|exn x=>rw[e1] at q;exact q.elim
  |ok d =>
   rw[e1] at q;cases d with|bl b=>exact λH' J g=>q H' Ha vs (aA.refl _) (h.back (aA.refl _) (h.s.same g.s))| _=>exact q.elim
 .rw[if_neg hp] at q;exact q.elim⟩
noncomputable def forM(tg:Ev->D->ai Ev) (body:Ev->List D->ai dY):List D->Ev->List D->ai dY
 |[],ρ,st=>.ok (.nx ρ st)
 |d::r,ρ,st=>(tg ρ d).bind λρ1=>(body ρ1 st).bind λx=>match x with
  |.nx ρ2 s2=>forM tg body r ρ2 s2
  |.ct ρ2 s2=>forM tg body r ρ2 s2
  |.bk ρ2 s2=>.ok (.nx ρ2 s2)
  |.rt d s=>.ok (.rt d s)
noncomputable def Ky(K:W.Frag) (He H0e:Hp) (a:Addr) (tg:Ev->D->ai Ev):TG:=λv σ H Q=>∃Ha ρ st vs d,fb K He H0e Ha σ H ρ a st vs/\Rep K Ha d v/\match tg ρ d with
  |.ok ρ'=>∀σ' H' Ha',aA Ha Ha'->fb K He H0e Ha' σ' H' ρ' a st vs->Q σ' H'
  |_=>False
theorem IV(hg:∀vs,DG X E (upd He a (.lst vs)) H0e tgt tg):PG X tgt (Ky X.K He H0e a tg):=by
 rintro pins sh σ H v u Q I r ⟨Ha,ρ,st,vs,d,h,rp,q⟩;refine(hg vs).o pins sh σ H v u Q I r ⟨Ha,ρ,d,h.s,rp,?_⟩;cases e1:tg ρ d with
 |stuck|exn x=>rw[e1] at q;exact q
 |ok ρ' =>
  rw[e1] at q;exact λσ' H' Ha' z h'=>q σ' H' Ha' z (h.back z h')
noncomputable def lH(K:W.Frag) (He H0e:Hp) (a:Addr) (Hb:Hp) (tg:Ev->D->ai Ev) (s:Ev->List D->ai dY) (ds:List D) (D':lK) (i:Nat) (σ:L2.St) (H:Hp):Prop :=
 ∃Ha ρ st vs,aA Hb Ha/\fb K He H0e Ha σ H ρ a st vs/\dZ K He H0e a Ha (forM tg s (ds.drop i) ρ st) D'
theorem lH.done{K:W.Frag}(h:lH K He H0e a Hb tg s ds D' ds.length σ H):D'.nx σ H:=by
 obtain⟨Ha,ρ,st,vs,z,h,q⟩:=h;rw[List.drop_length] at q;unfold forM at q;exact q σ H Ha vs (aA.refl _) h
end
section
variable {X:Cx}{E:XK}{He H0e:Hp}{a:Addr}{st:Stmt}{e l b:Expr}{rest es:List Expr}{pos:Pos}{f:Ev->ai D}{fm gm:Ev->List D->ai (D×List D)}{fa:Ev->List D->ai (List D×List D)}{s t:Ev->List D->ai dY}
noncomputable def rK(i:Nat) (ρ:Ev) (ds:List D) (p:D×List D):ai dY:=if ds.length<line then .ok (.nx (ρ.set i (.ow (.lst (ds++[p.1])))) p.2) else .stuck
noncomputable def D8(s:Option Sl) (k:List D->ai dY):ai dY:=match s with
 |some (.ow (.lst ds))=>k ds
 |_=>.stuck
noncomputable def B6(i:Nat) (f:Ev->List D->ai (D×List D)):Ev->List D->ai dY:=λρ st=>D8 ρ[i]? λds=>(f ρ st).bind (rK i ρ ds)
theorem zT(hN:X.N[i]?=some x)(hv:CZ X.env.scope x)(he:DM X He H0e a e fm)
  (hd:(x==("__debug__":Str))=false:=by decide)(hcd:(x==("__classdict__":Str))=false:=by decide)
  (hbase:attributeBase (.Name x p1) "append" X.env (eval (.Name x p1) X.env)=eval (.Name x p1) X.env:=by rfl)
  (hfew:((backTo p3 (starEach [e] X.env)).all (λx=>!x.1)&&(backToKw p3 (keywordEach [] X.env)).all (λx=>x.1.isSome)
  &&decide ([e].length+([]:List Keyword).length+(if([]:List Keyword).isEmpty then 0 else 1)<30))=true:=by exact ip rfl)
  (hline:(p2.endLine==p3.line)=true:=by rfl) (hs:starEach [e] X.env=(false,eval e X.env)::starEach [] X.env:=by exact bw rfl) (hplain:(backTo p3 (starEach [] X.env)).any (·.1)=false:=by exact cc rfl)
  (hw:swapsWith (.Call (.Attribute (.Name x p1) "append" p2) [e] [] p3) none pos.line X.env=pure false:=by rfl) :
  SM X He H0e a (.Expr (.Call (.Attribute (.Name x p1) "append" p2) [e] [] p3) pos) (B6 i fm):=by
 refine⟨?_⟩;refine bB (tm (BO PySem.F.plainAttrs_list PySem.F.slot_list_append PySem.F.type_list_append lX (ju hN hv hd hcd) (dO he.o gq hs) hbase hfew hline hs hplain) hw) λD σ H ⟨Ha,ρ,st,vs,h,q⟩=>?_;unfold B6 D8 at q;cases e0:ρ[i]? with
 |none=>rw[e0] at q;exact q.elim
 |some sl =>
  rw[e0] at q;cases sl with
  |ow d =>
   cases d with
   |lst ds =>
    obtain⟨p,k1,k2,k3,ws,k4,k5⟩:=h.s.ow i _ e0;refine⟨.ref p,k1,.inl ⟨rfl,ws,eD.of k4⟩,?_⟩;refine⟨Ha,ρ,st,vs,h,?_⟩;replace q:dZ X.K He H0e a Ha ((fm ρ st).bind (rK i ρ ds)) D:=q;cases e1:fm ρ st with
    |stuck|exn x=>rw[e1] at q;exact q
    |ok pr =>
     obtain⟨d,st'⟩:=pr;rw[e1] at q;intro v H' Ha' us z h' rp;obtain⟨p',k1',k2',k3',ws',k4',k5'⟩:=h'.s.ow i _ e0;rw[k1] at k1';cases k1';replace q:dZ X.K He H0e a Ha (rK i ρ ds (d,st')) D:=q;unfold rK at q
     by_cases hl:ds.length<line
     .rw[if_pos hl] at q
      refine⟨p,ws',v,rfl,rfl,k4',by rw[←k5'.length];exact Nat.lt_of_lt_of_le hl (by decide),?_⟩;have hpa:p≠a:=by intro c;subst c;rw[aB] at k2';cases k2'
      exact q σ _ Ha' us z ⟨h'.ha,h'.h0,by rw[av (Ne.symm hpa)];exact h'.hl,h'.r,h'.s.write e0 k1 (k5'.app (Reps.cons rp Reps.nil))⟩
     .rw[if_neg hl] at q;exact q.elim
   |_=>exact q.elim
  |_=>exact q.elim
noncomputable def jS(ρ:Ev) (d:D) (p:D×List D):ai dY:=match p.1 with
 |.int j=>match xC p.2.length j with
  |some n=>.ok (.nx ρ (p.2.set n d))
  |none=>.stuck
 |_=>.stuck
noncomputable def vj(i:Nat) (a:Addr) (f k:Ev->List D->ai (D×List D)):Ev->List D->ai dY:=λρ st=>if ik ρ[i]? a=true then(f ρ st).bind λp=>(k ρ p.2).bind (jS ρ p.1) else .stuck
theorem yL{s:Option Sl}(h:ik s a=true):s=some (.pt a):=by
 unfold ik at h;split at h
 .rw[eq_of_beq h]
 .cases h
theorem wX(hN:X.N[i]?=some x)(hv:CZ X.env.scope x)(he:DM X He H0e a e fm)(hk:DM X He H0e a b gm)
  (hd:(x==("__debug__":Str))=false:=by decide)(hcd:(x==("__classdict__":Str))=false:=by decide)
  (ha:∀v,assign (.Subscript (.Name x p1) b p2) X.env v=(do
   let ov ←holding [v] (eval (.Name x p1) X.env)
   let iv ←holding [v,ov] (eval b X.env)
   standAt p2
   holding [v,ov,iv] (setItem ov iv v)
   release [v,ov,iv] []):=by intro _;rfl)
  (hs:swapsWithSole [.Subscript (.Name x p1) b p2] e pos.line X.env=pure false:=by rfl) (hw:swappedStores [.Subscript (.Name x p1) b p2] e X.env=pure none:=by rfl)
  (h1:(assignEach [.Subscript (.Name x p1) b p2] X.env).map (·.2)=[assign (.Subscript (.Name x p1) b p2) X.env]:=by rfl) :
  SM X He H0e a (.Assign [.Subscript (.Name x p1) b p2] e pos) (vj i a fm gm):=by
 refine⟨?_⟩;refine bB (BD he.o (BJ (ju hN hv hd hcd) hk.o uM ha) hs hw h1) λD σ H ⟨Ha,ρ,st,vs,h,q⟩=>⟨Ha,ρ,st,vs,h,?_⟩
 unfold vj at q
 by_cases hp:ik ρ[i]? a=true
 .rw[if_pos hp] at q
  have hσ:=h.s.ex.2 i a (yL hp);cases e1:fm ρ st with
  |stuck|exn x=>rw[e1] at q;exact q
  |ok pr =>
   obtain⟨d,s1⟩:=pr;rw[e1] at q;intro v H1 H01 us1 z1 h1' r1;refine⟨.ref a,hσ,H01,ρ,s1,us1,h1',?_⟩;replace q:dZ X.K He H0e a Ha ((gm ρ s1).bind (jS ρ d)) D:=q;cases e2:gm ρ s1 with
   |stuck|exn x=>rw[e2] at q;exact q
   |ok pr2 =>
    obtain⟨j,s2⟩:=pr2;rw[e2] at q;intro u H2 H02 us2 z2 h2 r2;replace q:dZ X.K He H0e a Ha (jS ρ d (j,s2)) D:=q;unfold jS at q;cases j with
    |int n =>
     cases en:xC s2.length n with
     |none=>simp only[en] at q;exact q.elim
     |some m =>
      simp only[en] at q;refine⟨a,us2,n,m,rfl,au.mp r2,h2.hl,by rw[←h2.r.length];exact en,?_⟩;refine q σ _ H02 (us2.set m v) (z1.trans z2) (h2.change (H':=upd H2 a (.lst (us2.set m v))) ⟨λb o e=>?_,aA.refl _,λb o e=>?_,λb k1 k2=>absurd k2 k1⟩ h2.n0 aB (h2.r.set (r1.mono z2) m))
      .have c:b≠a:=by intro c;subst c;rw[cX] at e;cases e
       rw[av c];rw[eG c] at e;exact e
      .have c:b≠a:=by intro c;subst c;rw[h2.n0] at e;cases e
       rw[av c];exact h2.s.g.sub _ _ e
    |_=>exact q.elim
 .rw[if_neg hp] at q;exact q.elim
variable {CX:zK}{k n:Nat}{fn:Addr}{fd:FuncData}{ps:List Str}{x:Str}{p:Pos}
theorem EA(F:fk X.prog X.w X.K X.mg X.base CX k fn fd ps (spD X.K n m))(hr:cS k X.A)(hg:Gl X x)(hm:X.mg x=some (.ref fn))
  (hk:W.keepIn X.K (.ref fn)=true)(hb:jo X.K fd ps [])(hx:e9 CX X E)(ha:HW X He H0e a (e::es) fa)(hn:(e::es).length=n:=by rfl)(hl:∀ρ st ds,fa ρ st=.ok ds->ds.1.length=(e::es).length)
  (hdb:(x==("__debug__":Str))=false:=by decide)(he:starEach (e::es) X.env=(false,eval e X.env)::starEach es X.env:=by exact bw rfl)(hpl:(backTo pos (starEach es X.env)).any (·.1)=false:=by exact cc rfl) :
  DM X He H0e a (.Call (.Name x p) (e::es) [] pos) (mA fa m):=by
 refine⟨?_⟩;refine aR (ny F hr hg hm hk hb .nil hx ha.o hdb he hpl) λσ H Q ⟨Ha,ρ,st,vs,h,q⟩=>⟨Ha,ρ,st,vs,h,?_⟩
 unfold mA at q;cases e1:fa ρ st with
 |stuck|exn x=>rw[e1] at q;exact q
 |ok pr =>
  obtain⟨ds,s1⟩:=pr;rw[e1] at q;intro xs H1 H01 us z1 h1 r1;refine⟨?_,H01,ds,h1.s.g.sub,by simpa using r1,?_⟩
  .have:=r1.length
   have:=hl ρ st _ e1;simp only[List.append_nil] at *;omega
  .simp only[ai.bind] at q
   cases e2:m ds with
   |stuck=>rw[e2] at q;exact q|exn x=>rw[e2] at q;exact q.elim
   |ok d =>
    rw[e2] at q;exact λv' H' Ha' g rp=>q v' H' Ha' us (z1.trans g.z) (h1.back g.z (h1.s.grow g)) rp
noncomputable def DB(K:W.Frag) (n:Nat) (m:Addr->List D->List D->ai (D×List D)):Sp:=λvs H Q E=>vs.length=n+1/\∃Ha ds a st us0 vs0,vs=.ref a::vs0/\aA Ha H/\Reps K Ha ds vs0/\Ha a=none/\H a=some (.lst us0)/\Reps K Ha st us0/\match m a st ds with
 |.ok (d,st')=>∀v H' Ha' us,aU (Ax a H) Ha H' Ha'->Ha' a=none->H' a=some (.lst us)->Reps K Ha' st' us->Rep K Ha' d v->Q v H'
 |.exn _=>False
 |.stuck=>False
noncomputable def xR(a:Addr) (m:Addr->List D->List D->ai (D×List D)) (p:List D×List D):ai (D×List D):=m a p.2 p.1
noncomputable def b7(i:Nat) (a:Addr) (fa:Ev->List D->ai (List D×List D)) (m:Addr->List D->List D->ai (D×List D)):Ev->List D->ai (D×List D):=λρ st=>if ik ρ[i]? a=true then(fa ρ st).bind (xR a m) else .stuck
theorem CG(F:fk X.prog X.w X.K X.mg X.base CX k fn fd ps (DB X.K n m))(hr:cS k X.A)(hg:Gl X x)(hm:X.mg x=some (.ref fn))
  (hk:W.keepIn X.K (.ref fn)=true)(hb:jo X.K fd ps [])(hx:e9 CX X E)(hN:X.N[i]?=some y)(hv:CZ X.env.scope y)(ha:HW X He H0e a es fa)(hl:∀ρ st ds,fa ρ st=.ok ds->ds.1.length=n)
  (hd:(y==("__debug__":Str))=false:=by decide)(hcd:(y==("__classdict__":Str))=false:=by decide)(hdb:(x==("__debug__":Str))=false:=by decide)(he:starEach (.Name y p1::es) X.env=(false,eval (.Name y p1) X.env)::starEach es X.env:=by exact bw rfl)(hpl:(backTo pos (starEach es X.env)).any (·.1)=false:=by exact cc rfl) :
  DM X He H0e a (.Call (.Name x p) (.Name y p1::es) [] pos) (b7 i a fa m):=by
 refine⟨?_⟩;refine aR (ny F hr hg hm hk hb .nil hx (dO (ju hN hv hd hcd) ha.o he) hdb he hpl) λσ H Q ⟨Ha,ρ,st,vs,h,q⟩=>?_;unfold b7 at q
 by_cases hp:ik ρ[i]? a=true
 .rw[if_pos hp] at q
  have hσ:=h.s.ex.2 i a (yL hp);refine⟨.ref a,hσ,Ha,ρ,st,vs,h,?_⟩;cases e1:fa ρ st with
  |stuck|exn x=>rw[e1] at q;exact q
  |ok pr =>
   obtain⟨ds,s1⟩:=pr;rw[e1] at q;intro xs H1 H01 us z1 h1 r1;refine⟨?_,H01,ds,a,s1,us,xs,by simp,h1.s.g.sub,r1,h1.n0,h1.hl,h1.r,?_⟩
   .have:=r1.length
    have:=hl ρ st _ e1;simp only[List.append_nil,List.length_cons] at *;omega
   .replace q:match m a s1 ds with
     |.ok (d,st')=>∀v H' Ha' us,aA Ha Ha'->fb X.K He H0e Ha' σ H' ρ a st' us->Rep X.K Ha' d v->Q v H'
     |.exn _=>False
     |.stuck=>False:=q
    cases e2:m a s1 ds with
    |stuck|exn x=>rw[e2] at q;exact q
    |ok pr2 =>
     obtain⟨d,s2⟩:=pr2;rw[e2] at q;exact λv H' Ha' us' g n' hl' r' rp=>q v H' Ha' us' (z1.trans g.z) (h1.change g n' hl' r') rp
 .rw[if_neg hp] at q;exact q.elim
end
noncomputable def Bl(r:dY):ai (D×List D):=match r with
 |.nx _ st=>.ok (.non,st)
 |.rt d st=>.ok (d,st)
 |_=>.stuck
noncomputable def sY(n:Nat) (s:Addr->Ev->List D->ai dY) (a:Addr) (st ds:List D):ai (D×List D):=(s a (.pt a::ds.map Sl.sh++List.replicate (n-(ds.length+1)) .no) st).bind Bl
theorem xG{K:W.Frag}{st:Stmt}{N ps:List Str}{k n:Nat}(F:E1 K x qual st f fd)(S:fF N ps (defScope st))(hn:ps.length=n+1)
  (hbody:∀(cdv:Value) (A:Around) (outer:List PySem.Env) (s0:Shared) (H He Ha:Hp) (a:Addr) (E:XK),cS k (A.deeper (envOfC qual (defScope st) s0.heap.objs.size f cdv)) ->
   EV (nk CX0 P w K mg base N qual (defScope st) f cdv A outer s0 H E).nox He Ha a (defBody st) (s a)):fk P w K mg base CX0 (k+1) f fd ps (DB K n (sY N.length s)):=by
 have hpl:ps.length<=N.length:=by have:=congrArg List.length S.pre;rw[List.length_take] at this;omega
 refine F.ok S (λvs H Q E h=>h.1.trans hn.symm) λcdv A outer s0 H vs Q E hr h=>?_;obtain⟨hlen,Ha,ds,a,sl,us0,vs0,rfl,hs,hv,h0,hl,hst,q⟩:=h;have lv:=hv.length;have hσ:start N (.ref a::vs0)=some (.ref a)::(vs0.map some++List.replicate (N.length-(vs0.length+1)) none):=by
  unfold L2.start;simp
 have hρ0:∀(i:Nat) (z:Sl),(Sl.pt a::ds.map Sl.sh++List.replicate (N.length-(ds.length+1)) Sl.no)[i]?=some z->z=.no∨(i=0/\z=.pt a)∨∃j d,i=j+1/\ds[j]?=some d/\z=.sh d:=λi z e=>by
  cases i with
  |zero=>simp at e;exact .inr (.inl ⟨rfl,e.symm⟩)
  |succ j =>
   rw[List.cons_append,List.getElem?_cons_succ] at e
   by_cases hj:j<ds.length
   .rw[List.getElem?_append_left (by simpa using hj),List.getElem?_map,List.getElem?_eq_getElem hj] at e
    cases e;exact .inr (.inr ⟨j,ds[j],rfl,List.getElem?_eq_getElem hj,rfl⟩)
   .rw[List.getElem?_append_right (by simpa using hj),List.getElem?_replicate] at e
    split at e
    .cases e;exact .inl rfl
    .cases e
 refine⟨_,(hbody cdv A outer s0 H (Ax a H) Ha a E hr).o,Ha,.pt a::ds.map Sl.sh++List.replicate (N.length-(ds.length+1)) .no,sl,us0,⟨cX,h0,hl,hst,?_⟩,?_⟩
 .refine⟨⟨λb o e=>?_,aA.refl _,hs,λb h1 h2=>absurd h2 h1⟩,λi d e=>?_,λi d e=>?_,λi j d d' hij e=>?_,?_,⟨λi j es e=>?_,λi b e=>?_⟩⟩
  .by_cases c:b=a
   .subst c;rw[aB] at e;cases e;exact hl
   .rw[av c,eG c] at e;exact e
  .rcases hρ0 i _ e with h|⟨_,h⟩|⟨j,d',rfl,hd,h⟩
   .cases h
   .cases h
   .cases h
    obtain⟨v,h1,h2⟩:=hv.get hd;refine⟨v,?_,h2⟩;rw[hσ,List.getElem?_cons_succ,List.getElem?_append_left (by rw[List.length_map];exact(List.getElem?_eq_some_iff.mp h1).1),List.getElem?_map,h1];rfl
  .rcases hρ0 i _ e with h|⟨_,h⟩|⟨j,d',rfl,hd,h⟩<;>cases h
  .rcases hρ0 i _ e with h|⟨_,h⟩|⟨j,d',rfl,hd,h⟩<;>cases h
  .rw[hσ]
   simp only[List.length_cons,List.length_append,List.length_map,List.length_replicate];omega
  .rcases hρ0 i _ e with h|⟨_,h⟩|⟨j,d',rfl,hd,h⟩<;>cases h
  .rcases hρ0 i _ e with h|⟨rfl,h⟩|⟨j,d',rfl,hd,h⟩
   .cases h
   .cases h;rw[hσ];rfl
   .cases h
 .unfold sY at q
  cases e1:s a (.pt a::ds.map Sl.sh++List.replicate (N.length-(ds.length+1)) .no) sl with
  |stuck|exn x=>rw[e1] at q;exact q
  |ok r =>
   rw[e1] at q;cases r with
   |nx ρ' st'=>exact λσ' H' Ha' us z h'=>q .non H' Ha' us ⟨λb o e=>h'.s.g.s _ _ (by rw[av (by intro c;subst c;rw[cX] at e;cases e)];exact e),h'.s.g.z,h'.s.g.sub,λb h1 h2=>by
      have:=h'.s.g.nw b h1 h2
      by_cases c:b=a
      .subst c;exact cX
      .rw[av c] at this;exact this⟩ h'.n0 h'.hl h'.r (aL.mpr rfl)
   |rt d st'=>exact λv H' Ha' z o rp=>let ⟨us,l1,l2⟩:=o.l;q v H' Ha' us o.g o.n l1 l2 rp
   |bk ρ' st'|ct ρ' st'=>exact q.elim
section
variable {K:W.Frag}{He H0e Ha H:Hp}{σ:L2.St}{ρ:Ev}
theorem df.enter(h:df K He H0e Ha σ H ρ){vs:List V}(hi:i<ρ.length)(he:He p=none)(h0:Ha p=none)(hl:H p=some (.lst vs))(r:Reps K Ha ds vs)
  (ho:∀(j:Nat) (d:D) (q:Addr),ρ[j]?=some (.ow d)->σ[j]?=some (some (.ref q))->q≠p)(hx:∀(j k:Nat) (es:List D),ρ[j]?≠some (.ox k es)):fb K He H0e Ha (σ.set i (some (.ref p))) H (ρ.set i (.pt p)) p ds vs:=by
 have key:∀(j:Nat) (s:Sl),(ρ.set i (.pt p))[j]?=some s->(j=i/\s=.pt p)∨(j≠i/\ρ[j]?=some s):=λj s e=>by
  by_cases hj:i=j
  .subst hj;rw[List.getElem?_set_self hi] at e;cases e;exact .inl ⟨rfl,rfl⟩
  .rw[List.getElem?_set_ne hj] at e;exact .inr ⟨λz=>hj z.symm,e⟩
 have h0e:H0e p=none:=h.g.z.free h0;refine⟨he,h0e,hl,r,⟨⟨λb o e=>?_,h.g.z,h.g.sub,λb h1 h2=>?_⟩,λj d e=>?_,λj d e=>?_,λj k d d' hn e1 e2=>?_,by simp [h.ln],⟨λj k es e=>?_,λj b e=>?_⟩⟩⟩
 .by_cases c:b=p
  .subst c;rw[aB] at e;cases e;exact hl
  .rw[av c] at e;exact h.g.s _ _ e
 .have c:b≠p:=by intro c;subst c;exact h1 h0
  rw[av c];exact h.g.nw b h1 h2
 .rcases key j _ e with⟨_,e'⟩|⟨hj,e'⟩
  .cases e'
  .obtain⟨v,h1,h2⟩:=h.rd j d e'
   exact⟨v,by rw[List.getElem?_set_ne (Ne.symm hj)];exact h1,h2⟩
 .rcases key j _ e with⟨_,e'⟩|⟨hj,e'⟩
  .cases e'
  .obtain⟨q,h1,h2,h3,h4⟩:=h.ow j d e'
   exact⟨q,by rw[List.getElem?_set_ne (Ne.symm hj)];exact h1,by rw[av (ho j d q e' h1)];exact h2,h3,h4⟩
 .rcases key j _ e1 with⟨_,e'⟩|⟨hj,e1'⟩
  .cases e'
  rcases key k _ e2 with⟨_,e'⟩|⟨hk,e2'⟩
  .cases e'
  rw[List.getElem?_set_ne (Ne.symm hj),List.getElem?_set_ne (Ne.symm hk)];exact h.ap j k d d' hn e1' e2'
 .rcases key j _ e with⟨_,e'⟩|⟨hj,e'⟩
  .cases e'
  .exact absurd e' (hx j k es)
 .rcases key j _ e with⟨rfl,e'⟩|⟨hj,e'⟩
  .cases e'
   rw[List.getElem?_set_self (by rw[←h.ln];exact hi)]
  .rw[List.getElem?_set_ne (Ne.symm hj)];exact h.ex.2 j b e'
noncomputable def ur(i:Nat) (ρ:Ev):Ev:=ρ.take i++List.replicate (ρ.length-i) .no
theorem CP:(ur i ρ).length=ρ.length:=by
 unfold ur;rw[List.length_append,List.length_take,List.length_replicate];omega
theorem EL{j:Nat}(e:(ur i ρ)[j]?=some s):s=.no∨ρ[j]?=some s:=by
 unfold ur at e
 by_cases hj:j<(ρ.take i).length
 .rw[List.getElem?_append_left hj] at e
  rw[List.getElem?_take] at e;split at e
  .exact .inr e
  .cases e
 .rw[List.getElem?_append_right (by omega),List.getElem?_replicate] at e
  split at e
  .cases e;exact .inl rfl
  .cases e
theorem fb.leave{st:List D}{vs:List V}(h:fb K He H0e Ha σ H ρ a st vs)(i:Nat):df K He H0e Ha σ H (ur i ρ):=by
 have hn:∀b,upd He a (.lst vs) b=none->He b=none:=λb e=>by
  by_cases c:b=a
  .subst c;exact h.ha
  .rw[av c] at e;exact e
 have key:∀(j:Nat) (s:Sl),(ur i ρ)[j]?=some s->s=.no∨ρ[j]?=some s:=λj s e=>EL e;refine⟨⟨λb o e=>h.s.g.s _ _ (by rw[av (by intro c;subst c;rw[h.ha] at e;cases e)];exact e),h.s.g.z,h.s.g.sub,λb h1 h2=>hn b (h.s.g.nw b h1 h2)⟩,λj d e=>?_,λj d e=>?_,λj k d d' hij e1 e2=>?_,by rw[CP];exact h.s.ln,(h.s.ex.he hn).upd (λj s e=>?_) (aA.refl _) (λ_ _ _ e=>e) λp us _ q0 hq _=>⟨hq,q0⟩⟩
 .rcases key j _ e with h'|h'
  .cases h'
  .exact h.s.rd j d h'
 .rcases key j _ e with h'|h'
  .cases h'
  .obtain⟨q,h1,h2,h3⟩:=h.s.ow j d h'
   exact⟨q,h1,hn q h2,h3⟩
 .rcases key j _ e1 with h'|h'
  .cases h'
  rcases key k _ e2 with h''|h''
  .cases h''
  exact h.s.ap j k d d' hij h' h''
 .rcases key j _ e with h'|h'
  .exact .inr (.inr (.inl h'))
  .exact .inl ⟨h',rfl⟩
end
open Classical in
noncomputable def xx(F:Addr->ai Fl):ai Fl:=if h:∃r,∀a,F a=r then h.choose else .stuck
theorem El(h:∀a,F a=r):xx F=r:=by
 have hx:∃r,∀a,F a=r:=⟨r,h⟩
 unfold xx;rw[dif_pos hx];exact(hx.choose_spec 0).symm.trans (h 0)
theorem Ek(h:xx F≠.stuck)(a:Addr):F a=xx F:=by
 unfold xx at h ⊢
 by_cases hx:∃r,∀a,F a=r
 .rw[dif_pos hx];exact hx.choose_spec a
 .rw[dif_neg hx] at h;exact absurd rfl h
noncomputable def yX(i:Nat) (r:ai dY):ai Fl:=match r with
 |.ok (.nx ρ _)=>.ok (.nx (ur i ρ))
 |.ok (.rt d _)=>.ok (.rt d)
 |.ok (.bk ρ _)=>.ok (.bk (ur i ρ))
 |.ok (.ct ρ _)=>.ok (.ct (ur i ρ))
 |_=>.stuck
noncomputable def Jh(ρ:Ev):Bool:=ρ.all λs=>match s with
 |.ox _ _=>false
 |_=>true
noncomputable def tZ(i:Nat) (s:Addr->Ev->List D->ai dY) (ρ:Ev) (d:D):ai Fl:=match d with
 |.lst ds=>if Jh ρ=true/\i<ρ.length then xx λa=>yX i (s a (ρ.set i (.pt a)) ds) else .stuck
 |_=>.stuck
noncomputable def jt(i:Nat) (f:Ev->ai D) (s:Addr->Ev->List D->ai dY):Ev->ai Fl:=λρ=>(f ρ).bind (tZ i s ρ)
section
variable {X:Cx}{E:XK}{He H0e:Hp}{st:Stmt}{rest:List Stmt}{e:Expr}{es:List Expr}{pos:Pos}{f:Ev->ai D}{s:Addr->Ev->List D->ai dY}
theorem Ay(hN:X.N.Nodup)(hi:X.N[i]?=some x)(hx:AS X.env.scope x)(he:DF X E e f)(hr:∀a,EV X He H0e a rest (s a))(hs:swapsWith e (some (.Name x pos')) pos.line X.env=pure false:=by rfl)
  (hf:X.fn x=true∨X.env.scope.names.lookup x=some .local := by first|exact .inl rfl|exact .inr rfl|assumption):AU X E He H0e (.Assign [.Name x pos'] e pos::rest) (jt i f s):=by
 refine⟨?_⟩;have h2:uB X rest λG σ H=>∃p,J4 X.K He H0e p (s p) G σ H:=λpins sh σ H G I ⟨p,h⟩=>(hr p).o pins sh σ H G I h;refine er (fQ (lQ hN hi hx he.o hs hf) h2) λG σ H ⟨Ha,ρ,h,q⟩=>⟨Ha,ρ,h.g.sub,h.rd,?_⟩
 unfold jt at q;cases e1:f ρ with
 |stuck=>rw[e1] at q;exact q|exn x=>rw[e1] at q;exact λC ox H' Ha' g ex=>q C ox H' Ha' (h.g.trans g) ex
 |ok d =>
  rw[e1] at q;replace q:bQ X.K E He H0e Ha (tZ i s ρ d) G:=q;unfold tZ at q;cases d with
  |lst ds =>
   simp only at q
   by_cases hc:Jh ρ=true/\i<ρ.length
   .rw[if_pos hc] at q
    intro p vs H' Ha' g hp h0 hv rp;have hg:=h.grow g;have hnx:∀(j k:Nat) (es:List D),ρ[j]?≠some (.ox k es):=λj k es e=>by
     have:=List.all_eq_true.mp hc.1 _ (List.mem_of_getElem? e);cases this
    have hm:=hg.enter (i:=i) (p:=p) (ds:=ds) (vs:=vs) hc.2 (h.g.s.free hp) h0 hv rp (λj d q' ej es'=>by
     obtain⟨q2,k1,_,_,k4⟩:=h.ow j d ej;rw[es'] at k1;cases k1;cases d with
     |lst ds'|dic ks' ds'=>obtain⟨ws,k5,_⟩:=k4;intro c;subst c;rw[hp] at k5;cases k5
     |_=>exact k4.elim) hnx
    have hns:xx (λa=>yX i (s a (ρ.set i (.pt a)) ds))≠.stuck:=λz=>by rw[z] at q;exact q
    have hF:=Ek hns p;rw[←hF] at q;refine⟨p,Ha',_,ds,vs,hm,?_⟩;replace q:=bQ.grow q g.z;unfold yX at q;cases e2:s p (ρ.set i (.pt p)) ds with
    |stuck=>rw[e2] at q;exact q|exn x=>rw[e2] at q;exact q.elim
    |ok r =>
     rw[e2] at q;cases r with|nx ρ' st'=>exact λσ' H2 H02 us z h'=>q σ' H2 H02 z (h'.leave i)|rt d st'=>exact λv H2 H02 z o rp=>q v H2 H02 o.g rp|bk ρ' st'=>exact λσ' H2 H02 us z h'=>q σ' H2 H02 z (h'.leave i)|ct ρ' st'=>exact λσ' H2 H02 us z h'=>q σ' H2 H02 z (h'.leave i)
   .rw[if_neg hc] at q;exact q.elim
  |_=>exact q.elim
end
noncomputable def LW(K:W.Frag) (He H0e:Hp) (a:Addr) (src:Ev->List D->ai (List D×List D)):TI:=λσ H R=>∃Ha ρ st vs,fb K He H0e Ha σ H ρ a st vs/\match src ρ st with
 |.ok (ds,st')=>∀J H' Ha' us,aA Ha Ha'->fb K He H0e Ha' σ H' ρ a st' us->HU K ds J Ha'->R J H'
 |.exn _=>False
 |.stuck=>False
structure MI (X:Cx) (He H0e:Hp) (a:Addr) (tg iter:Expr) (src:Ev->List D->ai (List D×List D)):Prop where
 o:PI X tg iter (LW X.K He H0e a src)
noncomputable def B3(src:Ev->ai (List D)):Ev->List D->ai (List D×List D):=λρ st=>(src ρ).bind λds=>.ok (ds,st)
noncomputable def tN(p:D×List D):ai (List D×List D):=match p.1 with
 |.int j=>if -4611686018427387904<=j/\j<4611686018427387904 then .ok (intsFrom 0 j.toNat,p.2) else .stuck
 |_=>.stuck
noncomputable def yF(f:Ev->List D->ai (D×List D)):Ev->List D->ai (List D×List D):=λρ st=>(f ρ st).bind tN
section
variable {X:Cx}{E:XK}{He H0e:Hp}{a:Addr}{st:Stmt}{e l b tgt iter:Expr}{rest es:List Expr}{pos:Pos}{f:Ev->ai D}{fm gm:Ev->List D->ai (D×List D)}{fa:Ev->List D->ai (List D×List D)}{s t:Ev->List D->ai dY}
theorem yE(h:DI X E tgt iter src):MI X He H0e a tgt iter (B3 src):=⟨gk h.o λσ H R ⟨Ha,ρ,st,vs,h,q⟩=>⟨Ha,ρ,h.s.g.sub,h.s.rd,by
 unfold B3 at q;cases e1:src ρ with
 |stuck=>rw[e1] at q;exact q|exn x=>rw[e1] at q;exact q.elim
 |ok ds =>
  rw[e1] at q;exact λJ H' Ha' g it=>q J H' Ha' vs g.z (h.back g.z (h.s.grow g)) it⟩⟩
theorem Aj(hgl:Gl X "range")(hm:X.mg "range"=none)(hi:DM X He H0e a iter fm)(hst:starEach [iter] X.env=[(false,eval iter X.env)]:=by exact dM rfl):MI X He H0e a tgt (.Call (.Name "range" p) [iter] [] pos2) (yF fm):=by
 refine⟨gk (lR hgl hm (dO hi.o gq hst) hst) λσ H R ⟨Ha,ρ,st,vs,h,q⟩=>⟨Ha,ρ,st,vs,h,?_⟩⟩;unfold yF at q;cases e1:fm ρ st with
 |stuck|exn x=>rw[e1] at q;exact q
 |ok pr =>
  obtain⟨d,s1⟩:=pr;rw[e1] at q;intro v H1 H01 us z h1 r1;cases d with
  |int j =>
   rw[au.mp r1];replace q:match (if -4611686018427387904<=j/\j<4611686018427387904 then ai.ok (intsFrom 0 j.toNat,s1) else .stuck) with
    |.ok (ds,st')=>∀J H' Ha' us,aA Ha Ha'->fb X.K He H0e Ha' σ H' ρ a st' us->HU X.K ds J Ha'->R J H'
    |.exn _=>False
    |.stuck=>False:=q
   by_cases hj:-4611686018427387904<=j/\j<4611686018427387904
   .rw[if_pos hj] at q
    exact⟨j,rfl,hj.1,hj.2,q _ H1 H01 us z h1 rO⟩
   .rw[if_neg hj] at q;exact q.elim
  |_=>exact q.elim
theorem lH.step2{K:W.Frag}{st:List D}{vs:List V}(z:aA Hb Ha)(h:fb K He H0e Ha σ H ρ a st vs)(q:dZ K He H0e a Ha (forM tg s (ds.drop i) ρ st) D')(hd:ds[i]?=some d)(rv:Rep K Ha d v)
  (he:∀ρ,tg ρ d=.stuck∨∃ρ',tg ρ d=.ok ρ') :
  Ky K He H0e a tg v σ H λσ2 H2=>J4 K He H0e a s { D' with nx:=lH K He H0e a Hb tg s ds D' (i+1),ct:=lH K He H0e a Hb tg s ds D' (i+1),bk:=D'.nx } σ2 H2:=by
 have hi:i<ds.length:=(List.getElem?_eq_some_iff.mp hd).1;have hdr:ds.drop i=d::ds.drop (i+1):=by
  rw[List.drop_eq_getElem_cons hi];rw[List.getElem?_eq_getElem hi] at hd;cases hd;rfl
 rw[hdr] at q;refine⟨Ha,ρ,st,vs,d,h,rv,?_⟩;unfold forM at q;rcases he ρ with e1|⟨ρ1,e1⟩
 .rw[e1] at q;exact q.elim
 .rw[e1] at q ⊢
  intro σ' H' Ha' z' h';refine⟨Ha',ρ1,st,vs,h',?_⟩;replace q:=dZ.grow (r:=(s ρ1 st).bind λx=>match x with
   |.nx ρ2 s2=>forM tg s (ds.drop (i+1)) ρ2 s2
   |.ct ρ2 s2=>forM tg s (ds.drop (i+1)) ρ2 s2
   |.bk ρ2 s2=>.ok (.nx ρ2 s2)
   |.rt d s=>.ok (.rt d s)) q z'
  cases e2:s ρ1 st with
  |stuck|exn x=>rw[e2] at q;exact q
  |ok r =>
   rw[e2] at q;cases r with|nx ρ2 s2=>exact λσ3 H3 H03 vs3 z3 h3=>⟨H03,ρ2,s2,vs3,(z.trans z').trans z3,h3,dZ.grow (r:=forM tg s (ds.drop (i+1)) ρ2 s2) q z3⟩|ct ρ2 s2=>exact λσ3 H3 H03 vs3 z3 h3=>⟨H03,ρ2,s2,vs3,(z.trans z').trans z3,h3,dZ.grow (r:=forM tg s (ds.drop (i+1)) ρ2 s2) q z3⟩|bk ρ2 s2|rt d s2=>exact q
noncomputable def vk(src:Ev->List D->ai (List D×List D)) (tg:Ev->D->ai Ev) (s:Ev->List D->ai dY):Ev->List D->ai dY:=λρ st=>(src ρ st).bind λp=>forM tg s p.1 ρ p.2
theorem ye(hp:PassesOwn (model X.prog X.w) X.A X.env X.xe)(hc:X.calm=true)(hi:MI X He H0e a tgt iter src)(hg:∀vs,DG X E (upd He a (.lst vs)) H0e tgt tg)(ht:sO tg)(hb:EV X He H0e a body s)
  (hs:∀x,foldedSetIterable iter X.env x=pure x:=by intro _;rfl):SM X He H0e a (.For tgt iter body [] pos) (vk src tg s):=by
 refine⟨bB (tj hp hc hi.o (IV hg) hb.o hs) λD' σ H ⟨Ha,ρ,st,vs,h,q⟩=>⟨Ha,ρ,st,vs,h,?_⟩⟩;unfold vk at q;cases e1:src ρ st with
 |stuck|exn x=>rw[e1] at q;exact q
 |ok pr =>
  obtain⟨ds,s1⟩:=pr;rw[e1] at q;intro J H1 H01 us z h1 it;have q1:dZ X.K He H0e a H01 (forM tg s ds ρ s1) D':=dZ.grow (r:=forM tg s ds ρ s1) q z;refine⟨λi m σ' H'=>m+i=ds.length/\lH X.K He H0e a H01 tg s ds D' i σ' H',⟨ds.length,rfl,H01,ρ,s1,us,aA.refl _,h1,q1⟩,?_⟩;rintro i m σ' H' ⟨hm,Ha',ρ',st',vs',z',h',hq⟩
  by_cases hlt:i<ds.length
  .refine .inr ⟨it.go i H' Ha' z' h'.s.g.sub hlt,λσ2 H2=>lH X.K He H0e a H01 tg s ds D' (i+1) σ2 H2,λσ2 H2 hl=>⟨m-1,by omega,by omega,hl⟩,λx H2 hy=>?_⟩
   obtain⟨H₀2,g2,rp⟩:=it.yld i H' Ha' x H2 ds[i] z' h'.s.g.sub (List.getElem?_eq_getElem hlt) hy;exact lH.step2 (z'.trans g2.z) (h'.back g2.z (h'.s.grow g2)) (dZ.grow (r:=forM tg s (ds.drop i) ρ' st') hq g2.z) (List.getElem?_eq_getElem hlt) rp λρ=>ht ρ _
  .have e:i=ds.length:=by omega
   refine .inl ⟨it.stop i H' Ha' z' h'.s.g.sub (by omega),?_⟩;subst e;exact lH.done ⟨Ha',ρ',st',vs',z',h',hq⟩
end
noncomputable def Gf(s:Option Sl):Sl:=match s with
 |some (.sh d)=>.sh d
 |some (.pt b)=>.pt b
 |_=>.no
noncomputable def d6(n:Nat) (fr:List Nat) (ρ:Ev):Ev:=List.replicate n .no++fr.map λ(i:Nat)=>Gf ρ[i]?
noncomputable def fU(b:Ev) (tg:Ev->D->ai Ev) (fm:Ev->List D->ai (D×List D)):List D->List D->ai (List D×List D)
 |[],st=>.ok ([],st)
 |d::r,st=>(tg b d).bind λρ1=>(fm ρ1 st).bind λp=>(fU b tg fm r p.2).bind λq=>.ok (p.1::q.1,q.2)
noncomputable def qh(b:Ev) (tg:Ev->D->ai Ev) (fm:Ev->List D->ai (D×List D)) (p:List D×List D):ai (D×List D):=if p.1.length<=line then(fU b tg fm p.1 p.2).bind λq=>.ok (.lst q.1,q.2) else .stuck
noncomputable def mQ(n:Nat) (fr:List Nat) (src:Ev->List D->ai (List D×List D)) (tg:Ev->D->ai Ev) (fm:Ev->List D->ai (D×List D)):Ev->List D->ai (D×List D):=λρ st=>(src ρ st).bind (qh (d6 n fr ρ) tg fm)
theorem AM{fr:List Nat}:(d6 n fr ρ).length=n+fr.length:=by unfold d6;simp
theorem qv{fr:List Nat}{k:Nat}(h:k<n):(d6 n fr ρ)[k]?=some .no:=by
 unfold d6;rw[List.getElem?_append_left (by simpa using h),List.getElem?_replicate,if_pos h]
theorem qA{fr:List Nat}{k:Nat}(h:¬k<n)(e:(d6 n fr ρ)[k]?=some s):∃j,fr[k-n]?=some j/\s=Gf ρ[j]?:=by
 unfold d6 at e;rw[List.getElem?_append_right (by simpa using h),List.length_replicate,List.getElem?_map] at e;cases hf:fr[k-n]? with|none=>rw[hf] at e;cases e|some j=>rw[hf] at e;cases e;exact⟨j,rfl,rfl⟩
theorem Gd(h:Sl.sh d=Gf s):s=some (.sh d):=by
 unfold Gf at h;split at h<;>cases h
 rfl
theorem Ge(h:Sl.pt b=Gf s):s=some (.pt b):=by
 unfold Gf at h;split at h<;>cases h
 rfl
theorem CU{fr:List Nat}{k j:Nat}(h:¬k<n)(hf:fr[k-n]?=some j)(hs:σ[j]?=some (some v)):(gS n fr σ)[k]?=some (some v):=by
 unfold gS;rw[List.getElem?_append_right (by simpa using h),List.length_replicate,List.getElem?_map,hf];simp [hs]
theorem sQ{K:W.Frag}{st:List D}{vs:List V}(ha:He a=none)(h0:H0e a=none)(hl:H a=some (.lst vs))(r:Reps K Ha st vs)(g:aU (upd He a (.lst vs)) H0e H Ha)(rd:Reads K Ha σ ρ)
  (no:∀(j:Nat) (s:Sl),ρ[j]?=some s->s=.no∨(∃d,s=.sh d)∨∃b,s=.pt b/\σ[j]?=some (some (.ref b)))(ln:ρ.length=σ.length):fb K He H0e Ha σ H ρ a st vs:=by
 refine⟨ha,h0,hl,r,⟨g,rd,λi d e=>?_,λi j d d' _ e=>?_,ln,OX.none (λi j ds e=>?_) λi b e=>?_⟩⟩
 .rcases no i _ e with h|⟨_,h⟩|⟨_,h,_⟩<;>cases h
 .rcases no i _ e with h|⟨_,h⟩|⟨_,h,_⟩<;>cases h
 .rcases no i _ e with h|⟨_,h⟩|⟨_,h,_⟩<;>cases h
 .rcases no i _ e with h|⟨_,h⟩|⟨_,h,h'⟩
  .cases h
  .cases h
  .cases h;exact h'
noncomputable def Cg(K:W.Frag) (a:Addr) (tg:Ev->D->ai Ev):TG:=λv σ H Q=>∃He H0e,Ky K He H0e a tg v σ H Q
noncomputable def A8(K:W.Frag) (a:Addr) (fm:Ev->List D->ai (D×List D)):TE:=λσ H Q=>∃He H0e,tM K He H0e a fm σ H Q
theorem xP{r st es stF:List D}(h:fU b tg fm (d::r) st=.ok (es,stF)):∃ρ1 y s1 rest,tg b d=.ok ρ1/\fm ρ1 st=.ok (y,s1)/\fU b tg fm r s1=.ok (rest,stF)/\es=y::rest:=by
 unfold fU at h;cases e1:tg b d with
 |stuck|exn x=>rw[e1] at h;cases h
 |ok ρ1 =>
  rw[e1] at h;simp only[ai.bind] at h;cases e2:fm ρ1 st with
  |stuck|exn x=>rw[e2] at h;cases h
  |ok p =>
   obtain⟨y,s1⟩:=p;rw[e2] at h;simp only at h;cases e3:fU b tg fm r s1 with
   |stuck|exn x=>rw[e3] at h;cases h
   |ok q =>
    obtain⟨rest,sF⟩:=q;rw[e3] at h;cases h;exact⟨ρ1,y,s1,rest,rfl,e2,e3,rfl⟩
theorem wm{K:W.Frag}{fr:List Nat}(h1:fb K He H0e H01 σ H1 ρ a st0 us0)(it:HU K ds J H01)(hl:ds.length<=line)
  (e2:fU (d6 n fr ρ) tg fm ds st0=.ok (es,stF))(hok:wD n tg)
  (q:∀p xs H' Ha' us',aU (Ax a H1) H01 H' Ha'->Ha' a=none->H' a=some (.lst us')->Reps K Ha' stF us'->H1 p=none->Ha' p=none->H' p=some (.lst xs)->Reps K Ha' es xs->Q (.ref p) H') :
  nT n fr (Cg K a tg) A7 (A8 K a fm) J σ H1 Q:=by
 intro Da hDa;have h0D:H01 Da=none:=h1.s.g.sub.free hDa;have aD:a≠Da:=λz=>by have:=h1.hl;rw[z,hDa] at this;cases this
 have nob:∀{σ':L2.St}(_:∀(k:Nat),¬k<n->∀b,(d6 n fr ρ)[k]?=some (.pt b)->σ'[k]?=some (some (.ref b))) (j:Nat) (s:Sl),(d6 n fr ρ)[j]?=some s->s=.no∨(∃d,s=.sh d)∨∃b,s=.pt b/\σ'[j]?=some (some (.ref b)):=λ{σ'} hp j s e=>by
  by_cases hj:j<n
  .rw[qv hj] at e;cases e;exact .inl rfl
  .obtain⟨i,_,hs⟩:=qA hj e
   cases s with
   |no=>exact .inl rfl|sh d=>exact .inr (.inl ⟨d,rfl⟩)|pt b=>exact .inr (.inr ⟨b,rfl,hp j hj b e⟩)
   |_=>unfold Gf at hs;split at hs<;>cases hs
 refine⟨λi m ys σ' H'=>m=ds.length-i/\i<=ds.length/\∃Ha' st' us' es1 rest,fb K (upd (Ax a H1) Da (.lst ys)) H01 Ha' σ' H' (d6 n fr ρ) a st' us'/\Reps K Ha' es1 ys/\es1.length=i/\fU (d6 n fr ρ) tg fm (ds.drop i) st'=.ok (rest,stF)/\es=es1++rest,
  ⟨ds.length,by simp,Nat.zero_le _,H01,st0,us0,[],es,?_,Reps.nil,rfl,by rw[List.drop_zero];exact e2,rfl⟩,?_⟩
 .refine sQ (by rw[av aD];exact cX) h1.n0 (by rw[av aD];exact h1.hl) h1.r ⟨λb o e=>?_,aA.refl _,λb o e=>?_,λb k1 k2=>absurd k2 k1⟩ (λk d e=>?_) (nob λk hk b e=>?_) (by unfold gS;rw[AM];simp)
  .by_cases c:b=a
   .subst c;rw[aB] at e;cases e;rw[av aD];exact h1.hl
   .rw[av c] at e
    by_cases c2:b=Da
    .subst c2;rw[aB] at e ⊢;exact e
    .rw[av c2] at e ⊢;rw[eG c] at e;exact e
  .rw[av (by intro z;subst z;rw[h0D] at e;cases e)];exact h1.s.g.sub _ _ e
  .by_cases hk:k<n
   .rw[qv hk] at e;cases e
   .obtain⟨j,hf,hs⟩:=qA hk e
    obtain⟨v,k1,k2⟩:=h1.s.rd j d (Gd hs);exact⟨v,CU hk hf k1,k2⟩
  .obtain⟨j,hf,hs⟩:=qA hk e
   exact CU hk hf (h1.s.ex.2 j b (Ge hs))
 .rintro i m ys σ' H' ⟨rfl,hile,Ha',st',us',es1,rest,h',hys,hle,hco,hes⟩
  have hDl:H' Da=some (.lst ys):=h'.s.g.s _ _ (by rw[av (Ne.symm aD),aB]);refine⟨hDl,?_⟩
  by_cases hlt:i<ds.length
  .refine .inr ⟨it.go i H' Ha' h'.s.g.z h'.s.g.sub hlt,?_,?_⟩
   .rw[←hys.length,hle]
    have h2:line<sizeLine:=by decide
    omega
   .intro x H2 hy
    obtain⟨H₀2,g2,rp⟩:=it.yld i H' Ha' x H2 ds[i] h'.s.g.z h'.s.g.sub (List.getElem?_eq_getElem hlt) hy;have hm2:=h'.back g2.z (h'.s.grow g2);rw[List.drop_eq_getElem_cons hlt] at hco;obtain⟨ρ1,y,s1,rest',t1,t2,t3,t4⟩:=xP hco;refine⟨_,_,H₀2,d6 n fr ρ,st',us',ds[i],hm2,rp,?_⟩;rw[t1];intro σ3 H3 H03 z3 h3;unfold A7;dsimp only;rw[if_pos rfl];refine⟨_,_,H03,ρ1,st',us',h3,?_⟩;rw[t2];intro yv H5 H05 us5 z5 h5 ry;have hD5:H5 Da=some (.lst ys):=h5.s.g.s _ _ (by rw[av (Ne.symm aD),aB]);have n5:H05 Da=none:=by
     cases qq:H05 Da with|none=>rfl|some o=>have:=h5.s.g.nw Da (by rw[qq];simp) h0D;rw[av (Ne.symm aD),aB] at this;cases this
    have hrl:=hok _ _ _ t1;refine⟨hD5,ds.length-(i+1),by omega,rfl,hlt,H05,s1,us5,es1++[y],rest',?_,(hys.mono ((g2.z.trans z3).trans z5)).app (Reps.cons ry Reps.nil),by simp [hle],t3,by rw[hes,t4];simp⟩;refine sQ (by rw[av aD];exact cX) h1.n0 (by rw[av aD];exact h5.hl) h5.r ⟨λb o e=>?_,h5.s.g.z,λb o e=>?_,λb k1 k2=>?_⟩ (λk d e=>?_) (nob λk hk b e=>?_) (by rw[←h5.s.ln,hrl.1])
    .by_cases c:b=a
     .subst c;rw[aB] at e;cases e;rw[av aD];exact h5.hl
     .rw[av c] at e
      by_cases c2:b=Da
      .subst c2;rw[aB] at e ⊢;exact e
      .rw[av c2] at e ⊢
       exact h5.s.g.s _ _ (by rw[av c,av c2];exact e)
    .rw[av (by intro z;subst z;rw[n5] at e;cases e)];exact h5.s.g.sub _ _ e
    .have:=h5.s.g.nw b k1 k2
     by_cases c:b=a
     .subst c;rw[aB] at this;cases this
     .rw[av c] at this ⊢
      by_cases c2:b=Da
      .subst c2;rw[aB] at this;cases this
      .rw[av c2] at this ⊢;exact this
    .by_cases hk:k<n
     .rw[qv hk] at e;cases e
     .rw[←hrl.2 k (by omega)] at e
      exact h5.s.rd k d e
    .rw[←hrl.2 k (by omega)] at e
     exact h5.s.ex.2 k b e
  .have hi2:i=ds.length:=by omega
   refine .inl ⟨it.stop i H' Ha' h'.s.g.z h'.s.g.sub (by omega),?_⟩;rw[hi2,List.drop_length] at hco;cases hco;rw[List.append_nil] at hes;subst hes;refine q Da ys H' Ha' us' ⟨λb o e=>?_,h'.s.g.z,h'.s.g.sub,λb k1 k2=>?_⟩ h'.n0 h'.hl h'.r hDa ?_ hDl hys
   .have c:b≠a:=by intro c;subst c;rw[cX] at e;cases e
    have c2:b≠Da:=by intro c2;subst c2;rw[eG c,hDa] at e;cases e
    exact h'.s.g.s _ _ (by rw[av c,av c2];exact e)
   .have:=h'.s.g.nw b k1 k2
    by_cases c:b=a
    .subst c;exact cX
    .rw[av c] at this
     by_cases c2:b=Da
     .subst c2;rw[aB] at this;cases this
     .rw[av c2] at this;exact this
   .cases qq:Ha' Da with
    |none=>rfl
    |some o=>have:=h'.s.g.nw Da (by rw[qq];simp) h0D;rw[av (Ne.symm aD),aB] at this;cases this
noncomputable def Kv(K:W.Frag) (He H0e:Hp) (a:Addr) (f:Ev->List D->ai (D×List D)):TE:=λσ H Q=>∃Ha ρ st vs,fb K He H0e Ha σ H ρ a st vs/\match f ρ st with
 |.ok (.lst ds,st')=>∀p xs H1 H01 st1 us1 H' Ha' us,aA Ha H01->fb K He H0e H01 σ H1 ρ a st1 us1->aU (Ax a H1) H01 H' Ha'->Ha' a=none->H' a=some (.lst us)->Reps K Ha' st' us->H1 p=none->Ha' p=none->H' p=some (.lst xs)->Reps K Ha' ds xs->Q (.ref p) H'
 |.ok _=>False
 |.exn _=>False
 |.stuck=>False
structure Lf (X:Cx) (He H0e:Hp) (a:Addr) (e:Expr) (f:Ev->List D->ai (D×List D)):Prop where
 ev:PE X e (Kv X.K He H0e a f)
 st:∀{i:Nat}{x:Str}{pos' spos:Pos},X.N.Nodup->X.N[i]?=some x->X.env.scope.names.lookup x=some .local -> swapsWith e (some (.Name x pos')) spos.line X.env=pure true->PS X (.Assign [.Name x pos'] e spos) (Dv (Kv X.K He H0e a f) (yU i))
theorem L8(N:List Str)(n:Nat)(fr:List Nat)(hc:X.calm=true)(hi:MI X He H0e a tgt iter src)(hok:wD n tg)
  (blk:∀s H C fp pn,(∀He H0e,DG (cx X N scope s H C fp pn) E He H0e tgt tg)/\∀He H0e,DM (cx X N scope s H C fp pn) He H0e a elt fm)
  (hfr:xX X N n fr scope)(hcell:∀x∈scope.names,x.2≠.cell)(hfree:∀x∈scope.names,x.2=.free->X.env.scope.names.lookup x.1=some .cell)(hkind:scope.kind=.function)(hnames:∀x∈scope.names,x.2=.local -> scope.names.lookup x.1=some .local)
  (hs:∀x,foldedSetIterable iter X.env x=pure x:=by intro _;rfl):Lf X He H0e a (.ListComp elt [⟨tgt,iter,[],0⟩] scope pos) (mQ n fr src tg fm):=by
 have blk':∀s H C fp pn,PG (cx X N scope s H C fp pn) tgt (Cg X.K a tg)/\Ig (cx X N scope s H C fp pn) [] A7/\PE (cx X N scope s H C fp pn) elt (A8 X.K a fm):=λs H C fp pn =>
  ⟨λpins s' σ' H' v u Q' I r ⟨He,H0e,q'⟩=>(IV (X:=cx X N scope s H C fp pn) λvs=>(blk s H C fp pn).1 _ _) pins s' σ' H' v u Q' I r q',yo,λpins s' σ' H' Q' I ⟨He,H0e,q'⟩=>((blk s H C fp pn).2 He H0e).o pins s' σ' H' Q' I q'⟩
 have first:∀{pins:List (Addr×Obj)}{s:Shared}{σ:L2.St}{H:Hp}{Q:VK}{RR:Value->Addr->Result->Shared->Prop},L2.Inv X pins σ H s->Kv X.K He H0e a (mQ n fr src tg fm) σ H Q ->
   (∀(Da C:Addr) (s6:Shared) (H5:Hp) (m:Str->Option Value),L2.Inv X pins σ H5 s6->s6.heap.Ns C m->lJ X pins H5 C->Q (.ref Da) H5->RR (.ref Da) C (.ok .next) s6) ->
   wpAny (model X.prog X.w) X.A (eval iter X.env) (λx sg=>wpAny (model X.prog X.w) X.A (pyIter x) (λit si=>wpAny (model X.prog X.w) X.A (newList []) (λacc sj =>
    wpAny (model X.prog X.w) X.A (newFunctionEnv scope X.env.globals (eX X.env.cells scope.names []) [] X.env.qual none .none (some X.env)) (λcenv sk =>
     codeAny (model X.prog X.w) X.A (.compStart (.ListComp elt [⟨tgt,iter,[],0⟩] scope pos) 0 it acc { cenv with scope:=relabel scope X.env }) (RR acc cenv.locals) sk) X.xe sj) X.xe si) X.xe sg) X.xe s:=by
  intro pins s σ H Q RR I ⟨Ha,ρ,st,vs,h,q⟩ fin;refine cw (hi.o pins s σ H (λJ H1=>nT n fr (Cg X.K a tg) A7 (A8 X.K a fm) J σ H1 Q) I ⟨Ha,ρ,st,vs,h,?_⟩) λv s1 h1=>cw h1 λitv s2 h2=>sr (N:=N) hc hfr hcell hfree hkind blk' h2 fin;unfold mQ at q;cases e1:src ρ st with
  |stuck|exn x=>rw[e1] at q;exact q
  |ok pr =>
   obtain⟨ds,st1⟩:=pr;rw[e1] at q;intro J H1 H01 us z h1 it;replace q:match (if ds.length<=line then(fU (d6 n fr ρ) tg fm ds st1).bind λq=>ai.ok (D.lst q.1,q.2) else .stuck) with
    |.ok (.lst ds,st')=>∀p xs H1 H01 st1 us1 H' Ha' us,aA Ha H01->fb X.K He H0e H01 σ H1 ρ a st1 us1->aU (Ax a H1) H01 H' Ha'->Ha' a=none->H' a=some (.lst us)->Reps X.K Ha' st' us->H1 p=none->Ha' p=none->H' p=some (.lst xs)->Reps X.K Ha' ds xs->Q (.ref p) H'
    |.ok _=>False
    |.exn _=>False
    |.stuck=>False:=q
   by_cases hl:ds.length<=line
   .rw[if_pos hl] at q
    cases e2:fU (d6 n fr ρ) tg fm ds st1 with
    |stuck|exn x=>rw[e2] at q;exact q.elim
    |ok pr2 =>
     obtain⟨es,stF⟩:=pr2;rw[e2] at q;exact wm h1 it hl e2 hok λp xs H' Ha' us' g n' hl' r' hp h0 hv rp=>q p xs H1 H01 st1 us H' Ha' us' z h1 g n' hl' r' hp h0 hv rp
   .rw[if_neg hl] at q;exact q.elim
 have hcl:∀{pins:List (Addr×Obj)}{s:Shared}{σ:L2.St}{H:Hp},L2.Inv X pins σ H s->closureFor scope X.env=pure (eX X.env.cells scope.names []):=λ{pins s σ H} I=>jj λy hy hf=>I.ok.has y.1 (.inl (hfree y hy hf));refine⟨λpins s σ H Q I h=>?_,λ{i x pos' spos} hN hi' hx hsw pins s σ H D' I h=>?_⟩
 .rw[eval_ListComp]
  refine wpAny_comprehension_free (use:=none) rfl hs (hcl I) hkind hnames (first (RR:=λacc C=>compPost (model X.prog X.w) X.A X.xe none (EP X pins σ Q) acc C) I h λDa C s6 H5 m I6 ns fC q=>?_);refine⟨m,ns,λh' sb=>⟨.ref Da,H5,?_,rfl,q⟩⟩;exact I6.turned (t':=s6.toks) (it:=C) (λb o hb e=>(sb.2 b hb).trans e) fC.1 fC.2.1 fC.2.2.2.1 fC.2.2.2.2.1 fC.2.2.2.2.2
 .rw[exec_Assign_Name_used _ _ _ _ hsw]
  refine wpAny_bind (wpAny_standAt (wpAny_bind ?_));show wpAny _ X.A (do let _ ←comprehension (.ListComp elt [⟨tgt,iter,[],0⟩] scope pos) scope X.env _ (newList []) false (eval iter X.env) (some (assign (.Name x pos') X.env))) _ _ s;refine wpAny_bind (wpAny_mono (wpAny_comprehension_free (use:=some (assign (.Name x pos') X.env)) (Q:=λ_ s'=>SP X pins D' .next s') rfl hs (hcl I) hkind hnames
   (first (RR:=λacc C=>compPost (model X.prog X.w) X.A X.xe (some (assign (.Name x pos') X.env)) (λ_ s'=>SP X pins D' .next s') acc C) I h λDa C s6 H5 m I6 ns fC q=>?_)) (λ_ s' hq=>wpAny_pure (wpAny_pure hq)) λ_ _ e=>e)
  show wpAny _ X.A (assign (.Name x pos') X.env (.ref Da)) _ _ _;refine wpAny_assign_Name (lN (v:=.ref Da) I6 hN hi' (.inl hx) rfl (λs' I' ⟨a,sb,ha⟩=>?_) (.inr hx));have hCa:C≠a:=by
   rcases ha with rfl|ha
   .exact fC.2.1
   .exact λz=>fC.2.2.2.2.1 x a ha z.symm
  refine⟨m,ns.sameBut sb hCa,λh' sb'=>⟨_,H5,?_,q⟩⟩;exact I'.turned (t':=s'.toks) (it:=C) (λb o hb e=>(sb'.2 b hb).trans e) fC.1 fC.2.1 fC.2.2.2.1 fC.2.2.2.2.1 fC.2.2.2.2.2
theorem xO{fr:List Nat}:∀ρ st d s',mQ n fr src tg fm ρ st=.ok (d,s')->∃ds,d=.lst ds:=λρ st d s' h=>by
 unfold mQ at h;cases e1:src ρ st with
 |stuck|exn x=>rw[e1] at h;cases h
 |ok pr =>
  rw[e1] at h;simp only[ai.bind,qh] at h
  by_cases hl:pr.1.length<=line
  .rw[if_pos hl] at h
   cases e2:fU (d6 n fr ρ) tg fm pr.1 pr.2 with|stuck|exn x=>rw[e2] at h;cases h|ok q=>rw[e2] at h;cases h;exact⟨_,rfl⟩
  .rw[if_neg hl] at h;cases h
theorem fb.addL{K:W.Frag}(h1:fb K He H0e H01 σ H1 ρ a st1 us1)(g:aU (Ax a H1) H01 H' Ha')(n:Ha' a=none)(hl:H' a=some (.lst us))(r:Reps K Ha' st' us)(hp:H1 p=none)(h0:Ha' p=none)(hv:H' p=some (.lst xs))(rp:Reps K Ha' ds xs) :
  aA H01 (upd Ha' p (.lst xs))/\fb K He H0e (upd Ha' p (.lst xs)) σ H' ρ a st' us/\Rep K (upd Ha' p (.lst xs)) (.lst ds) (.ref p):=by
 have pa:a≠p:=λz=>by have:=h1.hl;rw[z,hp] at this;cases this
 have z:aA Ha' (upd Ha' p (.lst xs)):=λb o e=>by rw[av (by intro z;subst z;rw[h0] at e;cases e)];exact e
 have g':aU (Ax a H1) H01 H' (upd Ha' p (.lst xs)):=⟨g.s,g.z.trans z,λb o e=>by
  by_cases c:b=p
  .subst c;rw[aB] at e;cases e;exact hv
  .rw[av c] at e;exact g.sub _ _ e,λb k1 k2=>by
  by_cases c:b=p
  .subst c;rw[eG (Ne.symm pa)];exact hp
  .rw[av c] at k1;exact g.nw b k1 k2⟩
 exact⟨g'.z,h1.change g' (by rw[av pa];exact n) hl (r.mono z),aH.mpr ⟨p,xs,rfl,eD.of aB,rp.mono z⟩⟩
section
variable {X:Cx}{E:XK}{He H0e:Hp}{a:Addr}{e:Expr}{pos:Pos}{fm:Ev->List D->ai (D×List D)}
theorem DD(hN:X.N.Nodup)(hi:X.N[i]?=some x)(hx:X.env.scope.names.lookup x=some .local)(h:Lf X He H0e a e fm)(ho:∀ρ st d s',fm ρ st=.ok (d,s')->∃ds,d=.lst ds)(hs:swapsWith e (some (.Name x pos')) pos.line X.env=pure true:=by rfl):SM X He H0e a (.Assign [.Name x pos'] e pos) (d9 i fm):=by
 refine⟨bB (h.st hN hi hx hs) λD' σ H ⟨Ha,ρ,st,vs,h,q⟩=>⟨Ha,ρ,st,vs,h,?_⟩⟩;unfold d9 at q;cases e1:fm ρ st with
 |stuck|exn x=>rw[e1] at q;exact q
 |ok pr =>
  obtain⟨d,s1⟩:=pr;obtain⟨ds,rfl⟩:=ho _ _ _ _ e1;rw[e1] at q;intro p xs H1 H01 st1 us1 H' Ha' us z h1 g n hl r hp h0 hv rp;obtain⟨k1,k2,k3⟩:=h1.addL g n hl r hp h0 hv rp;exact q _ H' _ us (z.trans k1) (k2.back (aA.refl _) (k2.s.put k3))
end
mutual
def fg:D->Option PyData
 |.non=>some .none
 |.bl b=>some (.bool b)
 |.int i=>some (.int i)
 |.str x=>some (.str x)
 |.tup ds=>(toPys ds).map PyData.tuple
 |.lst ds=>(toPys ds).map PyData.list
 |.dic ks ds=>if ks.isEmpty&&ds.isEmpty then some (.dict []) else none
 |.exc _=>none
 |.ob _ _=>none
def toPys:List D->Option (List PyData)
 |[]=>some []
 |d::ds=>match fg d,toPys ds with
  |some x,some xs=>some (x::xs)
  |_,_=>none
end
section
variable {X:Cx}{E:XK}{pins:List (Addr×Obj)}{σ:L2.St}{H:Hp}{s:Shared}
theorem Em(I:L2.Inv X pins σ H s){vs:List V}(h:eD X.K H a vs):a≠sysModules:=by
 intro z;subst z;obtain⟨mm,o,es,ep,e,hd,_⟩:=I.ok.mod.sm;have:=(I.bs _ _ e).2;rcases h with h|⟨o',_,_,h1,h2,_,h3,_⟩
 .rcases h with h|⟨_,h⟩<;>(rw[this] at h;cases h)
 .have e':=I.ok.mod.kin _ _ h1
  rw[e] at e';cases e';rw[hd] at h3;cases h3
mutual
theorem uO(I:L2.Inv X pins σ H s):∀(d:D) (v:V) (u:Value) (p:PyData),Rep X.K H d v->aX v u->fg d=some p->∃as,PySem.Reads s.heap u p as/\sysModules∉as
 |.non,v,u,p,r,rv,e=>by
  rw[fg] at e;cases e;rw[aL.mp r] at rv;cases rv;exact⟨_,.none,by simp⟩
 |.bl b,v,u,p,r,rv,e=>by
  rw[fg] at e;cases e;rw[aI.mp r] at rv;cases rv;exact⟨_,.bool b,by simp⟩
 |.int i,v,u,p,r,rv,e=>by
  rw[fg] at e;cases e;rw[au.mp r] at rv;obtain⟨t,rfl⟩:=rv;exact⟨_,.int i t,by simp⟩
 |.str x,v,u,p,r,rv,e=>by
  rw[fg] at e;cases e;rw[Rep.str_iff.mp r] at rv;obtain⟨t,rfl⟩:=rv;exact⟨_,.str x t,by simp⟩
 |.tup ds,v,u,p,r,rv,e=>by
  rw[fg] at e;cases e1:toPys ds with
  |none=>rw[e1] at e;cases e
  |some ps =>
   rw[e1] at e;cases e;obtain⟨a,vs,its,rfl,rfl,h1,h2,h3,⟨o,k1,k2,n,k3⟩,_⟩:=aV I r rv;obtain⟨as,h4,h5⟩:=reads_ofs I ds vs its ps h2 h3 e1;exact⟨_,.tuple k1 k2 k3 (by simpa using h4),h5⟩
 |.lst ds,v,u,p,r,rv,e=>by
  rw[fg] at e;cases e1:toPys ds with
  |none=>rw[e1] at e;cases e
  |some ps =>
   rw[e1] at e;cases e;obtain⟨a,vs,its,rfl,rfl,h1,h2,h3,⟨o,k1,k2,n,k3⟩,_⟩:=aS I r rv;obtain⟨as,h4,h5⟩:=reads_ofs I ds vs its ps h2 h3 e1;exact⟨_,.list k1 k2 k3 (by simpa using h4),by rw[List.mem_cons,not_or];exact⟨Ne.symm (Em I h1),h5⟩⟩
 |.dic ks ds,v,u,p,r,rv,e=>by
  rw[fg] at e
  by_cases c:(ks.isEmpty&&ds.isEmpty)=true
  .rw[if_pos c] at e;cases e
   have hE:KP (.dic ks ds)=true:=by
    rw[Bool.and_eq_true,List.isEmpty_iff,List.isEmpty_iff] at c;rw[c.1,c.2];rfl
   obtain⟨a,rfl,n1,o,es,ep,k1,k2,k3,_,k5,_⟩:=zY I hE r rv;have he:es.toList=[]:=by
    generalize es.toList=l at k5 ⊢;cases k5;rfl
   refine⟨_,.dict (kvs:=[]) k1 k2.1 k3 (by rw[he];exact .nil) (by rw[he];exact .nil),?_⟩;simp only[List.append_nil,List.mem_cons,List.not_mem_nil,or_false];exact λz=>by rw[z] at n1;simp at n1
  .rw[if_neg c] at e;cases e
 |.exc _,v,u,p,r,rv,e=>by rw[fg] at e;cases e
 |.ob _ _,v,u,p,r,rv,e=>by rw[fg] at e;cases e
theorem reads_ofs(I:L2.Inv X pins σ H s):∀(ds:List D) (vs:List V) (us:List Value) (ps:List PyData),Reps X.K H ds vs->bz vs us->toPys ds=some ps->∃as,PySem.ReadsAll s.heap us ps as/\sysModules∉as
 |[],vs,us,ps,r,rv,e=>by
  rw[toPys] at e;cases e;rw[Reps.nil_iff.mp r] at rv;cases rv;exact⟨_,.nil,by simp⟩
 |d::ds,vs,us,ps,r,rv,e=>by
  obtain⟨v,vr,rfl,h1,h2⟩:=aE.mp r;cases rv with
  |cons ra rb =>
   rw[toPys] at e;cases e1:fg d with
   |none=>rw[e1] at e;cases e
   |some p =>
    cases e2:toPys ds with
    |none=>rw[e1,e2] at e;cases e
    |some qs =>
     rw[e1,e2] at e;cases e;obtain⟨as,k1,m1⟩:=uO I d v _ p h1 ra e1;obtain⟨bs,k2,m2⟩:=reads_ofs I ds vr _ qs h2 rb e2;exact⟨_,.cons k1 k2,by rw[List.mem_append,not_or];exact⟨m1,m2⟩⟩
end
noncomputable def Bh(d:D):Bool:=match d with
 |.tup _=>true
 |.lst _=>true
 |_=>false
noncomputable def mC(p:PyData):Bool:=p.showable&&decide (p.depth<=100)&&decide (p.shown.length<=sizeLine)
noncomputable def lj(d:D):ai D:=match fg d with
 |some p=>if Bh d=true/\mC p=true then .ok (.str p.shown) else .stuck
 |none=>.stuck
theorem sC{k:Nat}(hr:cS k X.A):iL X (.builtin "repr") (λxs H Q=>∃v d p,xs=[v]/\Rep X.K H d v/\fg d=some p/\Bh d=true/\mC p=true/\Q (.str p.shown) H):=by
 intro pins s σ H xs us Q I r h;obtain⟨v,d,p,rfl,rd,e,hq,hw,q⟩:=h;obtain⟨u,rfl,rx⟩:=rn r;obtain⟨as,hR,hm⟩:=uO I d v u p rd rx e;have hu:∃a,u=.ref a:=by
  cases d with|tup ds=>obtain⟨a,_,_,_,h,_⟩:=aV I rd rx;exact⟨a,h⟩|lst ds=>obtain⟨a,_,_,_,h,_⟩:=aS I rd rx;exact⟨a,h⟩| _=>cases hq
 obtain⟨a,rfl⟩:=hu;unfold mC at hw;simp only[Bool.and_eq_true,decide_eq_true_eq] at hw;obtain⟨⟨w1,w3⟩,w4⟩:=hw;refine repr_of_reads' hR w1 (λ_=>hm) hr.gd (by have:=hr.un;omega) (λb o e=>e) (λh' u' tk hk=>⟨.str p.shown,H,I.kept hk,⟨u',rfl⟩,q⟩) w4
theorem zy:iM X E (λxs H Q=>∃v d p,xs=[v]/\Rep X.K H d v/\fg d=some p/\Bh d=true/\mC p=true/\Q (.str p.shown) H) (m1 lj):=wx λx v H Ha Q hs r q=>by
 unfold lj at q;cases e:fg x with
 |none=>rw[e] at q;exact q.elim
 |some p =>
  rw[e] at q;replace q:post X.K E H Ha (if Bh x=true/\mC p=true then .ok (.str p.shown) else .stuck) Q:=q
  by_cases hc:Bh x=true/\mC p=true
  .rw[if_pos hc] at q
   exact⟨v,x,p,rfl,r.mono hs,e,hc.1,hc.2,bf hs q (Rep.str_iff.mpr rfl)⟩
  .rw[if_neg hc] at q;exact q.elim
end
structure FT (K:W.Frag) (mg:Str->Option Value) (x:Str) (st:Stmt) (ps:List Str) (a:Addr) (d:FuncData):Prop where
 F:E1 K x x st a d
 b:jo K d ps []
 g:mg x=some (.ref a)
noncomputable def QA(K:W.Frag) (x:Str) (st:Stmt) (a:Addr):Prop:=W.nsIn K mainGlobals x=some (some (.ref a))/\W.keepIn K (.ref a)=true/\∃oc kV dc pm cd ct od an sl,K.lookup a=some ⟨oc,od,.func (W.fnOf x x (defArgs st) (defBody st) (defScope st) .none kV dc pm an cd ct),sl⟩/\W.codeIn K cd x=true
theorem JA{K:W.Frag}{h:Heap}{st:Stmt}{ps:List Str}(X:K.In h)(G:h.Ns mainGlobals mg)(q:QA K x st a)
  (hb:∀(kV doc pm:Value) (an:Option Addr) (cdv ct:Value) (us:List Value),us.length=ps.length->bindArgs (W.fnOf x x (defArgs st) (defBody st) (defScope st) .none kV doc pm an cdv ct) ⟨us,[]⟩=pure (ps.zip us)) :
  ∃d,FT K mg x st ps a d/\∃kV doc pm an cdv ct,d=W.fnOf x x (defArgs st) (defBody st) (defScope st) .none kV doc pm an cdv ct:=by
 obtain⟨e1,e4,oc,kV,dc,pm,cd,ct,od,an,sl,e2,e3⟩:=q;exact⟨_,⟨Ci e2 e3 e4,(Ci (st:=st) e2 e3 e4).binds hb,W.mg_of X G e1⟩,_,_,_,_,_,_,rfl⟩
section
variable {X:Cx}{E:XK}{e:Expr}{es:List Expr}{fa:Ev->ai (List D)}{f g h i j:Ev->ai D}{pos:Pos}{CX:zK}{k n:Nat}{fn:Addr}{fd:FuncData}{ps:List Str}{m:List D->ai D}{x:Str}{p:Pos}{st:Stmt}
theorem K7(ρ:Ev)(ds:List D)(h:ah f aF ρ=.ok ds):ds.length=1:=mn (λ_ h=>CY h) h
theorem K6(ρ:Ev)(ds:List D)(q:ah f (ah g aF) ρ=.ok ds):ds.length=2:=mn (K7 ρ) q
theorem LI(ρ:Ev)(ds:List D)(q:ah f (ah g (ah h aF)) ρ=.ok ds):ds.length=3:=mn (K6 ρ) q
end
section
variable {X:Cx}{E:XK}{He H0e:Hp}{a:Addr}{e:Expr}{es:List Expr}{pos:Pos}{f g:Ev->ai D}{fm gm hm im jm:Ev->List D->ai (D×List D)}{fa:Ev->List D->ai (List D×List D)}{s:Ev->List D->ai dY}{st:Stmt}
noncomputable def mD(f:Ev->ai D):Ev->ai Fl:=λρ=>(f ρ).bind λd=>.ok (.rt d)
theorem l6(h:DF X E e f):wJ X E He H0e [.Return (some e) pos] (mD f):=by
 refine⟨er (fQ (tf h.o) nv) λD' σ H ⟨Ha,ρ,h,q⟩=>⟨Ha,ρ,h.g.sub,h.rd,?_⟩⟩;unfold mD at q;cases e1:f ρ with
 |stuck=>rw[e1] at q;exact q|exn x=>rw[e1] at q;exact λC ox H' Ha' g r=>q C ox H' Ha' (h.g.trans g) r
 |ok d =>
  rw[e1] at q;cases d with|lst ds=>exact λp vs H' Ha' g hp h0 hv rp=>q p vs H' Ha' (h.g.trans g) (h.g.s.free hp) h0 hv rp| _=>exact q.elim
theorem rJ(hr:∀ρ st ds,fa ρ st=.ok ds->ds.1.length=n)(ρ:Ev)(st:List D)(ds:List D×List D)(h:bG fm fa ρ st=.ok ds):ds.1.length=n+1:=by
 unfold bG at h;cases e1:fm ρ st with
 |stuck|exn x=>rw[e1] at h;cases h
 |ok p =>
  rw[e1] at h;simp only[ai.bind] at h;cases e2:fa ρ p.2 with|stuck|exn x=>rw[e2] at h;cases h|ok q=>rw[e2] at h;cases h;simp [hr _ _ _ e2]
theorem LH(ρ:Ev)(st:List D)(ds:List D×List D)(h:c7 ρ st=.ok ds):ds.1.length=0:=by cases h;rfl
theorem K5(ρ:Ev)(st:List D)(ds:List D×List D)(h:bG fm c7 ρ st=.ok ds):ds.1.length=1:=rJ LH ρ st ds h
theorem LG(ρ:Ev)(st:List D)(ds:List D×List D)(h:bG fm (bG gm c7) ρ st=.ok ds):ds.1.length=2:=rJ K5 ρ st ds h
variable {CX:zK}{k n:Nat}{fn:Addr}{fd:FuncData}{ps:List Str}{x:Str}{p:Pos}{ft:Stmt}
theorem qc(ha:DM X He H0e a l fm)(hb:DM X He H0e a b gm):DM X He H0e a (.BinOp l .Add b pos) (mB fm gm cq):=FH (E:=E0) (eE.or BU (eE.or oo (eE.or yB yA))) (by
 intro x y v u H Ha Q hs r1 r2 q;unfold cq at q;cases x with
 |int i =>
  cases y with|int j=>exact .inl ⟨i,j,au.mp r1,au.mp r2,bf hs q (ri _)⟩| _=>exact q.elim
 |str i =>
  cases y with
  |str j =>
   by_cases h:i.length+j.length<=line
   .simp only[if_pos h] at q
    exact .inr (.inl ⟨i,j,Rep.str_iff.mp r1,Rep.str_iff.mp r2,c8 h,bf hs q (Rep.str_iff.mpr rfl)⟩)
   .simp only[if_neg h] at q;exact q.elim
  |_=>exact q.elim
 |lst ds =>
  cases y with
  |lst es =>
   by_cases h:ds.length+es.length<=line
   .simp only[if_pos h] at q
    obtain⟨l,vs,rfl,h1,h2⟩:=aH.mp r1;obtain⟨m,us,rfl,k1,k2⟩:=aH.mp r2;refine .inr (.inr (.inl ⟨l,m,vs,us,rfl,rfl,aA.sqL hs h1,aA.sqL hs k1,by rw[←h2.length,←k2.length];exact c8 h,λp hp=>?_⟩));exact q _ _ _ (bo hs hp) (aH.mpr ⟨p,_,rfl,eD.of aB,(h2.app k2).mono (bo hs hp).z⟩)
   .simp only[if_neg h] at q;exact q.elim
  |_=>exact q.elim
 |tup ds =>
  cases y with
  |tup es =>
   by_cases h:ds.isEmpty=false/\ds.length+es.length<=line
   .simp only[if_pos h] at q
    obtain⟨l,vs,rfl,h1,h2⟩:=aJ.mp r1;obtain⟨m,us,rfl,k1,k2⟩:=aJ.mp r2;refine .inr (.inr (.inr ⟨l,m,vs,us,rfl,rfl,aA.sqT hs h1,aA.sqT hs k1,λz=>?_,by rw[←h2.length,←k2.length];exact c8 h.2,λz=>?_,λz p hp=>?_⟩))
    .have:=h2.length
     rw[z] at this;have e:ds=[]:=List.length_eq_zero_iff.mp this;rw[e] at h;exact absurd h.1 (by decide)
    .have:=k2.length
     rw[z] at this;have e:es=[]:=List.length_eq_zero_iff.mp this;rw[e,List.append_nil] at q;exact bf hs q r1
    .exact q _ _ _ (bo hs hp) (aJ.mpr ⟨p,_,rfl,jc.of aB,(h2.app k2).mono (bo hs hp).z⟩)
   .simp only[if_neg h] at q;exact q.elim
  |_=>exact q.elim
 |_=>exact q.elim) ha hb
theorem CF(ha:DM X He H0e a l fm)(hb:DM X He H0e a b gm):DM X He H0e a (.BinOp l .Mod b pos) (mB fm gm cN):=FH (E:=E0) yx (tL (λ_ _ h=>of_decide_eq_true h) λ_ _ _ _=>ri _) ha hb
theorem uh(ha:DM X He H0e a l fm)(hb:DM X He H0e a b gm)(hs:lF b:=by intro _ _;rfl):DM X He H0e a (.Subscript l b pos) (mB fm gm aN):=JJ (E:=E0) Cb Fh ha hb hs
theorem KN(N:List Str)(n:Nat)(fr:List Nat)(hc:X.calm=true)(hi:MI X He H0e a tgt iter src)(hok:wD n tg)
  (blk:∀s H C fp pn,(∀He H0e,DG (cx X N scope s H C fp pn) E He H0e tgt tg)/\∀He H0e,DM (cx X N scope s H C fp pn) He H0e a elt fm)
  (hfr:xX X N n fr scope)(hcell:(scope.names.all λx=>!(x.2==.cell))=true)(hfree:(scope.names.all λx=>!(x.2==.free)||(X.env.scope.names.lookup x.1==some .cell))=true)(hkind:scope.kind=.function)
  (hnames:(scope.names.all λx=>!(x.2==.local)||(scope.names.lookup x.1==some .local))=true)
  (hs:∀x,foldedSetIterable iter X.env x=pure x:=by intro _;rfl):Lf X He H0e a (.ListComp elt [⟨tgt,iter,[],0⟩] scope pos) (mQ n fr src tg fm):=by
 refine L8 (E:=E) N n fr hc hi hok blk hfr (λx hx z=>?_) (λx hx z=>?_) hkind (λx hx z=>?_) hs
 .have:=List.all_eq_true.mp hcell x hx
  rw[z] at this;simp at this
 .have:=List.all_eq_true.mp hfree x hx
  rw[z] at this;simpa using this
 .have:=List.all_eq_true.mp hnames x hx
  rw[z] at this;simpa using this
end
noncomputable def jL:List Str->List D->Str->Option D
 |k::ks,d::ds,x=>if k=x then some d else jL ks ds x
 |_,_,_=>none
noncomputable def dS(x y:D):ai D:=match x,y with
 |.dic ks ds,.str k=>match jL ks ds k with
  |some d=>.ok d
  |none=>.stuck
 |_,_=>.stuck
noncomputable def qg(x y:D):ai D:=match x,y with
 |.str k,.dic ks ds=>.ok (.bl (jL ks ds k).isSome)
 |_,_=>.stuck
noncomputable def ef(x y:D):ai D:=match x,y with
 |.str k,.dic ks ds=>.ok (.bl (!(jL ks ds k).isSome))
 |_,_=>.stuck
theorem ml{K:W.Frag}{H:Hp}{k:Str}:∀{ks:List Str}{ds:List D}{vs:List V},ks.length=vs.length->Reps K H ds vs ->
  (∀d,jL ks ds k=some d->∃v,m6 ((ks.map Sum.inr).zip vs) (Sum.inr k:eS)=some v/\Rep K H d v)/\(jL ks ds k=none->m6 ((ks.map Sum.inr).zip vs) (Sum.inr k:eS)=none)
 |[],ds,vs,hl,r=>by
  exact⟨λd e=>(nomatch e),λ_=>rfl⟩
 |x::ks,ds,vs,hl,r=>by
  cases vs with
  |nil=>cases hl
  |cons v vs =>
   cases ds with
   |nil=>have:=Reps.nil_iff.mp r;cases this
   |cons d ds =>
    obtain⟨v',vr,e0,h1,h2⟩:=aE.mp r;cases e0;obtain⟨i1,i2⟩:=ml (k:=k) (ks:=ks) (ds:=ds) (vs:=vs) (by simpa using hl) h2;rw[List.map_cons,List.zip_cons_cons]
    by_cases hx:x=k
    .subst hx
     refine⟨λd' e=>?_,λe=>?_⟩
     .rw[jL,if_pos rfl] at e;cases e
      exact⟨v,jN rfl,h1⟩
     .rw[jL,if_pos rfl] at e;cases e
    .have hne:¬(Sum.inr x:eS)=Sum.inr k:=λz=>hx (Sum.inr.inj z)
     refine⟨λd' e=>?_,λe=>?_⟩
     .rw[jL,if_neg hx] at e
      rw[gY hne];exact i1 d' e
     .rw[jL,if_neg hx] at e
      rw[gY hne];exact i2 e
section
variable {X:Cx}{E:XK}{a b:Expr}{f g:Ev->ai D}{pos:Pos}
noncomputable abbrev IL:R2:=λx y H Q=>∃p v,x=.ref p/\qJ H p y (some v)/\Q v H
noncomputable abbrev IK:R2:=λy x H Q=>∃p o,x=.ref p/\qJ H p y o/\Q (.bl o.isSome) H
noncomputable abbrev yk:R2:=λy x H Q=>∃p o,x=.ref p/\qJ H p y o/\Q (.bl (!o.isSome)) H
theorem Ed:qL X.K E IL dS:=by
 intro x y v u H Ha Q hs r1 r2 q;unfold dS at q;cases x with
 |dic ks ds =>
  cases y with
  |str k =>
   rw[Rep] at r1;obtain⟨p,kvs,vs,rfl,h1,rfl,hl,h4⟩:=r1;rw[Rep.str_iff.mp r2];cases e:jL ks ds k with
   |none=>simp only[e] at q;exact q.elim
   |some d =>
    simp only[e] at q;obtain⟨v,hv,rv⟩:=(ml hl h4).1 d e;exact⟨p,v,rfl,.inl ⟨_,.inr k,aA.rd hs h1,rfl,hv.symm⟩,bf hs q rv⟩
  |_=>exact q.elim
 |_=>exact q.elim
theorem yR{k:Str}{K:W.Frag}(hs:aA Ha H)(r1:Rep K Ha (.str k) v)(r2:Rep K Ha (.dic ks ds) u):∃p o,u=.ref p/\qJ H p v o/\o.isSome=(jL ks ds k).isSome:=by
 rw[Rep] at r2;obtain⟨p,kvs,vs,rfl,h1,rfl,hl,h4⟩:=r2;rw[Rep.str_iff.mp r1];refine⟨p,_,rfl,.inl ⟨_,.inr k,aA.rd hs h1,rfl,rfl⟩,?_⟩;cases e:jL ks ds k with|none=>rw[(ml hl h4).2 e];rfl|some d=>obtain⟨v,hv,_⟩:=(ml hl h4).1 d e;rw[hv];rfl
theorem xn:qL X.K E IK qg:=by
 intro x y v u H Ha Q hs r1 r2 q;unfold qg at q;cases x with
 |str k =>
  cases y with
  |dic ks ds =>
   obtain⟨p,o,e1,e2,e3⟩:=yR hs r1 r2;exact⟨p,o,e1,e2,by rw[e3];exact bf hs q (rb _)⟩
  |_=>exact q.elim
 |_=>exact q.elim
theorem lV:qL X.K E yk ef:=by
 intro x y v u H Ha Q hs r1 r2 q;unfold ef at q;cases x with
 |str k =>
  cases y with
  |dic ks ds =>
   obtain⟨p,o,e1,e2,e3⟩:=yR hs r1 r2;exact⟨p,o,e1,e2,by rw[e3];exact bf hs q (rb _)⟩
  |_=>exact q.elim
 |_=>exact q.elim
theorem xj(hu:X.A.units+1<cLine):eE X (compareOp .In) IK:=by
 intro pins s σ H x y v u Q I rx ry h;obtain⟨p,o,rfl,g,q⟩:=h;cases ry;exact K3 hu I g rx λs' I'=>⟨.bl o.isSome,H,I',rfl,q⟩
theorem lS(hu:X.A.units+1<cLine):eE X (compareOp .NotIn) yk:=by
 intro pins s σ H x y v u Q I rx ry h;obtain⟨p,o,rfl,g,q⟩:=h;cases ry;exact EH hu I g rx λs' I'=>⟨.bl (!o.isSome),H,I',rfl,q⟩
theorem gE(hu:X.A.units+1<cLine)(ha:DE X E a f)(hb:DE X E b g)(hs:HP b:=by intro _ _;rfl):DE X E (.Subscript a b pos) (ae f g dS) :=
 ⟨aR (D6 hu ha.o hb.o hs) (fN Ed)⟩
end
section
variable {K:W.Frag}{E:XK}{He H0e Ha H H1:Hp}{σ:L2.St}{ρ:Ev}
theorem df.putOwnG(h:df K He H0e Ha σ H ρ)(hp:∀(j:Nat) (a:Addr),σ[j]?=some (some (V.ref a))->a=p->∀d:D,ρ[j]?≠some (Sl.ow d))(he:He p=none)(h0:Ha p=none)(ho:EW K Ha H p dn)(hx:∀(i j:Nat) (ds:List D) (a q:Addr),ρ[i]?=some (.ox j ds)->σ[i]?=some (some (.ref a))->JS K He Ha H a j ds q->p≠q) :
  df K He H0e Ha (σ.set i (some (.ref p))) H (ρ.set i (.ow dn)):=by
 have key:∀(j:Nat) (s:Sl),(ρ.set i (.ow dn))[j]?=some s->(j=i/\s=.ow dn/\i<σ.length)∨(j≠i/\ρ[j]?=some s):=λj s e=>by
  by_cases hj:i=j
  .subst hj
   rw[List.getElem?_set_self'] at e;cases q:ρ[i]? with
   |none=>rw[q] at e;cases e
   |some s' =>
    rw[q] at e;cases e;refine .inl ⟨rfl,rfl,?_⟩;rw[←h.ln];exact(List.getElem?_eq_some_iff.mp q).1
  .rw[List.getElem?_set_ne hj] at e
   exact .inr ⟨λz=>hj z.symm,e⟩
 have other:∀(k:Nat) (d2:D),k≠i->ρ[k]?=some (.ow d2)->some (some (V.ref p))≠σ[k]?:=λk d2 hk e2 z=>by
  obtain⟨a,h1,_⟩:=h.ow k d2 e2;rw[h1] at z;cases z;exact hp k p h1 rfl d2 e2
 refine⟨h.g,λj d' e=>?_,λj d' e=>?_,λj k d1 d2 hn e1 e2=>?_,by simp [h.ln],h.ex.upd (λj s e=>?_) (aA.refl _) (λa vs _ e=>e) λp us _ h0 hp _=>⟨hp,h0⟩⟩
 rotate_left 3
 .rcases key j _ e with⟨rfl,e',hl⟩|⟨hj,e'⟩
  .exact .inr (.inr (.inr ⟨dn,p,e',by rw[List.getElem?_set_self hl],hx⟩))
  .exact .inl ⟨e',by rw[List.getElem?_set_ne (Ne.symm hj)]⟩
 .rcases key j _ e with⟨rfl,e',hl⟩|⟨hj,e'⟩
  .cases e'
  .obtain⟨v',h1,h2⟩:=h.rd j d' e'
   exact⟨v',by rw[List.getElem?_set_ne (Ne.symm hj)];exact h1,h2⟩
 .rcases key j _ e with⟨rfl,e',hl⟩|⟨hj,e'⟩
  .cases e'
   exact⟨p,by rw[List.getElem?_set_self hl],he,h0,ho⟩
  .obtain⟨a,h1,h2⟩:=h.ow j d' e'
   exact⟨a,by rw[List.getElem?_set_ne (Ne.symm hj)];exact h1,h2⟩
 .rcases key j _ e1 with⟨rfl,_,hl⟩|⟨hj,e1'⟩
  .rcases key k _ e2 with⟨rfl,_,_⟩|⟨hk,e2'⟩
   .exact absurd rfl hn
   .rw[List.getElem?_set_self hl,List.getElem?_set_ne (Ne.symm hk)]
    exact other k d2 hk e2'
  .rcases key k _ e2 with⟨rfl,_,hl⟩|⟨hk,e2'⟩
   .rw[List.getElem?_set_self hl,List.getElem?_set_ne (Ne.symm hj)]
    exact λz=>other j d1 hj e1' z.symm
   .rw[List.getElem?_set_ne (Ne.symm hj),List.getElem?_set_ne (Ne.symm hk)]
    exact h.ap j k d1 d2 hn e1' e2'
theorem df.writeG(h:df K He H0e Ha σ H ρ)(e:ρ[i]?=some (.ow d))(es:σ[i]?=some (some (.ref p)))(ho:EW K Ha (upd H p o) p dn) :
  df K He H0e Ha σ (upd H p o) (ρ.set i (.ow dn)):=by
 obtain⟨a,h1,h2,h3,h4⟩:=h.ow i d e;rw[h1] at es;cases es;have hil:i<ρ.length:=(List.getElem?_eq_some_iff.mp e).1;have key:∀(j:Nat) (s:Sl),(ρ.set i (.ow dn))[j]?=some s->(j=i/\s=.ow dn)∨(j≠i/\ρ[j]?=some s):=λj s e=>by
  by_cases hj:i=j
  .subst hj
   rw[List.getElem?_set_self hil] at e;cases e;exact .inl ⟨rfl,rfl⟩
  .rw[List.getElem?_set_ne hj] at e
   exact .inr ⟨λz=>hj z.symm,e⟩
 refine⟨⟨λb o' eb=>?_,h.g.z,λb o' eb=>?_,h.g.nw⟩,λj d' e'=>?_,λj d' e'=>?_,λj k d1 d2 hn e1 e2=>?_,by simp [h.ln],h.ex.upd (λj s e'=>?_) (aA.refl _) (λb us _ eb=>?_) λq us _ q0 hq hd=>?_⟩
 rotate_left 5
 .rcases key j _ e' with⟨rfl,e''⟩|⟨hj,e''⟩
  .exact .inr (.inr (.inr ⟨dn,p,e'',h1,λi' j' ds' a' p' x1 x2 x3=>by
    obtain⟨a2,p2,y1,y2,y3,_⟩:=h.ex.1 i' j' ds' x1;rw[x2] at y1;cases y1;have:p2=p':=by
     obtain⟨vs1,_,_,_,z1,_,_,_,z2,_⟩:=x3;obtain⟨vs2,_,_,_,z3,_,_,_,z4,_⟩:=y2;rw[z1] at z3;cases z3;rw[z2] at z4;cases z4;rfl
    subst this;intro zz;subst zz;exact y3 j d e h1⟩))
  .exact .inl ⟨e'',rfl⟩
 .rw[av (by
   intro z;subst z;cases d with
   |lst ds'|dic ks ds'=>obtain⟨vs',h5,_⟩:=h4;rw[h5] at eb;cases eb
   |_=>exact h4)];exact eb
 .have hq':q≠p:=by
   intro z;subst z;exact hd i d e h1
  exact⟨by rw[av hq'];exact hq,q0⟩
 .rw[av (by intro z;subst z;rw[h2] at eb;cases eb)];exact h.g.s _ _ eb
 .rw[av (by intro z;subst z;rw[h3] at eb;cases eb)];exact h.g.sub _ _ eb
 .rcases key j _ e' with⟨rfl,e''⟩|⟨hj,e''⟩
  .cases e''
  .exact h.rd j d' e''
 .rcases key j _ e' with⟨rfl,e''⟩|⟨hj,e''⟩
  .cases e''
   exact⟨p,h1,h2,h3,ho⟩
  .obtain⟨b,k1,k2,k3,k4⟩:=h.ow j d' e''
   refine⟨b,k1,k2,k3,?_⟩;have hb:b≠p:=by
    intro z;subst z;exact h.ap j i d' d hj e'' e (by rw[k1,h1])
   cases d' with
   |lst ds' =>
    obtain⟨vs',h5,h6⟩:=k4;exact⟨vs',by rw[av hb];exact h5,h6⟩
   |dic ks ds' =>
    obtain⟨vs',h5,hl,h6⟩:=k4;exact⟨vs',by rw[av hb];exact h5,hl,h6⟩
   |_=>exact k4.elim
 .rcases key j _ e1 with⟨rfl,e1'⟩|⟨hj,e1'⟩
  .rcases key k _ e2 with⟨rfl,_⟩|⟨hk,e2'⟩
   .exact absurd rfl hn
   .exact h.ap j k d d2 hn e e2'
  .rcases key k _ e2 with⟨rfl,_⟩|⟨hk,e2'⟩
   .exact h.ap j k d1 d hn e1' e
   .exact h.ap j k d1 d2 hn e1' e2'
end
noncomputable def w6:List Str->List D->Str->D->List D
 |k::ks,e::ds,x,d=>(if k=x then d else e)::w6 ks ds x d
 |_,ds,_,_=>ds
noncomputable def qQ(ks:List Str) (ds:List D) (k:Str) (d:D):D:=if k∈ks then .dic ks (w6 ks ds k d) else .dic (ks++[k]) (ds++[d])
theorem zB{k:Str}:∀{ks:List Str}{vs:List V},ks.length=vs.length->(((ks.map Sum.inr).zip vs).any λkv=>decide (kv.1=(Sum.inr k:eS)))=decide (k∈ks)
 |[],_,_=>rfl
 |x::ks,[],h=>nomatch h
 |x::ks,v::vs,h=>by
  rw[List.map_cons,List.zip_cons_cons,List.any_cons,zB (by simpa using h)]
  by_cases hx:x=k
  .subst hx;simp
  .have:¬k=x:=λz=>hx z.symm
   simp [hx,this]
theorem yi{K:W.Frag}{H:Hp}{k:Str}{d:D}{v:V}(r:Rep K H d v):∀{ks:List Str}{ds:List D}{vs:List V},ks.length=vs.length->Reps K H ds vs ->
  ∃vs',(((ks.map Sum.inr).zip vs).map λkv=>if kv.1=(Sum.inr k:eS) then(kv.1,v) else kv)=(ks.map Sum.inr).zip vs'/\ks.length=vs'.length/\Reps K H (w6 ks ds k d) vs'
 |[],ds,vs,hl,h=>⟨vs,rfl,hl,by cases ds<;>exact h⟩
 |x::ks,ds,[],hl,h=>nomatch hl
 |x::ks,[],v'::vs,hl,h=>by have:=Reps.nil_iff.mp h;cases this
 |x::ks,e::ds,v'::vs,hl,h=>by
  obtain⟨v2,vr,e0,h1,h2⟩:=aE.mp h;cases e0;obtain⟨vs',i1,i2,i3⟩:=yi r (ks:=ks) (ds:=ds) (vs:=vs) (by simpa using hl) h2;rw[List.map_cons,List.zip_cons_cons,List.map_cons,i1]
  by_cases hx:x=k
  .subst hx
   refine⟨v::vs',by rw[if_pos rfl];rfl,by simp [i2],?_⟩;rw[w6,if_pos rfl];exact Reps.cons r i3
  .have hne:¬(Sum.inr x:eS)=Sum.inr k:=λz=>hx (Sum.inr.inj z)
   refine⟨v'::vs',by rw[if_neg hne];rfl,by simp [i2],?_⟩;rw[w6,if_neg hx];exact Reps.cons h1 i3
theorem Reps.snoc{K:W.Frag}(r:Rep K H d v):∀{ds:List D}{vs:List V},Reps K H ds vs->Reps K H (ds++[d]) (vs++[v])
 |[],vs,h=>by rw[Reps.nil_iff.mp h];exact Reps.cons r Reps.nil
 |e::ds,vs,h=>by
  obtain⟨v2,vr,rfl,h1,h2⟩:=aE.mp h;exact Reps.cons h1 (Reps.snoc r h2)
theorem DR{K:W.Frag}{k:Str}{vs:List V}(hl:ks.length=vs.length)(h:Reps K Ha ds vs)(r:Rep K Ha d v):EW K Ha (upd H p (.dK (fP ((ks.map Sum.inr).zip vs) (Sum.inr k) v))) p (qQ ks ds k d):=by
 unfold qQ;rw[show ∀(kvs:List (eS×V)) (u:V),fP kvs (Sum.inr k:eS) u=if(kvs.any λkv=>decide (kv.1=(Sum.inr k:eS)))=true then kvs.map (λkv=>if kv.1=(Sum.inr k:eS) then(kv.1,u) else kv) else kvs++[((Sum.inr k:eS),u)] from λ_ _=>rfl];rw[zB hl]
 by_cases hk:k∈ks
 .rw[if_pos hk,if_pos (decide_eq_true hk)]
  obtain⟨vs',i1,i2,i3⟩:=yi (k:=k) r hl h;exact⟨vs',by rw[aB,i1],i2,i3⟩
 .rw[if_neg hk,if_neg (by rw[decide_eq_false hk];decide)]
  refine⟨vs++[v],by rw[aB,List.map_append,List.zip_append (by rw[List.length_map];exact hl)];rfl,by simp [hl],Reps.snoc r h⟩
noncomputable def LZ(K:W.Frag) (E:XK) (f:Ev->ai D):TE:=λσ H Q=>∃Ha ρ,aA Ha H/\Reads K Ha σ ρ/\match f ρ with
 |.ok (.dic ks ds)=>∀p vs H' Ha',aU H Ha H' Ha'->H p=none->Ha' p=none->H' p=some (.dK ((ks.map Sum.inr).zip vs))->ks.length=vs.length->Reps K Ha' ds vs->Q (.ref p) H'
 |.ok _=>False
 |.exn x=>∀C ox H' Ha',aU H Ha H' Ha'->zJ K Ha' x C ox->E C ox H'
 |.stuck=>False
structure Li (X:Cx) (E:XK) (e:Expr) (f:Ev->ai D):Prop where
 o:PE X e (LZ X.K E f)
noncomputable def yu(i:Nat) (ρ:Ev) (d:D):ai Fl:=match d with
 |.dic ks ds=>.ok (.nx (ρ.set i (.ow (.dic ks ds))))
 |_=>.stuck
noncomputable def rD(i:Nat) (f:Ev->ai D):Ev->ai Fl:=λρ=>(f ρ).bind (yu i ρ)
section
variable {X:Cx}{E:XK}{He H0e:Hp}{e b:Expr}{pos:Pos}{f k:Ev->ai D}
theorem ue(hN:X.N.Nodup)(hi:X.N[i]?=some x)(hx:AS X.env.scope x)(he:Li X E e f)(hs:swapsWith e (some (.Name x pos')) pos.line X.env=pure false:=by rfl)
  (hf:X.fn x=true∨X.env.scope.names.lookup x=some .local := by first|exact .inl rfl|exact .inr rfl|assumption):DS X E He H0e (.Assign [.Name x pos'] e pos) (rD i f):=by
 refine⟨?_⟩;refine bB (lQ hN hi hx he.o hs hf) λD σ H ⟨Ha,ρ,h,q⟩=>⟨Ha,ρ,h.g.sub,h.rd,?_⟩
 unfold rD at q;cases e1:f ρ with
 |stuck=>rw[e1] at q;exact q|exn x=>rw[e1] at q;exact λC ox H' Ha' g ex=>q C ox H' Ha' (h.g.trans g) ex
 |ok d =>
  rw[e1] at q;cases d with
  |dic ks ds =>
   intro p vs H' Ha' g hp h0 hv hl rp;refine q _ H' Ha' g.z ((h.grow g).putOwnG (dn:=.dic ks ds) (λj a ej ea d ed=>?_) (h.g.s.free hp) h0 ⟨vs,hv,hl,rp⟩ (h.fresh_x g.s hp));subst ea;obtain⟨a',k1,_,_,k4⟩:=h.ow j d ed;rw[ej] at k1;cases k1;cases d with|lst ds'|dic ks ds'=>obtain⟨vs',h5,_⟩:=k4;rw[hp] at h5;cases h5| _=>exact k4.elim
  |_=>exact q.elim
theorem EC:Li X E (.Dict [] [] pos) (dC (.dic [] [])):=by
 refine⟨aR BM λσ H Q ⟨Ha,ρ,hs,hr,q⟩=>λp hp=>?_⟩;have q:∀p vs H' Ha',aU H Ha H' Ha'->H p=none->Ha' p=none->H' p=some (.dK ((([]:List Str).map Sum.inr).zip vs))->([]:List Str).length=vs.length->Reps X.K Ha' [] vs->Q (.ref p) H':=q;have h0:Ha p=none:=hs.free hp;refine q p [] _ Ha ⟨λb o q=>by rw[av (bh q hp)];exact q,aA.refl _,λb o q=>?_,λa h1 h2=>absurd h2 h1⟩ hp h0 aB rfl Reps.nil;rw[av (by intro z;subst z;rw[h0] at q;cases q)];exact hs _ _ q
end
noncomputable def CK(k d:D):ai D:=match k with
 |.str x=>.ok (.dic [x] [d])
 |_=>.stuck
noncomputable def wg(kf vf:Ev->ai D):Ev->ai D:=ae kf vf CK
noncomputable def xi(ρ:Ev) (i:Nat) (k:List Str->List D->ai Fl):ai Fl:=match ρ[i]? with
 |some (.ow (.dic ks ds))=>k ks ds
 |_=>.stuck
noncomputable def jT(i:Nat) (ρ:Ev) (ks:List Str) (ds:List D) (d j:D):ai Fl:=match j with
 |.str x=>if ks.length<line then .ok (.nx (ρ.set i (.ow (qQ ks ds x d)))) else .stuck
 |_=>.stuck
noncomputable def mE(i:Nat) (f k:Ev->ai D):Ev->ai Fl:=λρ=>xi ρ i λks ds=>(f ρ).bind λd=>(k ρ).bind (jT i ρ ks ds d)
section
variable {X:Cx}{E:XK}{He H0e:Hp}{e b:Expr}{pos:Pos}{f k:Ev->ai D}
theorem rX(hk:DE X E b k)(hv:DE X E e f):Li X E (.Dict [some b] [e] pos) (wg k f):=by
 refine⟨?_⟩;refine aR (D5 (BG hk.o hv.o DX) rfl rfl (by simp) (by simp)) λσ H Q ⟨Ha,ρ,hs,hr,q⟩ p hpn=>?_;have h0:Ha p=none:=hs.free hpn;have hs2:aA Ha (upd H p (.dK [])):=λb o e=>by rw[av (by intro z;subst z;rw[h0] at e;cases e)];exact hs _ _ e
 have back:∀{H' Ha':Hp},aU (upd H p (.dK [])) Ha H' Ha'->aU H Ha H' Ha':=λg=>⟨λb o e=>g.s _ _ (by rw[av (bh e hpn)];exact e),g.z,g.sub,λa k1 k2=>by
   have:=g.nw a k1 k2
   by_cases ha:a=p
   .subst ha;exact hpn
   .rw[av ha] at this;exact this⟩
 refine⟨Ha,ρ,hs2,hr,?_⟩;unfold wg ae at q;cases e1:k ρ with
 |stuck=>rw[e1] at q;exact q|exn z=>rw[e1] at q;exact λC ox H' Ha' g ex=>q C ox H' Ha' (back g) ex
 |ok kd =>
  rw[e1] at q;intro xk H1 H01 g1 r1;refine⟨H01,ρ,g1.sub,hr.mono g1.z,?_⟩;cases e2:f ρ with
  |stuck=>rw[e2] at q;exact q|exn z=>rw[e2] at q;exact λC ox H' Ha' g ex=>q C ox H' Ha' (back (g1.trans g)) ex
  |ok d =>
   rw[e2] at q;intro v H2 H02 g2 r2;cases kd with
   |str x =>
    have G:=g1.trans g2;have hp2:H2 p=some (.dK []):=G.s _ _ aB;have n02:H02 p=none:=by
     cases qq:H02 p with|none=>rfl|some o=>have:=G.nw p (by rw[qq];simp) h0;rw[aB] at this;cases this
    rw[Rep.str_iff.mp r1];refine⟨hp2,[(Sum.inr x,v)],rfl,by simp,?_⟩;have q:∀p vs H' Ha',aU H Ha H' Ha'->H p=none->Ha' p=none->H' p=some (.dK (([x].map Sum.inr).zip vs))->[x].length=vs.length->Reps X.K Ha' [d] vs->Q (.ref p) H':=q;refine q p [v] _ H02 ⟨λb o e=>?_,G.z,λb o e=>?_,(back G).nw⟩ hpn n02 aB rfl (Reps.cons r2 Reps.nil)
    .rw[av (bh e hpn)];exact(back G).s _ _ e
    .rw[av (by intro z;subst z;rw[n02] at e;cases e)];exact G.sub _ _ e
   |_=>exact q.elim
theorem Ac{K:W.Frag}{k:List Str->List D->ai Fl}(h:df K He H0e Ha σ H ρ)(q:bQ K E He H0e Ha (xi ρ i k) D') :
  ∃ks ds p vs,ρ[i]?=some (.ow (.dic ks ds))/\σ[i]?=some (some (.ref p))/\H p=some (.dK ((ks.map Sum.inr).zip vs))/\ks.length=vs.length/\Reps K Ha ds vs/\bQ K E He H0e Ha (k ks ds) D':=by
 unfold xi at q;cases e:ρ[i]? with
 |none=>rw[e] at q;exact q.elim
 |some s =>
  rw[e] at q;cases s with
  |no|sh d|ox j ds|pt a=>exact q.elim
  |ow d =>
   cases d with
   |dic ks ds =>
    obtain⟨p,h1,h2,h3,vs,h4,h5,h6⟩:=h.ow i _ e;exact⟨ks,ds,p,vs,rfl,h1,h4,h5,h6,q⟩
   |_=>exact q.elim
theorem Bx{K:W.Frag}{vs:List V}(h:df K He H0e Ha σ H ρ)(e1:ρ[i]?=some (.ow (.dic ks ds)))(e2:σ[i]?=some (some (.ref p)))(e5:H p=some (.dK ((ks.map Sum.inr).zip vs)))(el:ks.length=vs.length)(e6:Reps K Ha ds vs)
  (rp:Rep K Ha d v)(rj:Rep K Ha j u)(q:bQ K E He H0e Ha (jT i ρ ks ds d j) D'):∃a H4,V.ref p=.ref a/\AN H a u v H4/\D'.nx σ H4:=by
 unfold jT at q;cases j with
 |str x =>
  by_cases hl:ks.length<line
  .simp only[if_pos hl] at q
   rw[Rep.str_iff.mp rj];refine⟨p,_,rfl,AN.k (k:=.inr x) e5 ?_,?_⟩
   .rw[List.length_zip,List.length_map,←el,Nat.min_self]
    have:line<=sizeLine:=c8 (Nat.le_refl _);omega
   .exact q σ _ Ha (aA.refl _) (h.writeG e1 e2 (DR el e6 rp))
  .simp only[if_neg hl] at q;exact q.elim
 |_=>exact q.elim
theorem ud(hu:X.A.units+1<cLine)(hN:X.N[i]?=some x)(hv:CZ X.env.scope x)(he:DE X E e f)(hk:DE X E b k)
  (hd:(x==("__debug__":Str))=false:=by decide)(hcd:(x==("__classdict__":Str))=false:=by decide)
  (hs:swapsWith e (some (.Subscript (.Name x p1) b p2)) pos.line X.env=pure false:=by rfl):DS X E He H0e (.Assign [.Subscript (.Name x p1) b p2] e pos) (mE i f k):=by
 refine⟨?_⟩;refine bB (DV hu (ju hN hv hd hcd) hk.o he.o hs) λD σ H ⟨Ha,ρ,h,q⟩=>⟨Ha,ρ,h.g.sub,h.rd,?_⟩
 obtain⟨ks,ds,p,vs,e1,e2,e5,el,e6,q⟩:=Ac h q;refine plain (k:=λd=>(k ρ).bind (jT i ρ ks ds d)) h q λd v H1 H01 _ g1 r1 q1=>⟨.ref p,e2,?_⟩
 have h1':=h.grow g1;refine⟨H01,ρ,h1'.g.sub,h1'.rd,plain (k:=jT i ρ ks ds d) h1' q1 λj u H2 H02 _ g2 r2 q2=>?_⟩;exact Bx (h1'.grow g2) e1 e2 (g2.s _ _ (g1.s _ _ e5)) el ((e6.mono g1.z).mono g2.z) (r1.mono g2.z) r2 q2
end
mutual
def nd:D->Bool
 |.lst ds=>nds ds
 |.tup ds=>nds ds
 |.dic _ _=>false
 |.exc _=>false
 |.ob _ _=>false
 |_=>true
def nds:List D->Bool
 |[]=>true
 |d::ds=>nd d&&nds ds
end
mutual
theorem Rep.nd_to{K:W.Frag}{H H':Hp}(et:∀a vs,Rd H a (.tup vs)->Rd H' a (.tup vs))(el:∀a vs,Rd H a (.lst vs)->Rd H' a (.lst vs)):∀{d:D}{v:V},nd d=true->Rep K H d v->Rep K H' d v
 |.non,_,_,h=>by unfold Rep at h ⊢;exact h
 |.bl _,_,_,h=>by unfold Rep at h ⊢;exact h
 |.int _,_,_,h=>by unfold Rep at h ⊢;exact h
 |.str _,_,_,h=>by unfold Rep at h ⊢;exact h
 |.tup ds,_,f,h=>by
  unfold nd at f;obtain⟨a,vs,e1,e2,e3⟩:=aJ.mp h;refine aJ.mpr ⟨a,vs,e1,?_,Reps.nd_to et el f e3⟩;rcases e2 with e2|e2
  .exact .inl (et _ _ e2)
  .exact .inr e2
 |.lst ds,_,f,h=>by
  unfold nd at f;obtain⟨a,vs,e1,e2,e3⟩:=aH.mp h;refine aH.mpr ⟨a,vs,e1,?_,Reps.nd_to et el f e3⟩;rcases e2 with e2|e2
  .exact .inl (el _ _ e2)
  .exact .inr e2
 |.dic ks ds,_,f,h=>by unfold nd at f;cases f
 |.exc x,_,f,h=>by unfold nd at f;cases f
 |.ob k ds,_,f,h=>by unfold nd at f;cases f
theorem Reps.nd_to{K:W.Frag}{H H':Hp}(et:∀a vs,Rd H a (.tup vs)->Rd H' a (.tup vs))(el:∀a vs,Rd H a (.lst vs)->Rd H' a (.lst vs)):∀{ds:List D}{vs:List V},nds ds=true->Reps K H ds vs->Reps K H' ds vs
 |[],_,_,h=>by unfold Reps at h ⊢;exact h
 |d::ds,_,f,h=>by
  unfold nds at f;rw[Bool.and_eq_true] at f;obtain⟨v,r,e1,e2,e3⟩:=aE.mp h;exact aE.mpr ⟨v,r,e1,Rep.nd_to et el f.1 e2,Reps.nd_to et el f.2 e3⟩
end
noncomputable def nq(Ha J:Hp):Hp:=λa=>match Ha a with
 |some o=>some o
 |none=>match J a with
  |some (.dK _)=>none
  |o=>o
noncomputable def oq(ρ:Ev):Bool:=ρ.all λs=>match s with
 |.ow (.lst _)=>false
 |.ox _ _=>false
 |.pt _=>false
 |_=>true
section
variable {K:W.Frag}{E:XK}{He H0e Ha H H1 J:Hp}{σ:L2.St}{ρ:Ev}
theorem EU(h:aA Ha J):∀a o,nq Ha J a=some o->J a=some o:=λa o e=>by
 unfold nq at e;cases q:Ha a with
 |some u=>rw[q] at e;cases e;exact h _ _ q
 |none =>
  rw[q] at e;cases q2:J a with
  |none=>rw[q2] at e;cases e
  |some u=>rw[q2] at e;cases u<;>first|(cases e;rfl)|cases e
theorem zH(h:aA Ha J)(e:J a=some o)(hn:∀kvs,o≠.dK kvs):nq Ha J a=some o:=by
 unfold nq;cases q:Ha a with
 |some u=>have:=h _ _ q;rw[e] at this;cases this;rfl
 |none=>rw[e];cases o<;>first|rfl|exact absurd rfl (hn _)
theorem zG(h:aA Ha J)(hu:∀kvs,u≠.dK kvs)(a:Addr)(e:Rd J a u):Rd (nq Ha J) a u:=by
 rcases e with e|⟨o,e⟩
 .exact .inl (zH h e hu)
 .exact .inr ⟨o,zH h e λ_ z=>nomatch z⟩
theorem df.behindS(h:df K He H0e Ha σ H ρ)(ho:oq ρ=true)(g:aU H (frz He Ha H) H1 J):df K He H0e (nq Ha J) σ H1 ρ:=by
 have hJ:aA Ha J:=h.frz_sub.trans g.z;have le:=EU (Ha:=Ha) (J:=J) hJ;have z:aA Ha (nq Ha J):=λb o e=>by unfold nq;rw[e]
 have ok:∀(i:Nat) (s:Sl),ρ[i]?=some s->(match s with|.ow (.lst _)=>false|.ox _ _|.pt _=>false|_=>true)=true:=λi s e=>List.all_eq_true.mp ho s (List.mem_of_getElem? e);refine⟨⟨h.g.s.trans g.s,h.g.z.trans z,λb o e=>g.sub _ _ (le b o e),λa h1 h2=>?_⟩,h.rd.mono z,λi d e=>?_,h.ap,h.ln,OX.none (λi j ds e=>by have:=ok i _ e;cases this) (λi a e=>by have:=ok i _ e;cases this)⟩
 .cases q:nq Ha J a with
  |none=>exact absurd q h1
  |some o =>
   have hj:=le a o q;exact(h.frz_grow.trans g).nw a (by rw[hj];simp) h2
 .obtain⟨a,k1,k2,k3,k4⟩:=h.ow i d e
  cases d with
  |lst ds=>have:=ok i _ e;cases this
  |dic ks ds =>
   obtain⟨vs,h5,hl,h6⟩:=k4;refine⟨a,k1,k2,?_,vs,g.s _ _ h5,hl,h6.mono z⟩;have:frz He Ha H a=some (.dK ((ks.map Sum.inr).zip vs)):=by unfold frz;rw[k2];exact h5
   have:=g.z _ _ this;unfold nq;rw[k3,this]
  |_=>exact k4.elim
end
noncomputable def yg(i:Nat) (ρ:Ev) (d:D):ai Fl:=if nd d=true/\oq ρ=true then .ok (.nx (ρ.set i (.sh d))) else .stuck
noncomputable def nZ(i:Nat) (f:Ev->ai D):Ev->ai Fl:=λρ=>(f (fu ρ)).bind (yg i ρ)
section
variable {X:Cx}{E:XK}{He H0e:Hp}{e b o:Expr}{pos apos cpos:Pos}{f k g:Ev->ai D}
theorem uc(hN:X.N.Nodup)(hi:X.N[i]?=some x)(hx:AS X.env.scope x)(he:DE X E e f)(hs:swapsWith e (some (.Name x pos')) pos.line X.env=pure false:=by rfl)
  (hf:X.fn x=true∨X.env.scope.names.lookup x=some .local := by first|exact .inl rfl|exact .inr rfl|assumption):DS X E He H0e (.Assign [.Name x pos'] e pos) (nZ i f):=by
 refine⟨?_⟩;refine bB (lQ hN hi hx he.o hs hf) λD σ H ⟨Ha,ρ,h,q⟩=>⟨frz He Ha H,fu ρ,h.frz_le,h.looks,?_⟩
 refine look h q λd v H' J _ g rp q'=>?_;unfold yg at q'
 by_cases fl:nd d=true/\oq ρ=true
 .rw[if_pos fl] at q'
  have hJ:aA Ha J:=h.frz_sub.trans g.z;refine q' _ H' (nq Ha J) (λb o e=>by unfold nq;rw[e]) ((h.behindS fl.2 g).put (rp.nd_to (λa vs e=>zG hJ (λ_ z=>by cases z) a e) (λa vs e=>zG hJ (λ_ z=>by cases z) a e) fl.1))
 .rw[if_neg fl] at q';exact q'.elim
theorem uz(h:n+64<cLine):n+1<cLine:=Nat.lt_of_le_of_lt (by omega) h
noncomputable def uq(x y:D):ai D:=match x,y with
 |.dic ks ds,.str k=>.ok ((jL ks ds k).getD .non)
 |_,_=>.stuck
noncomputable def oR(g:Ev->ai D) (ρ:Ev) (x:D):ai D:=match x with
 |.dic ks ds=>(g ρ).bind (uq (.dic ks ds))
 |_=>.stuck
noncomputable def qf(f g:Ev->ai D):Ev->ai D:=λρ=>(f ρ).bind (oR g ρ)
theorem v9(hu:X.A.units+1<cLine)(ho:DE X E o f)(he:DE X E e g)(m:M1 X o "get" apos e cpos):DE X E (.Call (.Attribute o "get" apos) [e] [] cpos) (qf f g):=by
 refine⟨aR (BN hu ho.o he.o m) λσ H Q ⟨Ha,ρ,hs,hr,q⟩=>⟨Ha,ρ,hs,hr,?_⟩⟩;unfold qf at q;cases e1:f ρ with
 |stuck|exn z=>rw[e1] at q;exact q
 |ok x =>
  rw[e1] at q;intro v H1 H01 g1 r1;cases x with
  |dic ks ds =>
   rw[Rep] at r1;obtain⟨p,kvs,vs,rfl,h1,rfl,hl,h4⟩:=r1;refine⟨p,rfl,.inl ⟨_,aA.rd g1.sub h1⟩,H01,ρ,g1.sub,hr.mono g1.z,?_⟩;have q:post X.K E H Ha ((g ρ).bind (uq (.dic ks ds))) Q:=q;cases e2:g ρ with
   |stuck=>rw[e2] at q;exact q|exn z=>rw[e2] at q;exact λC ox H' Ha' g' ex=>q C ox H' Ha' (g1.trans g') ex
   |ok y =>
    rw[e2] at q;intro u H2 H02 g2 r2;cases y with
    |str k =>
     rw[Rep.str_iff.mp r2];refine⟨_,.inl ⟨_,.inr k,aA.rd g2.s (aA.rd g1.sub h1),rfl,rfl⟩,?_⟩;have q:∀v H' Ha',aU H Ha H' Ha'->Rep X.K Ha' ((jL ks ds k).getD .non) v->Q v H':=q;cases e3:jL ks ds k with
     |none =>
      rw[(ml hl h4).2 e3];rw[e3] at q;exact q _ _ H02 (g1.trans g2) (aL.mpr rfl)
     |some d =>
      obtain⟨v,hv,rv⟩:=(ml hl h4).1 d e3;rw[hv];rw[e3] at q;exact q _ _ H02 (g1.trans g2) (rv.mono g2.z)
    |_=>exact q.elim
  |_=>exact q.elim
end
structure Rw where
 x:Str
 st:Stmt
 N:List Str
 n:Nat
noncomputable abbrev Rw.ps(r:Rw):List Str:=r.N.take r.n
instance {N P:List Str}{sc:Scope}:Decidable (fF N P sc) :=
 decidable_of_iff (sc.kind=.function/\sc.isCoroutine=false/\sc.isGenerator=false/\N.Nodup/\N.take P.length=P/\(∀x∈P,sc.names.lookup x=some .local ∨ sc.names.lookup x=some .cell)/\∀y∈sc.names,y.2≠.free)
  ⟨λ⟨a,b,c,d,e,f,g⟩=>⟨a,b,c,d,e,f,g⟩,λ⟨a,b,c,d,e,f,g⟩=>⟨a,b,c,d,e,f,g⟩⟩
noncomputable def Lb(rows:List Rw):Prop:=∀r∈rows,fF r.N r.ps (defScope r.st)
instance {rows:List Rw}:Decidable (Lb rows):=inferInstanceAs (Decidable (∀r∈rows,_))
noncomputable def TG(rows:List Rw) (K:W.Frag) (mg:Str->Option Value) (A:Nat->Addr) (Q:Nat->FuncData):Prop:=∀i r,rows[i]?=some r->FT K mg r.x r.st r.ps (A i) (Q i)
noncomputable def JZ(r:Rw):Prop:=∀(kV doc pm:Value) (an:Option Addr) (cdv ct:Value) (us:List Value),us.length=r.ps.length->bindArgs (W.fnOf r.x r.x (defArgs r.st) (defBody r.st) (defScope r.st) .none kV doc pm an cdv ct) ⟨us,[]⟩=pure (r.ps.zip us)
noncomputable def QAs(K:W.Frag):List Rw->List Addr->Prop
 |[],_=>True
 |r::rs,a::as=>QA K r.x r.st a/\QAs K rs as
 |_::_,[]=>False
theorem QAs.cons{K:W.Frag}{st:Stmt}(q:QA K x st a)(t:QAs K rs as):QAs K (⟨x,st,N,n⟩::rs) (a::as):=⟨q,t⟩
theorem E3{K:W.Frag}{h:Heap}{mg:Str->Option Value}(X:K.In h)(G:h.Ns mainGlobals mg):∀{rows:List Rw}{as:List Addr},(∀r∈rows,JZ r)->QAs K rows as ->
  ∃Q:Nat->FuncData,∀i r,rows[i]?=some r->FT K mg r.x r.st r.ps (as.getD i 0) (Q i)/\∃kV doc pm an cdv ct,Q i=W.fnOf r.x r.x (defArgs r.st) (defBody r.st) (defScope r.st) .none kV doc pm an cdv ct
 |[],as,_,_=>⟨λ_=>default,λi r e=>by simp at e⟩
 |r::rs,[],_,q=>q.elim
 |r::rs,a::as,hb,q=>by
  obtain⟨Q,h⟩:=E3 X G (λr hr=>hb r (List.mem_cons_of_mem _ hr)) q.2;obtain⟨d,h1,h2⟩:=JA X G q.1 (hb r List.mem_cons_self);refine⟨λi=>match i with|0=>d|i+1=>Q i,λi r' e=>?_⟩;cases i with|zero=>rw[List.getElem?_cons_zero] at e;cases e;exact⟨h1,h2⟩|succ i=>rw[List.getElem?_cons_succ] at e;exact h i r' e
structure eF (P:Program) (w:World) (K:W.Frag) (mg:Str->Option Value) (base:Heap) (CX:zK) (k:Nat) (fn:Addr) (fd:FuncData) (ps:List Str) (sp:Sp) (x:Str) (st:Stmt):Prop where
 F:fk P w K mg base CX k fn fd ps sp
 t:FT K mg x st ps fn fd
section
variable {P:Program}{w:World}{K:W.Frag}{mg:Str->Option Value}{base:Heap}{rows:List Rw}{A:Nat->Addr}{Q:Nat->FuncData}{i k n:Nat}{r:Rw}{s:Ev->ai Fl}{sM:Addr->Ev->List D->ai dY}
variable (T:TG rows K mg A Q) (S:Lb rows) (h:rows[i]?=some r)
include T S h
theorem oD(b:∀(cdv:Value) (A':Around) (outer:List PySem.Env) (s0:Shared) (H Ha:Hp) (E:XK),cS k (A'.deeper (envOfC r.x (defScope r.st) s0.heap.objs.size (A i) cdv)) ->
   AU (nk CX0 P w K mg base r.N r.x (defScope r.st) (A i) cdv A' outer s0 H E).nox E H Ha (defBody r.st) s):eF P w K mg base CX0 (k+1) (A i) (Q i) r.ps (spD K r.ps.length (cn r.N.length s)) r.x r.st :=
 ⟨Aw (T i r h).F (S r (List.mem_of_getElem? h)) b,T i r h⟩
theorem oF(b:∀(cdv:Value) (A':Around) (outer:List PySem.Env) (s0:Shared) (H Ha:Hp) (E:XK),cS k (A'.deeper (envOfC r.x (defScope r.st) s0.heap.objs.size (A i) cdv)) ->
   wJ (nk CX0 P w K mg base r.N r.x (defScope r.st) (A i) cdv A' outer s0 H E).nox E H Ha (defBody r.st) s):eF P w K mg base CX0 (k+1) (A i) (Q i) r.ps (E9 K r.ps.length (m7 r.N.length s)) r.x r.st :=
 ⟨xH (T i r h).F (S r (List.mem_of_getElem? h)) b,T i r h⟩
theorem oM(hn:r.ps.length=n+1)(b:∀(cdv:Value) (A':Around) (outer:List PySem.Env) (s0:Shared) (H He Ha:Hp) (a:Addr) (E:XK),cS k (A'.deeper (envOfC r.x (defScope r.st) s0.heap.objs.size (A i) cdv)) ->
   EV (nk CX0 P w K mg base r.N r.x (defScope r.st) (A i) cdv A' outer s0 H E).nox He Ha a (defBody r.st) (sM a)):eF P w K mg base CX0 (k+1) (A i) (Q i) r.ps (DB K n (sY r.N.length sM)) r.x r.st :=
 ⟨xG (T i r h).F (S r (List.mem_of_getElem? h)) hn b,T i r h⟩
end
section
variable {P:Program}{w:World}{K:W.Frag}{mg:Str->Option Value}{base:Heap}{CX:zK}{k:Nat}{fn:Addr}{fd:FuncData}{ps:List Str}{n:Nat}{m:List D->ai D}{x:Str}{st:Stmt}
theorem eF.fD(B:eF P w K mg base CX k fn fd ps (E9 K n (m7 nn s)) x st):eF P w K mg base CX k fn fd ps (spD K n (m7 nn s)) x st:=⟨B.F.imp (DC λ_ _ h=>Bm h),B.t⟩
end
section
variable {X:Cx}{E:XK}{e:Expr}{es:List Expr}{fa:Ev->ai (List D)}{pos:Pos}{CX:zK}{k k0 n:Nat}{fn:Addr}{fd:FuncData}{ps:List Str}{m:List D->ai D}{x:Str}{p:Pos}{st:Stmt}
theorem rC(B:eF X.prog X.w X.K X.mg X.base CX k0 fn fd ps (spD X.K n m) x st)(hr:cS k X.A)(ha:DA X E (e::es) fa)(hle:k0<=k:=by decide)(hx:e9 CX X E:=by first|exact yt|exact pass0E|exact passesE)(hl:∀ρ ds,fa ρ=.ok ds->ds.length=(e::es).length:=by first|exact K7|exact K6|exact LI|exact al4|exact al5)(hn:(e::es).length=n:=by rfl)
  (hg:Gl X x:=by exact rfl)(hdb:(x==("__debug__":Str))=false:=by decide)(he:starEach (e::es) X.env=(false,eval e X.env)::starEach es X.env:=by exact bw rfl)(hpl:(backTo pos (starEach es X.env)).any (·.1)=false:=by exact cc rfl) :
  DE X E (.Call (.Name x p) (e::es) [] pos) (ar fa m):=EG (B.F.mono hle) hr hg B.t.g B.t.F.kp B.t.b hx ha hn hl hdb he hpl
theorem rF(B:eF X.prog X.w X.K X.mg X.base CX k0 fn fd ps (E9 X.K n m) x st)(hr:cS k X.A)(ha:DA X E (e::es) fa)(hle:k0<=k:=by decide)(hx:e9 CX X E:=by first|exact yt|exact pass0E|exact passesE)(hl:∀ρ ds,fa ρ=.ok ds->ds.length=(e::es).length:=by first|exact K7|exact K6|exact LI|exact al4|exact al5)(hn:(e::es).length=n:=by rfl)
  (hg:Gl X x:=by exact rfl)(hdb:(x==("__debug__":Str))=false:=by decide)(he:starEach (e::es) X.env=(false,eval e X.env)::starEach es X.env:=by exact bw rfl)(hpl:(backTo pos (starEach es X.env)).any (·.1)=false:=by exact cc rfl) :
  DF X E (.Call (.Name x p) (e::es) [] pos) (ar fa m):=ED (B.F.mono hle) hr hg B.t.g B.t.F.kp B.t.b hx ha hn hl hdb he hpl
end
section
variable {X:Cx}{He H0e:Hp}{a:Addr}{E:XK}{e:Expr}{es:List Expr}{fa:Ev->List D->ai (List D×List D)}{pos:Pos}{CX:zK}{k k0 n:Nat}{fn:Addr}{fd:FuncData}{ps:List Str}{x:Str}{p:Pos}{ft:Stmt}
theorem L6(B:eF X.prog X.w X.K X.mg X.base CX k0 fn fd ps (spD X.K n m) x ft)(hr:cS k X.A)(ha:HW X He H0e a (e::es) fa)(hle:k0<=k:=by decide)(hx:e9 CX X E0:=by exact yt)(hl:∀ρ st ds,fa ρ st=.ok ds->ds.1.length=(e::es).length:=by first|exact K5|exact LG|exact am3|exact am4|exact am5)(hn:(e::es).length=n:=by rfl)
  (hg:Gl X x:=by exact rfl)(hdb:(x==("__debug__":Str))=false:=by decide)(he:starEach (e::es) X.env=(false,eval e X.env)::starEach es X.env:=by exact bw rfl)(hpl:(backTo pos (starEach es X.env)).any (·.1)=false:=by exact cc rfl) :
  DM X He H0e a (.Call (.Name x p) (e::es) [] pos) (mA fa m):=EA (E:=E0) (B.F.mono hle) hr hg B.t.g B.t.F.kp B.t.b hx ha hn hl hdb he hpl
theorem rM(i:Nat)(B:eF X.prog X.w X.K X.mg X.base CX k0 fn fd ps (DB X.K n m) x ft)(hr:cS k X.A)(ha:HW X He H0e a es fa)(hle:k0<=k:=by decide)(hx:e9 CX X E0:=by exact yt)(hl:∀ρ st ds,fa ρ st=.ok ds->ds.1.length=n:=by first|exact LH|exact K5|exact LG|exact am3|exact am4|exact am5)
  (hN:X.N[i]?=some y:=by rfl)(hv:CZ X.env.scope y:=by first|exact Or.inl rfl|exact Or.inr (Or.inl rfl)|exact Or.inr (Or.inr rfl))(hg:Gl X x:=by exact rfl)
  (hd:(y==("__debug__":Str))=false:=by decide)(hcd:(y==("__classdict__":Str))=false:=by decide)(hdb:(x==("__debug__":Str))=false:=by decide)(he:starEach (.Name y p1::es) X.env=(false,eval (.Name y p1) X.env)::starEach es X.env:=by exact bw rfl)(hpl:(backTo pos (starEach es X.env)).any (·.1)=false:=by exact cc rfl) :
  DM X He H0e a (.Call (.Name x p) (.Name y p1::es) [] pos) (b7 i a fa m):=CG (E:=E0) (B.F.mono hle) hr hg B.t.g B.t.F.kp B.t.b hx hN hv ha hl hd hcd hdb he hpl
end
theorem Me(hn:r.ps.length=1:=by rfl)(hb:∀(kV doc pm:Value) (an:Option Addr) (cdv ct b:Value),bindArgs (W.fnOf r.x r.x (defArgs r.st) (defBody r.st) (defScope r.st) .none kV doc pm an cdv ct) ⟨[b],[]⟩=pure (r.ps.zip [b]):=by intros;rfl):JZ r:=λ_ _ _ _ _ _ us hl=>by
 obtain⟨b,rfl⟩:=LB (hl.trans hn);exact hb ..
theorem Md(hn:r.ps.length=2:=by rfl)(hb:∀(kV doc pm:Value) (an:Option Addr) (cdv ct b c:Value),bindArgs (W.fnOf r.x r.x (defArgs r.st) (defBody r.st) (defScope r.st) .none kV doc pm an cdv ct) ⟨[b,c],[]⟩=pure (r.ps.zip [b,c]):=by intros;rfl):JZ r:=λ_ _ _ _ _ _ us hl=>by
 obtain⟨b,c,rfl⟩:=LA (hl.trans hn);exact hb ..
theorem Mc(hn:r.ps.length=3:=by rfl)(hb:∀(kV doc pm:Value) (an:Option Addr) (cdv ct b c d:Value),bindArgs (W.fnOf r.x r.x (defArgs r.st) (defBody r.st) (defScope r.st) .none kV doc pm an cdv ct) ⟨[b,c,d],[]⟩=pure (r.ps.zip [b,c,d]):=by intros;rfl):JZ r:=λ_ _ _ _ _ _ us hl=>by
 obtain⟨b,c,d,rfl⟩:=L9 (hl.trans hn);exact hb ..
end DL
namespace Com
open PySem L2 DL
noncomputable def GS(st:List D) (d:D):ai (D×List D):=.ok (d,st)
noncomputable def Lv(st:List D) (d:D):ai dY:=.ok (.rt d st)
noncomputable def u3{α:Type}(b:Bool) (x:ai α):ai α:=if b=true then x else .stuck
noncomputable def Ly(g:Ev->List D->ai (D×List D)) (op:D->D->ai D) (ρ:Ev) (p:D×List D):ai (D×List D):=(g ρ p.2).bind λq=>(op p.1 q.1).bind λd=>.ok (d,q.2)
noncomputable def Jp(op:D->D->ai D) (x:D) (q:D×List D):ai (D×List D):=(op x q.1).bind (GS q.2)
noncomputable def Lx(fa:Ev->List D->ai (List D×List D)) (ρ:Ev) (p:D×List D):ai (List D×List D):=(fa ρ p.2).bind λq=>.ok (p.1::q.1,q.2)
noncomputable def Jo(x:D) (q:List D×List D):ai (List D×List D):=.ok (x::q.1,q.2)
noncomputable def Lz(m:List D->ai D) (p:List D×List D):ai (D×List D):=(m p.1).bind λd=>.ok (d,p.2)
noncomputable def Lu(st ds:List D):ai (List D×List D):=.ok (ds,st)
noncomputable def Lw(tg:Ev->D->ai Ev) (s:Ev->List D->ai dY) (ρ:Ev) (p:List D×List D):ai dY:=forM tg s p.1 ρ p.2
noncomputable def Ls(k:Ev->List D->ai (D×List D)) (ρ:Ev) (p:D×List D):ai dY:=(k ρ p.2).bind (jS ρ p.1)
section
variable {s t:Ev->List D->ai dY}{S:Ev->ai Fl}{f g h:Ev->List D->ai (D×List D)}{F:Ev->ai D}{fa:Ev->List D->ai (List D×List D)}{src:Ev->ai (List D)}{srm:Ev->List D->ai (List D×List D)}{tg:Ev->D->ai Ev}{ρ r:Ev}{i j n:Nat}{d x y:D}{st ds xs:List D}{op:D->D->ai D}{a:Addr}
theorem Cs:bc s t ρ st=(s ρ st).bind (yG t):=aG rfl
theorem zg:yG t (.nx ρ st)=t ρ st:=aG rfl
theorem zf:yG t (.rt d st)=.ok (.rt d st):=aG rfl
theorem zp:bX ρ st=.ok (.nx ρ st):=aG rfl
theorem zl:cO S ρ st=(S ρ).bind (xw st):=aG rfl
theorem vU:xw st (.nx ρ)=.ok (.nx ρ st):=aG rfl
theorem Cr:d9 i f ρ st=(f ρ st).bind (B4 i ρ):=aG rfl
theorem ze:B4 i ρ (d,st)=.ok (.nx (ρ.set i (.sh d)) st):=aG rfl
theorem Cu:Ei f ρ st=(f ρ st).bind B5:=aG rfl
theorem zj:B5 (d,st)=.ok (.rt d st):=aG rfl
theorem zi:fz F ρ st=(F (fu ρ)).bind (Lv st):=aG rfl
theorem vT:Lv st d=.ok (.rt d st):=aG rfl
theorem Fv:Al f s t ρ st=(f ρ st).bind (Ej s t ρ):=aG rfl
theorem Cz:Ej s t ρ (.bl true,st)=s ρ st:=aG rfl
theorem Cy:Ej s t ρ (.bl false,st)=t ρ st:=aG rfl
theorem JF:mP F ρ st=(F ρ).bind (GS st):=aG rfl
theorem Fz:GS st d=.ok (d,st):=aG rfl
theorem Fw{k:Int}:rR st (.int k)=.ok (.int k,st):=aG rfl
theorem Fx:rR st (.bl b)=.ok (.bl b,st):=aG rfl
theorem JD:mV i a F ρ st=u3 (ik ρ[i]? a) ((F (vw i ρ st)).bind (rR st)):=aG rfl
theorem JE:mT F ρ st=(F (fu ρ)).bind (GS st):=aG rfl
theorem Fy:J7 i a F ρ st=u3 (ik ρ[i]? a) ((F (vw i ρ st)).bind (GS st)):=aG rfl
theorem Fu:ik (some (.pt a)) a=true:=beq_self_eq_true a
theorem zo{z:ai α}:u3 true z=z:=if_pos rfl
theorem Ft:vw i ρ st=(fu ρ).set i (.sh (.lst st)):=aG rfl
theorem Cq:zU (.pt a)=.pt a:=aG rfl
theorem JG:mB f g op ρ st=(f ρ st).bind (Ly g op ρ):=aG rfl
theorem FC:Ly g op ρ (x,st)=(g ρ st).bind (Jp op x):=aG rfl
theorem FA:Jp op x (y,st)=(op x y).bind (GS st):=aG rfl
theorem Cw:c7 ρ st=.ok ([],st):=aG rfl
theorem zr:bG f fa ρ st=(f ρ st).bind (Lx fa ρ):=aG rfl
theorem vW:Lx fa ρ (x,st)=(fa ρ st).bind (Jo x):=aG rfl
theorem vV:Jo x (xs,st)=.ok (x::xs,st):=aG rfl
theorem JH:mA fa m ρ st=(fa ρ st).bind (Lz m):=aG rfl
theorem FD:Lz m (ds,st)=(m ds).bind (GS st):=aG rfl
theorem zu:b7 i a fa m ρ st=u3 (ik ρ[i]? a) ((fa ρ st).bind (xR a m)):=aG rfl
theorem vX:xR a m (ds,st)=m a st ds:=aG rfl
theorem Cv:vj i a f h ρ st=u3 (ik ρ[i]? a) ((f ρ st).bind (Ls h ρ)):=aG rfl
theorem zk:Ls h ρ (d,st)=(h ρ st).bind (jS ρ d):=aG rfl
theorem CB:B6 i f ρ st=D8 ρ[i]? λds=>(f ρ st).bind (rK i ρ ds):=aG rfl
theorem zm{k:List D->ai dY}:D8 (some (.ow (.lst ds))) k=k ds:=aG rfl
theorem t8(e:decide (ds.length<=999)=true):rK i ρ ds (d,st)=.ok (.nx (ρ.set i (.ow (.lst (ds++[d])))) st):=if_pos (Nat.lt_of_le_of_lt (of_decide_eq_true e) (by decide))
theorem Cp:B3 src ρ st=(src ρ).bind (Lu st):=aG rfl
theorem zd:Lu st ds=.ok (ds,st):=aG rfl
theorem zc:yF f ρ st=(f ρ st).bind tN:=aG rfl
theorem pU{k:Int}(e:-4611686018427387904<=k/\k<4611686018427387904):tN (.int k,st)=.ok (intsFrom 0 k.toNat,st):=if_pos e
theorem CA:vk srm tg s ρ st=(srm ρ st).bind (Lw tg s ρ):=aG rfl
theorem zq:Lw tg s ρ (ds,st)=forM tg s ds ρ st:=aG rfl
theorem zt{fr:List Nat}:mQ n fr srm tg f ρ st=(srm ρ st).bind (qh (d6 n fr ρ) tg f):=aG rfl
theorem Ct:sY n b a st ds=(b a (.pt a::ds.map Sl.sh++List.replicate (n-(ds.length+1)) .no) st).bind Bl:=aG rfl
theorem zh:Bl (.rt d st)=.ok (d,st):=aG rfl
end
theorem vz{tg:Ev->D->ai Ev}{body:Ev->List D->ai dY}(I:Nat->Ev->List D->Prop)(ds:List D)(step:∀(j:Nat) (d:D) (ρ:Ev) (st:List D),ds[j]?=some d->I j ρ st->∃ρ1 ρ2 st2,tg ρ d=.ok ρ1/\(body ρ1 st=.ok (.nx ρ2 st2)∨body ρ1 st=.ok (.ct ρ2 st2))/\I (j+1) ρ2 st2) :
  ∀(j:Nat) (ρ:Ev) (st:List D),j<=ds.length->I j ρ st->∃ρ2 st2,forM tg body (ds.drop j) ρ st=.ok (.nx ρ2 st2)/\I ds.length ρ2 st2:=by
 intro j ρ st hj h;generalize hk:ds.length-j=k
 induction k generalizing j ρ st with
 |zero =>
  have:j=ds.length:=by omega
  subst this;exact⟨ρ,st,by rw[List.drop_length];rfl,h⟩
 |succ k ih =>
  have hlt:j<ds.length:=by omega
  obtain⟨ρ1,ρ2,st2,h1,h2,h3⟩:=step j ds[j] ρ st (List.getElem?_eq_getElem hlt) h;obtain⟨ρ3,st3,h4,h5⟩:=ih (j+1) ρ2 st2 (by omega) h3 (by omega);refine⟨ρ3,st3,?_,h5⟩;rw[List.drop_eq_getElem_cons hlt];unfold DL.forM;rw[h1];rcases h2 with h2|h2
  .simp only[ai.bind,h2];exact h4
  .simp only[ai.bind,h2];exact h4
theorem sv{b:Ev}{tg:Ev->D->ai Ev}{fm:Ev->List D->ai (D×List D)}(I:List D->Prop)(P:D->Prop):∀(ds st:List D),I st->(∀d st,d∈ds->I st->∃ρ1 y st2,tg b d=.ok ρ1/\fm ρ1 st=.ok (y,st2)/\P y/\I st2)->∃es st2,fU b tg fm ds st=.ok (es,st2)/\es.length=ds.length/\(∀e∈es,P e)/\I st2
 |[],st,h,_=>⟨[],st,rfl,rfl,λe he=>by simp at he,h⟩
 |d::ds,st,h,step=>by
  obtain⟨ρ1,y,st1,h1,h2,h3,h4⟩:=step d st (by simp) h;obtain⟨es,st2,k1,k2,k3,k4⟩:=sv I P ds st1 h4 λd' st' hd=>step d' st' (List.mem_cons_of_mem _ hd);refine⟨y::es,st2,?_,by simp [k2],λe he=>?_,k4⟩
  .unfold fU
   rw[h1];simp only[ai.bind,h2,k1]
  .rcases List.mem_cons.mp he with rfl|he
   .exact h3
   .exact k3 e he
end Com
namespace Bor
open PySem L2 DL
noncomputable abbrev bj:List D->ai D:=Cod.bj
noncomputable def gL:Ev->ai Fl :=
 (jQ (bg 2 (dC (.int 0)))
 (jQ (dX (ae (aa 1) (ar (ah (aa 0) aF) (m1 dJ)) Ic)
 (az (bg 2 (ae (aa 0) (aa 1) aN))
 aq)
 aq)
 (mD (ar (ah (aa 2) (ah (ae (ae (ae (ae (aa 2) (dC (.int 2147483587)) cN) (ae (ae (dC (.int 104729)) (aa 1) bR) (aa 1) bR) cq) (dC (.int 7)) cq) (dC (.int 2147483587)) cN) (ah (ae (aa 2) (ae (dC (.int 10)) (dC (.int 18)) qY) K4) aF))) dj))))
noncomputable def bU:List D->ai D:=m7 3 gL
noncomputable def iI:Addr->Ev->List D->ai dY:=λa =>
 (bc (Al (J7 0 a (ae (aa 0) (dC (.int 2)) aN))
 (bc (d9 2 (mV 0 a (ae (ae (aa 0) (dC (.int 0)) aN) (aa 1) cN)))
 (bc (vj 0 a (mV 0 a (ae (ae (aa 0) (dC (.int 0)) aN) (aa 1) lp)) (mP (dC (.int 0))))
 (bc (vj 0 a (mV 0 a (ae (ae (aa 0) (dC (.int 0)) aN) (dC (.int 0)) Hw)) (mP (dC (.int 2))))
 (bc (fz (aa 2))
 bX))))
 bX)
 (bc (cO (bg 3 (dC (.int 0))))
 (bc (vk (B3 (gN (ae (dC (.int 1)) (ae (dC (.int 2)) (ar (ah (ae (aa 1) (ae (dC (.int 10)) (dC (.int 6)) qY) Hw) aF) (m1 jF)) bR) cq))) (bb 4)
 (bc (vj 0 a (mV 0 a (ae (ae (ae (ae (aa 0) (dC (.int 1)) aN) (dC (.int 39373)) bR) (dC (.int 17)) cq) (dC (.int 2147483647)) cN)) (mP (dC (.int 1))))
 (bc (d9 3 (mV 0 a (ae (ae (aa 3) (dC (.int 2147483587)) bR) (ae (ae (ae (aa 0) (dC (.int 1)) aN) (ae (aa 0) (dC (.int 1)) aN) bR) (dC (.int 2147483587)) cN) cq)))
 bX)))
 (bc (fz (ae (ae (aa 3) (dC (.int 64)) lp) (aa 1) cN))
 bX))))
noncomputable def aK:Addr->List D->List D->ai (D×List D):=sY 5 iI
noncomputable def lD:Addr->Ev->List D->ai dY:=λa =>
 (bc (d9 2 (mQ 1 [0] (B3 (gN (dC (.int 8)))) (bb 0) (b7 1 a (bG (mP (dC (.int 26))) c7) aK)))
 (bc (d9 3 (mB (mP (dC (.int 1))) (b7 0 a (bG (mP (dC (.int 8))) c7) aK) cq))
 (bc (d9 4 (b7 0 a (bG (mP (aa 3)) c7) aK))
 (bc (d9 5 (b7 0 a (bG (mP (dC (.int 26))) c7) aK))
 (bc (d9 6 (mB (mP (ar (ah (dC (.int 1)) (ah (dC (.int 3)) (ah (dC (.int 5)) (ah (dC (.int 7)) (ah (dC (.int 9)) (ah (dC (.int 11)) aF)))))) dj)) (b7 0 a (bG (mP (dC (.int 6))) c7) aK) aN))
 (bc (d9 7 (mB (b7 0 a (bG (mP (dC (.int 3))) c7) aK) (mP (dC (.int 0))) gR))
 (bc (cO (jr 8 (ar aF dj)))
 (bc (cO (mF (aa 1) (bb 9)
 (az (jr 10 (nj (aa 2) eM (eu (aa 3))))
 (az (Bj 10 (ae (ae (aa 5) (ae (aa 6) (aa 9) bR) cq) (dC (.int 26)) cN) (aa 4))
 (az (dX (aa 7)
 (az (jr 10 (nj (aa 2) eM (eu (ae (dC (.int 1)) (ae (ae (aa 5) (aa 9) cq) (dC (.int 8)) cN) cq))))
 aq)
 aq)
 (az (Bk 10 (dN 8 (so (dC (.str "")) (ah (cG 1 [] (lO (aa 10)) (bb 0) mYes (ae (dC (.str "abcdefghijklmnopqrstuvwxyz")) (aa 0) aN)) aF))))
 aq))))))
 (bc (fz (aa 8))
 bX)))))))))
noncomputable def c6:Addr->List D->List D->ai (D×List D):=sY 11 lD
noncomputable def jn:Addr->Ev->List D->ai dY:=λa =>
 (bc (d9 2 (b7 0 a (bG (mP (dC (.int 6))) c7) aK))
 (bc (d9 3 (mB (mP (aa 1)) (b7 0 a (bG (mP (ae (ar (ah (dC (.int 3)) (ah (dC (.int 6)) (ah (dC (.int 20)) (ah (dC (.int 12)) (ah (dC (.int 90)) (ah (ae (dC (.int 10)) (dC (.int 12)) qY) aF)))))) dj) (aa 2) aN)) c7) aK) cq))
 (bc (cO (bg 4 (ae (ar (ah (dC (.int 1)) (ah (dC (.int 1)) (ah (dC (.int 1)) (ah (dC (.int 4)) (ah (dC (.int 12)) (ah (dC (.int 12)) aF)))))) dj) (aa 2) aN)))
 (bc (cO (bg 5 (ar (ah (dC (.int 1)) (ah (dC (.int 2)) (ah (dC (.int 3)) (ah (dC (.int 4)) (ah (dC (.int 5)) (ah (dC (.int 6)) (ah (dC (.int 10)) (ah (dC (.int 12)) (ah (dC (.int 15)) (ah (dC (.int 20)) (ah (dC (.int 30)) (ah (dC (.int 60)) aF)))))))))))) dj)))
 (bc (Ei (mA (bG (mP (aa 3)) (bG (mB (mP (aa 5)) (b7 0 a (bG (mP (aa 4)) c7) aK) aN) c7)) bj))
 bX)))))
noncomputable def cv:Addr->List D->List D->ai (D×List D):=sY 6 jn
noncomputable def e7:Addr->Ev->List D->ai dY:=λa =>
 (bc (cO (bg 3 (ar (ah (aa 1) aF) (m1 dJ))))
 (bc (d9 4 (b7 0 a (bG (mP (aa 3)) c7) aK))
 (bc (d9 5 (mB (mB (mP (ae (aa 4) (dC (.int 1)) cq)) (b7 0 a (bG (mP (ae (aa 3) (dC (.int 1)) jE)) c7) aK) cq) (mP (aa 3)) cN))
 (bc (Al (mB (b7 0 a (bG (mP (dC (.int 2))) c7) aK) (mP (dC (.int 0))) gR)
 (bc (cO (bg 4 (ae (aa 2) (aa 3) cN)))
 (bc (cO (bg 5 (ae (ae (aa 2) (dC (.int 1)) cq) (aa 3) cN)))
 bX))
 bX)
 (bc (d9 6 (mB (mP (ar (ah (dC (.str "one")) (ah (dC (.str "both")) aF)) dj)) (b7 0 a (bG (mP (dC (.int 2))) c7) aK) aN))
 (bc (d9 7 (b7 0 a (bG (mP (dC (.int 0))) c7) cv))
 (bc (d9 8 (b7 0 a (bG (mP (dC (.int 1))) c7) cv))
 (bc (Al (mB (b7 0 a (bG (mP (dC (.int 4))) c7) aK) (mP (dC (.int 0))) gR)
 (bc (cO (bg 8 (dC (.non))))
 bX)
 bX)
 (bc (fz (ar (ah (ae (aa 1) (aa 4) aN) (ah (ae (aa 1) (aa 5) aN) (ah (aa 6) (ah (aa 7) (ah (aa 8) aF))))) eQ))
 bX)))))))))
noncomputable def cu:Addr->List D->List D->ai (D×List D):=sY 9 e7
noncomputable def jI:Addr->Ev->List D->ai dY:=λa =>
 (bc (d9 3 (b7 0 a (bG (mB (mP (dC (.int 2))) (b7 0 a (bG (mP (ae (aa 1) (dC (.int 1)) jE)) c7) aK) cq) c7) c6))
 (bc (cO (bg 4 (ar (ah (aa 3) aF) (m1 dJ))))
 (bc (cO (jr 5 (ar aF dj)))
 (bc (vk (yF (b7 0 a (bG (mP (ae (aa 2) (dC (.int 1)) cq)) c7) aK)) (bb 6)
 (bc (B6 5 (b7 0 a (bG (mP (aa 3)) (bG (mP (aa 6)) c7)) cu))
 bX))
 (bc (cO (bg 7 (dC (.int 0))))
 (bc (cO (bg 8 (ae (aa 4) (dC (.int 1)) jE)))
 (bc (Al (mB (b7 0 a (bG (mP (dC (.int 2))) c7) aK) (mP (dC (.int 0))) gR)
 (bc (d9 7 (b7 0 a (bG (mP (aa 4)) c7) aK))
 (bc (d9 8 (mB (mB (mP (ae (aa 7) (dC (.int 1)) cq)) (b7 0 a (bG (mP (ae (aa 4) (dC (.int 1)) jE)) c7) aK) cq) (mP (aa 4)) cN))
 bX))
 bX)
 (bc (fz (ar (ah (aa 3) (ah (aa 5) (ah (ae (aa 3) (aa 7) aN) (ah (ae (aa 3) (aa 8) aN) aF)))) eQ))
 bX))))))))
noncomputable def cI:Addr->List D->List D->ai (D×List D):=sY 9 jI
end Bor
namespace DL
open PySem PySem.Spec PyProof.Rows L2
section
variable {X:Cx}{E:XK}{He H0e:Hp}{rest sa:List Stmt}{c:Expr}{fc:Ev->ai D}{s t:Ev->ai Fl}{pos:Pos}
theorem Ey(hc:DT X E c fc)(ha:wJ X E He H0e sa s)(hb:wJ X E He H0e rest t):wJ X E He H0e (.If c sa [] pos::rest) (dX fc s t):=by
 refine⟨?_⟩;refine er (fQ (BC hc.o ha.o nv) hb.o) λD σ H ⟨Ha,ρ,h,q⟩=>⟨frz He Ha H,fu ρ,h.frz_le,h.looks,?_⟩
 unfold dX at q;cases e1:fc (fu ρ) with
 |stuck=>rw[e1] at q;exact q|exn x=>rw[e1] at q;exact λC ox H' Ha' g ex=>q C ox H' Ha' (h.frz_grow.trans g) ex
 |ok d =>
  rw[e1] at q;cases d with
  |bl b =>
   intro H' J g;cases b with|true|false=>exact⟨Ha,ρ,h.same g.s,q⟩
  |_=>exact q.elim
end
end DL
namespace K11
open PySem L2 DL
noncomputable def dU:Ev->ai Fl :=
 (az (dX (ae (ae (aa 0) (dC (.int 0)) aN) (aa 1) gR)
 (az (bM (ae (aa 0) (dC (.int 1)) aN))
 aq)
 aq)
 (az (dX (gW (ae (ae (aa 0) (dC (.int 1)) aN) (aa 1) gR) (ae (ae (aa 0) (dC (.int 2)) aN) (dC (.str "both")) gR))
 (az (bM (ae (aa 0) (dC (.int 0)) aN))
 aq)
 aq)
 (az (bM (dC (.non)))
 aq)))
noncomputable def bq:List D->ai D:=cn 2 dU
noncomputable def fK:Ev->ai Fl :=
 (az (bg 1 (ar (ah (ae (aa 0) (dC (.int 0)) aN) (ah (ae (aa 0) (dC (.int 1)) aN) aF)) eQ))
 (az (dX (ae (ae (aa 0) (dC (.int 2)) aN) (dC (.str "one")) gR)
 (az (bM (ar (ah (aa 1) aF) dj))
 aq)
 aq)
 (az (bM (ar (ah (aa 1) (ah (ar (ah (ae (aa 0) (dC (.int 1)) aN) (ah (ae (aa 0) (dC (.int 0)) aN) aF)) eQ) aF)) dj))
 aq)))
noncomputable def m_steps_along:List D->ai D:=cn 2 fK
end K11
namespace K12
open PySem L2 DL
noncomputable abbrev bj:List D->ai D:=Cod.bj
noncomputable def mX:Ev->ai Fl :=
 (az (bM (ar (ah (ae (ae (ae (aa 0) (dC (.int 0)) aN) (ae (aa 1) (dC (.int 1)) aN) bR) (ae (ae (aa 1) (dC (.int 0)) aN) (ae (aa 0) (dC (.int 1)) aN) bR) cq) (ah (ae (ae (aa 0) (dC (.int 1)) aN) (ae (aa 1) (dC (.int 1)) aN) bR) aF)) bj))
 aq)
noncomputable def bN:List D->ai D:=cn 2 mX
end K12
namespace K51
open PySem L2 DL
noncomputable abbrev bj:List D->ai D:=Cod.bj
noncomputable abbrev bN:List D->ai D:=K12.bN
noncomputable def mY:Ev->ai Fl :=
 (az (bM (ae (ae (ae (aa 0) (dC (.int 0)) aN) (ae (aa 1) (dC (.int 1)) aN) bR) (ae (ae (aa 1) (dC (.int 0)) aN) (ae (aa 0) (dC (.int 1)) aN) bR) Ic))
 aq)
noncomputable def bH:List D->ai D:=cn 2 mY
noncomputable abbrev m_is_less:List D->ai D:=Com.m_is_less
noncomputable abbrev m_steps_along:List D->ai D:=K11.m_steps_along
noncomputable def b_steps_left:Ev->ai Fl :=
 (az (jr 2 (ar aF dj))
 (az (je (wV (ae (aa 0) (dC (.int 1)) aN)) (fj [3,4])
 (az (dX (ae (aa 3) (aa 1) cZ)
 (az (n6 (ar (ah (aa 4) aF) m_steps_along) (fj [5,6])
 (az (dN 2 (ar (ah (aa 3) (ah (aa 5) (ah (aa 6) aF))) eQ))
 aq))
 aq)
 aq)
 aq))
 (az (bM (aa 2))
 aq)))
noncomputable def m_steps_left:List D->ai D:=cn 7 b_steps_left
end K51
namespace K17
open PySem L2 DL
noncomputable abbrev m_on_one_scale:List D->ai D:=Com.m_on_one_scale
noncomputable def fW:Ev->ai Fl :=
 (az (bM (ar (ah (cG 1 [] (lO (ae (aa 0) (dC (.int 1)) aN)) (bb 0) mYes (ae (aa 0) (dC (.int 3)) aN)) aF) m_on_one_scale))
 aq)
noncomputable def m_scaled_lengths:List D->ai D:=cn 1 fW
noncomputable abbrev m_steps_along:List D->ai D:=K11.m_steps_along
noncomputable abbrev m_steps_left:List D->ai D:=K51.m_steps_left
noncomputable def iG:Ev->ai Fl :=
 (az (bg 3 (dC (.non)))
 (az (n6 (aa 0) (fj [4,5,6])
 (az (dX (gW (ae (aa 5) (aa 2) qg) (ae (aa 6) (aa 2) ef))
 (az (bg 7 (ae (ae (ae (aa 2) (aa 5) dS) (dC (.int 0)) aN) (ae (aa 1) (aa 4) aN) cq))
 (az (dX (jb (ae (aa 3) (dC (.non)) ll) (ae (aa 7) (ae (aa 3) (dC (.int 1)) aN) Ic))
 (az (bg 3 (ar (ah (aa 6) (ah (aa 7) (ah (ae (ae (ae (aa 2) (aa 5) dS) (dC (.int 1)) aN) (ar (ah (aa 4) aF) dj) cq) aF))) eQ))
 aq)
 aq)
 aq))
 aq)
 aq))
 (az (bM (aa 3))
 aq)))
noncomputable def m_nearest_step:List D->ai D:=cn 8 iG
noncomputable def jl:Ev->ai Fl :=
 (az (bg 3 (ar (ah (aa 0) (ah (aa 1) aF)) m_steps_left))
 (az (rD 4 (wg (ae (aa 0) (dC (.int 2)) aN) (ar (ah (dC (.int 0)) (ah (ar aF dj) aF)) eQ)))
 (az (nZ 5 (ar (ah (aa 3) (ah (aa 2) (ah (aa 4) aF))) m_nearest_step))
 (az (gi (λ_=>8) (ae (aa 5) (dC (.non)) iA)
 (az (mE 4 (ar (ah (ae (aa 5) (dC (.int 1)) aN) (ah (ae (aa 5) (dC (.int 2)) aN) aF)) eQ) (ae (aa 5) (dC (.int 0)) aN))
 (az (nZ 5 (ar (ah (aa 3) (ah (aa 2) (ah (aa 4) aF))) m_nearest_step))
 aq)))
 (az (bM (aa 4))
 aq)))))
noncomputable def m_all_reached:List D->ai D:=cn 6 jl
noncomputable abbrev m_ratio:List D->ai D:=Com.m_ratio
noncomputable def jH:Ev->ai Fl :=
 (az (bg 2 (ar (ah (aa 0) aF) m_scaled_lengths))
 (az (bg 3 (ar (ah (aa 0) (ah (aa 1) (ah (ae (aa 2) (dC (.int 0)) aN) aF))) m_all_reached))
 (az (rD 4 (dC (.dic [] [])))
 (az (n6 (ae (aa 0) (dC (.int 0)) aN) (bb 5)
 (az (mE 4 (FK (ae (aa 5) (aa 3) qg) (ar (ah (ae (ae (aa 3) (aa 5) dS) (dC (.int 0)) aN) (ah (ae (aa 2) (dC (.int 1)) aN) aF)) m_ratio) (dC (.non))) (aa 5))
 aq))
 (az (dX (ae (ae (aa 0) (dC (.int 3)) aN) (aa 3) ef)
 (az (bM (ar (ah (dC (.non)) (ah (dC (.non)) (ah (aa 4) aF))) eQ))
 aq)
 aq)
 (az (bM (ar (ah (ae (ae (aa 3) (ae (aa 0) (dC (.int 3)) aN) dS) (dC (.int 1)) aN) (ah (ae (aa 4) (ae (aa 0) (dC (.int 3)) aN) dS) (ah (aa 4) aF))) eQ))
 aq))))))
noncomputable def m_shortest:List D->ai D:=cn 6 jH
end K17
local macro_rules|`(tactic|open_line with[$xs,*])=>`(tactic|simp only[fR,o8,kn,km,kD,o7,kj,pd,kr,kR,ir,vK,pI,pH,pj,kB,pR,kA,pe,ku,pK,ph,kz,vS,vR,pQ,vQ,pA,kS,iw,iu,pS,kU,kT,vG,pw,pv,pz,kC,pG,kN,kM,oV,j8,Cn,ki,o6,kh,kg,ke,nF,pb,kq,ko,vF,pq,vH,vB,o5,o4,oZ,pL,kQ,ix,vL,pP,pO,pM,pF,pT,vJ,vI,da,kE,l5,jy,List.map_cons,List.map_nil,List.length_cons,List.length_nil,List.replicate_succ,List.replicate_zero,List.nil_append,List.cons_append,List.getElem?_cons_zero,List.getElem?_cons_succ,List.set_cons_zero,List.set_cons_succ,Nat.sub_zero,Nat.reduceSub,Nat.reduceAdd,Nat.add_zero,Nat.zero_add,Bool.not_true,Bool.not_false,oX,pE,iX,ee,pC,vC,o9,vA,oW,iW,iV,kL,kK,kJ,kI,kH,kG,decide_true,decide_false,Nat.reduceLeDiff,Nat.reduceBEq,Int.reduceBEq,beq_self_eq_true,DL.dOne,DL.mYes,dw,cL,cW,eW,eB,eV,eA,vP,vO,vN,vM,Int.reduceLT,Int.reduceLE,Int.reduceSub,Int.reduceAdd,Int.reduceMul,Int.reduceNeg,kF,iq,Int.reduceToNat,Bool.and_self,nG,kP,nE,kc,nD,ka,nC,j9,cR,pJ,kO,oY,yY,yZ,tX,l3,Cs,zg,zf,zp,zl,vU,Cr,ze,Cu,zj,zi,vT,Fv,Cz,Cy,JF,Fz,Fw,Fx,JD,JE,Fy,Fu,zo,Ft,Cq,JG,FC,FA,Cw,zr,vW,vV,JH,FD,zu,vX,Cv,zk,CB,zm,t8,Cp,zd,zc,pU,CA,zq,zt,Ct,zh,$[$xs:term],*])
local macro_rules|`(tactic|open_line with[$xs,*] seeing $h)=>`(tactic|simp only[fR,o8,kn,km,kD,o7,kj,pd,kr,kR,ir,vK,pI,pH,pj,kB,pR,kA,pe,ku,pK,ph,kz,vS,vR,pQ,vQ,pA,kS,iw,iu,pS,kU,kT,vG,pw,pv,pz,kC,pG,kN,kM,oV,j8,Cn,ki,o6,kh,kg,ke,nF,pb,kq,ko,vF,pq,vH,vB,o5,o4,oZ,pL,kQ,ix,vL,pP,pO,pM,pF,pT,vJ,vI,da,kE,l5,jy,List.map_cons,List.map_nil,List.length_cons,List.length_nil,List.replicate_succ,List.replicate_zero,List.nil_append,List.cons_append,List.getElem?_cons_zero,List.getElem?_cons_succ,List.set_cons_zero,List.set_cons_succ,Nat.sub_zero,Nat.reduceSub,Nat.reduceAdd,Nat.add_zero,Nat.zero_add,Bool.not_true,Bool.not_false,oX,pE,iX,ee,pC,vC,o9,vA,oW,iW,iV,kL,kK,kJ,kI,kH,kG,decide_true,decide_false,Nat.reduceLeDiff,Nat.reduceBEq,Int.reduceBEq,beq_self_eq_true,DL.dOne,DL.mYes,dw,cL,cW,eW,eB,eV,eA,vP,vO,vN,vM,Int.reduceLT,Int.reduceLE,Int.reduceSub,Int.reduceAdd,Int.reduceMul,Int.reduceNeg,kF,iq,Int.reduceToNat,Bool.and_self,nG,kP,nE,kc,nD,ka,nC,j9,cR,pJ,kO,oY,yY,yZ,tX,l3,Cs,zg,zf,zp,zl,vU,Cr,ze,Cu,zj,zi,vT,Fv,Cz,Cy,JF,Fz,Fw,Fx,JD,JE,Fy,Fu,zo,Ft,Cq,JG,FC,FA,Cw,zr,vW,vV,JH,FD,zu,vX,Cv,zk,CB,zm,t8,Cp,zd,zc,pU,CA,zq,zt,Ct,zh,$[$xs:term],*] at $(⟨h⟩):ident)
namespace Bor
open PySem L2 DL Com
noncomputable def St(st:List D):Prop:=∃(c s:Int) (b:Bool),st=[.int c,.int s,.bl b]/\0<=s/\s<2147483647
theorem p6:qY (.int 10) (.int 6)=.ok (.int 1000000):=aG rfl
noncomputable def next(s:Int):Int:=(s*39373+17).fmod 2147483647
theorem yD(s:Int):0<=next s/\next s<2147483647:=d4 (by decide)
noncomputable def Jn(m s:Int):Int:=m*2147483587+(s*s).fmod 2147483587
theorem Dq{k:Int}(h0:0<=s)(h1:s<2147483647)(hm:0<=m/\m<1000000000000000000000000000) :
  (bc (vj 0 a (mV 0 a (ae (ae (ae (ae (aa 0) (dC (.int 1)) aN) (dC (.int 39373)) bR) (dC (.int 17)) cq) (dC (.int 2147483647)) cN)) (mP (dC (.int 1))))
 (bc (d9 3 (mV 0 a (ae (ae (aa 3) (dC (.int 2147483587)) bR) (ae (ae (ae (aa 0) (dC (.int 1)) aN) (ae (aa 0) (dC (.int 1)) aN) bR) (dC (.int 2147483587)) cN) cq)))
 bX)) [.pt a,.sh (.int n),.no,.sh (.int m),.sh (.int k)] [.int c,.int s,.bl b]=.ok (.nx [.pt a,.sh (.int n),.no,.sh (.int (Jn m (next s))),.sh (.int k)] [.int c,.int (next s),.bl b]):=by
 have o1:du s 39373=true:=eU (by omega) (by decide);have g:=yD s;have o2:du (next s) (next s)=true:=eU (by omega) (by omega);have o3:du m 2147483587=true:=di (Nat.lt_trans (show m.natAbs<1000000000000000000000000000 by omega) (by rw[mw];decide +kernel)) (Nat.lt_trans (show(2147483587:Int).natAbs<2147483588 by decide) (by rw[mw];decide +kernel));have e:(s*39373+17).fmod 2147483647=next s:=rfl;have hp:∀(ρ:Ev) (d:D),jS ρ d (.int 1,[.int c,.int s,.bl b])=.ok (.nx ρ [.int c,d,.bl b]):=λ_ _=>rfl;open_line with[bV o1,e,bV o2,bV o3,hp,Jn]
theorem b3(a:Addr)(n0:0<n)(n1:n<=1000000000000000000)(h:St st):∃(d:Int) (st':List D),aK a st [.int n]=.ok (.int d,st')/\0<=d/\d<n/\St st':=by
 obtain⟨c,s,b,rfl,s0,s1⟩:=h;have hn0:(n==0)=false:=beq_eq_false_iff_ne.mpr (by omega);have hd:d5 c n=true:=CJ (by omega) (Nat.lt_of_le_of_lt (show n.natAbs<=1000000000000000000 by omega) (by rw[zL];decide +kernel));cases b with
 |true =>
  have f:=d4 (a:=c) (b:=n) n0;have p0:∀(ρ:Ev) (d:D),jS ρ d (.int 0,[.int c,.int s,.bl true])=.ok (.nx ρ [d,.int s,.bl true]):=λ_ _=>rfl;have p2:∀(ρ:Ev) (d:D),jS ρ d (.int 2,[.int (c.fdiv n),.int s,.bl true])=.ok (.nx ρ [.int (c.fdiv n),.int s,d]):=λ_ _=>rfl;refine⟨c.fmod n,[.int (c.fdiv n),.int s,.bl (decide (c.fdiv n > 0))],?_,f.1,f.2,_,_,_,rfl,s0,s1⟩;open_line with[aK,iI,hn0,l4 hd,p0,p2]
 |false =>
  have key:∃t:Nat,t<=3/\∀x2 x3 x4:Sl,(gN (ae (dC (.int 1)) (ae (dC (.int 2)) (ar (ah (ae (aa 1) (ae (dC (.int 10)) (dC (.int 6)) qY) Hw) aF) (m1 jF)) bR) cq)) [.pt a,.sh (.int n),x2,x3,x4]=.ok (intsFrom 0 t):=by
   by_cases hb:n > 1000000
   .refine⟨3,by decide,λx2 x3 x4=>?_⟩
    have o:du 2 1=true:=eU (by decide) (by decide);have:(ae (dC (.int 1)) (ae (dC (.int 2)) (ar (ah (ae (aa 1) (ae (dC (.int 10)) (dC (.int 6)) qY) Hw) aF) (m1 jF)) bR) cq) [.pt a,.sh (.int n),x2,x3,x4]=.ok (.int 3):=by
     open_line with[p6,decide_eq_true hb,bV o]
    unfold gN;rw[this];rfl
   .refine⟨1,by decide,λx2 x3 x4=>?_⟩
    have o:du 2 0=true:=eU (by decide) (by decide);have:(ae (dC (.int 1)) (ae (dC (.int 2)) (ar (ah (ae (aa 1) (ae (dC (.int 10)) (dC (.int 6)) qY) Hw) aF) (m1 jF)) bR) cq) [.pt a,.sh (.int n),x2,x3,x4]=.ok (.int 1):=by
     open_line with[p6,decide_eq_false hb,bV o]
    unfold gN;rw[this];rfl
  obtain⟨t,ht,hsrc⟩:=key;have hlen:(intsFrom 0 t).length=t:=by unfold DL.intsFrom;simp
  obtain⟨ρ2,st2,hl,m,s',x4,rfl,rfl,k0,k1,m0,_⟩:=vz (tg:=bb 4) (body:=(bc (vj 0 a (mV 0 a (ae (ae (ae (ae (aa 0) (dC (.int 1)) aN) (dC (.int 39373)) bR) (dC (.int 17)) cq) (dC (.int 2147483647)) cN)) (mP (dC (.int 1))))
 (bc (d9 3 (mV 0 a (ae (ae (aa 3) (dC (.int 2147483587)) bR) (ae (ae (ae (aa 0) (dC (.int 1)) aN) (ae (aa 0) (dC (.int 1)) aN) bR) (dC (.int 2147483587)) cN) cq)))
 bX)))
   (λj ρ st=>∃(m s:Int) (x4:Sl),ρ=[.pt a,.sh (.int n),.no,.sh (.int m),x4]/\st=[.int c,.int s,.bl false]/\0<=s/\s<2147483647/\0<=m/\m<(2147483587:Int) ^ j)
   (intsFrom 0 t) (by
    rintro j d ρ st hj ⟨m,s,x4,rfl,rfl,s0,s1,m0,m1⟩;have hjt:j<t:=by have:=(List.getElem?_eq_some_iff.mp hj).1;omega
    have hd:d=.int (j:Int):=by
     unfold DL.intsFrom at hj;rw[List.getElem?_map,List.getElem?_range hjt] at hj;simp at hj;exact hj.symm
    subst hd;have hm:m<1000000000000000000000000000:=by
     have hj3:j=0∨j=1∨j=2:=by omega
     rcases hj3 with rfl|rfl|rfl<;>omega
    have g:=yD s;have r:=d4 (a:=next s*next s) (b:=2147483587) (by decide);refine⟨_,_,_,rfl,.inl (Dq (k:=(j:Int)) s0 s1 ⟨m0,hm⟩),Jn m (next s),next s,_,rfl,rfl,g.1,g.2,?_,?_⟩
    .unfold Jn
     have:0<=m*2147483587:=Int.mul_nonneg m0 (by decide);omega
    .unfold Jn
     rw[Int.pow_succ];omega) 0 [.pt a,.sh (.int n),.no,.sh (.int 0),.no] [.int c,.int s,.bl false] (Nat.zero_le _) ⟨0,s,_,rfl,rfl,s0,s1,by decide,by decide⟩
  rw[List.drop_zero] at hl;have f:=d4 (a:=m.fdiv 64) (b:=n) n0;have hd64:d5 m 64=true:=CJ (by decide) (by rw[zL];decide +kernel);refine⟨(m.fdiv 64).fmod n,[.int c,.int s',.bl false],?_,f.1,f.2,c,s',false,rfl,k0,k1⟩;open_line with[aK,iI,hsrc,hl,l4 hd64,hn0]
theorem CV(ns:List Int)(k:Nat)(hk:k<=1000)(hl:ns.length<=63):∃st,bU [.lst (ns.map D.int),.int k]=.ok (.lst st)/\St st:=by
 have hlen:dJ (.lst (ns.map D.int))=.ok (.int ns.length):=by
  rw[da,List.length_map]
 have o1:du 104729 (k:Int)=true:=eU (by decide) (by omega);have o2:du (104729*(k:Int)) (k:Int)=true:=eU (by omega) (by omega)
 by_cases h:k<ns.length
 .have hix:aN (.lst (ns.map D.int)) (.int (k:Int))=.ok (.int ns[k]):=oO (by rw[List.getElem?_map,List.getElem?_eq_getElem h];rfl)
  have f:=d4 (a:=(ns[k].fmod 2147483587+104729*(k:Int)*(k:Int)+7)) (b:=2147483587) (by decide);refine⟨[.int ns[k],.int ((ns[k].fmod 2147483587+104729*(k:Int)*(k:Int)+7).fmod 2147483587),.bl (decide (ns[k]≥1000000000000000000))],?_,_,_,_,rfl,f.1,by omega⟩;unfold bU m7 gL;open_line with[hlen,hix,l3,bV o1,bV o2,decide_eq_true (show(k:Int)<(ns.length:Int) by omega),jQ,Bg,mD,BQ]
 .have f:=d4 (a:=((0:Int).fmod 2147483587+104729*(k:Int)*(k:Int)+7)) (b:=2147483587) (by decide)
  refine⟨[.int 0,.int (((0:Int).fmod 2147483587+104729*(k:Int)*(k:Int)+7).fmod 2147483587),.bl false],?_,_,_,_,rfl,f.1,by omega⟩;unfold bU m7 gL;open_line with[hlen,l3,bV o1,bV o2,decide_eq_false (show ¬(k:Int)<(ns.length:Int) by omega),jQ,Bg,mD,BQ]
theorem L7:qY (.int 10) (.int 12)=.ok (.int 1000000000000):=aG rfl
structure Ki (x:gV):Prop where
 lo:Low x
 p0:0<=x.1
 p1:x.1<=1000000000000
 q1:x.2<=60
theorem ER(h0:0<=c)(h1:c<=1000000000000)(hq:0<q)(hq2:q<=60):Ki (bA c q):=by
 have a1:=tP (a:=c) (b:=q);have a2:=tO (a:=c) (b:=q);have hl:=cP (a:=c) hq;have:=hl.q1;exact⟨hl,oH h0 hq,by omega,by omega⟩
theorem qF(a:Addr)(hl:l=0∨l=1)(h:St st):∃(x:gV) (st':List D),cv a st [.int l]=.ok (fr x,st')/\fG x/\0<=x.1/\(l=1->0<x.1)/\Ki x/\St st':=by
 have hN:(1000000000000000000000:Int)<(uC:Int):=by decide
 obtain⟨w,st1,t1,w0,w1,S1⟩:=b3 a (n:=6) (by decide) (by decide) h;obtain⟨t,m,ht,hm,i1,i2⟩:∃t m:Int,(0<t/\t<=1000000000000)/\(0<m/\m<=12)/\aN (.lst [.int 3,.int 6,.int 20,.int 12,.int 90,.int 1000000000000]) (.int w)=.ok (.int t)/\aN (.lst [.int 1,.int 1,.int 1,.int 4,.int 12,.int 12]) (.int w)=.ok (.int m):=by
  have:w=0∨w=1∨w=2∨w=3∨w=4∨w=5:=by omega
  rcases this with rfl|rfl|rfl|rfl|rfl|rfl
  .exact⟨3,1,by decide,by decide,rfl,rfl⟩
  .exact⟨6,1,by decide,by decide,rfl,rfl⟩
  .exact⟨20,1,by decide,by decide,rfl,rfl⟩
  .exact⟨12,4,by decide,by decide,rfl,rfl⟩
  .exact⟨90,12,by decide,by decide,rfl,rfl⟩
  .exact⟨1000000000000,12,by decide,by decide,rfl,rfl⟩
 obtain⟨u,st2,t2,u0,u1,S2⟩:=b3 a (n:=t) ht.1 (by omega) S1;obtain⟨v,st3,t3,v0,v1,S3⟩:=b3 a (n:=m) hm.1 (by omega) S2;obtain⟨q,hq,i3⟩:∃q:Int,(0<q/\q<=60)/\aN (.lst [.int 1,.int 2,.int 3,.int 4,.int 5,.int 6,.int 10,.int 12,.int 15,.int 20,.int 30,.int 60]) (.int v)=.ok (.int q):=by
  have:v=0∨v=1∨v=2∨v=3∨v=4∨v=5∨v=6∨v=7∨v=8∨v=9∨v=10∨v=11:=by omega
  rcases this with rfl|rfl|rfl|rfl|rfl|rfl|rfl|rfl|rfl|rfl|rfl|rfl
  .exact⟨1,by decide,rfl⟩
  .exact⟨2,by decide,rfl⟩
  .exact⟨3,by decide,rfl⟩
  .exact⟨4,by decide,rfl⟩
  .exact⟨5,by decide,rfl⟩
  .exact⟨6,by decide,rfl⟩
  .exact⟨10,by decide,rfl⟩
  .exact⟨12,by decide,rfl⟩
  .exact⟨15,by decide,rfl⟩
  .exact⟨20,by decide,rfl⟩
  .exact⟨30,by decide,rfl⟩
  .exact⟨60,by decide,rfl⟩
 have hlo:=Cod.low_ok (a:=l+u) (b:=q) (by omega) (Js (by omega) (by omega)) (Js (by omega) (by omega));refine⟨bA (l+u) q,st3,?_,Jt (by omega) (by omega) (by omega),oH (by omega) (by omega),λe=>Eo (by omega) (by omega),ER (by omega) (by omega) (by omega) (by omega),S3⟩;open_line with[cv,jn,t1,t2,t3,i1,i2,i3,L7,hlo]
theorem xq{k n:Int}(hn:2<=n):k.fmod n≠(k+1).fmod n:=by
 rw[Int.fmod_eq_emod_of_nonneg _ (by omega),Int.fmod_eq_emod_of_nonneg _ (by omega)];intro e;have:=Int.emod_eq_emod_iff_emod_sub_eq_zero.mp e.symm;rw[show k+1-k=1 by omega,Int.emod_eq_of_lt (by decide) (by omega)] at this;cases this
noncomputable def c4(t:uA):Prop:=Ki t.l/\∀x,t.o=some x->Ki x
theorem Dt(a:Addr){k:Nat}(h2:2<=zs.length)(h8:zs.length<=8)(nd:zs.Nodup)(h:St st):∃(t:uA) (st':List D),cu a st [.lst (zs.map D.str),.int k]=.ok (bO t,st')/\qG zs t/\c4 t/\St st':=by
 have hlen:dJ (.lst (zs.map D.str))=.ok (.int zs.length):=by rw[da,List.length_map]
 have hn0:((zs.length:Int)==0)=false:=beq_eq_false_iff_ne.mpr (by omega);obtain⟨d,st1,t1,d0,d1,S1⟩:=b3 a (n:=(zs.length:Int)) (by omega) (by omega) h;obtain⟨e,st2,t2,e0,e1,S2⟩:=b3 a (n:=(zs.length:Int)-1) (by omega) (by omega) S1;obtain⟨f,st3,t3,f0,f1,S3⟩:=b3 a (n:=2) (by decide) (by decide) S2;obtain⟨g,st4,t4,g0,g1,S4⟩:=b3 a (n:=2) (by decide) (by decide) S3;obtain⟨x,st5,t5,fx,lx,_,ax,S5⟩:=qF a (l:=0) (.inl rfl) S4;obtain⟨y,st6,t6,fy,_,ly,ay,S6⟩:=qF a (l:=1) (.inr rfl) S5;obtain⟨v,st7,t7,v0,v1,S7⟩:=b3 a (n:=4) (by decide) (by decide) S6;obtain⟨wd,hw,jw⟩:=Dg g0 g1;obtain⟨p,q,hp,hq,hpq,hplace⟩:∃p q:Int,(0<=p/\p<(zs.length:Int))/\(0<=q/\q<(zs.length:Int))/\p≠q/\(((f==0)=true/\p=(k:Int).fmod (zs.length:Int)/\q=((k:Int)+1).fmod (zs.length:Int))∨((f==0)=false/\p=d/\q=(d+1+e).fmod (zs.length:Int))):=by
  cases h10:(f==0) with
  |true=>exact⟨_,_,d4 (by omega),d4 (by omega),xq (by omega),.inl ⟨rfl,rfl,rfl⟩⟩
  |false =>
   obtain⟨hr,hne⟩:=sL (n:=(zs.length:Int)) (d:=d) (e:=e) (by omega) d0 d1 e0 e1;exact⟨_,_,⟨d0,d1⟩,hr,Ne.symm hne,.inr ⟨rfl,rfl,rfl⟩⟩
 obtain⟨z1,k1,j1⟩:=lM (zs:=zs) hp.1 hp.2;obtain⟨z2,k2,j2⟩:=lM (zs:=zs) hq.1 hq.2;have hz12:z1≠z2:=j0 nd k1 k2 (by omega);cases h4:(v==0) with
 |true =>
  refine⟨⟨z1,z2,wd,x,none⟩,st7,?_,⟨List.mem_of_getElem? k1,List.mem_of_getElem? k2,hz12,hw,fx,lx,λ_ hv=>nomatch hv⟩,⟨ax,λ_ hv=>nomatch hv⟩,S7⟩;rw[show bO ⟨z1,z2,wd,x,none⟩=.tup [.str z1,.str z2,.str wd,fr x,.non] from rfl];rcases hplace with⟨h10,e1,e2⟩|⟨h10,e1,e2⟩
  .rw[e2] at j2;rw[e1] at j1
   open_line with[cu,e7,hlen,t1,t2,t3,t4,t5,t6,t7,jE,hn0,h10,h4,jw,j1,j2]
  .rw[e2] at j2;rw[e1] at j1
   open_line with[cu,e7,hlen,t1,t2,t3,t4,t5,t6,t7,jE,hn0,h10,h4,jw,j1,j2]
 |false =>
  refine⟨⟨z1,z2,wd,x,some y⟩,st7,?_,⟨List.mem_of_getElem? k1,List.mem_of_getElem? k2,hz12,hw,fx,lx,λ_ hv=>by cases hv;exact⟨fy,ly rfl⟩⟩,⟨ax,λ_ hv=>by cases hv;exact ay⟩,S7⟩;rw[show bO ⟨z1,z2,wd,x,some y⟩=.tup [.str z1,.str z2,.str wd,fr x,fr y] from rfl];rcases hplace with⟨h10,e1,e2⟩|⟨h10,e1,e2⟩
  .rw[e2] at j2;rw[e1] at j1
   open_line with[cu,e7,hlen,t1,t2,t3,t4,t5,t6,t7,jE,hn0,h10,h4,jw,j1,j2]
  .rw[e2] at j2;rw[e1] at j1
   open_line with[cu,e7,hlen,t1,t2,t3,t4,t5,t6,t7,jE,hn0,h10,h4,jw,j1,j2]
theorem yM:∀{es:List D}{P:Int->Prop},(∀e∈es,∃l,e=D.int l/\P l)->∃ls:List Int,es=ls.map D.int/\∀l∈ls,P l
 |[],P,_=>⟨[],rfl,λl h=>by simp at h⟩
 |e::es,P,h=>by
  obtain⟨l,rfl,hl⟩:=h e (by simp);obtain⟨ls,rfl,hs⟩:=yM (es:=es) (P:=P) λe he=>h e (List.mem_cons_of_mem _ he);exact⟨l::ls,rfl,λx hx=>by
   rcases List.mem_cons.mp hx with rfl|hx
   .exact hl
   .exact hs x hx⟩
theorem xy(a:Addr)(h:St st):∃(ls:List Int) (st':List D),qh [.no,.pt a] (bb 0) (b7 1 a (bG (mP (dC (.int 26))) c7) aK) (DL.intsFrom 0 8,st)=.ok (.lst (ls.map D.int),st')/\ls.length=8/\(∀l∈ls,0<=l/\l<26)/\St st':=by
 obtain⟨es,st',h1,h2,h3,h4⟩:=sv (b:=[.no,.pt a]) (tg:=bb 0) (fm:=b7 1 a (bG (mP (dC (.int 26))) c7) aK) St (λe=>∃l,e=D.int l/\0<=l/\l<26) (DL.intsFrom 0 8) st h (by
  intro d st _ h;obtain⟨x,st',t1,x0,x1,S1⟩:=b3 a (n:=26) (by decide) (by decide) h;refine⟨_,.int x,st',rfl,?_,⟨x,rfl,x0,x1⟩,S1⟩;open_line with[t1])
 obtain⟨ls,rfl,hls⟩:=yM h3;refine⟨ls,st',?_,by simpa [DL.intsFrom] using h2,hls,h4⟩;unfold qh;rw[if_pos (show(DL.intsFrom 0 8).length<=line by decide),h1];rfl
noncomputable def wq(l:Int):Nat:=97+l.toNat
theorem Bb{ls:List Int}(hf:f ρ=.ok (.lst (ls.map D.int)))(hg:g ρ=.ok (.int (m:Int)))(hm:m<=ls.length)(hl:ls.length<=1000):nj f eM (eu g) ρ=.ok (.lst ((ls.take m).map D.int)):=by
 unfold nj;rw[hf];simp only[ai.bind,eM,eu,hg];exact congrArg (λz=>ai.ok (D.lst z)) (CN hm)
theorem Dz{ls:List Int}(hl:ls.length<=100)(hb:∀l∈ls,0<=l/\l<26):dH 1 [] (bb 0) mYes (ae (dC (.str "abcdefghijklmnopqrstuvwxyz")) (aa 0) aN) ρ (ls.map D.int)=.ok (.lst ((ls.map wq).map λc=>D.str ⟨#[c]⟩)):=by
 rw[wo (F:=λd=>match d with|.int l=>.str ⟨#[wq l]⟩|d=>d) (by rw[List.length_map];omega)]
 .congr 2
  rw[List.map_map,List.map_map];rfl
 .intro d hd
  obtain⟨l,hl',rfl⟩:=List.mem_map.mp hd;obtain⟨b0,b1⟩:=hb l hl';refine⟨[.sh (.int l)],rfl,rfl,?_⟩;open_line with[HK b0 b1]
  rfl
theorem Dy{ls:List Int}(hl:ls.length<=100):j7 "" [.lst ((ls.map wq).map λc=>D.str ⟨#[c]⟩)]=.ok (.str (Cod.S (ls.map wq))):=xB (cs:=ls.map wq) (by rw[List.length_map];omega)
noncomputable def nc(ls:List Int) (lg at_:Nat) (tu sp:Int) (ne:Bool) (k:Nat):List Int:=if ne=true then ls.take (1+((tu+(k:Int)).fmod 8).toNat) else(ls.take lg).set at_ ((tu+sp*(k:Int)).fmod 26)
noncomputable def nm(ls:List Int) (lg at_:Nat) (tu sp:Int) (ne:Bool) (k:Nat):List Nat:=(nc ls lg at_ tu sp ne k).map wq
section
variable {ls:List Int}{lg at_:Nat}{tu sp:Int}{ne:Bool}(h8:ls.length=8) (hb:∀l∈ls,0<=l/\l<26) (g1:1<=lg) (g8:lg<=8) (ha:at_<lg)
include hb in
theorem yH{k:Nat}:∀l∈nc ls lg at_ tu sp ne k,0<=l/\l<26:=by
 intro l hl;unfold nc at hl;cases ne with
 |true=>rw[if_pos rfl] at hl;exact hb l (List.mem_of_mem_take hl)
 |false =>
  rw[if_neg (by decide)] at hl;rcases List.mem_or_eq_of_mem_set hl with hl|rfl
  .exact hb l (List.mem_of_mem_take hl)
  .exact d4 (by decide)
include h8 g8 in
theorem j6{k:Nat}:(nc ls lg at_ tu sp ne k).length=if ne=true then 1+((tu+(k:Int)).fmod 8).toNat else lg:=by
 unfold nc;have:=d4 (a:=tu+(k:Int)) (b:=8) (by decide);cases ne with|true=>rw[if_pos rfl,if_pos rfl,List.length_take,h8];omega|false=>rw[if_neg (by decide),if_neg (by decide),List.length_set,List.length_take,h8];omega
include h8 hb g1 g8 in
theorem Jj{k:Nat}:Cod.IsNm (nm ls lg at_ tu sp ne k):=by
 have hl:=j6 (tu:=tu) (sp:=sp) (ne:=ne) (at_:=at_) h8 g8 (k:=k);have:=d4 (a:=tu+(k:Int)) (b:=8) (by decide);refine⟨?_,?_,λx hx=>?_⟩
 .unfold nm;rw[List.length_map,hl];split<;>omega
 .unfold nm;rw[List.length_map,hl];split<;>omega
 .unfold nm at hx
  obtain⟨l,hl,rfl⟩:=List.mem_map.mp hx;have:=yH hb l hl;exact HL _ (by omega)
include h8 g8 ha in
theorem BY{i j:Nat}(hij:i<j)(hj:j<7)(hs:sp=1∨sp=3∨sp=5∨sp=7∨sp=9∨sp=11):nm ls lg at_ tu sp ne i≠nm ls lg at_ tu sp ne j:=by
 intro e;cases ne with
 |true =>
  have hl:=congrArg List.length e;unfold nm at hl;rw[List.length_map,List.length_map,j6 h8 g8,j6 h8 g8,if_pos rfl,if_pos rfl] at hl;have f1:=d4 (a:=tu+(i:Int)) (b:=8) (by decide);have f2:=d4 (a:=tu+(j:Int)) (b:=8) (by decide);have he:(tu+(i:Int)).fmod 8=(tu+(j:Int)).fmod 8:=by omega
  rw[Int.fmod_eq_emod_of_nonneg _ (by decide),Int.fmod_eq_emod_of_nonneg _ (by decide)] at he;omega
 |false =>
  have h1:(nm ls lg at_ tu sp false i)[at_]?=(nm ls lg at_ tu sp false j)[at_]?:=by rw[e]
  unfold nm nc at h1;rw[if_neg (by decide),if_neg (by decide),List.getElem?_map,List.getElem?_map,List.getElem?_set_self (by rw[List.length_take,h8];omega),List.getElem?_set_self (by rw[List.length_take,h8];omega)] at h1;simp only[Option.map_some,Option.some.injEq,wq] at h1;have f1:=d4 (a:=tu+sp*(i:Int)) (b:=26) (by decide);have f2:=d4 (a:=tu+sp*(j:Int)) (b:=26) (by decide);have he:(tu+sp*(i:Int)).fmod 26=(tu+sp*(j:Int)).fmod 26:=by omega
  rw[Int.fmod_eq_emod_of_nonneg _ (by decide),Int.fmod_eq_emod_of_nonneg _ (by decide)] at he;rcases hs with rfl|rfl|rfl|rfl|rfl|rfl<;>omega
include h8 g8 ha in
theorem Ah(hs:sp=1∨sp=3∨sp=5∨sp=7∨sp=9∨sp=11):∀n:Nat,n<=7->((List.range n).map (nm ls lg at_ tu sp ne)).Nodup:=by
 intro n hn;rw[List.nodup_iff_pairwise_ne,List.pairwise_map];have:(List.range n).Pairwise (· < ·):=List.pairwise_lt_range;refine List.Pairwise.imp_of_mem (λ{i j} hi hj hij=>?_) this;rw[List.mem_range] at hj;exact BY h8 g8 ha hij (by omega) hs
end
noncomputable def ic(ls:List Int) (lg at_:Nat) (tu sp:Int) (ne:Bool) (k:Nat):List (List Nat):=(List.range k).map (nm ls lg at_ tu sp ne)
theorem xp{k:Nat}:Cod.nmsD (ic ls lg at_ tu sp ne (k+1))=Cod.nmsD (ic ls lg at_ tu sp ne k)++[.str (Cod.S (nm ls lg at_ tu sp ne k))]:=by
 unfold ic Cod.nmsD;rw[List.range_succ,List.map_append,List.map_append];rfl
theorem BX{lg at_ n:Nat}(h8:ls.length=8)(hb:∀l∈ls,0<=l/\l<26)(g1:1<=lg)(g8:lg<=8)(ha:at_<lg)(t0:0<=tu/\tu<26)(s0:0<=sp/\sp<=11)(hn:n<=7) :
  ∃x9 x10,bL (bb 9) (az (jr 10 (nj (aa 2) eM (eu (aa 3))))
 (az (Bj 10 (ae (ae (aa 5) (ae (aa 6) (aa 9) bR) cq) (dC (.int 26)) cN) (aa 4))
 (az (dX (aa 7)
 (az (jr 10 (nj (aa 2) eM (eu (ae (dC (.int 1)) (ae (ae (aa 5) (aa 9) cq) (dC (.int 8)) cN) cq))))
 aq)
 aq)
 (az (Bk 10 (dN 8 (so (dC (.str "")) (ah (cG 1 [] (lO (aa 10)) (bb 0) mYes (ae (dC (.str "abcdefghijklmnopqrstuvwxyz")) (aa 0) aN)) aF))))
 aq)))) (DL.intsFrom 0 n) [.pt a,.sh (.int (n:Int)),.sh (.lst (ls.map D.int)),.sh (.int (lg:Int)),.sh (.int (at_:Int)),.sh (.int tu),.sh (.int sp),.sh (.bl ne),.ow (.lst []),.no,.no] =
   .ok (.nx [.pt a,.sh (.int (n:Int)),.sh (.lst (ls.map D.int)),.sh (.int (lg:Int)),.sh (.int (at_:Int)),.sh (.int tu),.sh (.int sp),.sh (.bl ne),.ow (.lst (Cod.nmsD (ic ls lg at_ tu sp ne n))),x9,x10]):=by
 obtain⟨ρ',hl,x9,x10,rfl⟩:=tU (i:=9) (n:=n)
  (ρ:=[.pt a,.sh (.int (n:Int)),.sh (.lst (ls.map D.int)),.sh (.int (lg:Int)),.sh (.int (at_:Int)),.sh (.int tu),.sh (.int sp),.sh (.bl ne),.ow (.lst []),.no,.no])
  (body:=(az (jr 10 (nj (aa 2) eM (eu (aa 3))))
 (az (Bj 10 (ae (ae (aa 5) (ae (aa 6) (aa 9) bR) cq) (dC (.int 26)) cN) (aa 4))
 (az (dX (aa 7)
 (az (jr 10 (nj (aa 2) eM (eu (ae (dC (.int 1)) (ae (ae (aa 5) (aa 9) cq) (dC (.int 8)) cN) cq))))
 aq)
 aq)
 (az (Bk 10 (dN 8 (so (dC (.str "")) (ah (cG 1 [] (lO (aa 10)) (bb 0) mYes (ae (dC (.str "abcdefghijklmnopqrstuvwxyz")) (aa 0) aN)) aF))))
 aq)))))
  (λk ρ=>∃x9 x10,ρ=[.pt a,.sh (.int (n:Int)),.sh (.lst (ls.map D.int)),.sh (.int (lg:Int)),.sh (.int (at_:Int)),.sh (.int tu),.sh (.int sp),.sh (.bl ne),.ow (.lst (Cod.nmsD (ic ls lg at_ tu sp ne k))),x9,x10]) (by
   rintro k hk ρ ⟨x9,x10,rfl⟩;have hlen:=j6 (tu:=tu) (sp:=sp) (ne:=ne) (at_:=at_) h8 g8 (k:=k);have f8:=d4 (a:=tu+(k:Int)) (b:=8) (by decide);have om:du sp (k:Int)=true:=eU (by omega) (by omega);have hap:decide ((Cod.nmsD (ic ls lg at_ tu sp ne k)).length<=999)=true:=decide_eq_true (by unfold Cod.nmsD ic;simp;omega);have hs1:∀x8 x10,nj (aa 2) eM (eu (aa 3)) [.pt a,.sh (.int (n:Int)),.sh (.lst (ls.map D.int)),.sh (.int (lg:Int)),.sh (.int (at_:Int)),.sh (.int tu),.sh (.int sp),.sh (.bl ne),x8,.sh (.int (k:Int)),x10]=.ok (.lst ((ls.take lg).map D.int)):=λ_ _=>Bb rfl rfl (by omega) (by omega);have hix:xC ((ls.take lg).map D.int).length (at_:Int)=some at_:=by
    rw[List.length_map,List.length_take,h8];unfold xC;rw[if_pos (by omega),if_pos (by omega)];simp
   have hset:((ls.take lg).map D.int).set at_ (.int ((tu+sp*(k:Int)).fmod 26))=((ls.take lg).set at_ ((tu+sp*(k:Int)).fmod 26)).map D.int:=(List.map_set ..).symm;have hll:(nc ls lg at_ tu sp ne k).length<=100:=by rw[hlen];split<;>omega
   have hc:=λρ=>Dz (ρ:=ρ) hll (yH hb);have hj:j7 "" [.lst (((nc ls lg at_ tu sp ne k).map wq).map λc=>D.str ⟨#[c]⟩)]=.ok (.str (Cod.S (nm ls lg at_ tu sp ne k))):=Dy hll;refine⟨[.pt a,.sh (.int (n:Int)),.sh (.lst (ls.map D.int)),.sh (.int (lg:Int)),.sh (.int (at_:Int)),.sh (.int tu),.sh (.int sp),.sh (.bl ne),.ow (.lst (Cod.nmsD (ic ls lg at_ tu sp ne (k+1)))),.sh (.int (k:Int)),.sh (.lst ((nc ls lg at_ tu sp ne k).map D.int))],?_,_,_,rfl⟩;rw[xp];cases ne with
   |true =>
    have e1:nc ls lg at_ tu sp true k=ls.take (1+((tu+(k:Int)).fmod 8).toNat):=if_pos rfl;have hs2:∀x8 x10,nj (aa 2) eM (eu (ae (dC (.int 1)) (ae (ae (aa 5) (aa 9) cq) (dC (.int 8)) cN) cq)) [.pt a,.sh (.int (n:Int)),.sh (.lst (ls.map D.int)),.sh (.int (lg:Int)),.sh (.int (at_:Int)),.sh (.int tu),.sh (.int sp),.sh (.bl true),x8,.sh (.int (k:Int)),x10]=.ok (.lst ((nc ls lg at_ tu sp true k).map D.int)):=λx8 x10=>by
     rw[e1];refine Bb rfl ?_ (by omega) (by omega);open_line with[]
     congr 2
     omega
    open_line with[hs1,bV om,vE hix,hset,hs2,hc,hj,ee hap]
   |false =>
    have e1:(ls.take lg).set at_ ((tu+sp*(k:Int)).fmod 26)=nc ls lg at_ tu sp false k:=(if_neg (by decide)).symm;rw[e1] at hset;open_line with[hs1,bV om,vE hix,hset,hc,hj,ee hap]) ⟨_,_,rfl⟩
 exact⟨x9,x10,hl⟩
theorem BZ(a:Addr){n:Nat}(hn:n<=7)(h:St st):∃(css:List (List Nat)) (st':List D),c6 a st [.int (n:Int)]=.ok (.lst (Cod.nmsD css),st')/\css.length=n/\css.Nodup/\(∀cs∈css,Cod.IsNm cs)/\St st':=by
 obtain⟨ls,st1,t1,h8,hb,S1⟩:=xy a h;obtain⟨d,st2,t2,d0,d1,S2⟩:=b3 a (n:=8) (by decide) (by decide) S1;obtain⟨at_,st3,t3,a0,a1,S3⟩:=b3 a (n:=1+d) (by omega) (by omega) S2;obtain⟨tu,st4,t4,u0,u1,S4⟩:=b3 a (n:=26) (by decide) (by decide) S3;obtain⟨e,st5,t5,e0,e1,S5⟩:=b3 a (n:=6) (by decide) (by decide) S4;obtain⟨f,st6,t6,f0,f1,S6⟩:=b3 a (n:=3) (by decide) (by decide) S5;obtain⟨sp,hs,i1⟩:∃sp:Int,(sp=1∨sp=3∨sp=5∨sp=7∨sp=9∨sp=11)/\aN (.lst [.int 1,.int 3,.int 5,.int 7,.int 9,.int 11]) (.int e)=.ok (.int sp):=by
  have:e=0∨e=1∨e=2∨e=3∨e=4∨e=5:=by omega
  rcases this with rfl|rfl|rfl|rfl|rfl|rfl
  .exact⟨1,by decide,rfl⟩
  .exact⟨3,by decide,rfl⟩
  .exact⟨5,by decide,rfl⟩
  .exact⟨7,by decide,rfl⟩
  .exact⟨9,by decide,rfl⟩
  .exact⟨11,by decide,rfl⟩
 obtain⟨lg,hlg⟩:=Int.eq_ofNat_of_zero_le (show 0<=1+d by omega);obtain⟨at',rfl⟩:=Int.eq_ofNat_of_zero_le a0;rw[hlg] at t3;obtain⟨x9,x10,hl⟩:=BX (a:=a) (ls:=ls) (lg:=lg) (at_:=at') (n:=n) (tu:=tu) (sp:=sp) (ne:=(f==0)) h8 hb (by omega) (by omega) (by omega) ⟨u0,u1⟩ (by omega) hn;refine⟨ic ls lg at' tu sp (f==0) n,st6,?_,by unfold ic;simp,Ah h8 (by omega) (by omega) hs n hn,λcs hc=>?_,S6⟩
 .have hsrc:∀ρ,gN (dC (.int 8)) ρ=.ok (DL.intsFrom 0 8):=λ_=>rfl
  have hbm:∀x1 x2 x3 x4 x5 x6 x7 x8 x9 x10,d6 1 [0] [.pt a,x1,x2,x3,x4,x5,x6,x7,x8,x9,x10]=[.no,.pt a]:=λ_ _ _ _ _ _ _ _ _ _=>rfl;open_line with[c6,lD,hsrc,hbm,t1,t2,hlg,t3,t4,t5,i1,t6,kO,il (show n<=1000000 by omega),hl]
 .unfold ic at hc
  obtain⟨k,_,rfl⟩:=List.mem_map.mp hc;exact Jj h8 hb (by omega) (by omega)
theorem Dh(a:Addr){p q:Nat}(hp:2<=p/\p<=7)(hq:q<=14)(h:St st):∃(w:fL) (st':List D),cI a st [.int (p:Int),.int (q:Int)]=.ok (bp w,st')/\cf w/\(∀t∈w.ts,c4 t)/\St st':=by
 obtain⟨m,st1,t1,m0,m1,S1⟩:=b3 a (n:=(p:Int)-1) (by omega) (by omega) h;obtain⟨m,rfl⟩:=Int.eq_ofNat_of_zero_le m0;obtain⟨css,st2,t2,hcl,hnd,hall,S2⟩:=BZ a (n:=2+m) (by omega) S1;have hnm:Cod.nmsD css=(css.map Cod.S).map D.str:=by unfold Cod.nmsD;rw[List.map_map];rfl
 have hzl:(css.map Cod.S).length=2+m:=by rw[List.length_map,hcl]
 have nd:(css.map Cod.S).Nodup:=by
  rw[List.nodup_iff_pairwise_ne,List.pairwise_map];exact List.Pairwise.imp (λh z=>h (Cod.S_inj z)) (List.nodup_iff_pairwise_ne.mp hnd)
 have nm:lG (css.map Cod.S):=⟨nd,λz hz=>by
  obtain⟨cs,hc,rfl⟩:=List.mem_map.mp hz;exact(hall cs hc).nameB⟩
 rw[hnm] at t2;generalize css.map Cod.S=zs at *;have hlen:dJ (.lst (zs.map D.str))=.ok (.int zs.length):=by rw[da,List.length_map]
 have hn0:((zs.length:Int)==0)=false:=beq_eq_false_iff_ne.mpr (by omega);obtain⟨c,st3,t3,c0,c1,S3⟩:=b3 a (n:=(q:Int)+1) (by omega) (by omega) S2;obtain⟨c,rfl⟩:=Int.eq_ofNat_of_zero_le c0;have hlenI:(DL.intsFrom 0 c).length=c:=by unfold DL.intsFrom;simp
 obtain⟨ρ2,st4,hl,ts,x6,rfl,htl,hts,S4⟩:=vz (tg:=bb 6) (body:=(bc (B6 5 (b7 0 a (bG (mP (aa 3)) (bG (mP (aa 6)) c7)) cu))
 bX))
  (λj ρ st=>∃(ts:List uA) (x6:Sl),ρ=[.pt a,.sh (.int (p:Int)),.sh (.int (q:Int)),.sh (.lst (zs.map D.str)),.sh (.int (zs.length:Int)),.ow (.lst (ts.map bO)),x6,.no,.no]/\ts.length=j/\(∀t∈ts,qG zs t/\c4 t)/\St st) (DL.intsFrom 0 c) (by
   rintro j d ρ st hj ⟨ts,x6,rfl,rfl,hts,S⟩;have hjt:ts.length<c:=by have:=(List.getElem?_eq_some_iff.mp hj).1;omega
   have hd:d=.int (ts.length:Int):=by
    unfold DL.intsFrom at hj;rw[List.getElem?_map,List.getElem?_range hjt] at hj;simp at hj;exact hj.symm
   subst hd;obtain⟨t,st',tt,tk,ta,S'⟩:=Dt a (zs:=zs) (k:=ts.length) (by omega) (by omega) nd S;have hap:decide ((ts.map bO).length<=999)=true:=decide_eq_true (by rw[List.length_map];omega);refine⟨_,[.pt a,.sh (.int (p:Int)),.sh (.int (q:Int)),.sh (.lst (zs.map D.str)),.sh (.int (zs.length:Int)),.ow (.lst ((ts++[t]).map bO)),.sh (.int (ts.length:Int)),.no,.no],st',rfl,.inl ?_,ts++[t],_,rfl,by simp,λu hu=>?_,S'⟩
   .open_line with[tt,t8 hap,List.map_append]
   .rw[List.mem_append] at hu
    rcases hu with hu|hu
    .exact hts u hu
    .have:u=t:=by simpa using hu
     subst this;exact⟨tk,ta⟩) 0 [.pt a,.sh (.int (p:Int)),.sh (.int (q:Int)),.sh (.lst (zs.map D.str)),.sh (.int (zs.length:Int)),.ow (.lst []),.no,.no,.no] st3 (Nat.zero_le _) ⟨[],_,rfl,rfl,λt ht=>by simp at ht,S3⟩
 rw[List.drop_zero] at hl;rw[hlenI] at htl;have hsr:tN (.int (c:Int),st3)=.ok (DL.intsFrom 0 c,st3):=pU (by omega);have h2m:(2:Int)+(m:Int)=((2+m:Nat):Int):=by omega
 rw[←h2m] at t2;obtain⟨g,st5,t5,g0,g1,S5⟩:=b3 a (n:=2) (by decide) (by decide) S4;cases hg:(g==0) with
 |true =>
  obtain⟨d,st6,t6,d0,d1,S6⟩:=b3 a (n:=(zs.length:Int)) (by omega) (by omega) S5;obtain⟨e,st7,t7,e0,e1,S7⟩:=b3 a (n:=(zs.length:Int)-1) (by omega) (by omega) S6;obtain⟨hr,hne⟩:=sL (n:=(zs.length:Int)) (d:=d) (e:=e) (by omega) d0 d1 e0 e1;obtain⟨z1,k1,j1⟩:=lM (zs:=zs) d0 d1;obtain⟨z2,k2,j2⟩:=lM (zs:=zs) hr.1 hr.2;have hz12:z1≠z2:=j0 nd k1 k2 (by omega);refine⟨⟨zs,ts,z1,z2⟩,st7,?_,⟨by show 2<=zs.length;omega,by show zs.length<=7;omega,nm,by show ts.length<=14;omega,λt ht=>(hts t ht).1,List.mem_of_getElem? k1,List.mem_of_getElem? k2,hz12⟩,λt ht=>(hts t ht).2,S7⟩;open_line with[cI,jI,jE,t1,t2,hlen,t3,hsr,hl,t5,hg,t6,t7,hn0,j1,j2,bp]
 |false =>
  obtain⟨z1,k1,j1⟩:=lM (zs:=zs) (k:=0) (by decide) (by omega);obtain⟨z2,k2,j2⟩:=lM (zs:=zs) (k:=(zs.length:Int)-1) (by omega) (by omega);have hz12:z1≠z2:=j0 nd k1 k2 (by omega);refine⟨⟨zs,ts,z1,z2⟩,st5,?_,⟨by show 2<=zs.length;omega,by show zs.length<=7;omega,nm,by show ts.length<=14;omega,λt ht=>(hts t ht).1,List.mem_of_getElem? k1,List.mem_of_getElem? k2,hz12⟩,λt ht=>(hts t ht).2,S5⟩;open_line with[cI,jI,jE,t1,t2,hlen,t3,hsr,hl,t5,hg,j1,j2,bp]
end Bor
namespace DL
open PySem L2
section
variable {α β:Type}
noncomputable def Rf(a b:ai α):Prop:=a=.stuck∨a=b
theorem cH{f g:α->ai β}(h:Rf a b)(k:∀x,Rf (f x) (g x)):Rf (a.bind f) (b.bind g):=by
 rcases h with rfl|rfl
 .exact .inl rfl
 .cases a with
  |ok x=>exact k x
  |exn x=>exact .inr rfl
  |stuck=>exact .inl rfl
structure jd (f g:Ev->ai α):Prop where
 o:∀ρ,Rf (f ρ) (g ρ)
end
structure Kb (f g:List D->ai D):Prop where
 o:∀ds,Rf (f ds) (g ds)
theorem Kb.ok(h:Kb f g)(e:f ds=.ok d):g ds=.ok d:=by
 rcases h.o ds with q|q
 .rw[q] at e;cases e
 .rw[←q];exact e
theorem rfm_refl:Kb f f:=⟨λ_=>.inr rfl⟩
theorem rf_refl{f:Ev->ai α}:jd f f:=⟨λ_=>.inr rfl⟩
section
variable {s s' t t':Ev->ai Fl}{c c' f f':Ev->ai D}{fa fa':Ev->ai (List D)}{m m':List D->ai D}
theorem rf_stuck:jd d7 s:=⟨λ_=>.inl rfl⟩
theorem rf_seq(h1:jd s s')(h2:jd t t'):jd (az s t) (az s' t'):=⟨λρ=>cH (h1.o ρ) λr=>by
 cases r with
 |nx ρ'=>exact h2.o ρ'
 |_=>exact .inr rfl⟩
theorem rf_if(hc:jd c c')(h1:jd s s')(h2:jd t t'):jd (dX c s t) (dX c' s' t'):=⟨λρ=>cH (hc.o _) λr=>by
 cases r with
 |bl b=>cases b with
  |true=>exact h1.o ρ
  |false=>exact h2.o ρ
 |_=>exact .inr rfl⟩
theorem nu(h:jd s s'):∀(ds:List D) (ρ:Ev),Rf (bL tg s ds ρ) (bL tg s' ds ρ)
 |[],ρ=>.inr rfl
 |d::r,ρ=>by
  unfold bL;refine cH (.inr rfl) λρ1=>cH (h.o ρ1) λx=>?_;cases x with|nx ρ2|ct ρ2=>exact nu h r ρ2|bk ρ2|rt d=>exact .inr rfl
theorem rf_for(hf:jd f f')(h:jd s s'):jd (n6 f tg s) (n6 f' tg s'):=⟨λρ=>cH (hf.o ρ) λd=>by
 cases d with
 |lst ds=>exact nu h ds ρ
 |_=>exact .inr rfl⟩
theorem rf_forI(h:jd s s'):jd (je src tg s) (je src tg s'):=⟨λρ=>cH (.inr rfl) λds=>nu h ds ρ⟩
theorem rf_drop(h:jd f f'):jd (n8 f) (n8 f'):=⟨λρ=>cH (h.o _) λ_=>.inr rfl⟩
theorem rf_ret(h:jd f f'):jd (bM f) (bM f'):=⟨λρ=>cH (h.o _) λ_=>.inr rfl⟩
theorem rf_set(h:jd f f'):jd (bg i f) (bg i f'):=⟨λρ=>cH (h.o _) λ_=>.inr rfl⟩
theorem rf_b1(h:jd f f'):jd (cC f op) (cC f' op):=⟨λρ=>cH (h.o _) λ_=>.inr rfl⟩
theorem rf_not(h:jd f f'):jd (dE f) (dE f'):=rf_b1 h
theorem rf_b2(h:jd f f')(h2:jd c c'):jd (ae f c op) (ae f' c' op):=⟨λρ=>cH (h.o _) λ_=>cH (h2.o _) λ_=>.inr rfl⟩
theorem rf_bA(h:jd fa fa')(hm:Kb m m'):jd (ar fa m) (ar fa' m'):=⟨λρ=>cH (h.o _) λds=>hm.o ds⟩
theorem rf_cons(h:jd f f')(h2:jd fa fa'):jd (ah f fa) (ah f' fa'):=⟨λρ=>cH (h.o _) λ_=>cH (h2.o _) λ_=>.inr rfl⟩
end
end DL
local macro_rules|`(tactic|open_line with[rf_go])=>`(tactic|repeat (first|with_reducible exact DL.rf_refl|with_reducible exact DL.rf_stuck|with_reducible assumption|with_reducible exact DL.rfm_refl|with_reducible refine DL.rf_seq ?_ ?_|with_reducible refine DL.rf_if ?_ ?_ ?_|with_reducible refine DL.rf_for ?_ ?_|with_reducible refine DL.rf_forI ?_|with_reducible refine DL.rf_drop ?_|with_reducible refine DL.rf_ret ?_|with_reducible refine DL.rf_set ?_|with_reducible refine DL.rf_not ?_|with_reducible refine DL.rf_bA ?_ ?_|with_reducible refine DL.rf_cons ?_ ?_|with_reducible refine DL.rf_b1 ?_|with_reducible refine DL.rf_b2 ?_ ?_))
namespace Wex
open PySem L2 DL Com
noncomputable def srcR1K(d:D):ai (List D):=match d with
 |.int j=>if -4611686018427387904<=j/\j<4611686018427387904 then .ok (DL.intsFrom 0 j.toNat) else .stuck
 |_=>.stuck
theorem ev_srcR1:gN f ρ=(f ρ).bind srcR1K:=aG rfl
theorem srcR1_nat{k:Nat}(h:k<=1000000):srcR1K (.int (k:Int))=.ok (DL.intsFrom 0 k):=by
 show(if -4611686018427387904<=(k:Int)/\(k:Int)<4611686018427387904 then ai.ok (DL.intsFrom 0 (k:Int).toNat) else .stuck)=_;rw[if_pos (by omega),Int.toNat_natCast]
theorem comp_rng{m n:Nat}{fr:List Nat}(hn:n<=1000000)(h:∀k,k<n->∃ρ1,bb 0 (cE m fr ρ) (.int (k:Int))=.ok ρ1/\tt ρ1=.ok (.bl (q k))/\(q k=true->fe ρ1=.ok (G k))) :
  dH m fr (bb 0) tt fe ρ (DL.intsFrom 0 n)=.ok (.lst (((List.range n).filter q).map G)):=by
 have hi:DL.intsFrom 0 n=(List.range n).map λ(k:Nat)=>D.int (k:Int):=by
  unfold DL.intsFrom;exact List.map_congr_left λk _=>by rw[Int.zero_add]
 rw[hi];rw[mO (F:=λd=>match d with|.int v=>G v.toNat|d=>d) (p:=λd=>match d with|.int v=>q v.toNat|_=>false) (by simpa using hn)]
 .rw[List.filter_map,List.map_map]
  rfl
 .intro d hd
  obtain⟨k,hk,rfl⟩:=List.mem_map.mp hd;obtain⟨ρ1,h1,h2,h3⟩:=h k (List.mem_range.mp hk);exact⟨ρ1,h1,by simpa using h2,λz=>by simpa using h3 (by simpa using z)⟩
end Wex
namespace K11
open PySem L2 DL Com
noncomputable def there(t:uA) (z:Str):Option Str:=if t.a=z then some t.b else if t.b=z/\t.w="both" then some t.a else none
noncomputable def oS:Option Str->D
 |some z=>.str z
 |none=>.non
theorem dQ:gR (.str x) (.str y)=.ok (.bl (decide (x=y))):=by
 have h:gR (.str x) (.str y)=.ok (.bl (x==y)):=rfl;rw[h]
 by_cases e:x=y
 .rw[decide_eq_true e,e,beq_self_eq_true]
 .rw[decide_eq_false e,beq_eq_false_iff_ne.mpr e]
theorem there_ok:bq [bO t,.str z]=.ok (oS (there t z)):=by
 obtain⟨a,b,w,l,o⟩:=t;rw[show bO ⟨a,b,w,l,o⟩=.tup [.str a,.str b,.str w,fr l,bu o] from rfl];unfold there
 by_cases h1:a=z
 .rw[if_pos h1]
  open_line with[bq,dU,dQ,decide_eq_true h1,oS]
 .rw[if_neg h1]
  by_cases h2:b=z
  .by_cases h3:w="both"
   .rw[if_pos ⟨h2,h3⟩]
    open_line with[bq,dU,dQ,decide_eq_false h1,decide_eq_true h2,decide_eq_true h3,oS]
   .rw[if_neg (λh=>h3 h.2)]
    open_line with[bq,dU,dQ,decide_eq_false h1,decide_eq_true h2,decide_eq_false h3,oS]
  .rw[if_neg (λh=>h2 h.1)]
   open_line with[bq,dU,dQ,decide_eq_false h1,decide_eq_false h2,oS]
noncomputable def ways(t:uA):List (Str×Str):=if t.w="one" then[(t.a,t.b)] else[(t.a,t.b),(t.b,t.a)]
noncomputable def pr(p:Str×Str):D:=.tup [.str p.1,.str p.2]
theorem steps_ok:m_steps_along [bO t]=.ok (.lst ((ways t).map pr)):=by
 obtain⟨a,b,w,l,o⟩:=t;rw[show bO ⟨a,b,w,l,o⟩=.tup [.str a,.str b,.str w,fr l,bu o] from rfl];unfold ways
 by_cases h:w="one"
 .rw[if_pos h]
  open_line with[m_steps_along,fK,dQ,decide_eq_true h,pr]
 .rw[if_neg h]
  open_line with[m_steps_along,fK,dQ,decide_eq_false h,pr]
theorem shal_nums{ks:List Nat}:(ks.map λ(k:Nat)=>D.int (k:Int)).all (aZ m)=true:=List.all_eq_true.mpr λd hd=>by
 obtain⟨z,_,rfl⟩:=List.mem_map.mp hd;cases m<;>rfl
theorem zD{n:Nat}:∀{ks:List Nat},((ks.map λ(k:Nat)=>D.int (k:Int)).any λd=>b6 d (.int (n:Int)))=decide (n∈ks)
 |[]=>rfl
 |k::ks=>by
  rw[List.map_cons,List.any_cons,zD];have e:b6 (.int (k:Int)) (.int (n:Int))=((k:Int)==(n:Int)):=by rw[b6]
  rw[e]
  by_cases h:n=k
  .subst h;simp
  .have h1:((k:Int)==(n:Int))=false:=beq_eq_false_iff_ne.mpr (by omega)
   rw[h1,Bool.false_or];have:n∈k::ks↔n∈ks:=by simp [h]
   exact decide_eq_decide.mpr this.symm
theorem notIn_nums{ks:List Nat}{n:Nat}:cZ (.int (n:Int)) (.lst (ks.map λ(k:Nat)=>D.int (k:Int)))=.ok (.bl (!(decide (n∈ks)))):=by
 have e:Ce (.int (n:Int)) (.lst (ks.map λ(k:Nat)=>D.int (k:Int)))=some (decide (n∈ks)):=(if_pos ⟨rfl,shal_nums⟩).trans (congrArg some zD);unfold cZ;rw[e]
theorem ne_str:i5 (.str x) (.str y)=.ok (.bl (!(decide (x=y)))):=by
 have h:i5 (.str x) (.str y)=.ok (.bl (!(x==y))):=rfl;rw[h]
 by_cases e:x=y
 .rw[decide_eq_true e,e,beq_self_eq_true]
 .rw[decide_eq_false e,beq_eq_false_iff_ne.mpr e]
end K11
namespace K11
open PySem L2 DL Com Bor
noncomputable abbrev nums(ks:List Nat):List D:=ks.map λ(k:Nat)=>D.int (k:Int)
end K11
namespace DL
open PySem PySem.Spec PyProof.Rows L2
noncomputable def Rp(d:D) (n k:Nat):Prop:=∃p,fg d=some p/\p.showable=true/\p.depth<=k/\p.shown.length<=n
noncomputable def mr(ds:List D) (n k:Nat):Prop:=∃ps,toPys ds=some ps/\ps.length=ds.length/\PyData.showableAll ps=true/\PyData.depthAll ps<=k/\((PyData.shownAll ps).map (λx=>x.length)).sum<=n
theorem gh:∀(ps:List PyData),(PyData.shownAll ps).length=ps.length
 |[]=>by rw[PyData.shownAll];rfl
 |p::ps=>by rw[PyData.shownAll,List.length_cons,gh ps,List.length_cons]
theorem Rp.up{n k n' k':Nat}(h:Rp d n k)(hn:n<=n')(hk:k<=k'):Rp d n' k':=by
 obtain⟨p,h1,h2,h3,h4⟩:=h;exact⟨p,h1,h2,Nat.le_trans h3 hk,Nat.le_trans h4 hn⟩
theorem mr.nil{k:Nat}:mr [] 0 k:=⟨[],rfl,rfl,rfl,by rw[PyData.depthAll];omega,by rw[PyData.shownAll];exact Nat.le_refl _⟩
theorem mr.cons{a n k:Nat}(h:Rp d a k)(t:mr ds n k):mr (d::ds) (a+n) k:=by
 obtain⟨p,h1,h2,h3,h4⟩:=h;obtain⟨ps,t1,t2,t3,t4,t5⟩:=t;refine⟨p::ps,by rw[toPys,h1,t1],by rw[List.length_cons,t2,List.length_cons],by rw[PyData.showableAll,h2,t3];rfl,?_,?_⟩
 .rw[PyData.depthAll];omega
 .rw[PyData.shownAll,List.map_cons,List.sum_cons];omega
theorem mr.all{a k:Nat}:∀{ds:List D},(∀d∈ds,Rp d a k)->mr ds (a*ds.length) k:=by
 intro ds
 induction ds with
 |nil=>intro _;exact mr.nil
 |cons d ds ih =>
  intro h;have:=mr.cons (h d (List.mem_cons_self ..)) (ih λx hx=>h x (List.mem_cons_of_mem _ hx));rw[List.length_cons,Nat.mul_add,Nat.mul_one,Nat.add_comm];exact this
theorem Rp.lst{n k:Nat}(h:mr ds n k):Rp (.lst ds) (n+2*ds.length+3) (k+1):=by
 obtain⟨ps,t1,t2,t3,t4,t5⟩:=h;refine⟨.list ps,by rw[fg,t1];rfl,by rw[PyData.showable];exact t3,by rw[PyData.depth];omega,?_⟩;rw[PyData.shown];have:=listText_len_le (PyData.shownAll ps);rw[gh] at this;omega
theorem Rp.tup{n k:Nat}(h:mr ds n k):Rp (.tup ds) (n+2*ds.length+3) (k+1):=by
 obtain⟨ps,t1,t2,t3,t4,t5⟩:=h;refine⟨.tuple ps,by rw[fg,t1];rfl,by rw[PyData.showable];exact t3,by rw[PyData.depth];omega,?_⟩;rw[PyData.shown];have:=tupleText_len_le (PyData.shownAll ps);rw[gh] at this;omega
theorem Rp.non:Rp .non 4 0:=⟨.none,by rw[fg],by rw[PyData.showable],by rw[PyData.depth];omega,by rw[PyData.shown,PySem.ofString_length];decide⟩
theorem Rp.int(h:i.natAbs<2 ^ 200):Rp (.int i) 201 0:=by
 refine⟨.int i,by rw[fg],?_,by rw[PyData.depth]<;>simp,?_⟩
 .rw[PyData.showable]
  refine decide_eq_true ?_
  by_cases h0:i.natAbs=0
  .rw[h0];decide
  .exact Nat.lt_trans ((Nat.log2_lt h0).mpr h) (by decide)
 .rw[PyData.shown,PySem.ofString_length]
  cases i with
  |ofNat m =>
   have:=nat_repr_length_le (n:=m) (k:=200) (by decide) h;show(Nat.repr m).length<=201;omega
  |negSucc m =>
   have:=nat_repr_length_le (n:=m+1) (k:=200) (by decide) h;show("-"++Nat.repr (m+1)).length<=201;rw[String.length_append];have h1 : "-".length=1:=rfl;omega
theorem Rp.str(hl:z.length<=n)(h:∀c∈z.cps.toList,c<16 ^ 8):Rp (.str z) (10*n+2) 0:=by
 refine⟨.str z,by rw[fg],by rw[PyData.showable],by rw[PyData.depth]<;>simp,?_⟩;rw[PyData.shown];have:=StrLaws.reprText_len z h;omega
end DL
namespace Bor
open PySem L2 DL Com
theorem rQ{α β γ:Type}:∀(l:List α) (b:β×γ),List.foldl (λb _=>(b.1,b.2)) b l=b
 |[],_=>rfl
 |_::l,b=>rQ l b
theorem ux:∀c∈HM.cps.toList,c<16 ^ 8:=by decide +kernel
theorem HJ(h:mM c=true):c<16 ^ 8:=by
 refine Nat.lt_of_not_le λhc=>?_;have hs:∀i,Builtin.Str.subAt HM ⟨#[c]⟩ i=false:=by
  intro i;unfold Builtin.Str.subAt;rw[beq_eq_false_iff_ne];intro e;have:c∈(HM.cps.extract i (i+(⟨#[c]⟩:Str).length)):=by rw[e];simp
  have h2:c∈HM.cps:=by
   obtain⟨j,hj,e⟩:=Array.mem_iff_getElem.mp this;rw[Array.getElem_extract] at e;rw[←e];exact Array.getElem_mem _
  have:=ux c (Array.mem_toList_iff.mpr h2);omega
 have:Builtin.Str.occurrences HM ⟨#[c]⟩ 0 HM.length 1=[]:=by
  unfold Builtin.Str.occurrences;simp [hs,rQ]
 unfold mM Jf at h;rw[this] at h;cases h
theorem jR(h:nameB z=true):Rp (.str z) 82 0:=by
 unfold nameB at h;simp only[Bool.and_eq_true,decide_eq_true_eq,List.all_eq_true] at h;refine Rp.str (n:=8) h.2.1 λc hc=>?_;exact HJ (h.2.2 c hc)
theorem Bo(h:fG x):Rp (fr x) 409 1:=by
 have hN:uC<=2 ^ 200:=by decide
 have h1:=h.pN;have h2:=h.qN;exact(Rp.tup (mr.cons (Rp.int (Nat.lt_of_lt_of_le h1 hN)) (mr.cons (Rp.int (Nat.lt_of_lt_of_le h2 hN)) mr.nil))).up (by simp) (Nat.le_refl _)
theorem Gm(h:qG zs t)(hz:∀z∈zs,nameB z=true):Rp (bO t) 1100 2:=by
 have ha:=(jR (hz _ h.a)).up (k':=1) (Nat.le_refl _) (by decide);have hb:=(jR (hz _ h.b)).up (k':=1) (Nat.le_refl _) (by decide);have hw:Rp (.str t.w) 82 1:=by
  rcases h.w with e|e<;>rw[e]
  .exact(Rp.str (n:=8) (by decide) (by decide)).up (by decide) (by decide)
  .exact(Rp.str (n:=8) (by decide) (by decide)).up (by decide) (by decide)
 have hl:=Bo h.l;have ho:Rp (bu t.o) 409 1:=by
  cases e:t.o with|none=>exact Rp.non.up (by decide) (by decide)|some x=>exact Bo (h.o x e).1
 exact(Rp.tup (mr.cons ha (mr.cons hb (mr.cons hw (mr.cons hl (mr.cons ho mr.nil)))))).up (by simp) (Nat.le_refl _)
theorem Bn{ds:List Str}(hl:ds.length<=n)(h:∀z∈ds,nameB z=true):Rp (.lst (ds.map D.str)) (84*n+3) 1:=by
 have:=Rp.lst (mr.all (a:=82) (k:=0) (ds:=ds.map D.str) λd hd=>by
  obtain⟨z,hz,rfl⟩:=List.mem_map.mp hd;exact jR (h z hz))
 rw[List.length_map] at this;exact this.up (by omega) (Nat.le_refl _)
theorem Gk(W:cf w):Rp (bp w) 20000 4:=by
 have h1:=(Bn W.n7 W.nm.nm).up (k':=3) (Nat.le_refl _) (by decide);have h2:Rp (.lst (w.ts.map bO)) 15700 3:=by
  have:=Rp.lst (mr.all (a:=1100) (k:=2) (ds:=w.ts.map bO) λd hd=>by
   obtain⟨t,ht,rfl⟩:=List.mem_map.mp hd;exact Gm (W.ts t ht) W.nm.nm)
  rw[List.length_map] at this;have t14:=W.t14;exact this.up (by omega) (Nat.le_refl _)
 have h3:=(jR (W.nm.nm _ W.fi)).up (k':=3) (Nat.le_refl _) (by decide);have h4:=(jR (W.nm.nm _ W.la)).up (k':=3) (Nat.le_refl _) (by decide);exact(Rp.tup (mr.cons h1 (mr.cons h2 (mr.cons h3 (mr.cons h4 mr.nil))))).up (by simp) (Nat.le_refl _)
end Bor
namespace K12
open PySem L2 DL Com Bor K11
section
variable {s t:Ev->ai Fl}{ρ:Ev}{ds:List D}{n i:Nat}{f:Ev->ai D}{fa:Ev->ai (List D)}{m:List D->ai D}{d:D}
theorem ef_seq:jQ s t ρ=(s ρ).bind (Bg t):=aG rfl
theorem ef_seq1:Bg t (.nx ρ)=t ρ:=aG rfl
theorem ef_run:m7 n s ds=(s (ds.map Sl.sh++List.replicate (n-ds.length) .no)).bind BQ:=aG rfl
theorem ef_out:BQ (.rt (.lst ds))=.ok (.lst ds):=aG rfl
noncomputable def Fb(d:D):ai Fl:=.ok (.rt d)
theorem ef_retE:mD f ρ=(f ρ).bind Fb:=aG rfl
theorem ef_retE1:Fb d=.ok (.rt d):=aG rfl
end
noncomputable def lenAt(w:fL) (k:Nat):gV:=((w.ts[k]?).map uA.l).getD (0,1)
theorem lenAt_of{k:Nat}(h:w.ts[k]?=some t):lenAt w k=t.l:=by unfold lenAt;rw[h];rfl
end K12
namespace K51
open PySem L2 DL Com Bor
theorem Ja{a:Int}(h:a.natAbs<2 ^ m)(hm:m<=n):a.natAbs<2 ^ n:=Nat.lt_of_lt_of_le h (Nat.pow_le_pow_right (by decide) hm)
theorem xt{a b:Int}(h:a.natAbs<2 ^ m)(h':b.natAbs<2 ^ n):(a*b).natAbs<2 ^ (m+n):=by
 rw[Int.natAbs_mul,Nat.pow_add];exact Nat.mul_lt_mul'' h h'
theorem HH{a b:Int}(h:a.natAbs<2 ^ m)(h':b.natAbs<2 ^ m):(a+b).natAbs<2 ^ (m+1):=by
 have:=Int.natAbs_add_le a b;rw[Nat.pow_succ];omega
noncomputable def pl(x y:gV):gV:=bA (un x y).1 (un x y).2
theorem i0(u:gV):aN (fr u) (.int 0)=.ok (.int u.1):=rfl
theorem i1(u:gV):aN (fr u) (.int 1)=.ok (.int u.2):=rfl
structure Bd (x:gV) (n:Nat):Prop where
 q0:0<x.2
 a:x.1.natAbs<2 ^ n
 b:x.2.natAbs<2 ^ n
theorem Bd.c13(h:Bd x n)(hn:n<=6000):x.1.natAbs<nQ/\x.2.natAbs<nQ:=by
 have:2 ^ n<=nQ:=by rw[my];exact Nat.pow_le_pow_right (by decide) (Nat.le_trans hn (by decide))
 exact⟨Nat.lt_of_lt_of_le h.a this,Nat.lt_of_lt_of_le h.b this⟩
theorem Bd.c60(h:Bd x n)(hn:n<=6000):x.1.natAbs<wL/\x.2.natAbs<wL:=⟨Nat.lt_of_lt_of_le (h.c13 hn).1 nP,Nat.lt_of_lt_of_le (h.c13 hn).2 nP⟩
theorem low_bd(hb:0<b)(h1:a.natAbs<2 ^ n)(h2:b.natAbs<2 ^ n):Bd (bA a b) n:=⟨by have:=(cP (a:=a) hb).q1;omega,Nat.lt_of_le_of_lt tP h1,Nat.lt_of_le_of_lt tO h2⟩
theorem un_bd(hx:Bd x m)(hy:Bd y n):Bd (un x y) (m+n+1):=by
 refine⟨Int.mul_pos hx.q0 hy.q0,?_,Ja (xt hx.b hy.b) (by omega)⟩;have h1:=xt hx.a hy.b;have h2:=xt hy.a hx.b;rw[Nat.add_comm n m] at h2;exact HH h1 h2
theorem lplus_bd(hx:Bd x m)(hy:Bd y n)(h:m+n<=5900):bN [fr x,fr y]=.ok (fr (pl x y)):=by
 have b1:=hx.c60 (by omega);have b2:=hy.c60 (by omega);have hp:=un_bd hx hy;have hc:=hp.c13 (by omega);have m1:=bV (di b1.1 b2.2);have m2:=bV (di b2.1 b1.2);have m3:=bV (di b1.2 b2.2);have hlo:bj [.int (x.1*y.2+y.1*x.2),.int (x.2*y.2)]=.ok (fr (pl x y)):=Cod.low_ok hp.q0 hc.1 hc.2;open_line with[K12.bN,K12.mX,i0,i1,m1,m2,m3,hlo]
theorem lless_bd(hx:Bd x m)(hy:Bd y n)(hm:m<=6000)(hn:n<=6000):bH [fr x,fr y]=.ok (.bl (flt x y)):=by
 have b1:=hx.c60 hm;have b2:=hy.c60 hn;have m1:=bV (di b1.1 b2.2);have m2:=bV (di b2.1 b1.2);open_line with[bH,mY,i0,i1,m1,m2]
 rfl
theorem less_bd(hx:Bd x m)(hy:Bd y n)(hm:m<=6000)(hn:n<=6000):m_is_less [fr x,fr y]=.ok (.bl (flt x y)) :=
 vv (hx.c60 hm).1 (hx.c60 hm).2 (hy.c60 hn).1 (hy.c60 hn).2
theorem su{α:Type}(g:α->D)(pk:α->Option D):∀(L:List α),(∀a∈L,∃ρ1,tg B (g a)=.ok ρ1/\((pk a=none/\tt ρ1=.ok (.bl false))∨(∃d,pk a=some d/\tt ρ1=.ok (.bl true)/\fe ρ1=.ok d)))->bJ B tg tt fe (L.map g)=.ok (L.filterMap pk)
 |[],_=>rfl
 |a::L,h=>by
  obtain⟨ρ1,h1,h2⟩:=h a List.mem_cons_self;have ih:=su g pk L λd hd=>h d (List.mem_cons_of_mem _ hd);rw[List.map_cons];unfold bJ;rw[h1,AJ];rcases h2 with⟨e,h2⟩|⟨d,e,h2,h3⟩
  .rw[h2,AJ]
   show bJ B tg tt fe (L.map g)=_;rw[ih,List.filterMap_cons_none e]
  .rw[h2,AJ]
   show(fe ρ1).bind _=_;rw[h3,AJ,ih,AJ,List.filterMap_cons_some e]
theorem comp_pick{α:Type}(g:α->D)(pk:α->Option D){L:List α}(hl:L.length<=1000000)(h:∀a∈L,∃ρ1,tg (cE n fr' ρ) (g a)=.ok ρ1/\((pk a=none/\tt ρ1=.ok (.bl false))∨(∃d,pk a=some d/\tt ρ1=.ok (.bl true)/\fe ρ1=.ok d))):dH n fr' tg tt fe ρ (L.map g)=.ok (.lst (L.filterMap pk)):=by
 unfold dH;rw[if_pos (show(L.map g).length<=line from by rw[List.length_map];exact hl),su g pk L h]
end K51
namespace Pth
open PySem L2 DL Com Bor K17
open K11 (nums ways pr dQ)
structure rf where
 n:Nat
 a:Str
 b:Str
noncomputable def i8(s:rf):D:=.tup [.int (s.n:Int),.str s.a,.str s.b]
noncomputable def bW(ks:List Nat) (n:Nat) (t:uA):List rf:=if n∈ks then[] else(ways t).map λp=>⟨n,p.1,p.2⟩
noncomputable def bS(ks:List Nat):Nat->List uA->List rf
 |_,[]=>[]
 |n,t::ts=>bW ks n t++bS ks (n+1) ts
noncomputable def aY(w:fL) (ks:List Nat):List rf:=bS ks 0 w.ts
theorem xZ(t:uA):(ways t).length<=2:=by unfold ways;split<;>simp
theorem nU:(bW ks n t).length<=2:=by
 unfold bW;split
 .simp
 .rw[List.length_map];exact xZ t
theorem sU:∀(n:Nat) (ts:List uA),(bS ks n ts).length<=2*ts.length
 |_,[]=>by simp [bS]
 |n,t::ts=>by
  have:=sU (ks:=ks) (n+1) ts;have:=nU (ks:=ks) (n:=n) (t:=t);rw[bS,List.length_append,List.length_cons];omega
theorem jf:∀(n:Nat) (ts:List uA),s∈bS ks n ts↔∃t,n<=s.n/\ts[s.n-n]?=some t/\s.n∉ks/\(s.a,s.b)∈ways t
 |n,[]=>by simp [bS]
 |n,t::ts=>by
  rw[bS,List.mem_append,jf (n+1) ts];constructor
  .rintro(h|⟨u,h1,h2,h3,h4⟩)
   .unfold bW at h
    by_cases hk:n∈ks
    .rw[if_pos hk] at h;cases h
    .rw[if_neg hk] at h
     obtain⟨p,hp,rfl⟩:=List.mem_map.mp h;exact⟨t,Nat.le_refl _,by simp,hk,hp⟩
   .refine⟨u,by omega,?_,h3,h4⟩
    rw[show s.n-n=(s.n-(n+1))+1 by omega,List.getElem?_cons_succ];exact h2
  .rintro⟨u,h1,h2,h3,h4⟩
   by_cases hn:s.n=n
   .left
    rw[hn,Nat.sub_self,List.getElem?_cons_zero] at h2;cases h2;unfold bW;rw[if_neg (by rw[←hn];exact h3)];exact List.mem_map.mpr ⟨(s.a,s.b),h4,by rw[←hn]⟩
   .right
    refine⟨u,by omega,?_,h3,h4⟩;rw[show s.n-n=(s.n-(n+1))+1 by omega,List.getElem?_cons_succ] at h2;exact h2
theorem dF:s∈aY w ks↔∃t,w.ts[s.n]?=some t/\s.n∉ks/\(s.a,s.b)∈ways t:=by
 unfold aY;rw[jf];simp
noncomputable abbrev LD:Ev->ai Fl:=(az (dN 2 (ar (ah (aa 3) (ah (aa 5) (ah (aa 6) aF))) eQ))
 aq)
noncomputable abbrev Jd:Ev->ai Fl:=(az (dX (ae (aa 3) (aa 1) cZ)
 (az (n6 (ar (ah (aa 4) aF) m_steps_along) (fj [5,6])
 LD)
 aq)
 aq)
 aq)
noncomputable def zX(w:fL) (ks:List Nat) (ss:List rf) (x3 x4 x5 x6:Sl):Ev:=[.sh (bp w),.sh (bD ks),.ow (.lst (ss.map i8)),x3,x4,x5,x6]
theorem yQ{n:Nat}:∀(ps:List (Str×Str)) (ss:List rf) (x5 x6:Sl),ss.length+ps.length<=900->∃y5 y6,bL (fj [5,6]) LD (ps.map pr) (zX w ks ss (.sh (.int (n:Int))) (.sh x4) x5 x6)=.ok (.nx (zX w ks (ss++ps.map λp=>⟨n,p.1,p.2⟩) (.sh (.int (n:Int))) (.sh x4) y5 y6))
 |[],ss,x5,x6,_=>⟨x5,x6,by simp only[List.map_nil,List.append_nil];rfl⟩
 |p::ps,ss,x5,x6,h=>by
  rw[List.length_cons] at h;obtain⟨y5,y6,e⟩:=yQ (w:=w) (ks:=ks) (n:=n) (x4:=x4) ps (ss++[⟨n,p.1,p.2⟩]) (.sh (.str p.1)) (.sh (.str p.2)) (by rw[List.length_append,List.length_singleton];omega);refine⟨y5,y6,?_⟩;have hap:decide ((ss.map i8).length<=999)=true:=decide_eq_true (by rw[List.length_map];omega);rw[List.map_cons,cQ (ρ1:=zX w ks ss (.sh (.int (n:Int))) (.sh x4) (.sh (.str p.1)) (.sh (.str p.2))) (ρ2:=zX w ks (ss++[⟨n,p.1,p.2⟩]) (.sh (.int (n:Int))) (.sh x4) (.sh (.str p.1)) (.sh (.str p.2))) rfl]
  .rw[e,List.map_cons,List.append_assoc];rfl
  .unfold zX
   have:(ss++[(⟨n,p.1,p.2⟩:rf)]).map i8=ss.map i8++[.tup [.int (n:Int),.str p.1,.str p.2]]:=by rw[List.map_append];rfl
   simp only[this];open_line with[ee hap]
theorem uY(t14:w.ts.length<=14):∀(ts:List uA) (n:Nat) (ss:List rf) (x3 x4 x5 x6:Sl),ss.length+2*ts.length<=100->∃y3 y4 y5 y6,bL (fj [3,4]) Jd (numbered n (ts.map bO)) (zX w ks ss x3 x4 x5 x6)=.ok (.nx (zX w ks (ss++bS ks n ts) y3 y4 y5 y6))
 |[],n,ss,x3,x4,x5,x6,_=>⟨x3,x4,x5,x6,by rw[bS,List.append_nil];rfl⟩
 |t::ts,n,ss,x3,x4,x5,x6,h=>by
  rw[List.length_cons] at h;have hni:=K11.notIn_nums (ks:=ks) (n:=n);have h2:=xZ t;have key:∃y5 y6,Jd (zX w ks ss (.sh (.int (n:Int))) (.sh (bO t)) x5 x6)=.ok (.nx (zX w ks (ss++bW ks n t) (.sh (.int (n:Int))) (.sh (bO t)) y5 y6)):=by
   unfold bW
   by_cases hk:n∈ks
   .rw[if_pos hk,List.append_nil]
    rw[decide_eq_true hk] at hni;refine⟨x5,x6,?_⟩;unfold zX bD;open_line with[hni]
   .rw[if_neg hk]
    rw[decide_eq_false hk] at hni;obtain⟨y5,y6,e⟩:=yQ (w:=w) (ks:=ks) (n:=n) (x4:=bO t) (ways t) ss x5 x6 (by omega);refine⟨y5,y6,?_⟩;unfold zX bD at e ⊢;open_line with[hni,K11.steps_ok,e]
  obtain⟨y5,y6,e1⟩:=key;have hle:=nU (ks:=ks) (n:=n) (t:=t);obtain⟨z3,z4,z5,z6,e2⟩:=uY (ks:=ks) t14 ts (n+1) (ss++bW ks n t) (.sh (.int (n:Int))) (.sh (bO t)) y5 y6 (by rw[List.length_append];omega);refine⟨z3,z4,z5,z6,?_⟩;rw[List.map_cons,DL.numbered,cQ (ρ1:=zX w ks ss (.sh (.int (n:Int))) (.sh (bO t)) x5 x6) rfl e1,e2,bS,List.append_assoc]
theorem steps_ok(W:cf w):m_steps_left [bp w,bD ks]=.ok (.lst ((aY w ks).map i8)):=by
 have t14:=W.t14;obtain⟨y3,y4,y5,y6,e⟩:=uY (w:=w) (ks:=ks) t14 w.ts 0 [] .no .no .no .no (by simp;omega);rw[List.nil_append] at e;have hi:aN (bp w) (.int 1)=.ok (.lst (w.ts.map bO)):=rfl;unfold zX at e;simp only[List.map_nil] at e;open_line with[K51.m_steps_left,K51.b_steps_left,hi,e]
 rfl
open K11 (nums ways pr dQ)
structure gM where
 p:Str
 z:Int
 y:List Nat
noncomputable def gB(e:gM):D:=.tup [.int e.z,.lst (nums e.y)]
noncomputable def fD(F:List gM):D:=.dic (F.map (·.p)) (F.map gB)
noncomputable def get(F:List gM) (k:Str):Option gM:=F.find? λe=>decide (e.p=k)
theorem jK{k:Str}:∀{F:List gM},jL (F.map (·.p)) (F.map gB) k=(get F k).map gB
 |[]=>rfl
 |e::F=>by
  rw[List.map_cons,List.map_cons,jL];unfold get
  by_cases h:e.p=k
  .rw[if_pos h,List.find?_cons_of_pos (by exact decide_eq_true h)];rfl
  .rw[if_neg h,List.find?_cons_of_neg (by simpa using h),jK];rfl
theorem cV{k:Str}(h:get F k=some e):e∈F/\e.p=k:=⟨List.mem_of_find?_eq_some h,by simpa using List.find?_some h⟩
theorem oQ{k:Str}:get F k=none↔∀e∈F,e.p≠k:=by
 unfold get;rw[List.find?_eq_none];simp
theorem xF(nd:(F.map (·.p)).Nodup)(he:e∈F):get F e.p=some e:=by
 induction F with
 |nil=>cases he
 |cons d F ih =>
  rw[List.map_cons,List.nodup_cons] at nd;unfold get;rcases List.mem_cons.mp he with rfl|he
  .rw[List.find?_cons_of_pos (by simp)]
  .have:d.p≠e.p:=λz=>nd.1 (z▸List.mem_map.mpr ⟨e,he,rfl⟩)
   rw[List.find?_cons_of_neg (by simpa using this)];exact ih nd.2 he
noncomputable def cJ(zs:List Int) (n:Nat):Int:=(zs[n]?).getD 0
noncomputable def ib(zs:List Int) (F:List gM) (c:Option gM) (s:rf):Option gM:=match get F s.a,get F s.b with
 |some e,none=>match c with
  |none=>some ⟨s.b,e.z+cJ zs s.n,e.y++[s.n]⟩
  |some d=>if e.z+cJ zs s.n<d.z then some ⟨s.b,e.z+cJ zs s.n,e.y++[s.n]⟩ else c
 |_,_=>c
noncomputable def cD:Option gM->D
 |none=>.non
 |some e=>.tup [.str e.p,.int e.z,.lst (nums e.y)]
noncomputable abbrev nB:Ev->ai Fl :=
 (az (dX (gW (ae (aa 5) (aa 2) qg) (ae (aa 6) (aa 2) ef))
 (az (bg 7 (ae (ae (ae (aa 2) (aa 5) dS) (dC (.int 0)) aN) (ae (aa 1) (aa 4) aN) cq))
 (az (dX (jb (ae (aa 3) (dC (.non)) ll) (ae (aa 7) (ae (aa 3) (dC (.int 1)) aN) Ic))
 (az (bg 3 (ar (ah (aa 6) (ah (aa 7) (ah (ae (ae (ae (aa 2) (aa 5) dS) (dC (.int 1)) aN) (ar (ah (aa 4) aF) dj) cq) aF))) eQ))
 aq)
 aq)
 aq))
 aq)
 aq)
section
variable {S:D}{zs:List Int}{F:List gM}
theorem GR(hF:∀e∈F,e.y.length<=900)(hs:s.n<zs.length) :
  ∃y7,nB [.sh S,.sh (.lst (zs.map D.int)),.sh (fD F),.sh (cD c),.sh (.int (s.n:Int)),.sh (.str s.a),.sh (.str s.b),x7]=.ok (.nx [.sh S,.sh (.lst (zs.map D.int)),.sh (fD F),.sh (cD (ib zs F c s)),.sh (.int (s.n:Int)),.sh (.str s.a),.sh (.str s.b),y7]):=by
 have g1:∀k,qg (.str k) (fD F)=.ok (.bl (get F k).isSome):=λk=>by
  show ai.ok (D.bl (jL (F.map (·.p)) (F.map gB) k).isSome)=_;rw[jK,Option.isSome_map]
 have g2:∀k,ef (.str k) (fD F)=.ok (.bl (!(get F k).isSome)):=λk=>by
  show ai.ok (D.bl (!(jL (F.map (·.p)) (F.map gB) k).isSome))=_;rw[jK,Option.isSome_map]
 have h1:=g1 s.a;have h2:=g2 s.b;unfold ib;cases ea:get F s.a with
 |none =>
  rw[ea] at h1;simp only[Option.isSome_none] at h1;refine⟨x7,?_⟩;open_line with[h1]
 |some e =>
  rw[ea] at h1;simp only[Option.isSome_some] at h1;cases eb:get F s.b with
  |some e' =>
   rw[eb] at h2;simp only[Option.isSome_some,Bool.not_true] at h2;refine⟨x7,?_⟩;open_line with[h1,h2]
  |none =>
   rw[eb] at h2;simp only[Option.isSome_none,Bool.not_false] at h2;have h3:dS (fD F) (.str s.a)=.ok (gB e):=by
    show(match jL (F.map (·.p)) (F.map gB) s.a with|some d=>ai.ok d|none=>.stuck)=_;rw[jK,ea];rfl
   have h4:aN (gB e) (.int 0)=.ok (.int e.z):=rfl;have h5:aN (gB e) (.int 1)=.ok (.lst (nums e.y)):=rfl;have h6:aN (.lst (zs.map D.int)) (.int (s.n:Int))=.ok (.int (cJ zs s.n)):=oO (by
    unfold cJ;rw[List.getElem?_map,List.getElem?_eq_getElem hs];rfl)
   have h7:cq (.lst (nums e.y)) (.lst [.int (s.n:Int)])=.ok (.lst (nums (e.y++[s.n]))):=by
    rw[iX (decide_eq_true (by
     have:=hF e (cV ea).1;unfold nums;simp;omega))]
    unfold nums;rw[List.map_append];rfl
   cases c with
   |none =>
    refine⟨.sh (.int (e.z+cJ zs s.n)),?_⟩;simp only[cD];open_line with[h1,h2,h3,h4,h5,h6,h7]
   |some d =>
    refine⟨.sh (.int (e.z+cJ zs s.n)),?_⟩;simp only
    by_cases hlt:e.z+cJ zs s.n<d.z
    .rw[if_pos hlt]
     simp only[cD];open_line with[h1,h2,h3,h4,h5,h6,h7,decide_eq_true hlt]
    .rw[if_neg hlt]
     simp only[cD];open_line with[h1,h2,h3,h4,h5,h6,h7,decide_eq_false hlt]
theorem B0(hF:∀e∈F,e.y.length<=900):∀(ss:List rf) (c:Option gM) (x4 x5 x6 x7:Sl),(∀s∈ss,s.n<zs.length)->∃y4 y5 y6 y7,bL (fj [4,5,6]) nB (ss.map i8) [.sh S,.sh (.lst (zs.map D.int)),.sh (fD F),.sh (cD c),x4,x5,x6,x7]=.ok (.nx [.sh S,.sh (.lst (zs.map D.int)),.sh (fD F),.sh (cD (ss.foldl (ib zs F) c)),y4,y5,y6,y7])
 |[],c,x4,x5,x6,x7,_=>⟨x4,x5,x6,x7,rfl⟩
 |s::ss,c,x4,x5,x6,x7,h=>by
  obtain⟨y7,e1⟩:=GR (S:=S) hF (h s List.mem_cons_self) (c:=c) (x7:=x7);obtain⟨z4,z5,z6,z7,e2⟩:=B0 hF ss (ib zs F c s) (.sh (.int (s.n:Int))) (.sh (.str s.a)) (.sh (.str s.b)) y7 λu hu=>h u (List.mem_cons_of_mem _ hu);exact⟨z4,z5,z6,z7,by rw[List.map_cons,cQ (ρ1:=[.sh S,.sh (.lst (zs.map D.int)),.sh (fD F),.sh (cD c),.sh (.int (s.n:Int)),.sh (.str s.a),.sh (.str s.b),x7]) rfl e1,e2,List.foldl_cons]⟩
end
noncomputable def Ai(ss:List rf) (zs:List Int) (F:List gM):Option gM:=ss.foldl (ib zs F) none
theorem Ef(hF:∀e∈F,e.y.length<=900)(hs:∀s∈ss,s.n<zs.length):m_nearest_step [.lst (ss.map i8),.lst (zs.map D.int),fD F]=.ok (cD (Ai ss zs F)):=by
 obtain⟨y4,y5,y6,y7,e⟩:=B0 (S:=.lst (ss.map i8)) hF ss none .no .no .no .no hs;have e:bL (fj [4,5,6]) nB (ss.map i8) [.sh (.lst (ss.map i8)),.sh (.lst (zs.map D.int)),.sh (fD F),.sh .non,.no,.no,.no,.no]=_:=e;open_line with[m_nearest_step,iG,e]
 rfl
noncomputable def qK(F:List gM) (s:rf) (e:gM):Prop:=e∈F/\e.p=s.a/\∀d∈F,d.p≠s.b
theorem lW(nd:(F.map (·.p)).Nodup):∀(ss:List rf) (c:Option gM),
  (∀d,ss.foldl (ib zs F) c=some d->(c=some d∨∃s∈ss,∃e,qK F s e/\d=⟨s.b,e.z+cJ zs s.n,e.y++[s.n]⟩)/\(∀d',c=some d'->d.z<=d'.z)/\∀s∈ss,∀e,qK F s e->d.z<=e.z+cJ zs s.n) /\
  (ss.foldl (ib zs F) c=none->c=none/\∀s∈ss,∀e,¬qK F s e)
 |[],c=>⟨λd h=>⟨.inl h,λd' h'=>by rw[List.foldl_nil] at h;rw[h] at h';cases h';exact Int.le_refl _,λs hs=>(nomatch hs)⟩,λh=>⟨h,λs hs=>(nomatch hs)⟩⟩
 |s::ss,c=>by
  obtain⟨i1,i2⟩:=lW (zs:=zs) nd ss (ib zs F c s);rw[List.foldl_cons];have hc:∀e,qK F s e->get F s.a=some e/\get F s.b=none:=λe ⟨h1,h2,h3⟩=>⟨by rw[←h2];exact xF nd h1,oQ.mpr h3⟩
  have hst:(ib zs F c s=c/\((∀e,¬qK F s e)∨∃e d,qK F s e/\c=some d/\d.z<=e.z+cJ zs s.n))∨∃e,qK F s e/\ib zs F c s=some ⟨s.b,e.z+cJ zs s.n,e.y++[s.n]⟩/\∀d,c=some d->e.z+cJ zs s.n<=d.z:=by
   unfold ib;cases ea:get F s.a with
   |none=>exact .inl ⟨rfl,.inl λe h=>by rw[(hc e h).1] at ea;cases ea⟩
   |some e =>
    cases eb:get F s.b with
    |some e'=>exact .inl ⟨rfl,.inl λe h=>by rw[(hc e h).2] at eb;cases eb⟩
    |none =>
     have hC:qK F s e:=⟨(cV ea).1,(cV ea).2,oQ.mp eb⟩
     cases c with
     |none=>exact .inr ⟨e,hC,rfl,λd h=>by cases h⟩
     |some d =>
      simp only
      by_cases hlt:e.z+cJ zs s.n<d.z
      .rw[if_pos hlt]
       exact .inr ⟨e,hC,rfl,λd' h=>by cases h;omega⟩
      .rw[if_neg hlt]
       exact .inl ⟨rfl,.inr ⟨e,d,hC,rfl,by omega⟩⟩
  have one:∀e e',qK F s e->qK F s e'->e=e':=λe e' h h'=>by
   have h1:=(hc e h).1;rw[(hc e' h').1] at h1;cases h1;rfl
  refine⟨λd h=>?_,λh=>?_⟩
  .obtain⟨j1,j2,j3⟩:=i1 d h
   rcases hst with⟨e1,e2⟩|⟨e,hC,e1,e2⟩
   .rw[e1] at j1 j2
    refine⟨?_,j2,λs' hs' e' hC'=>?_⟩
    .rcases j1 with j1|⟨s',hs',j1⟩
     .exact .inl j1
     .exact .inr ⟨s',List.mem_cons_of_mem _ hs',j1⟩
    .rcases List.mem_cons.mp hs' with rfl|hs'
     .rcases e2 with e2|⟨e,d0,hC,h1,h2⟩
      .exact absurd hC' (e2 e')
      .rw[one e' e hC' hC]
       have:=j2 d0 h1;omega
     .exact j3 s' hs' e' hC'
   .rw[e1] at j1 j2
    have k:=j2 _ rfl;refine⟨?_,λd' h'=>Int.le_trans k (e2 d' h'),λs' hs' e' hC'=>?_⟩
    .rcases j1 with j1|⟨s',hs',j1⟩
     .cases j1
      exact .inr ⟨s,List.mem_cons_self,e,hC,rfl⟩
     .exact .inr ⟨s',List.mem_cons_of_mem _ hs',j1⟩
    .rcases List.mem_cons.mp hs' with rfl|hs'
     .rw[one e' e hC' hC];exact k
     .exact j3 s' hs' e' hC'
  .obtain⟨j1,j2⟩:=i2 h
   rcases hst with⟨e1,e2⟩|⟨e,hC,e1,e2⟩
   .rw[e1] at j1
    refine⟨j1,λs' hs' e' hC'=>?_⟩;rcases List.mem_cons.mp hs' with rfl|hs'
    .rcases e2 with e2|⟨e,d0,hC,h1,h2⟩
     .exact e2 e' hC'
     .rw[j1] at h1;cases h1
    .exact j2 s' hs' e' hC'
   .rw[e1] at j1;cases j1
open K11 (nums ways pr dQ)
noncomputable def HV(w:fL) (ks:List Nat) (n:Nat) (a b:Str):Prop:=∃t,w.ts[n]?=some t/\n∉ks/\(a,b)∈ways t
inductive mq (w:fL) (ks:List Nat) (a:Str):List Nat->Str->Prop where
 |nil:mq w ks a [] a
 |snoc {p:List Nat}{b c:Str}{n:Nat}:mq w ks a p b->HV w ks n b c->mq w ks a (p++[n]) c
noncomputable def ff(zs:List Int) (p:List Nat):Int:=(p.map (cJ zs)).sum
theorem fM:ff zs (p++[n])=ff zs p+cJ zs n:=by
 unfold ff;rw[List.map_append,List.sum_append];simp
theorem Di(T:qG zs t)(h:(a,b)∈ways t):a∈zs/\b∈zs/\(a=t.a∨a=t.b)/\(b=t.a∨b=t.b):=by
 have ta:=T.a;have tb:=T.b;unfold ways at h;split at h
 .have:(a,b)=(t.a,t.b):=by simpa using h
  cases this;exact⟨ta,tb,.inl rfl,.inr rfl⟩
 .rcases List.mem_cons.mp h with e|h
  .cases e;exact⟨ta,tb,.inl rfl,.inr rfl⟩
  .have:(a,b)=(t.b,t.a):=by simpa using h
   cases this;exact⟨tb,ta,.inr rfl,.inl rfl⟩
structure nO (w:fL) (ks:List Nat) (zs:List Int) (F:List gM) (m:Int):Prop where
 nd:(F.map (·.p)).Nodup
 pl:∀e∈F,e.p∈w.ps
 fi:∃e∈F,e.p=w.fi/\e.z=0/\e.y=[]
 wy:∀e∈F,mq w ks w.fi e.y e.p/\e.z=ff zs e.y/\e.y.Nodup/\e.y.length<F.length
 en:∀e∈F,∀n∈e.y,∀t,w.ts[n]?=some t->(∃d∈F,d.p=t.a)/\∃d∈F,d.p=t.b
 mo:∀e∈F,0<=e.z/\e.z<=m
 cl:∀s∈aY w ks,∀e∈F,e.p=s.a->∀d∈F,d.p=s.b->d.z<=e.z+cJ zs s.n
 op:∀s∈aY w ks,∀e,qK F s e->m<=e.z+cJ zs s.n
theorem sT(h:∀z∈zs,0<=z)(n:Nat):0<=cJ zs n:=by
 unfold cJ;cases e:zs[n]? with|none=>exact Int.le_refl _|some z=>exact h z (List.mem_of_getElem? e)
theorem nO.start(W:cf w)(hz:∀z∈zs,0<=z):nO w ks zs [⟨w.fi,0,[]⟩] 0:=by
 have one:∀{e:gM},e∈[(⟨w.fi,0,[]⟩:gM)]->e=⟨w.fi,0,[]⟩:=λh=>by simpa using h
 refine⟨by simp,λe he=>?_,⟨_,List.mem_singleton.mpr rfl,rfl,rfl,rfl⟩,λe he=>?_,λe he n hn=>?_,λe he=>?_,λs hs e he ea d hd eb=>?_,λs hs e ⟨he,_⟩=>?_⟩
 .rw[one he];exact W.fi
 .rw[one he];exact⟨.nil,rfl,List.nodup_nil,by simp⟩
 .rw[one he] at hn;cases hn
 .rw[one he];exact⟨Int.le_refl _,Int.le_refl _⟩
 .rw[one he,one hd]
  have:=sT hz s.n;simp;exact this
 .rw[one he]
  have:=sT hz s.n;simp;exact this
theorem nO.step(W:cf w)(hz:∀z∈zs,0<=z)(R:nO w ks zs F m)(h:Ai (aY w ks) zs F=some d):nO w ks zs (F++[d]) d.z/\∀e∈F,e.p≠d.p:=by
 obtain⟨j1,_,j3⟩:=(lW (zs:=zs) R.nd (aY w ks) none).1 d h;rcases j1 with j1|⟨s,hs,e,hC,rfl⟩
 .cases j1
 obtain⟨hcm,hca,hcb⟩:=hC;obtain⟨t,ht1,ht2,ht3⟩:=dF.mp hs;have T:=W.ts t (List.mem_of_getElem? ht1);obtain⟨wa,wb,wc,wd⟩:=Di T ht3;have hm:m<=e.z+cJ zs s.n:=R.op s hs e ⟨hcm,hca,hcb⟩;have hnn:=sT hz;have mem:∀{x:gM},x∈F++[(⟨s.b,e.z+cJ zs s.n,e.y++[s.n]⟩:gM)]->x∈F∨x=⟨s.b,e.z+cJ zs s.n,e.y++[s.n]⟩:=λhx=>by
  rcases List.mem_append.mp hx with hx|hx
  .exact .inl hx
  .exact .inr (by simpa using hx)
 have old:∀{x:gM},x∈F->x∈F++[(⟨s.b,e.z+cJ zs s.n,e.y++[s.n]⟩:gM)]:=λhx=>List.mem_append_left _ hx;have new:(⟨s.b,e.z+cJ zs s.n,e.y++[s.n]⟩:gM)∈F++[(⟨s.b,e.z+cJ zs s.n,e.y++[s.n]⟩:gM)]:=List.mem_append_right _ (List.mem_singleton.mpr rfl);obtain⟨k1,k2,k3,k4⟩:=R.wy e hcm;refine⟨⟨?_,λx hx=>?_,?_,λx hx=>?_,λx hx n hn u hu=>?_,λx hx=>?_,λs' hs' x hx xa y hy yb=>?_,λs' hs' x ⟨hx,xa,xb⟩=>?_⟩,hcb⟩
 .rw[List.map_append]
  refine List.nodup_append.mpr ⟨R.nd,by simp,λa ha b hb=>?_⟩;obtain⟨x,hx,rfl⟩:=List.mem_map.mp ha;have:b=s.b:=by simpa using hb
  rw[this];exact hcb x hx
 .rcases mem hx with hx|rfl
  .exact R.pl x hx
  .exact wb
 .obtain⟨x,hx,h1⟩:=R.fi
  exact⟨x,old hx,h1⟩
 .rcases mem hx with hx|rfl
  .obtain⟨h1,h2,h3,h4⟩:=R.wy x hx
   exact⟨h1,h2,h3,by rw[List.length_append];omega⟩
  .refine⟨.snoc k1 ⟨t,ht1,ht2,by rw[hca];exact ht3⟩,by rw[fM,k2],?_,by simp;omega⟩
   refine List.nodup_append.mpr ⟨k3,by simp,λa ha b hb=>?_⟩;have hbn:b=s.n:=by simpa using hb
   subst hbn;intro z;subst z;obtain⟨⟨d1,hd1,e1⟩,d2,hd2,e2⟩:=R.en e hcm _ ha t ht1;rcases wd with z|z
   .exact hcb d1 hd1 (by rw[e1,z])
   .exact hcb d2 hd2 (by rw[e2,z])
 .rcases mem hx with hx|rfl
  .obtain⟨⟨d1,hd1,e1⟩,d2,hd2,e2⟩:=R.en x hx n hn u hu
   exact⟨⟨d1,old hd1,e1⟩,d2,old hd2,e2⟩
  .rcases List.mem_append.mp hn with hn|hn
   .obtain⟨⟨d1,hd1,e1⟩,d2,hd2,e2⟩:=R.en e hcm n hn u hu
    exact⟨⟨d1,old hd1,e1⟩,d2,old hd2,e2⟩
   .have:n=s.n:=by simpa using hn
    subst this;rw[ht1] at hu;cases hu;have ne:=T.ne;unfold ways at ht3;have hab:(s.a=t.a/\s.b=t.b)∨(s.a=t.b/\s.b=t.a):=by
     split at ht3
     .have:(s.a,s.b)=(t.a,t.b):=by simpa using ht3
      injection this with z1 z2;exact .inl ⟨z1,z2⟩
     .rcases List.mem_cons.mp ht3 with z|z
      .injection z with z1 z2;exact .inl ⟨z1,z2⟩
      .have:(s.a,s.b)=(t.b,t.a):=by simpa using z
       injection this with z1 z2;exact .inr ⟨z1,z2⟩
    rcases hab with⟨z1,z2⟩|⟨z1,z2⟩
    .exact⟨⟨e,old hcm,by rw[hca,z1]⟩,_,new,z2⟩
    .exact⟨⟨_,new,z2⟩,e,old hcm,by rw[hca,z1]⟩
 .have he:=R.mo e hcm
  have:=hnn s.n;rcases mem hx with hx|rfl
  .have:=R.mo x hx
   exact⟨this.1,by show x.z<=e.z+cJ zs s.n;omega⟩
  .exact⟨by show 0<=e.z+cJ zs s.n;omega,Int.le_refl _⟩
 .have n':=hnn s'.n
  rcases mem hx with hx|rfl
  .rcases mem hy with hy|rfl
   .exact R.cl s' hs' x hx xa y hy yb
   .exact j3 s' hs' x ⟨hx,xa,λd hd=>by rw[←yb];exact hcb d hd⟩
  .rcases mem hy with hy|rfl
   .have:=(R.mo y hy).2
    show y.z<=e.z+cJ zs s.n+cJ zs s'.n;omega
   .show e.z+cJ zs s.n<=e.z+cJ zs s.n+cJ zs s'.n
    omega
 .have n':=hnn s'.n
  rcases mem hx with hx|rfl
  .exact j3 s' hs' x ⟨hx,xa,λd hd=>xb d (old hd)⟩
  .show e.z+cJ zs s.n<=e.z+cJ zs s.n+cJ zs s'.n
   omega
noncomputable def wF(w:fL) (ks:List Nat) (F:List gM):Prop:=∀s∈aY w ks,∀e∈F,e.p=s.a->∃d∈F,d.p=s.b
theorem nO.len(W:cf w)(R:nO w ks zs F m):F.length<=7:=by
 have:=Cod.nodup_le R.nd (λz hz=>by
  obtain⟨e,he,rfl⟩:=List.mem_map.mp hz;exact R.pl e he)
 rw[List.length_map] at this;have:=W.n7;omega
theorem nO.shut(R:nO w ks zs F m)(h:Ai (aY w ks) zs F=none):wF w ks F:=λs hs e he ea=>by
 have hn:=((lW (zs:=zs) R.nd (aY w ks) none).2 h).2 s hs e;cases hg:get F s.b with|none=>exact absurd ⟨he,ea,oQ.mp hg⟩ hn|some d=>exact⟨d,(cV hg).1,(cV hg).2⟩
noncomputable abbrev rT:Ev->ai D:=ae (aa 5) (dC (.non)) iA
noncomputable abbrev rB:Ev->ai Fl :=
 (az (mE 4 (ar (ah (ae (aa 5) (dC (.int 1)) aN) (ah (ae (aa 5) (dC (.int 2)) aN) aF)) eQ) (ae (aa 5) (dC (.int 0)) aN))
 (az (nZ 5 (ar (ah (aa 3) (ah (aa 2) (ah (aa 4) aF))) m_nearest_step))
 aq))
section
variable {ρ:Ev}{i:Nat}{f k:Ev->ai D}{ks:List Str}{ds:List D}{d:D}
theorem pX:rD i f ρ=(f ρ).bind (yu i ρ):=aG rfl
theorem nI:yu i ρ (.dic ks ds)=.ok (.nx (ρ.set i (.ow (.dic ks ds)))):=aG rfl
noncomputable def Bw(i:Nat) (f k:Ev->ai D) (ρ:Ev) (s:Option Sl):ai Fl:=match s with
 |some (.ow (.dic ks ds))=>(f ρ).bind λd=>(k ρ).bind (jT i ρ ks ds d)
 |_=>.stuck
theorem pW:mE i f k ρ=Bw i f k ρ ρ[i]?:=aG rfl
noncomputable def Bv(i:Nat) (k:Ev->ai D) (ρ:Ev) (ks:List Str) (ds:List D) (d:D):ai Fl:=(k ρ).bind (jT i ρ ks ds d)
theorem nH:Bw i f k ρ (some (.ow (.dic ks ds)))=(f ρ).bind (Bv i k ρ ks ds):=aG rfl
theorem kZ:Bv i k ρ ks ds d=(k ρ).bind (jT i ρ ks ds d):=aG rfl
theorem kY(h:decide (ks.length<=900)=true):jT i ρ ks ds d (.str x)=.ok (.nx (ρ.set i (.ow (qQ ks ds x d)))):=if_pos (Nat.lt_of_le_of_lt (of_decide_eq_true h) (by decide))
theorem pV:nZ i f ρ=(f (fu ρ)).bind (yg i ρ):=aG rfl
theorem kX(h1:nd d=true)(h2:oq ρ=true):yg i ρ d=.ok (.nx (ρ.set i (.sh d))):=if_pos ⟨h1,h2⟩
theorem ua:wg a b ρ=ae a b CK ρ:=aG rfl
theorem pY:CK (.str x) d=.ok (.dic [x] [d]):=aG rfl
end
theorem vg:∀(p:List Nat),nds (nums p)=true
 |[]=>rfl
 |n::p=>by
  show(nd (.int (n:Int))&&nds (nums p))=true;rw[vg p];rfl
theorem Jl(c:Option gM):nd (cD c)=true:=by
 cases c with
 |none=>rfl
 |some e =>
  show(nd (.str e.p)&&(nd (.int e.z)&&(nd (.lst (nums e.y))&&true)))=true;have:nd (.lst (nums e.y))=true:=by rw[nd];exact vg e.y
  rw[this];rfl
theorem DU(h:∀e∈F,e.p≠d.p):qQ (F.map (·.p)) (F.map gB) d.p (gB d)=fD (F++[d]):=by
 unfold qQ fD;rw[if_neg (λz=>by
  obtain⟨e,he,e1⟩:=List.mem_map.mp z;exact h e he e1),List.map_append,List.map_append]
 rfl
section
variable {w:fL}(W:cf w) {ks:List Nat}{zs:List Int}(hl:zs.length=w.ts.length) (hz:∀z∈zs,0<=z)
include W hl hz
theorem Bt(R:nO w ks zs F m):m_nearest_step [.lst ((aY w ks).map i8),.lst (zs.map D.int),fD F]=.ok (cD (Ai (aY w ks) zs F)) :=
 Ef (λe he=>by have:=(R.wy e he).2.2.2;have:=R.len W;omega) λs hs=>by
  obtain⟨t,ht,_⟩:=dF.mp hs;rw[hl];exact(List.getElem?_eq_some_iff.mp ht).1
theorem Gq:∀(f:Nat) (F:List gM) (m:Int),nO w ks zs F m->8<=F.length+f ->
  ∃G m',nO w ks zs G m'/\wF w ks G/\cb rT rB f [.sh (bp w),.sh (bD ks),.sh (.lst (zs.map D.int)),.sh (.lst ((aY w ks).map i8)),.ow (fD F),.sh (cD (Ai (aY w ks) zs F))]=.ok (.nx [.sh (bp w),.sh (bD ks),.sh (.lst (zs.map D.int)),.sh (.lst ((aY w ks).map i8)),.ow (fD G),.sh .non]):=by
 intro f
 induction f with
 |zero=>intro F m R h;have:=R.len W;omega
 |succ f ih =>
  intro F m R h;cases hn:Ai (aY w ks) zs F with
  |none =>
   refine⟨F,m,R,R.shut hn,?_⟩;exact rl (by unfold fD;open_line with[cD])
  |some d =>
   obtain⟨R',hne⟩:=R.step W hz hn;obtain⟨G,m',h1,h2,h3⟩:=ih (F++[d]) d.z R' (by rw[List.length_append,List.length_singleton];omega);refine⟨G,m',h1,h2,?_⟩;rw[←h3];refine uF (by unfold fD;open_line with[cD]) ?_;have hr:=Bt W hl hz R';have hp:=DU hne;have h9:decide ((F.map (·.p)).length<=900)=true:=decide_eq_true (by rw[List.length_map];have:=R.len W;omega);have q1:aN (cD (some d)) (.int 1)=.ok (.int d.z):=rfl;have q2:aN (cD (some d)) (.int 2)=.ok (.lst (nums d.y)):=rfl;have q0:aN (cD (some d)) (.int 0)=.ok (.str d.p):=rfl;have he:D.tup [.int d.z,.lst (nums d.y)]=gB d:=rfl;have hoD:∀c,oq [.sh (bp w),.sh (bD ks),.sh (.lst (zs.map D.int)),.sh (.lst ((aY w ks).map i8)),.ow (fD (F++[d])),.sh c]=true:=λ_=>rfl;show rB [.sh (bp w),.sh (bD ks),.sh (.lst (zs.map D.int)),.sh (.lst ((aY w ks).map i8)),.ow (.dic (F.map (·.p)) (F.map gB)),.sh (cD (some d))]=_;open_line with[pW,nH,kZ,kY h9,q0,q1,q2,he,hp,pV,hr,kX (Jl _) (hoD _)]
theorem w8:∃F m,nO w ks zs F m/\wF w ks F/\m_all_reached [bp w,bD ks,.lst (zs.map D.int)]=.ok (fD F):=by
 have R0:=nO.start W (ks:=ks) hz;obtain⟨G,m',h1,h2,h3⟩:=Gq W hl hz (ks:=ks) 8 [⟨w.fi,0,[]⟩] 0 R0 (by simp);refine⟨G,m',h1,h2,?_⟩;have hs:=steps_ok W (ks:=ks);have hn:=Bt W hl hz R0;have i2:aN (bp w) (.int 2)=.ok (.str w.fi):=rfl;have hf:fD [⟨w.fi,0,[]⟩]=.dic [w.fi] [.tup [.int 0,.lst []]]:=rfl;rw[hf] at hn h3;have hoD:oq [.sh (bp w),.sh (bD ks),.sh (.lst (zs.map D.int)),.sh (.lst ((aY w ks).map i8)),.ow (.dic [w.fi] [.tup [.int 0,.lst []]]),.no]=true:=rfl;have hw:∀(c:Ev->ai D) (s:Ev->ai Fl) (ρ:Ev),gi (λ_=>8) c s ρ=cb c s 8 ρ:=λ_ _ _=>rfl;unfold fD at h3 ⊢;open_line with[m_all_reached,jl,hs,i2,pX,ua,pY,nI,pV,hn,kX (Jl _) hoD,hw,h3]
end
open K11 (nums ways pr dQ)
theorem ya(R:nO w ks zs F m)(S:wF w ks F)(h:mq w ks w.fi p b):∃e∈F,e.p=b/\e.z<=ff zs p:=by
 induction h with
 |nil =>
  obtain⟨e,he,h1,h2,_⟩:=R.fi;exact⟨e,he,h1,by rw[h2];exact Int.le_refl _⟩
 |@snoc p b c n _ g ih =>
  obtain⟨e,he,h1,h2⟩:=ih;obtain⟨t,t1,t2,t3⟩:=g;have hs:(⟨n,b,c⟩:rf)∈aY w ks:=dF.mpr ⟨t,t1,t2,t3⟩;obtain⟨d,hd,hb⟩:=S _ hs e he h1;have:=R.cl _ hs e he h1 d hd hb;refine⟨d,hd,hb,?_⟩;rw[fM];have this:d.z<=e.z+cJ zs n:=this;omega
noncomputable def lB(w:fL):Int:=EN (w.ts.map (·.l))
noncomputable def lz(w:fL):List Int:=w.ts.map λt=>t.l.1*(lB w / t.l.2)
theorem wW(xs:List gV):eT (xs.map some)=xs:=by
 unfold eT;rw[List.filterMap_map];simp
section
variable {w:fL}(W:cf w)
include W
theorem jh:0<lB w/\(lB w).natAbs<=2 ^ 2800/\∀t∈w.ts,t.l.2∣lB w:=by
 have h:=CS (xs:=w.ts.map (·.l)) (λx hx=>by
  obtain⟨t,ht,rfl⟩:=List.mem_map.mp hx;exact(W.ts t ht).l) 1 0 ⟨by decide,by decide⟩
 obtain⟨⟨h1,h2⟩,_,h3⟩:=h;refine⟨h1,?_,λt ht=>h3 _ (List.mem_map.mpr ⟨t,ht,rfl⟩)⟩;refine Nat.le_trans h2 (Nat.pow_le_pow_right (by decide) ?_);rw[List.length_map];have:=W.t14;omega
theorem GU:(lz w).length=w.ts.length:=by unfold lz;rw[List.length_map]
theorem Fi:∀z∈lz w,0<=z:=λz hz=>by
 obtain⟨t,ht,rfl⟩:=List.mem_map.mp hz;have T:=W.ts t ht;have:=T.l.q1;exact Int.mul_nonneg T.l0 (Int.ediv_nonneg (by have:=(jh W).1;omega) (by omega))
theorem Jq(n:Nat):(cJ (lz w) n).natAbs<2 ^ 3000:=by
 unfold cJ lz;rw[List.getElem?_map];cases e:w.ts[n]? with
 |none=>show(0:Int).natAbs<_;exact Nat.pow_pos (by decide)
 |some t =>
  have T:=W.ts t (List.mem_of_getElem? e);show(t.l.1*(lB w / t.l.2)).natAbs<_;rw[Int.natAbs_mul,show(3000:Nat)=200+2800 from rfl,Nat.pow_add];have h1:t.l.1.natAbs<2 ^ 200:=Nat.lt_of_lt_of_le T.l.pN (by decide);have h2:(lB w / t.l.2).natAbs<=2 ^ 2800:=Nat.le_trans (Int.natAbs_ediv_le_natAbs _ _) (jh W).2.1;exact Nat.lt_of_lt_of_le (Nat.mul_lt_mul_of_lt_of_le h1 h2 (Nat.pow_pos (by decide))) (Nat.le_refl _)
theorem zW:m_scaled_lengths [bp w]=.ok (.tup [.lst ((lz w).map D.int),.int (lB w)]):=by
 have t14:=W.t14;have hi:aN (bp w) (.int 1)=.ok (.lst (w.ts.map bO)):=rfl;have hc:∀A,dH 1 [] (bb 0) mYes (ae (aa 0) (dC (.int 3)) aN) A (w.ts.map bO)=.ok (.lst (((w.ts.map (·.l)).map some).map bu)):=λA=>by
  rw[K51.comp_pick bO (λt=>some (bu (some t.l))) (by omega)]
  .rw[List.map_map,List.map_map,←List.filterMap_eq_map];rfl
  .intro t ht
   have:aN (bO t) (.int 3)=.ok (bu (some t.l)):=rfl;refine⟨[.sh (bO t)],rfl,.inr ⟨_,rfl,rfl,?_⟩⟩;open_line with[this]
 have hs:=Bi (os:=(w.ts.map (·.l)).map some) (by rw[List.length_map,List.length_map];omega) (λx hx=>by
  obtain⟨y,hy,e⟩:=List.mem_map.mp hx;cases e;obtain⟨t,ht,rfl⟩:=List.mem_map.mp hy;exact(W.ts t ht).l)
 rw[wW] at hs;open_line with[m_scaled_lengths,fW,hi,hc,hs]
 show ai.ok (D.tup [.lst _,.int (lB w)])=_;unfold lz;rw[List.map_map,List.map_map,List.map_map];rfl
theorem C6(hp:p.length<=7):(ff (lz w) p).natAbs<2 ^ 3003:=by
 have key:∀(p:List Nat),(ff (lz w) p).natAbs<=p.length*2 ^ 3000:=by
  intro p
  induction p with
  |nil=>show(0:Int).natAbs<=_;simp
  |cons n p ih =>
   have:ff (lz w) (n::p)=cJ (lz w) n+ff (lz w) p:=by unfold ff;rw[List.map_cons,List.sum_cons]
   rw[this,List.length_cons,Nat.add_mul,Nat.one_mul];have h1:=Int.natAbs_add_le (cJ (lz w) n) (ff (lz w) p);have h2:=Jq W n;omega
 have h:=key p;have h8:p.length*2 ^ 3000<=7*2 ^ 3000:=Nat.mul_le_mul_right _ hp;have h9:7*2 ^ 3000<2 ^ 3003:=by
  rw[show(3003:Nat)=3+3000 from rfl,Nat.pow_add];exact Nat.mul_lt_mul_of_pos_right (by decide) (Nat.pow_pos (by decide))
 omega
end
open K11 (nums ways pr dQ)
noncomputable def pf(w:fL) (F:List gM) (p:Str):Option gV:=(get F p).map λe=>bA e.z (lB w)
noncomputable def J5(w:fL) (F:List gM):D:=.dic w.ps (w.ps.map λp=>bu (pf w F p))
noncomputable def qR(w:fL) (F:List gM):D:=match get F w.la with
 |none=>.tup [.non,.non,J5 w F]
 |some e=>.tup [.lst (nums e.y),fr (bA e.z (lB w)),J5 w F]
theorem xU{k:Str}:∀{ps:List Str},jL ps (ps.map g) k=if k∈ps then some (g k) else none
 |[]=>rfl
 |p::ps=>by
  rw[List.map_cons,jL]
  by_cases h:p=k
  .subst h;simp
  .rw[if_neg h,xU]
   have:k≠p:=λz=>h z.symm;simp [this]
theorem Gx(h:p∈w.ps):dS (J5 w F) (.str p)=.ok (bu (pf w F p)):=by
 show(match jL w.ps (w.ps.map λp=>bu (pf w F p)) p with|some d=>ai.ok d|none=>.stuck)=_;rw[xU,if_pos h]
theorem K2(k:Str):qg (.str k) (fD F)=.ok (.bl (get F k).isSome):=by
 show ai.ok (D.bl (jL (F.map (·.p)) (F.map gB) k).isSome)=_;rw[jK,Option.isSome_map]
theorem Eu(k:Str):ef (.str k) (fD F)=.ok (.bl (!(get F k).isSome)):=by
 show ai.ok (D.bl (!(jL (F.map (·.p)) (F.map gB) k).isSome))=_;rw[jK,Option.isSome_map]
theorem Fp{k:Str}(h:get F k=some e):dS (fD F) (.str k)=.ok (gB e):=by
 show(match jL (F.map (·.p)) (F.map gB) k with|some d=>ai.ok d|none=>.stuck)=_;rw[jK,h];rfl
noncomputable abbrev pB:Ev->ai Fl :=
 (az (mE 4 (FK (ae (aa 5) (aa 3) qg) (ar (ah (ae (ae (aa 3) (aa 5) dS) (dC (.int 0)) aN) (ah (ae (aa 2) (dC (.int 1)) aN) aF)) K17.m_ratio) (dC (.non))) (aa 5))
 aq)
section
variable {w:fL}(W:cf w) {ks:List Nat}{F:List gM}{m:Int}(R:nO w ks (lz w) F m)
include W R
theorem Hg(he:e∈F):e.z.natAbs<2 ^ 3003:=by
 obtain⟨_,h2,_,h4⟩:=R.wy e he;have:=R.len W;rw[h2];exact C6 W (by omega)
theorem BF(h:get F p=some e):K17.m_ratio [.int e.z,.int (lB w)]=.ok (fr (bA e.z (lB w))):=by
 have b13:∀n,n<=6000->2 ^ n<=nQ:=λn hn=>by rw[my];exact Nat.pow_le_pow_right (by decide) (Nat.le_trans hn (by decide))
 obtain⟨h1,h2,_⟩:=jh W;refine uQ h1 (Nat.lt_of_lt_of_le (Hg W R (cV h).1) (b13 3003 (by decide))) (Nat.lt_of_le_of_lt h2 (Nat.lt_of_lt_of_le (Nat.pow_lt_pow_right (by decide) (show 2800<2801 by decide)) (b13 2801 (by decide))))
theorem BP{A:D}:∀(rest done:List Str) (x5:Sl),(done++rest).Nodup->(done++rest).length<=7->∃y5,bL (bb 5) pB (rest.map D.str) [.sh (bp w),.sh A,.sh (.tup [.lst ((lz w).map D.int),.int (lB w)]),.sh (fD F),.ow (.dic done (done.map λp=>bu (pf w F p))),x5] =
  .ok (.nx [.sh (bp w),.sh A,.sh (.tup [.lst ((lz w).map D.int),.int (lB w)]),.sh (fD F),.ow (.dic (done++rest) ((done++rest).map λp=>bu (pf w F p))),y5])
 |[],done,x5,_,_=>⟨x5,by rw[List.append_nil];rfl⟩
 |p::rest,done,x5,nd,hl=>by
  have e0:done++p::rest=(done++[p])++rest:=by rw[List.append_assoc];rfl
  rw[e0] at nd hl ⊢;obtain⟨y5,e⟩:=BP (A:=A) rest (done++[p]) (.sh (.str p)) nd hl;refine⟨y5,?_⟩;have hp:p∉done:=λz=>by
   have:=(List.nodup_append.mp nd).1;have:=(List.nodup_append.mp this).2.2 p z p (List.mem_singleton.mpr rfl);exact this rfl
  rw[List.map_cons,cQ (ρ1:=[.sh (bp w),.sh A,.sh (.tup [.lst ((lz w).map D.int),.int (lB w)]),.sh (fD F),.ow (.dic done (done.map λp=>bu (pf w F p))),.sh (.str p)]) (ρ2:=[.sh (bp w),.sh A,.sh (.tup [.lst ((lz w).map D.int),.int (lB w)]),.sh (fD F),.ow (.dic (done++[p]) ((done++[p]).map λp=>bu (pf w F p))),.sh (.str p)]) rfl,e];have h9:decide (done.length<=900)=true:=decide_eq_true (by rw[List.length_append,List.length_append] at hl;omega);have hput:∀d,qQ done (done.map λp=>bu (pf w F p)) p d=.dic (done++[p]) ((done.map λp=>bu (pf w F p))++[d]):=λd=>by unfold qQ;rw[if_neg hp]
  have hin:=K2 (F:=F) p;have hw0:bu none=.non:=rfl;have hw1:∀x,bu (some x)=fr x:=λ_=>rfl;have hv:(done++[p]).map (λp=>bu (pf w F p))=(done.map λp=>bu (pf w F p))++[bu (pf w F p)]:=by rw[List.map_append];rfl
  rw[hv];cases hg:get F p with
  |none =>
   rw[hg] at hin;simp only[Option.isSome_none] at hin;have hpf:pf w F p=none:=by unfold pf;rw[hg];rfl
   rw[hpf];open_line with[pW,nH,kZ,kY h9,hin,hput,hw0]
  |some e' =>
   rw[hg] at hin;simp only[Option.isSome_some] at hin;have hpf:pf w F p=some (bA e'.z (lB w)):=by unfold pf;rw[hg];rfl
   rw[hpf];have h4:aN (gB e') (.int 0)=.ok (.int e'.z):=rfl;open_line with[pW,nH,kZ,kY h9,hin,hput,Fp hg,h4,BF W R hg,hw1]
end
theorem shortest_ok(W:cf w):∃F m,nO w ks (lz w) F m/\wF w ks F/\m_shortest [bp w,bD ks]=.ok (qR w F):=by
 obtain⟨F,m,R,S,hr⟩:=w8 W (ks:=ks) (GU W) (Fi W);refine⟨F,m,R,S,?_⟩;have hs:=zW W;obtain⟨y5,hl⟩:=BP W R (A:=bD ks) w.ps [] .no (by rw[List.nil_append];exact W.nm.nd) (by rw[List.nil_append];exact W.n7);rw[List.nil_append,List.map_nil] at hl;have i0:aN (bp w) (.int 0)=.ok (.lst (w.ps.map D.str)):=rfl;have i3:aN (bp w) (.int 3)=.ok (.str w.la):=rfl;have hni:=Eu (F:=F) w.la;have hpr:=Gx (w:=w) (F:=F) W.la;unfold qR;cases hg:get F w.la with
 |none =>
  rw[hg] at hni;simp only[Option.isSome_none,Bool.not_false] at hni;open_line with[m_shortest,jH,hs,hr,pX,nI,i0,hl,i3,hni]
  rfl
 |some e =>
  rw[hg] at hni;simp only[Option.isSome_some,Bool.not_true] at hni;have h5:aN (gB e) (.int 1)=.ok (.lst (nums e.y)):=rfl;have hpf:pf w F w.la=some (bA e.z (lB w)):=by unfold pf;rw[hg];rfl
  rw[hpf] at hpr;unfold J5 at hpr ⊢;open_line with[m_shortest,jH,hs,hr,pX,nI,i0,hl,i3,hni,Fp hg,h5,hpr]
  rfl
open K11 (nums ways pr dQ)
open K51 (Bd pl)
noncomputable def val(x:gV):Rat:=(x.1:Rat) / (x.2:Rat)
theorem cy{a:Int}(h:0<a):(0:Rat)<(a:Rat):=by
 have:=Rat.intCast_lt_intCast.mpr h;simpa using this
theorem CI{a b c d:Rat}(hb:0<b)(hd:0<d):a / b<c / d↔a*d<c*b:=by
 have h1:a / b<c / d↔(a / b)*(b*d)<(c / d)*(b*d):=(Rat.mul_lt_mul_right (Rat.mul_pos hb hd)).symm;rw[h1];have e1:a / b*(b*d)=a*d:=by grind
 have e2:c / d*(b*d)=c*b:=by grind
 rw[e1,e2]
theorem tV(hx:0<x.2)(hy:0<y.2):flt x y=decide (val x<val y):=by
 unfold flt val
 congr 1
 rw[CI (cy hx) (cy hy),←Rat.intCast_mul,←Rat.intCast_mul,Rat.intCast_lt_intCast]
theorem eO(hb:0<b):val (bA a b)=(a:Rat) / (b:Rat):=by
 have h:=En (a:=a) (b:=b);have hq:0<(bA a b).2:=by have:=(cP (a:=a) hb).q1;omega
 unfold val;have p1:=cy hq;have p2:=cy hb;have e:((bA a b).1:Rat)*(b:Rat)=(a:Rat)*((bA a b).2:Rat):=by rw[←Rat.intCast_mul,←Rat.intCast_mul,h]
 grind
theorem FZ(hx:0<x.2)(hy:0<y.2):val (pl x y)=val x+val y:=by
 have:pl x y=bA (x.1*y.2+y.1*x.2) (x.2*y.2):=rfl;rw[this,eO (Int.mul_pos hx hy)];unfold val;have p1:=cy hx;have p2:=cy hy;rw[Rat.intCast_add,Rat.intCast_mul,Rat.intCast_mul,Rat.intCast_mul]
 grind
theorem G8(h:fG x):Bd x 200:=⟨by have:=h.q1;omega,Nat.lt_of_lt_of_le h.pN (by decide),Nat.lt_of_lt_of_le h.qN (by decide)⟩
open K11 (nums ways pr dQ)
open K51 (Bd pl)
theorem As(h:∀n∈ks,n∈ks')(g:HV w ks' n a b):HV w ks n a b:=by
 obtain⟨t,h1,h2,h3⟩:=g;exact⟨t,h1,λz=>h2 (h n z),h3⟩
theorem zN(h:∀n∈ks,n∈ks')(g:mq w ks' a p b):mq w ks a p b:=by
 induction g with|nil=>exact .nil|snoc _ g ih=>exact .snoc ih (As h g)
section
variable {w:fL}(W:cf w)
include W
theorem AV(hn:n<w.ts.length):val (K12.lenAt w n)=(cJ (lz w) n:Rat) / (lB w:Rat):=by
 have ht:=List.getElem?_eq_getElem hn;have T:=W.ts w.ts[n] (List.getElem_mem hn);rw[K12.lenAt_of ht];have hz:cJ (lz w) n=w.ts[n].l.1*(lB w / w.ts[n].l.2):=by
  unfold cJ lz;rw[List.getElem?_map,ht];rfl
 obtain⟨h1,_,h3⟩:=jh W;have hq:=T.l.q1;have hd:=Int.ediv_mul_cancel (h3 _ (List.getElem_mem hn));have e:cJ (lz w) n*w.ts[n].l.2=w.ts[n].l.1*lB w:=by rw[hz,Int.mul_assoc,hd]
 have p1:=cy h1;have p2:=cy (show 0<w.ts[n].l.2 by omega);have e':(cJ (lz w) n:Rat)*(w.ts[n].l.2:Rat)=(w.ts[n].l.1:Rat)*(lB w:Rat):=by rw[←Rat.intCast_mul,←Rat.intCast_mul,e]
 unfold val
 grind
variable {ks:List Nat}{F:List gM}{m:Int}(R:nO w ks (lz w) F m)
include R
end
end Pth
namespace Vlu
open PySem L2 DL Com Bor Pth
open K11 (nums ways pr dQ)
open K51 (Bd pl)
noncomputable abbrev m_ratio:List D->ai D:=Com.m_ratio
noncomputable def zA:Ev->ai Fl :=
 (az (bM (ar (ah (ae (ae (ae (aa 0) (dC (.int 0)) aN) (ae (aa 1) (dC (.int 1)) aN) bR) (ae (ae (aa 1) (dC (.int 0)) aN) (ae (aa 0) (dC (.int 1)) aN) bR) jE) (ah (ae (ae (aa 0) (dC (.int 1)) aN) (ae (aa 1) (dC (.int 1)) aN) bR) aF)) m_ratio))
 aq)
noncomputable def m_minus:List D->ai D:=cn 2 zA
noncomputable def gK:Ev->ai Fl :=
 (az (dX (ae (aa 0) (dC (.non)) ll)
 (az (bM (dC (.str "none")))
 aq)
 aq)
 (az (dX (ae (aa 1) (dC (.non)) ll)
 (az (bM (dC (.str "cut")))
 aq)
 aq)
 (az (bM (ar (ah (aa 1) (ah (aa 0) aF)) m_minus))
 aq)))
noncomputable def m_value_by:List D->ai D:=cn 2 gK
theorem FO:∀{xs:List gV},(∀x∈xs,1<=x.2/\x.2<=60)->∀b:Int,0<b->0<xs.foldl eC b/\xs.foldl eC b<=b*60 ^ xs.length
 |[],_,b,hb=>⟨hb,by simp⟩
 |x::xs,hx,b,hb=>by
  obtain⟨q1,q2⟩:=hx x List.mem_cons_self;have hg:0<(Int.gcd b x.2:Int):=oU (by omega);have hd:(Int.gcd b x.2:Int)∣b:=Int.gcd_dvd_left ..;have hq:0<b / (Int.gcd b x.2:Int):=Int.ediv_pos_of_pos_of_dvd hb (by omega) hd;have hle:b / (Int.gcd b x.2:Int)<=b:=Int.ediv_le_self _ (by omega);have h1:0<eC b x:=Int.mul_pos hq (by omega);have h2:eC b x<=b*60:=Int.mul_le_mul hle q2 (by omega) (by omega);obtain⟨k1,k2⟩:=FO (λy hy=>hx y (List.mem_cons_of_mem _ hy)) (eC b x) h1;refine⟨k1,Int.le_trans k2 ?_⟩;rw[List.length_cons,Int.pow_succ,Int.mul_comm ((60:Int) ^ xs.length) 60,←Int.mul_assoc];exact Int.mul_le_mul_of_nonneg_right h2 (Int.le_of_lt (Int.pow_pos (by decide)))
section
variable {w:fL}(W:cf w) (hw:∀t∈w.ts,c4 t)
include W hw
theorem GW:0<lB w/\lB w<=60 ^ 14:=by
 obtain⟨h1,h2⟩:=FO (xs:=w.ts.map (·.l)) (λx hx=>by
  obtain⟨t,ht,rfl⟩:=List.mem_map.mp hx;exact⟨(W.ts t ht).l.q1,(hw t ht).1.q1⟩) 1 (by decide)
 refine⟨h1,Int.le_trans h2 ?_⟩;rw[List.length_map,Int.one_mul];have:=W.t14
 exact_mod_cast Nat.pow_le_pow_right (n:=60) (by decide) this
theorem GV(n:Nat):0<=cJ (lz w) n/\cJ (lz w) n<=1000000000000*60 ^ 14:=by
 refine⟨sT (Fi W) n,?_⟩;unfold cJ lz;rw[List.getElem?_map];cases e:w.ts[n]? with
 |none=>show(0:Int)<=_;decide
 |some t =>
  have T:=W.ts t (List.mem_of_getElem? e);have A:=(hw t (List.mem_of_getElem? e)).1;have hB:=GW W hw;show t.l.1*(lB w / t.l.2)<=_;have h2:lB w / t.l.2<=60 ^ 14:=Int.le_trans (Int.ediv_le_self _ (by omega)) hB.2;exact Int.mul_le_mul A.p1 h2 (Int.ediv_nonneg (by omega) (by have:=T.l.q1;omega)) (by decide)
theorem nR:∀(p:List Nat),0<=ff (lz w) p/\ff (lz w) p<=p.length*(1000000000000*60 ^ 14)
 |[]=>⟨Int.le_refl _,by show(0:Int)<=_;simp⟩
 |n::p=>by
  have e:ff (lz w) (n::p)=cJ (lz w) n+ff (lz w) p:=by unfold ff;rw[List.map_cons,List.sum_cons]
  have h1:=GV W hw n;have h2:=nR p;rw[e,List.length_cons];refine⟨by omega,?_⟩
  push_cast
  rw[Int.add_mul,Int.one_mul];omega
variable {ks:List Nat}{F:List gM}{m:Int}(R:nO w ks (lz w) F m)
include R
theorem Fs(he:e∈F):e.z.natAbs<2 ^ 130/\(lB w).natAbs<2 ^ 130:=by
 obtain⟨_,h2,_,h4⟩:=R.wy e he;have hl:=R.len W;have hB:=GW W hw;obtain⟨z0,z1⟩:=nR W hw e.y;rw[←h2] at z0 z1;have h7:(e.y.length:Int)*(1000000000000*60 ^ 14)<=7*(1000000000000*60 ^ 14):=Int.mul_le_mul_of_nonneg_right (by omega) (by decide);have c1:(7:Int)*(1000000000000*60 ^ 14)<2 ^ 130:=by decide
 have c2:(60:Int) ^ 14<2 ^ 130:=by decide
 constructor
 .have:e.z<2 ^ 130:=by omega
  omega
 .have:lB w<2 ^ 130:=by omega
  omega
theorem rV(he:e∈F):Bd (bA e.z (lB w)) 130 :=
 K51.low_bd (jh W).1 (Fs W hw R he).1 (Fs W hw R he).2
end
noncomputable def mi(x y:gV):gV:=bA (x.1*y.2-y.1*x.2) (x.2*y.2)
theorem B1(hx:Bd x m)(hy:Bd y n)(h:m+n<=5900):m_minus [fr x,fr y]=.ok (fr (mi x y)):=by
 have b1:=hx.c60 (by omega);have b2:=hy.c60 (by omega);have hy':Bd (-y.1,y.2) n:=⟨hy.q0,by show(-y.1).natAbs<_;rw[Int.natAbs_neg];exact hy.a,hy.b⟩
 have hp:=K51.un_bd hx hy';have hc:=hp.c13 (by omega);have m1:=bV (di b1.1 b2.2);have m2:=bV (di b2.1 b1.2);have m3:=bV (di b1.2 b2.2);have e:x.1*y.2 + -y.1*x.2=x.1*y.2-y.1*x.2:=by rw[Int.neg_mul];omega
 have hlo:m_ratio [.int (x.1*y.2-y.1*x.2),.int (x.2*y.2)]=.ok (fr (mi x y)):=by
  have h1:=hc.1;have h2:=hc.2;unfold un at h1 h2;simp only[e] at h1;exact uQ hp.q0 h1 h2
 have i0:∀z:gV,aN (fr z) (.int 0)=.ok (.int z.1):=λ_=>rfl;have i1:∀z:gV,aN (fr z) (.int 1)=.ok (.int z.2):=λ_=>rfl;open_line with[m_minus,zA,i0,i1,m1,m2,m3,jE,hlo]
noncomputable def dA(w:fL) (F:List gM):D:=match get F w.la with
 |none=>.non
 |some e=>fr (bA e.z (lB w))
noncomputable def Dn(w:fL) (F F':List gM):D:=match get F w.la,get F' w.la with
 |none,_=>.str "none"
 |some _,none=>.str "cut"
 |some e,some e'=>fr (mi (bA e'.z (lB w)) (bA e.z (lB w)))
theorem Fg:aN (qR w F) (.int 1)=.ok (dA w F):=by
 unfold qR dA;cases get F w.la<;>rfl
theorem tR:ll (fr x) .non=.ok (.bl false):=rfl
theorem uG(W:cf w)(hw:∀t∈w.ts,c4 t)(R:nO w ks (lz w) F m)(R':nO w ks' (lz w) F' m'):m_value_by [dA w F,dA w F']=.ok (Dn w F F'):=by
 unfold dA Dn;cases h:get F w.la with
 |none=>open_line with[m_value_by,gK]
 |some e =>
  cases h':get F' w.la with
  |none=>open_line with[m_value_by,gK,tR]
  |some e' =>
   have:=B1 (rV W hw R' (cV h').1) (rV W hw R (cV h).1) (by decide);open_line with[m_value_by,gK,tR,this]
end Vlu
namespace Bfd
open PySem L2 DL Com Bor Pth Vlu
open K11 (nums ways pr)
structure BS where
 ks:List Str
 Z:Str->Int
noncomputable def fv(zs:List Int) (s:rf) (S:BS):BS×Bool :=
 if s.a∈S.ks/\(s.b∉S.ks∨S.Z s.a+cJ zs s.n<S.Z s.b) then(⟨if s.b∈S.ks then S.ks else S.ks++[s.b],λp=>if p=s.b then S.Z s.a+cJ zs s.n else S.Z p⟩,true) else(S,false)
noncomputable def dg(zs:List Int):List rf->BS×Bool->BS×Bool
 |[],r=>r
 |s::L,(S,c)=>dg zs L ((fv zs s S).1,c||(fv zs s S).2)
theorem uV:∀{L L':List rf}{r:BS×Bool},dg zs (L++L') r=dg zs L' (dg zs L r)
 |[],_,_=>rfl
 |s::L,L',(S,c)=>by rw[List.cons_append,dg,uV,dg]
noncomputable def mv:Int:=1000000000000*60 ^ 14
structure dI (w:fL) (tk:List Nat) (S:BS):Prop where
 nd:S.ks.Nodup
 pl:∀p∈S.ks,p∈w.ps
 fi:w.fi∈S.ks
 z0:S.Z w.fi<=0
 wk:∀p∈S.ks,∃q,mq w tk w.fi q p/\ff (lz w) q=S.Z p
 bd:∀p∈S.ks,S.Z p<=((S.ks.length:Int)-1)*mv
noncomputable def Le(S S':BS):Prop:=(∀p∈S.ks,p∈S'.ks)/\∀p∈S.ks,S'.Z p<=S.Z p
theorem Le.refl(S:BS):Le S S:=⟨λ_ h=>h,λ_ _=>Int.le_refl _⟩
theorem Le.trans{S T U:BS}(h:Le S T)(g:Le T U):Le S U:=⟨λp hp=>g.1 p (h.1 p hp),λp hp=>Int.le_trans (g.2 p (h.1 p hp)) (h.2 p hp)⟩
section
variable {w:fL}(W:cf w) (hw:∀t∈w.ts,c4 t) {tk:List Nat}
include W hw
theorem uN{S:BS}(K:dI w tk S)(hs:s∈aY w tk) :
  dI w tk (fv (lz w) s S).1/\Le S (fv (lz w) s S).1/\(s.a∈S.ks->s.b∈(fv (lz w) s S).1.ks/\(fv (lz w) s S).1.Z s.b<=S.Z s.a+cJ (lz w) s.n)/\((fv (lz w) s S).2=false->(fv (lz w) s S).1=S):=by
 obtain⟨t,ht,hn,hm⟩:=dF.mp hs;have T:=W.ts t (List.mem_of_getElem? ht);have hbp:s.b∈w.ps:=by
  unfold ways at hm;split at hm
  .simp at hm;rw[hm.2];exact T.b
  .simp at hm
   rcases hm with h|h
   .rw[h.2];exact T.b
   .rw[h.2];exact T.a
 obtain⟨z0,z1⟩:=GV W hw s.n;have z1:cJ (lz w) s.n<=mv:=z1;have hM:(0:Int)<mv:=by decide
 unfold fv
 by_cases h:s.a∈S.ks/\(s.b∉S.ks∨S.Z s.a+cJ (lz w) s.n<S.Z s.b)
 .rw[if_pos h]
  obtain⟨ha,hb⟩:=h;obtain⟨qa,qw,qz⟩:=K.wk s.a ha;have hwb:mq w tk w.fi (qa++[s.n]) s.b:=.snoc qw ⟨t,ht,hn,hm⟩;have hz:ff (lz w) (qa++[s.n])=S.Z s.a+cJ (lz w) s.n:=by rw[fM,qz]
  have nnq:∀q:List Nat,0<=ff (lz w) q:=λq=>(nR W hw q).1;have sub:∀p,p∈(if s.b∈S.ks then S.ks else S.ks++[s.b])↔p∈S.ks∨p=s.b:=by
   intro p;split
   .rename_i hin
    exact⟨.inl,λh=>h.elim id λe=>e▸hin⟩
   .rw[List.mem_append,List.mem_singleton]
  have len:((if s.b∈S.ks then S.ks else S.ks++[s.b]).length:Int)=if s.b∈S.ks then(S.ks.length:Int) else(S.ks.length:Int)+1:=by
   split
   .rfl
   .simp
  refine⟨⟨?_,?_,?_,?_,?_,?_⟩,⟨λp hp=>(sub p).mpr (.inl hp),λp hp=>?_⟩,λ_=>⟨(sub _).mpr (.inr rfl),?_⟩,λe=>nomatch e⟩
  .show(if s.b∈S.ks then S.ks else S.ks++[s.b]).Nodup
   split
   .exact K.nd
   .rename_i hnin
    rw[List.nodup_append];exact⟨K.nd,by simp,λx hx y hy=>by rw[List.mem_singleton] at hy;subst hy;exact λe=>hnin (e▸hx)⟩
  .intro p hp
   rcases(sub p).mp hp with h|h
   .exact K.pl p h
   .rw[h];exact hbp
  .exact(sub _).mpr (.inl K.fi)
  .show(if w.fi=s.b then S.Z s.a+cJ (lz w) s.n else S.Z w.fi)<=0
   split
   .rename_i e
    rcases hb with hb|hb
    .exact absurd (e▸K.fi) hb
    .have:=K.z0;rw[e] at this;omega
   .exact K.z0
  .intro p hp
   show ∃q,mq w tk w.fi q p/\ff (lz w) q=(if p=s.b then S.Z s.a+cJ (lz w) s.n else S.Z p)
   by_cases e:p=s.b
   .rw[if_pos e,e];exact⟨_,hwb,hz⟩
   .rw[if_neg e]
    rcases(sub p).mp hp with h|h
    .exact K.wk p h
    .exact absurd h e
  .intro p hp
   show(if p=s.b then S.Z s.a+cJ (lz w) s.n else S.Z p)<=(((if s.b∈S.ks then S.ks else S.ks++[s.b]).length:Int)-1)*mv;rw[len];have hba:=K.bd s.a ha
   by_cases e:p=s.b
   .rw[if_pos e]
    by_cases hin:s.b∈S.ks
    .rw[if_pos hin]
     have:=K.bd s.b hin;rcases hb with hb|hb
     .exact absurd hin hb
     .omega
    .rw[if_neg hin]
     have:((S.ks.length:Int)+1-1)*mv=((S.ks.length:Int)-1)*mv+mv:=by
      rw[show(S.ks.length:Int)+1-1=((S.ks.length:Int)-1)+1 by omega,Int.add_mul,Int.one_mul]
     omega
   .rw[if_neg e]
    have hp':p∈S.ks:=(sub p).mp hp |>.elim id λh=>absurd h e
    have:=K.bd p hp';split
    .exact this
    .refine Int.le_trans this (Int.mul_le_mul_of_nonneg_right (by omega) (by omega))
  .show(if p=s.b then S.Z s.a+cJ (lz w) s.n else S.Z p)<=S.Z p
   split
   .rename_i e
    subst e;rcases hb with hb|hb
    .exact absurd hp hb
    .omega
   .exact Int.le_refl _
  .show(if s.b=s.b then S.Z s.a+cJ (lz w) s.n else S.Z s.b)<=_
   rw[if_pos rfl];exact Int.le_refl _
 .rw[if_neg h]
  refine⟨K,Le.refl S,λha=>?_,λ_=>rfl⟩
  by_cases hin:s.b∈S.ks
  .exact⟨hin,Int.not_lt.mp λhl=>h ⟨ha,.inr hl⟩⟩
  .exact absurd ⟨ha,.inl hin⟩ h
theorem iO:∀(L:List rf),(∀s∈L,s∈aY w tk)->∀{S:BS}{c:Bool},dI w tk S ->
  dI w tk (dg (lz w) L (S,c)).1/\Le S (dg (lz w) L (S,c)).1/\(∀s∈L,s.a∈S.ks->s.b∈(dg (lz w) L (S,c)).1.ks/\(dg (lz w) L (S,c)).1.Z s.b<=S.Z s.a+cJ (lz w) s.n)/\((dg (lz w) L (S,c)).2=false->c=false/\(dg (lz w) L (S,c)).1=S)
 |[],_,S,c,K=>⟨K,Le.refl S,λs h=>(nomatch h),λe=>⟨e,rfl⟩⟩
 |s::L,hL,S,c,K=>by
  obtain⟨k1,k2,k3,k4⟩:=uN W hw K (hL s List.mem_cons_self);obtain⟨p1,p2,p3,p4⟩:=iO L (λx hx=>hL x (List.mem_cons_of_mem _ hx)) (S:=(fv (lz w) s S).1) (c:=c||(fv (lz w) s S).2) k1;rw[dg];refine⟨p1,k2.trans p2,λx hx ha=>?_,λe=>?_⟩
  .rcases List.mem_cons.mp hx with rfl|hx
   .obtain⟨h1,h2⟩:=k3 ha
    exact⟨p2.1 _ h1,Int.le_trans (p2.2 _ h1) h2⟩
   .obtain⟨h1,h2⟩:=p3 x hx (k2.1 _ ha)
    exact⟨h1,Int.le_trans h2 (by have:=k2.2 _ ha;omega)⟩
  .obtain⟨e1,e2⟩:=p4 e
   rw[Bool.or_eq_false_iff] at e1;exact⟨e1.1,e2.trans (k4 e1.2)⟩
noncomputable def Rd(w:fL) (tk:List Nat) (r:Nat) (S:BS):Prop:=∀q p,mq w tk w.fi q p->q.length<=r->p∈S.ks/\S.Z p<=ff (lz w) q
theorem DH{S:BS}(K:dI w tk S):Rd w tk 0 S:=by
 intro q p h hl;cases h with|nil=>exact⟨K.fi,K.z0⟩|snoc=>simp at hl
theorem DJ{S:BS}(K:dI w tk S)(R:Rd w tk r S):Rd w tk (r+1) (dg (lz w) (aY w tk) (S,c)).1:=by
 obtain⟨p1,p2,p3,p4⟩:=iO W hw (aY w tk) (λs h=>h) (c:=c) K;intro q p h hl;cases h with
 |nil=>exact⟨p1.fi,p1.z0⟩
 |snoc h g =>
  rename_i q' b n;obtain⟨t,t1,t2,t3⟩:=g;have hs:(⟨n,b,p⟩:rf)∈aY w tk:=dF.mpr ⟨t,t1,t2,t3⟩;obtain⟨r1,r2⟩:=R q' b h (by simp at hl;omega);obtain⟨s1,s2⟩:=p3 _ hs r1;refine⟨s1,?_⟩;rw[fM];have s2:(dg (lz w) (aY w tk) (S,c)).1.Z p<=S.Z b+cJ (lz w) n:=s2;omega
theorem DK{S:BS}(K:dI w tk S)(h:(dg (lz w) (aY w tk) (S,c)).2=false)(r:Nat):Rd w tk r S:=by
 obtain⟨p1,p2,p3,p4⟩:=iO W hw (aY w tk) (λs h=>h) (c:=c) K;obtain⟨_,e⟩:=p4 h;rw[e] at p3;intro q p h _;have key:∀q p,mq w tk w.fi q p->p∈S.ks/\S.Z p<=ff (lz w) q:=by
  intro q p h
  induction h with
  |nil=>exact⟨K.fi,K.z0⟩
  |snoc h g ih =>
   rename_i q' b c' n;obtain⟨t,t1,t2,t3⟩:=g;have hs:(⟨n,b,c'⟩:rf)∈aY w tk:=dF.mpr ⟨t,t1,t2,t3⟩;obtain⟨r1,r2⟩:=ih;obtain⟨s1,s2⟩:=p3 _ hs r1;refine⟨s1,?_⟩;rw[fM];have s2:S.Z c'<=S.Z b+cJ (lz w) n:=s2;omega
 exact key q p h
theorem Gn{S:BS}(K:dI w tk S)(R:Rd w tk w.ps.length S)(RF:nO w tk (lz w) F m)(SF:wF w tk F)(p:Str):(if p∈S.ks then some (S.Z p) else none)=(get F p).map (·.z):=by
 have key:∀e,get F p=some e->p∈S.ks/\S.Z p<=e.z:=by
  intro e he;obtain⟨h1,h2⟩:=cV he;obtain⟨w1,w2,_,w4⟩:=RF.wy e h1;have hl:F.length<=w.ps.length:=by
   have:=Cod.nodup_le RF.nd (λz hz=>by
    obtain⟨e,he,rfl⟩:=List.mem_map.mp hz;exact RF.pl e he)
   rw[List.length_map] at this;exact this
  obtain⟨r1,r2⟩:=R e.y e.p w1 (by omega);rw[h2] at r1 r2;exact⟨r1,by rw[w2];exact r2⟩
 by_cases hp:p∈S.ks
 .rw[if_pos hp]
  obtain⟨q,h1,h2⟩:=K.wk p hp;obtain⟨e,he,hp',hz⟩:=ya RF SF h1;have hg:=xF RF.nd he;rw[hp'] at hg;rw[hg];have:=(key e hg).2;show some (S.Z p)=some e.z
  congr 1
  omega
 .rw[if_neg hp]
  cases hg:get F p with|none=>rfl|some e=>exact absurd (key e hg).1 hp
end
open K11 (nums ways pr there oS)
open K51 (Bd pl)
noncomputable abbrev bq:List D->ai D:=K11.bq
noncomputable abbrev bN:List D->ai D:=K12.bN
noncomputable abbrev bH:List D->ai D:=K51.bH
noncomputable abbrev bj:List D->ai D:=Cod.bj
noncomputable def jJ:Ev->ai Fl :=
 (az (rD 2 (wg (ae (aa 0) (dC (.int 2)) aN) (ar (ah (dC (.int 0)) (ah (dC (.int 1)) aF)) eQ)))
 (az (mF (ar (ah (ae (aa 0) (dC (.int 0)) aN) aF) (m1 dJ)) (bb 3)
 (az (bg 4 (dC (.bl true)))
 (az (mF (ar (ah (ae (aa 0) (dC (.int 1)) aN) aF) (m1 dJ)) (bb 5)
 (az (bg 6 (ae (ae (aa 0) (dC (.int 1)) aN) (aa 5) aN))
 (az (je (Ba (AD (aa 6) eM (eu (dC (.int 2))))) (bb 7)
 (az (bg 8 (ar (ah (aa 6) (ah (aa 7) aF)) bq))
 (az (dX (gW (ae (aa 5) (aa 1) cZ) (gW (ae (aa 8) (dC (.non)) iA) (ae (aa 7) (aa 2) qg)))
 (az (nZ 9 (ar (ah (ae (aa 2) (aa 7) dS) (ah (ae (aa 6) (dC (.int 3)) aN) aF)) bN))
 (az (dX (jb (ae (aa 8) (aa 2) ef) (ar (ah (aa 9) (ah (ae (aa 2) (aa 8) dS) aF)) bH))
 (az (mE 2 (aa 9) (aa 8))
 (az (bg 4 (dC (.bl false)))
 aq))
 aq)
 aq))
 aq)
 aq)))
 aq)))
 (az (dX (aa 4)
 (az (bM (aa 2))
 aq)
 aq)
 aq))))
 (az (bM (aa 2))
 aq)))
noncomputable def bK:List D->ai D:=cn 10 jJ
noncomputable def gU:Ev->ai Fl :=
 (az (bM (cG 1 [0] (gN (ar (ah (ae (aa 0) (dC (.int 1)) aN) aF) (m1 dJ))) (bb 0) mYes (qf (ar (ah (aa 1) (ah (ar (ah (aa 0) aF) dj) aF)) bK) (ae (aa 1) (dC (.int 3)) aN))))
 aq)
noncomputable def ck:List D->ai D:=cn 1 gU
noncomputable def eR:Ev->ai Fl :=
 (az (dX (ae (aa 0) (dC (.non)) ll)
 (az (bM (dC (.str "none")))
 aq)
 aq)
 (az (dX (ae (aa 1) (dC (.non)) ll)
 (az (bM (dC (.str "cut")))
 aq)
 aq)
 (az (bM (ar (ah (ae (ae (ae (aa 1) (dC (.int 0)) aN) (ae (aa 0) (dC (.int 1)) aN) bR) (ae (ae (aa 0) (dC (.int 0)) aN) (ae (aa 1) (dC (.int 1)) aN) bR) jE) (ah (ae (ae (aa 1) (dC (.int 1)) aN) (ae (aa 0) (dC (.int 1)) aN) bR) aF)) bj))
 aq)))
noncomputable def bx:List D->ai D:=cn 2 eR
noncomputable def dB(w:fL) (S:BS):D:=.dic S.ks (S.ks.map λp=>fr (bA (S.Z p) (lB w)))
theorem um{S:BS}:jL S.ks (S.ks.map λp=>fr (bA (S.Z p) (lB w))) p=if p∈S.ks then some (fr (bA (S.Z p) (lB w))) else none:=xU (g:=λp=>fr (bA (S.Z p) (lB w)))
theorem Hn{S:BS}:qg (.str p) (dB w S)=.ok (.bl (decide (p∈S.ks))):=by
 show ai.ok (D.bl (jL S.ks (S.ks.map λp=>fr (bA (S.Z p) (lB w))) p).isSome)=_;rw[um]
 by_cases h:p∈S.ks
 .rw[if_pos h,decide_eq_true h];rfl
 .rw[if_neg h,decide_eq_false h];rfl
theorem Az{S:BS}:ef (.str p) (dB w S)=.ok (.bl (!(decide (p∈S.ks)))):=by
 show ai.ok (D.bl (!(jL S.ks (S.ks.map λp=>fr (bA (S.Z p) (lB w))) p).isSome))=_;rw[um]
 by_cases h:p∈S.ks
 .rw[if_pos h,decide_eq_true h];rfl
 .rw[if_neg h,decide_eq_false h];rfl
theorem zw{S:BS}(h:p∈S.ks):dS (dB w S) (.str p)=.ok (fr (bA (S.Z p) (lB w))):=by
 show(match jL S.ks (S.ks.map λp=>fr (bA (S.Z p) (lB w))) p with|some d=>ai.ok d|none=>.stuck)=_;rw[um,if_pos h]
theorem yj:∀{ks:List Str},w6 ks (ks.map g) x d=ks.map λk=>if k=x then d else g k
 |[]=>rfl
 |k::ks=>by rw[List.map_cons,w6,yj,List.map_cons]
theorem EB{S:BS}:qQ S.ks (S.ks.map λp=>fr (bA (S.Z p) (lB w))) b (fr (bA z (lB w)))=dB w ⟨if b∈S.ks then S.ks else S.ks++[b],λp=>if p=b then z else S.Z p⟩:=by
 unfold qQ dB
 by_cases h:b∈S.ks
 .rw[if_pos h]
  simp only[if_pos h];rw[yj]
  congr 1
  refine List.map_congr_left λk _=>?_
  by_cases e:k=b
  .rw[if_pos e,if_pos e]
  .rw[if_neg e,if_neg e]
 .rw[if_neg h]
  simp only[if_neg h];rw[List.map_append]
  congr 1
  congr 1
  .refine List.map_congr_left λk hk=>?_
   rw[if_neg (by intro e;exact h (e▸hk))]
  .simp
theorem uH(hx:Low x)(hy:Low y)(h:val x=val y):x=y:=by
 have q1:=hx.q1;have q2:=hy.q1;have h1:=tV (x:=x) (y:=y) (by omega) (by omega);have h2:=tV (x:=y) (y:=x) (by omega) (by omega);rw[h,decide_eq_false Rat.lt_irrefl] at h1;rw[h,decide_eq_false Rat.lt_irrefl] at h2;unfold flt at h1 h2;refine vm hx hy ?_;have:=of_decide_eq_false h1;have:=of_decide_eq_false h2;omega
section
variable {w:fL}(W:cf w) (hw:∀t∈w.ts,c4 t)
include W hw
theorem Gy(ht:w.ts[n]?=some t):pl (bA z (lB w)) t.l=bA (z+cJ (lz w) n) (lB w):=by
 have hB:=(jh W).1;have T:=(W.ts t (List.mem_of_getElem? ht)).l;have hq:0<t.l.2:=by have:=T.q1;omega
 have hn:n<w.ts.length:=(List.getElem?_eq_some_iff.mp ht).1;have hl:val t.l=(cJ (lz w) n:Rat) / (lB w:Rat):=by
  have:=AV W hn;rw[show K12.lenAt w n=t.l by unfold K12.lenAt;rw[ht];rfl] at this;exact this
 have lq:0<(bA z (lB w)).2:=by have:=(cP (a:=z) hB).q1;omega
 refine uH (cP (Int.mul_pos lq hq)) (cP hB) ?_;rw[FZ lq hq,eO hB,eO hB,hl,Rat.intCast_add];have p1:=cy hB
 grind
theorem nA:flt (bA z (lB w)) (bA z' (lB w))=decide (z<z'):=by
 have hB:=(jh W).1;have q1:=(cP (a:=z) hB).q1;have q2:=(cP (a:=z') hB).q1;rw[tV (by omega) (by omega),eO hB,eO hB];have p1:=cy hB;have:((z:Rat) / (lB w:Rat)<(z':Rat) / (lB w:Rat))↔z<z':=by
  rw[CI p1 p1];constructor
  .intro h;exact Rat.intCast_lt_intCast.mp ((Rat.mul_lt_mul_right p1).mp h)
  .intro h;exact(Rat.mul_lt_mul_right p1).mpr (Rat.intCast_lt_intCast.mpr h)
 by_cases h:z<z'
 .rw[decide_eq_true h,decide_eq_true (this.mpr h)]
 .rw[decide_eq_false h,decide_eq_false λe=>h (this.mp e)]
theorem xY{S:BS}(K:dI w tk S)(hp:p∈S.ks):0<=S.Z p/\S.Z p<=6*mv:=by
 obtain⟨q,_,hq⟩:=K.wk p hp;have h0:=(nR W hw q).1;have h1:=K.bd p hp;have hl:S.ks.length<=w.ps.length:=Cod.nodup_le K.nd K.pl;have n7:=W.n7;have:((S.ks.length:Int)-1)*mv<=6*mv:=Int.mul_le_mul_of_nonneg_right (by omega) (by decide);omega
theorem wM(h0:0<=z)(h1:z<=7*mv):Bd (bA z (lB w)) 130:=by
 have hB:=GW W hw;have c1:(7:Int)*mv<2 ^ 130:=by decide
 have c2:(60:Int) ^ 14<2 ^ 130:=by decide
 refine K51.low_bd hB.1 ?_ ?_
 .have:z<2 ^ 130:=by omega
  omega
 .have:lB w<2 ^ 130:=by omega
  omega
end
end Bfd
namespace K21
open PySem L2 DL
noncomputable abbrev m_is_less:List D->ai D:=Com.m_is_less
noncomputable def b_most_of:Ev->ai Fl :=
 (az (bg 1 (ae (aa 0) (dC (.int 0)) aN))
 (az (n6 (aa 0) (bb 2)
 (az (dX (ar (ah (aa 1) (ah (aa 2) aF)) m_is_less)
 (az (bg 1 (aa 2))
 aq)
 aq)
 aq))
 (az (bM (aa 1))
 aq)))
noncomputable def m_most_of:List D->ai D:=cn 3 b_most_of
end K21
namespace K20
open PySem L2 DL
noncomputable abbrev bU:List D->ai D:=Bor.bU
noncomputable abbrev aK:Addr->List D->List D->ai (D×List D):=Bor.aK
noncomputable abbrev c6:Addr->List D->List D->ai (D×List D):=Bor.c6
noncomputable abbrev bj:List D->ai D:=Cod.bj
noncomputable abbrev cv:Addr->List D->List D->ai (D×List D):=Bor.cv
noncomputable abbrev cu:Addr->List D->List D->ai (D×List D):=Bor.cu
noncomputable abbrev cI:Addr->List D->List D->ai (D×List D):=Bor.cI
noncomputable abbrev bq:List D->ai D:=K11.bq
noncomputable abbrev bN:List D->ai D:=K12.bN
noncomputable abbrev bH:List D->ai D:=K51.bH
noncomputable abbrev bK:List D->ai D:=Bfd.bK
noncomputable abbrev ck:List D->ai D:=Bfd.ck
noncomputable abbrev bx:List D->ai D:=Bfd.bx
noncomputable def e8:Ev->ai Fl :=
 (az (bg 1 (qf (ar (ah (aa 0) (ah (ar aF dj) aF)) bK) (ae (aa 0) (dC (.int 3)) aN)))
 (az (bg 2 (cG 1 [1] (lO (ar (ah (aa 0) aF) ck)) (bb 0) mYes (ar (ah (aa 1) (ah (aa 0) aF)) bx)))
 (az (dX (ae (dC (.str "none")) (aa 2) we)
 (az (bM (ar aF dj))
 aq)
 aq)
 (az (dX (ae (dC (.str "cut")) (aa 2) we)
 (az (bM (cG 1 [2] (gN (ar (ah (aa 2) aF) (m1 dJ))) (bb 0) (ae (ae (aa 1) (aa 0) aN) (dC (.str "cut")) gR) (aa 0)))
 aq)
 aq)
 (az (bg 3 (ar (ah (dC (.int 0)) (ah (dC (.int 1)) aF)) eQ))
 (az (n6 (aa 2) (bb 4)
 (az (dX (ar (ah (aa 3) (ah (aa 4) aF)) bH)
 (az (bg 3 (aa 4))
 aq)
 aq)
 aq))
 (az (bM (cG 1 [3,2] (gN (ar (ah (aa 2) aF) (m1 dJ))) (bb 0) (ae (ae (aa 2) (aa 0) aN) (aa 1) gR) (aa 0)))
 aq)))))))
noncomputable def cU:List D->ai D:=cn 5 e8
noncomputable abbrev m_is_less:List D->ai D:=Com.m_is_less
noncomputable abbrev m_most_of:List D->ai D:=K21.m_most_of
noncomputable abbrev m_is_name:List D->ai D:=Com.m_is_name
noncomputable abbrev m_look_at_places:List D->ai D:=Com.m_look_at_places
noncomputable abbrev m_is_whole:List D->ai D:=Com.m_is_whole
noncomputable abbrev m_common_divisor:List D->ai D:=Com.m_common_divisor
noncomputable abbrev m_is_ratio:List D->ai D:=Com.m_is_ratio
noncomputable abbrev m_is_length:List D->ai D:=Com.m_is_length
noncomputable abbrev m_is_worth:List D->ai D:=Com.m_is_worth
noncomputable abbrev m_is_tie:List D->ai D:=Com.m_is_tie
noncomputable abbrev m_look_at_ties:List D->ai D:=Com.m_look_at_ties
noncomputable abbrev m_is_place:List D->ai D:=Com.m_is_place
noncomputable abbrev m_look_at_web:List D->ai D:=Com.m_look_at_web
noncomputable abbrev m_shared_bottom:List D->ai D:=Com.m_shared_bottom
noncomputable abbrev m_as_whole:List D->ai D:=Com.m_as_whole
noncomputable abbrev m_on_one_scale:List D->ai D:=Com.m_on_one_scale
noncomputable abbrev m_scaled_lengths:List D->ai D:=K17.m_scaled_lengths
noncomputable abbrev m_steps_along:List D->ai D:=K11.m_steps_along
noncomputable abbrev m_steps_left:List D->ai D:=K51.m_steps_left
noncomputable abbrev m_nearest_step:List D->ai D:=K17.m_nearest_step
noncomputable abbrev m_all_reached:List D->ai D:=K17.m_all_reached
noncomputable abbrev m_ratio:List D->ai D:=Com.m_ratio
noncomputable abbrev m_shortest:List D->ai D:=K17.m_shortest
noncomputable abbrev m_minus:List D->ai D:=Vlu.m_minus
noncomputable abbrev m_value_by:List D->ai D:=Vlu.m_value_by
noncomputable def lC:Ev->ai Fl :=
 (az (n8 (ar (ah (aa 0) aF) m_look_at_web))
 (az (bg 1 (ae (ar (ah (aa 0) (ah (ar aF dj) aF)) m_shortest) (dC (.int 1)) aN))
 (az (jr 2 (ar aF dj))
 (az (mF (ar (ah (ae (aa 0) (dC (.int 1)) aN) aF) (m1 dJ)) (bb 3)
 (az (bg 4 (ar (ah (aa 0) (ah (ar (ah (aa 3) aF) dj) aF)) m_shortest))
 (az (dN 2 (ar (ah (ar (ah (aa 1) (ah (ae (aa 4) (dC (.int 1)) aN) aF)) m_value_by) (ah (ae (aa 4) (dC (.int 0)) aN) aF)) eQ))
 aq)))
 (az (bM (aa 2))
 aq)))))
noncomputable def eP:List D->ai D:=cn 5 lC
noncomputable def dy:Ev->ai Fl :=
 (jQ (bg 1 (cG 1 [] (lO (ar (ah (aa 0) aF) eP)) (bb 0) mYes (ae (aa 0) (dC (.int 0)) aN)))
 (dX (jb (ae (aa 1) (ar aF dj) gR) (ae (dC (.str "none")) (aa 1) we))
 (mD (ar aF dj))
 (jQ (bg 2 (FK (ae (dC (.str "cut")) (aa 1) we) (dC (.str "cut")) (ar (ah (aa 1) aF) m_most_of)))
 (mD (cG 2 [2] (wV (aa 1)) (fj [0,1]) (ae (aa 1) (aa 2) gR) (aa 0))))))
noncomputable def bE:List D->ai D:=m7 3 dy
noncomputable def FP:Ev->ai Fl :=
 (az (mF (ar (ah (dC (.int 1)) (ah (ar (ah (ar (ah (aa 0) aF) (m1 dJ)) (ah (dC (.int 4)) aF)) (m2 EI)) aF)) (m2 Hv)) (bb 1)
 (jt 2 (ar (ah (aa 0) (ah (aa 1) aF)) bU) λa=>(bc (d9 3 (b7 2 a (bG (mP (dC (.int 7))) (bG (mP (dC (.int 14))) c7)) cI))
 (bc (cO (bg 4 (ar (ah (aa 3) aF) (m1 lj))))
 (bc (cO (bg 5 (ar (ah (aa 3) aF) cU)))
 (bc (cO (jr 6 (ar (ah (aa 3) aF) bE)))
 (bc (Al (mT (jb (dE (cC (aa 6) (gF "list"))) (ae (aa 6) (aa 5) i5)))
 (bc (fz (dC (.bl false)))
 bX)
 bX)
 (bc (Al (mT (ae (cG 1 [] (lO (aa 6)) (bb 0) (cC (aa 0) (gF "bool")) (aa 0)) (ar aF dj) i5))
 (bc (fz (dC (.bl false)))
 bX)
 bX)
 (bc (cO (dN 6 (dC (.int 99))))
 (bc (Al (mT (jb (ae (ar (ah (aa 3) aF) bE) (aa 5) i5) (ae (ar (ah (aa 3) aF) (m1 lj)) (aa 4) i5)))
 (bc (fz (dC (.bl false)))
 bX)
 bX)
 bX))))))))))
 (az (bM (dC (.bl true)))
 aq))
noncomputable def m_law:List D->ai D:=cn 7 FP
noncomputable def top(i:Nat):Stmt:=PySem.Challenge.pw_farthestcut_k20_most_valued.main.body.getD i (.Pass ⟨0,0,0,0⟩)
noncomputable def rows:List Rw:=[
 ⟨"_law_begun",top 55,["_law_script","_law_k","_law_cell"],2⟩,
 ⟨"_law_take",top 56,["_law_state","_law_many","_law_digit","_law_made","_law_turn"],2⟩,
 ⟨"_law_names",top 59,["_law_state","_law_many","_law_letters","_law_long","_law_at","_law_turn","_law_step","_law_nested","_law_found","_law_k","_law_one"],2⟩,
 ⟨"_law_low",top 57,["_law_top","_law_bottom","_law_one","_law_other"],2⟩,
 ⟨"_law_amount",top 58,["_law_state","_law_least","_law_way","_law_top","_law_many","_law_bottoms"],2⟩,
 ⟨"_law_tie",top 60,["_law_state","_law_names_here","_law_k","_law_many","_law_one","_law_other","_law_word","_law_length","_law_worth"],3⟩,
 ⟨"_law_web",top 61,["_law_state","_law_most","_law_more","_law_names_here","_law_many","_law_ties","_law_k","_law_first","_law_last"],3⟩,
 ⟨"_law_there",top 65,["_law_tie_here","_law_here"],2⟩,
 ⟨"_law_plus",top 63,["_law_one","_law_other"],2⟩,
 ⟨"_law_less",top 64,["_law_one","_law_other"],2⟩,
 ⟨"_law_far",top 66,["_law_web_here","_law_gone","_law_far_here","_law_turn","_law_still","_law_k","_law_tie_here","_law_here","_law_there_here","_law_more"],2⟩,
 ⟨"_law_withouts",top 67,["_law_web_here"],1⟩,
 ⟨"_law_value",top 68,["_law_least","_law_without"],2⟩,
 ⟨"_law_due",top 69,["_law_web_here","_law_least","_law_some","_law_most","_law_one"],1⟩,
 ⟨"is_less",top 15,["one","other"],2⟩,
 ⟨"most_of",top 16,["some","most","one"],1⟩,
 ⟨"is_name",top 11,["thing"],1⟩,
 ⟨"look_at_places",top 35,["places","number","place"],1⟩,
 ⟨"is_whole",top 9,["thing"],1⟩,
 ⟨"common_divisor",top 5,["one","other","larger","smaller","rest"],2⟩,
 ⟨"is_ratio",top 10,["thing"],1⟩,
 ⟨"is_length",top 32,["thing"],1⟩,
 ⟨"is_worth",top 33,["thing"],1⟩,
 ⟨"is_tie",top 31,["thing"],1⟩,
 ⟨"look_at_ties",top 36,["ties","places","number","tie"],2⟩,
 ⟨"is_place",top 37,["thing","places"],2⟩,
 ⟨"look_at_web",top 34,["thing"],1⟩,
 ⟨"shared_bottom",top 43,["some","bottom","one"],1⟩,
 ⟨"as_whole",top 44,["one","bottom"],2⟩,
 ⟨"on_one_scale",top 42,["some","bottom"],1⟩,
 ⟨"scaled_lengths",top 47,["web"],1⟩,
 ⟨"steps_along",top 39,["tie","there"],1⟩,
 ⟨"steps_left",top 40,["web","taken","steps","number","tie","here","there"],2⟩,
 ⟨"nearest_step",top 49,["steps","sizes","found","nearest","number","here","there","size"],3⟩,
 ⟨"all_reached",top 48,["web","taken","sizes","steps","found","nearest"],3⟩,
 ⟨"ratio",top 13,["top","bottom","divisor"],2⟩,
 ⟨"shortest",top 46,["web","taken","scaled","found","prices","place"],2⟩,
 ⟨"minus",top 14,["one","other"],2⟩,
 ⟨"value_by",top 51,["length","length_without"],2⟩,
 ⟨"values_all",top 52,["web","length","told","number","without"],1⟩,
 ⟨"most_valued",top 53,["web","values","greatest"],1⟩,
 ⟨"law",top 70,["_law_script","_law_k","_law_state","_law_web_here","_law_kept","_law_due_here","_law_told"],1⟩]
theorem sc:Lb rows:=by decide +kernel
theorem nd(i:Nat)(h:rows[i]?=some r:=by rfl):r.N.Nodup:=(sc r (List.mem_of_getElem? h)).nd
theorem bn:∀r∈rows,JZ r:=by
 unfold rows
 repeat refine List.forall_mem_cons.mpr ⟨by first|exact Me|exact Md|exact Mc|exact bd4|exact bd5,?_⟩
 exact λ_ h=>nomatch h
set_option genInjectivity false in
set_option genSizeOfSpec false in
structure Adr where
 A:Nat->Addr
 Q:Nat->FuncData
set_option genInjectivity false in
set_option genSizeOfSpec false in
structure Txt (K:W.Frag) (mg:Str->Option Value) (t:Adr):Prop where
 g:TG rows K mg t.A t.Q
 n_abs:mg "abs"=none
 n_all:mg "all"=none
 n_bool:mg "bool"=none
 n_enumerate:mg "enumerate"=none
 n_int:mg "int"=none
 n_isinstance:mg "isinstance"=none
 n_len:mg "len"=none
 n_list:mg "list"=none
 n_max:mg "max"=none
 n_min:mg "min"=none
 n_range:mg "range"=none
 n_repr:mg "repr"=none
 n_str:mg "str"=none
 n_tuple:mg "tuple"=none
 eK:uy K mg "FEWEST_PLACES" (.int 2)
 lu:uy K mg "FIRST" (.int 2)
 jG:uy K mg "LAST" (.int 3)
 lr:uy K mg "LENGTH" (.int 3)
 mj:uy K mg "LETTERS" (.str "abcdefghijklmnopqrstuvwxyz")
 eZ:uy K mg "LONGEST_NAME" (.int 8)
 fJ:uy K mg "MOST_PLACES" (.int 7)
 iC:uy K mg "MOST_TIES" (.int 14)
 qu:uy K mg "ONE" (.int 0)
 gI:uy K mg "OTHER" (.int 1)
 eY:uy K mg "PLACES" (.int 0)
 mh:uy K mg "TIES" (.int 1)
 qt:uy K mg "WORD" (.int 2)
 uv:uy K mg "WORDS" (.tup [(.str "one"),(.str "both")])
 uu:uy K mg "WORTH" (.int 4)
section
variable {P:Program}{w:World}{K:W.Frag}{mg:Str->Option Value}{base:Heap}{t:Adr}
theorem oA(T:Txt K mg t):eF P w K mg base CX0 1 (t.A 0) (t.Q 0) ["_law_script","_law_k"] (E9 K 2 bU) "_law_begun" (top 55) :=
 oF T.g sc (i:=0) rfl λ_ _ _ _ _ _ _ _=>(
 (iY (aT (i:=2) (nd 0) rfl (Or.inl rfl) aj)
 (iY (bT (aP uZ (c5 λ_ _ _ _=>rb _) (dv 1) (br bZ dr rfl T.n_len PyProof.Rows.Boot.«len» (af (dv 0) aw)) nm)
 (ag (aT (i:=2) (nd 0) rfl (Or.inl rfl) (ao (dv 0) (dv 1)))
 ak)
 ak)
 (l6 (ma (af (dv 2) (af (eI (dD (dD (eI (dv 2) aj) (cg (cg aj (dv 1)) (dv 1))) aj) aj) (af (eJ BR (c5 λ_ _ _ _=>rb _) (dv 2) (xK aj aj) nm) aw))))))))
theorem aO(T:Txt K mg t):eF P w K mg base CX0 1 (t.A 1) (t.Q 1) ["_law_state","_law_many"] (DB K 1 aK) "_law_take" (top 56) :=
 oM T.g sc (i:=1) rfl rfl λ_ _ _ _ _ _ _ _ _ _=>(
 (aC (nW (CD (i:=0) (E:=E0) (bY (ao (dv 0) aj)))
 (aC (cM (i:=2) (nd 1) rfl (Or.inl rfl) (k8 (i:=0) (E:=E0) (eI (ao (dv 0) aj) (dv 1))))
 (aC (wX (i:=0) rfl (Or.inl rfl) (k8 (i:=0) (E:=E0) (iz (ao (dv 0) aj) (dv 1))) (aM (E:=E0) aj))
 (aC (wX (i:=0) rfl (Or.inl rfl) (k8 (i:=0) (E:=E0) (eJ yz (c5 λ_ _ _ _=>rb _) (ao (dv 0) aj) aj nm)) (aM (E:=E0) aj))
 (aC (fq (E:=E0) (dv 2))
 bP))))
 bP)
 (aC (cm (E:=E0) λvs=>(aT (i:=3) (nd 1) rfl (Or.inl rfl) aj))
 (aC (ye (E:=E0) PassesOwn.never rfl (yE (E:=E0) (fT rfl T.n_range (dD aj (cg aj (CM AH HC rfl T.n_int PyProof.Rows.Boot.«int» (af (eJ yz (c5 λ_ _ _ _=>rb _) (dv 1) (xK aj aj) nm) aw)))))) (λvs=>(bI (i:=4) (nd 1) rfl (Or.inl rfl))) cj
 (aC (wX (i:=0) rfl (Or.inl rfl) (k8 (i:=0) (E:=E0) (eI (dD (cg (ao (dv 0) aj) aj) aj) aj)) (aM (E:=E0) aj))
 (aC (cM (i:=3) (nd 1) rfl (Or.inl rfl) (k8 (i:=0) (E:=E0) (dD (cg (dv 3) aj) (eI (cg (ao (dv 0) aj) (ao (dv 0) aj)) aj))))
 bP)))
 (aC (fq (E:=E0) (eI (iz (dv 3) aj) (dv 1)))
 bP)))))
theorem qW(T:Txt K mg t):eF P w K mg base CX0 2 (t.A 2) (t.Q 2) ["_law_state","_law_many"] (DB K 1 c6) "_law_names" (top 59) :=
 oM T.g sc (i:=2) rfl rfl λ_ _ _ _ H He _ _ _ hr=>(
 (aC (DD (i:=2) (nd 2) rfl rfl (KN (E:=E0) ["_law_k","_law_state"] 1 [0] rfl (yE (E:=E0) (fT rfl T.n_range aj)) (cK (by decide)) (λs H C fp pn=>⟨λHe H0e=>(bI (i:=0) (show List.Nodup (["_law_k","_law_state"]:List Str) from by decide) rfl (Or.inl rfl)),λHe H0e=>(rM 1 (aO T) hr (aW (aM (E:=E0) aj) bF))⟩) ⟨rfl,rfl⟩ rfl rfl rfl rfl) xO)
 (aC (cM (i:=3) (nd 2) rfl (Or.inl rfl) (qc (aM (E:=E0) aj) (rM 0 (aO T) hr (aW (aM (E:=E0) aj) bF))))
 (aC (cM (i:=4) (nd 2) rfl (Or.inl rfl) (rM 0 (aO T) hr (aW (aM (E:=E0) (dv 3)) bF)))
 (aC (cM (i:=5) (nd 2) rfl (Or.inl rfl) (rM 0 (aO T) hr (aW (aM (E:=E0) aj) bF)))
 (aC (cM (i:=6) (nd 2) rfl (Or.inl rfl) (uh (aM (E:=E0) (dq (af aj (af aj (af aj (af aj (af aj (af aj aw)))))))) (rM 0 (aO T) hr (aW (aM (E:=E0) aj) bF))))
 (aC (cM (i:=7) (nd 2) rfl (Or.inl rfl) (Hm (E:=E0) (dh hr.units) eL (rM 0 (aO T) hr (aW (aM (E:=E0) aj) bF)) (aM (E:=E0) aj) nm))
 (aC (cm (E:=E0) λvs=>(jB (i:=8) (nd 2) rfl (Or.inl rfl) (ma aw)))
 (aC (cm (E:=E0) λvs=>(k7 PassesOwn.never rfl rfl T.n_range (dv 1) (bI (i:=9) (nd 2) rfl (Or.inl rfl)) cj
 (ag (jB (i:=10) (nd 2) rfl (Or.inl rfl) (v8 (dv 2) nL (nK (dv 3))))
 (ag (Hj (i:=10) rfl (Or.inl rfl) (eI (dD (dv 5) (cg (dv 6) (dv 9))) aj) (dv 4))
 (ag (bT (bY (dv 7))
 (ag (jB (i:=10) (nd 2) rfl (Or.inl rfl) (v8 (dv 2) nL (nK (dD aj (eI (dD (dv 5) (dv 9)) aj)))))
 ak)
 ak)
 (ag (Hl 10 (iZ (i:=8) rfl (Or.inl rfl) (EE dm (af (ji (ni ["_law_letter"] 1 [] rfl (gD (dv 10)) (cK (by decide)) (λs H C fp pn=>⟨λHe H0e=>(bI (i:=0) (show List.Nodup (["_law_letter"]:List Str) from by decide) rfl (Or.inl rfl)),gC,(ao dm (dv 0))⟩) ⟨rfl,rfl⟩ rfl rfl rfl rfl)) aw))))
 ak))))))
 (aC (fq (E:=E0) (dv 8))
 bP))))))))))
theorem g7(T:Txt K mg t):eF P w K mg base CX0 1 (t.A 3) (t.Q 3) ["_law_top","_law_bottom"] (spD K 2 bj) "_law_low" (top 57) :=
 oD T.g sc (i:=3) rfl λ_ _ _ _ _ _ _ hr=>(
 (ag (aT (i:=2) (nd 3) rfl (Or.inl rfl) (br qr xQ rfl T.n_abs PyProof.Rows.Boot.«abs» (af (dv 0) aw)))
 (ag (aT (i:=3) (nd 3) rfl (Or.inl rfl) (dv 1))
 (ag (p7 _ PassesOwn.never (aP (gr hr.units) jX (dv 3) aj nm)
 (ag (Hk (i:=2) (j:=3) rfl (nd 3) rfl rfl (by decide) rfl rfl (af (dv 3) (af (eI (dv 2) (dv 3)) aw)) rfl)
 ak))
 (ag (aQ (dk (af (iz (dv 0) (dv 2)) (af (iz (dv 1) (dv 2)) aw))))
 ak)))))
theorem g9(T:Txt K mg t):eF P w K mg base CX0 2 (t.A 4) (t.Q 4) ["_law_state","_law_least"] (DB K 1 cv) "_law_amount" (top 58) :=
 oM T.g sc (i:=4) rfl rfl λ_ _ _ _ _ _ _ _ _ hr=>(
 (aC (cM (i:=2) (nd 4) rfl (Or.inl rfl) (rM 0 (aO T) hr (aW (aM (E:=E0) aj) bF)))
 (aC (cM (i:=3) (nd 4) rfl (Or.inl rfl) (qc (aM (E:=E0) (dv 1)) (rM 0 (aO T) hr (aW (aM (E:=E0) (ao (dq (af aj (af aj (af aj (af aj (af aj (af (xK aj aj) aw))))))) (dv 2))) bF))))
 (aC (cm (E:=E0) λvs=>(aT (i:=4) (nd 4) rfl (Or.inl rfl) (ao (dq (af aj (af aj (af aj (af aj (af aj (af aj aw))))))) (dv 2))))
 (aC (cm (E:=E0) λvs=>(aT (i:=5) (nd 4) rfl (Or.inl rfl) (dq (af aj (af aj (af aj (af aj (af aj (af aj (af aj (af aj (af aj (af aj (af aj (af aj aw)))))))))))))))
 (aC (F9 (L6 (g7 T) hr (aW (aM (E:=E0) (dv 3)) (aW (uh (aM (E:=E0) (dv 5)) (rM 0 (aO T) hr (aW (aM (E:=E0) (dv 4)) bF))) bF))))
 bP))))))
theorem va(T:Txt K mg t):eF P w K mg base CX0 3 (t.A 5) (t.Q 5) ["_law_state","_law_names_here","_law_k"] (DB K 2 cu) "_law_tie" (top 60) :=
 oM T.g sc (i:=5) rfl rfl λ_ _ _ _ _ _ _ _ _ hr=>(
 (aC (cm (E:=E0) λvs=>(aT (i:=3) (nd 5) rfl (Or.inl rfl) (br bZ dr rfl T.n_len PyProof.Rows.Boot.«len» (af (dv 1) aw))))
 (aC (cM (i:=4) (nd 5) rfl (Or.inl rfl) (rM 0 (aO T) hr (aW (aM (E:=E0) (dv 3)) bF)))
 (aC (cM (i:=5) (nd 5) rfl (Or.inl rfl) (CF (qc (aM (E:=E0) (dD (dv 4) aj)) (rM 0 (aO T) hr (aW (aM (E:=E0) (md (dv 3) aj)) bF))) (aM (E:=E0) (dv 3))))
 (aC (nW (ug (E:=E0) (dh hr.units) eL (rM 0 (aO T) hr (aW (aM (E:=E0) aj) bF)) (aM (E:=E0) aj) nm)
 (aC (cm (E:=E0) λvs=>(aT (i:=4) (nd 5) rfl (Or.inl rfl) (eI (dv 2) (dv 3))))
 (aC (cm (E:=E0) λvs=>(aT (i:=5) (nd 5) rfl (Or.inl rfl) (eI (dD (dv 2) aj) (dv 3))))
 bP))
 bP)
 (aC (cM (i:=6) (nd 5) rfl (Or.inl rfl) (uh (aM (E:=E0) (dq (af dm (af dm aw)))) (rM 0 (aO T) hr (aW (aM (E:=E0) aj) bF))))
 (aC (cM (i:=7) (nd 5) rfl (Or.inl rfl) (rM 0 (g9 T) hr (aW (aM (E:=E0) aj) bF)))
 (aC (cM (i:=8) (nd 5) rfl (Or.inl rfl) (rM 0 (g9 T) hr (aW (aM (E:=E0) aj) bF)))
 (aC (nW (ug (E:=E0) (dh hr.units) eL (rM 0 (aO T) hr (aW (aM (E:=E0) aj) bF)) (aM (E:=E0) aj) nm)
 (aC (cm (E:=E0) λvs=>(aT (i:=8) (nd 5) rfl (Or.inl rfl) cY))
 bP)
 bP)
 (aC (fq (E:=E0) (dk (af (ao (dv 1) (dv 4)) (af (ao (dv 1) (dv 5)) (af (dv 6) (af (dv 7) (af (dv 8) aw)))))))
 bP))))))))))
theorem u9(T:Txt K mg t):eF P w K mg base CX0 4 (t.A 6) (t.Q 6) ["_law_state","_law_most","_law_more"] (DB K 2 cI) "_law_web" (top 61) :=
 oM T.g sc (i:=6) rfl rfl λ_ _ _ _ _ _ _ _ _ hr=>(
 (aC (cM (i:=3) (nd 6) rfl (Or.inl rfl) (rM 0 (qW T) hr (aW (qc (aM (E:=E0) aj) (rM 0 (aO T) hr (aW (aM (E:=E0) (md (dv 1) aj)) bF))) bF)))
 (aC (cm (E:=E0) λvs=>(aT (i:=4) (nd 6) rfl (Or.inl rfl) (br bZ dr rfl T.n_len PyProof.Rows.Boot.«len» (af (dv 3) aw))))
 (aC (cm (E:=E0) λvs=>(jB (i:=5) (nd 6) rfl (Or.inl rfl) (ma aw)))
 (aC (ye (E:=E0) PassesOwn.never rfl (Aj rfl T.n_range (rM 0 (aO T) hr (aW (aM (E:=E0) (dD (dv 2) aj)) bF))) (λvs=>(bI (i:=6) (nd 6) rfl (Or.inl rfl))) cj
 (aC (zT (i:=5) rfl (Or.inl rfl) (rM 0 (va T) hr (aW (aM (E:=E0) (dv 3)) (aW (aM (E:=E0) (dv 6)) bF))))
 bP))
 (aC (cm (E:=E0) λvs=>(aT (i:=7) (nd 6) rfl (Or.inl rfl) aj))
 (aC (cm (E:=E0) λvs=>(aT (i:=8) (nd 6) rfl (Or.inl rfl) (md (dv 4) aj)))
 (aC (nW (ug (E:=E0) (dh hr.units) eL (rM 0 (aO T) hr (aW (aM (E:=E0) aj) bF)) (aM (E:=E0) aj) nm)
 (aC (cM (i:=7) (nd 6) rfl (Or.inl rfl) (rM 0 (aO T) hr (aW (aM (E:=E0) (dv 4)) bF)))
 (aC (cM (i:=8) (nd 6) rfl (Or.inl rfl) (CF (qc (aM (E:=E0) (dD (dv 7) aj)) (rM 0 (aO T) hr (aW (aM (E:=E0) (md (dv 4) aj)) bF))) (aM (E:=E0) (dv 4))))
 bP))
 bP)
 (aC (fq (E:=E0) (dk (af (dv 3) (af (dv 5) (af (ao (dv 3) (dv 7)) (af (ao (dv 3) (dv 8)) aw))))))
 bP)))))))))
theorem qV(T:Txt K mg t):eF P w K mg base CX0 1 (t.A 7) (t.Q 7) ["_law_tie_here","_law_here"] (spD K 2 bq) "_law_there" (top 65) :=
 oD T.g sc (i:=7) rfl λ_ _ _ _ _ _ _ hr=>(
 (ag (bT (aP (dh hr.units) eL (ao (dv 0) aj) (dv 1) nm)
 (ag (aQ (ao (dv 0) aj))
 ak)
 ak)
 (ag (bT (DW.dt (ub (aP (dh hr.units) eL (ao (dv 0) aj) (dv 1) nm) (jA (aP (dh hr.units) eL (ao (dv 0) aj) dm nm))))
 (ag (aQ (ao (dv 0) aj))
 ak)
 ak)
 (ag (aQ cY)
 ak))))
theorem tJ(T:Txt K mg t):eF P w K mg base CX0 2 (t.A 8) (t.Q 8) ["_law_one","_law_other"] (spD K 2 bN) "_law_plus" (top 63) :=
 oD T.g sc (i:=8) rfl λ_ _ _ _ _ _ _ hr=>(
 (ag (aQ (rC (g7 T) hr (af (dD (cg (ao (dv 0) aj) (ao (dv 1) aj)) (cg (ao (dv 1) aj) (ao (dv 0) aj))) (af (cg (ao (dv 0) aj) (ao (dv 1) aj)) aw))))
 ak))
theorem jW(T:Txt K mg t):eF P w K mg base CX0 1 (t.A 9) (t.Q 9) ["_law_one","_law_other"] (spD K 2 bH) "_law_less" (top 64) :=
 oD T.g sc (i:=9) rfl λ_ _ _ _ _ _ _ _=>(
 (ag (aQ (eJ uZ (c5 λ_ _ _ _=>rb _) (cg (ao (dv 0) aj) (ao (dv 1) aj)) (cg (ao (dv 1) aj) (ao (dv 0) aj)) nm))
 ak))
theorem mJ(T:Txt K mg t):eF P w K mg base CX0 3 (t.A 10) (t.Q 10) ["_law_web_here","_law_gone"] (spD K 2 bK) "_law_far" (top 66) :=
 oD T.g sc (i:=10) rfl λ_ _ _ _ _ _ _ hr=>(
 (ag (ue (i:=2) (nd 10) rfl (Or.inl rfl) (rX (ao (dv 0) aj) (dk (af aj (af aj aw)))))
 (ag (k7 PassesOwn.never rfl rfl T.n_range (br bZ dr rfl T.n_len PyProof.Rows.Boot.«len» (af (ao (dv 0) aj) aw)) (bI (i:=3) (nd 10) rfl (Or.inl rfl)) cj
 (ag (aT (i:=4) (nd 10) rfl (Or.inl rfl) gQ)
 (ag (k7 PassesOwn.never rfl rfl T.n_range (br bZ dr rfl T.n_len PyProof.Rows.Boot.«len» (af (ao (dv 0) aj) aw)) (bI (i:=5) (nd 10) rfl (Or.inl rfl)) cj
 (ag (aT (i:=6) (nd 10) rfl (Or.inl rfl) (ao (ao (dv 0) aj) (dv 5)))
 (ag (nJ PassesOwn.never rfl (Ho (rY (dv 6) nL (nK aj))) (bI (i:=7) (nd 10) rfl (Or.inl rfl)) cj
 (ag (aT (i:=8) (nd 10) rfl (Or.inl rfl) (rC (qV T) hr (af (dv 6) (af (dv 7) aw))))
 (ag (bT (DW.dt (ub (aP (g6 hr.units) ia (dv 5) (dv 1) rfl) (ub (aP tE tK (dv 8) cY nm) (jA (aP (xj (uz hr.units)) xn (dv 7) (dv 2) rfl)))))
 (ag (uc (i:=9) (nd 10) rfl (Or.inl rfl) (rC (tJ T) hr (af (gE (uz hr.units) (dv 2) (dv 7)) (af (ao (dv 6) aj) aw))))
 (ag (bT (DW.dt (dG (aP (lS (uz hr.units)) lV (dv 8) (dv 2) rfl) (bC (bY (rC (jW T) hr (af (dv 9) (af (gE (uz hr.units) (dv 2) (dv 8)) aw)))))))
 (ag (ud (i:=2) (uz hr.units) rfl (Or.inl rfl) (dv 9) (dv 8))
 (ag (aT (i:=4) (nd 10) rfl (Or.inl rfl) gQ)
 ak))
 ak)
 ak))
 ak)
 ak)))
 ak)))
 (ag (bT (bY (dv 4))
 (ag (aQ (dv 2))
 ak)
 ak)
 ak))))
 (ag (aQ (dv 2))
 ak))))
theorem lU(T:Txt K mg t):eF P w K mg base CX0 4 (t.A 11) (t.Q 11) ["_law_web_here"] (spD K 1 ck) "_law_withouts" (top 67) :=
 oD T.g sc (i:=11) rfl λ_ _ _ _ H _ _ hr=>(
 (ag (aQ (ji (ni ["_law_k","_law_web_here"] 1 [0] rfl (fT rfl T.n_range (br bZ dr rfl T.n_len PyProof.Rows.Boot.«len» (af (ao (dv 0) aj) aw))) (cK (by decide)) (λs H C fp pn=>⟨λHe H0e=>(bI (i:=0) (show List.Nodup (["_law_k","_law_web_here"]:List Str) from by decide) rfl (Or.inl rfl)),gC,(v9 (uz hr.units) (rC (mJ T) hr (af (dv 1) (af (dq (af (dv 0) aw)) aw))) (ao (dv 1) aj) ⟨rfl,ip rfl,rfl,by rw[dM rfl];rfl⟩)⟩) ⟨rfl,rfl⟩ rfl rfl rfl rfl)))
 ak))
theorem qU(T:Txt K mg t):eF P w K mg base CX0 2 (t.A 12) (t.Q 12) ["_law_least","_law_without"] (spD K 2 bx) "_law_value" (top 68) :=
 oD T.g sc (i:=12) rfl λ_ _ _ _ _ _ _ hr=>(
 (ag (bT (aP jv jx (dv 0) cY nm)
 (ag (aQ dm)
 ak)
 ak)
 (ag (bT (aP jv jx (dv 1) cY nm)
 (ag (aQ dm)
 ak)
 ak)
 (ag (aQ (rC (g7 T) hr (af (md (cg (ao (dv 1) aj) (ao (dv 0) aj)) (cg (ao (dv 0) aj) (ao (dv 1) aj))) (af (cg (ao (dv 1) aj) (ao (dv 0) aj)) aw))))
 ak))))
theorem vb(T:Txt K mg t):eF P w K mg base CX0 5 (t.A 13) (t.Q 13) ["_law_web_here"] (spD K 1 cU) "_law_due" (top 69) :=
 oD T.g sc (i:=13) rfl λ_ _ _ _ H _ _ hr=>(
 (ag (aT (i:=1) (nd 13) rfl (Or.inr rfl) (v9 (uz hr.units) (rC (mJ T) hr (af (dv 0) (af (dq aw) aw))) (ao (dv 0) aj) ⟨rfl,ip rfl,rfl,by rw[dM rfl];rfl⟩))
 (ag (aT (i:=2) (nd 13) rfl (Or.inr rfl) (ji (ni ["_law_without","_law_least"] 1 [1] rfl (gD (rC (lU T) hr (af (dv 0) aw))) (cK (by decide)) (λs H C fp pn=>⟨λHe H0e=>(bI (i:=0) (show List.Nodup (["_law_without","_law_least"]:List Str) from by decide) rfl (Or.inl rfl)),gC,(rC (qU T) hr (af (dv 1) (af (dv 0) aw)))⟩) ⟨rfl,rfl⟩ rfl rfl rfl rfl)))
 (ag (bT (aP (oj hr.units) oC dm (dv 2) rfl)
 (ag (aQ (dq aw))
 ak)
 ak)
 (ag (bT (aP (oj hr.units) oC dm (dv 2) rfl)
 (ag (aQ (ji (ni ["_law_number","_law_some"] 1 [2] rfl (fT rfl T.n_range (br bZ dr rfl T.n_len PyProof.Rows.Boot.«len» (af (dv 2) aw))) (cK (by decide)) (λs H C fp pn=>⟨λHe H0e=>(bI (i:=0) (show List.Nodup (["_law_number","_law_some"]:List Str) from by decide) rfl (Or.inl rfl)),(lh (aP (dh hr.units) eL (ao (dv 1) (dv 0)) dm nm)),(dv 0)⟩) ⟨rfl,rfl⟩ rfl rfl rfl rfl)))
 ak)
 ak)
 (ag (aT (i:=3) (nd 13) rfl (Or.inr rfl) (dk (af aj (af aj aw))))
 (ag (l7 PassesOwn.never rfl (dv 2) (bI (i:=4) (nd 13) rfl (Or.inl rfl)) cj
 (ag (bT (bY (rC (jW T) hr (af (dv 3) (af (dv 4) aw))))
 (ag (aT (i:=3) (nd 13) rfl (Or.inr rfl) (dv 4))
 ak)
 ak)
 ak))
 (ag (aQ (ji (ni ["_law_number","_law_most","_law_some"] 1 [3,2] rfl (fT rfl T.n_range (br bZ dr rfl T.n_len PyProof.Rows.Boot.«len» (af (dv 2) aw))) (cK (by decide)) (λs H C fp pn=>⟨λHe H0e=>(bI (i:=0) (show List.Nodup (["_law_number","_law_most","_law_some"]:List Str) from by decide) rfl (Or.inl rfl)),(lh (aP (dh hr.units) eL (ao (dv 2) (dv 0)) (dv 1) nm)),(dv 0)⟩) ⟨rfl,rfl⟩ rfl rfl rfl rfl)))
 ak))))))))
theorem xm(T:Txt K mg t):eF P w K mg base CX0 1 (t.A 14) (t.Q 14) ["one","other"] (spD K 2 m_is_less) "is_less" (top 15) :=
 oD T.g sc (i:=14) rfl λ_ _ _ _ _ _ _ _=>(
 (ag (aQ (eJ uZ (c5 λ_ _ _ _=>rb _) (cg (ao (dv 0) aj) (ao (dv 1) aj)) (cg (ao (dv 1) aj) (ao (dv 0) aj)) nm))
 ak))
theorem xl(T:Txt K mg t):eF P w K mg base CX0 2 (t.A 15) (t.Q 15) ["some"] (spD K 1 m_most_of) "most_of" (top 16) :=
 oD T.g sc (i:=15) rfl λ_ _ _ _ _ _ _ hr=>(
 (ag (aT (i:=1) (nd 15) rfl (Or.inl rfl) (ao (dv 0) aj))
 (ag (l7 PassesOwn.never rfl (dv 0) (bI (i:=2) (nd 15) rfl (Or.inl rfl)) cj
 (ag (bT (bY (rC (xm T) hr (af (dv 1) (af (dv 2) aw))))
 (ag (aT (i:=1) (nd 15) rfl (Or.inl rfl) (dv 2))
 ak)
 ak)
 ak))
 (ag (aQ (dv 1))
 ak))))
theorem gs(T:Txt K mg t):eF P w K mg base CX0 1 (t.A 16) (t.Q 16) ["thing"] (spD K 1 m_is_name) "is_name" (top 11) :=
 oD T.g sc (i:=16) rfl λ_ _ _ _ H _ _ hr=>(
 (ag (bT (DW.dt (dG (cz (bY (cB oK rfl T.n_isinstance rfl T.n_str PyProof.Rows.Boot.«str» (dv 0)))) (bC (cz (vZ yy yy (iN λ_ _ _ _=>rb _) (iN λ_ _ _ _=>rb _) iP iP aj (br bZ dr rfl T.n_len PyProof.Rows.Boot.«len» (af (dv 0) aw)) (ba T.eZ rfl))))))
 (ag (aQ gQ)
 ak)
 ak)
 (ag (aQ (br (CQ rfl) HD rfl T.n_all PyProof.Rows.Boot.«all» (af (ji (ni ["sign"] 1 [] rfl (Hq (dv 0)) (cK (by decide)) (λs H C fp pn=>⟨λHe H0e=>(bI (i:=0) (show List.Nodup (["sign"]:List Str) from by decide) rfl (Or.inl rfl)),gC,(eJ (oj hr.units) oC (dv 0) (ba T.mj rfl) rfl)⟩) ⟨rfl,rfl⟩ rfl rfl rfl rfl)) aw)))
 ak)))
theorem jV(T:Txt K mg t):eF P w K mg base CX0 2 (t.A 17) (t.Q 17) ["places"] (spD K 1 m_look_at_places) "look_at_places" (top 35) :=
 oD T.g sc (i:=17) rfl λ_ _ _ _ _ _ _ hr=>(
 (ag (bT (DW.dt (dG (cz (bY (cB ij rfl T.n_isinstance rfl T.n_list PyProof.Rows.Boot.«list» (dv 0)))) (bC (cz (vZ yy yy (iN λ_ _ _ _=>rb _) (iN λ_ _ _ _=>rb _) iP iP (ba T.eK rfl) (br bZ dr rfl T.n_len PyProof.Rows.Boot.«len» (af (dv 0) aw)) (ba T.fJ rfl))))))
 (ag dR
 ak)
 ak)
 (ag (nJ PassesOwn.never rfl (nM rfl T.n_enumerate (dv 0)) (l9 rfl (cA (i:=1) (nd 17) rfl (Or.inl rfl) (cA (i:=2) (nd 17) rfl (Or.inl rfl) i4))) fO
 (ag (bT (DW.dt (dG (cz (bY (rC (gs T) hr (af (dv 2) aw)))) (bC (aP (oj hr.units) oC (dv 2) (rY (dv 0) nL (nK (dv 1))) rfl))))
 (ag dR
 ak)
 ak)
 ak))
 ak)))
theorem fw(T:Txt K mg t):eF P w K mg base CX0 1 (t.A 18) (t.Q 18) ["thing"] (spD K 1 m_is_whole) "is_whole" (top 9) :=
 oD T.g sc (i:=18) rfl λ_ _ _ _ _ _ _ _=>(
 (ag (aQ (me (cB xA rfl T.n_isinstance rfl T.n_int PyProof.Rows.Boot.«int» (dv 0)) (jD (Hs (cB mL rfl T.n_isinstance rfl T.n_bool PyProof.Rows.Boot.«bool» (dv 0))))))
 ak))
theorem dP(T:Txt K mg t):eF P w K mg base CX0 1 (t.A 19) (t.Q 19) ["one","other"] (spD K 2 m_common_divisor) "common_divisor" (top 5) :=
 oD T.g sc (i:=19) rfl λ_ _ _ _ _ _ _ hr=>(
 (ag (aT (i:=2) (nd 19) rfl (Or.inl rfl) (br qr xQ rfl T.n_abs PyProof.Rows.Boot.«abs» (af (dv 0) aw)))
 (ag (aT (i:=3) (nd 19) rfl (Or.inl rfl) (br qr xQ rfl T.n_abs PyProof.Rows.Boot.«abs» (af (dv 1) aw)))
 (ag (p7 _ PassesOwn.never (aP (gr hr.units) jX (dv 3) aj nm)
 (ag (aT (i:=4) (nd 19) rfl (Or.inl rfl) (eI (dv 2) (dv 3)))
 (ag (aT (i:=2) (nd 19) rfl (Or.inl rfl) (dv 3))
 (ag (aT (i:=3) (nd 19) rfl (Or.inl rfl) (dv 4))
 ak))))
 (ag (aQ (dv 2))
 ak)))))
theorem mH(T:Txt K mg t):eF P w K mg base CX0 2 (t.A 20) (t.Q 20) ["thing"] (spD K 1 m_is_ratio) "is_ratio" (top 10) :=
 oD T.g sc (i:=20) rfl λ_ _ _ _ _ _ _ hr=>(
 (ag (bT (DW.dt (dG (cz (bY (cB gA rfl T.n_isinstance rfl T.n_tuple PyProof.Rows.Boot.«tuple» (dv 0)))) (bC (aP (gr hr.units) jX (br bZ dr rfl T.n_len PyProof.Rows.Boot.«len» (af (dv 0) aw)) aj nm))))
 (ag (aQ gQ)
 ak)
 ak)
 (ag (bT (DW.dt (dG (cz (bY (rC (fw T) hr (af (ao (dv 0) aj) aw)))) (bC (cz (bY (rC (fw T) hr (af (ao (dv 0) aj) aw)))))))
 (ag (aQ gQ)
 ak)
 ak)
 (ag (aQ (me (eJ BR (c5 λ_ _ _ _=>rb _) (ao (dv 0) aj) aj nm) (jD (eJ (dh hr.units) eL (rC (dP T) hr (af (ao (dv 0) aj) (af (ao (dv 0) aj) aw))) aj nm))))
 ak))))
theorem tI(T:Txt K mg t):eF P w K mg base CX0 3 (t.A 21) (t.Q 21) ["thing"] (spD K 1 m_is_length) "is_length" (top 32) :=
 oD T.g sc (i:=21) rfl λ_ _ _ _ _ _ _ hr=>(
 (ag (aQ (me (rC (mH T) hr (af (dv 0) aw)) (jD (eJ BR (c5 λ_ _ _ _=>rb _) (ao (dv 0) aj) aj nm))))
 ak))
theorem u6(T:Txt K mg t):eF P w K mg base CX0 3 (t.A 22) (t.Q 22) ["thing"] (spD K 1 m_is_worth) "is_worth" (top 33) :=
 oD T.g sc (i:=22) rfl λ_ _ _ _ _ _ _ hr=>(
 (ag (aQ (JL (eJ jv jx (dv 0) cY nm) (jD (me (rC (mH T) hr (af (dv 0) aw)) (jD (eJ yz (c5 λ_ _ _ _=>rb _) (ao (dv 0) aj) aj nm))))))
 ak))
theorem Af(T:Txt K mg t):eF P w K mg base CX0 4 (t.A 23) (t.Q 23) ["thing"] (spD K 1 m_is_tie) "is_tie" (top 31) :=
 oD T.g sc (i:=23) rfl λ_ _ _ _ _ _ _ hr=>(
 (ag (bT (DW.dt (dG (cz (bY (cB gA rfl T.n_isinstance rfl T.n_tuple PyProof.Rows.Boot.«tuple» (dv 0)))) (bC (aP (gr hr.units) jX (br bZ dr rfl T.n_len PyProof.Rows.Boot.«len» (af (dv 0) aw)) aj nm))))
 (ag (aQ gQ)
 ak)
 ak)
 (ag (bT (DW.dt (dG (cz (bY (rC (gs T) hr (af (ao (dv 0) (ba T.qu rfl)) aw)))) (dG (cz (bY (rC (gs T) hr (af (ao (dv 0) (ba T.gI rfl)) aw)))) (bC (aP (dh hr.units) eL (ao (dv 0) (ba T.qu rfl)) (ao (dv 0) (ba T.gI rfl)) nm)))))
 (ag (aQ gQ)
 ak)
 ak)
 (ag (bT (DW.dt (dG (cz (bY (cB oK rfl T.n_isinstance rfl T.n_str PyProof.Rows.Boot.«str» (ao (dv 0) (ba T.qt rfl))))) (bC (aP (g6 hr.units) ia (ao (dv 0) (ba T.qt rfl)) (ba T.uv rfl) rfl))))
 (ag (aQ gQ)
 ak)
 ak)
 (ag (aQ (me (rC (tI T) hr (af (ao (dv 0) (ba T.lr rfl)) aw)) (jD (rC (u6 T) hr (af (ao (dv 0) (ba T.uu rfl)) aw)))))
 ak)))))
theorem m9(T:Txt K mg t):eF P w K mg base CX0 5 (t.A 24) (t.Q 24) ["ties","places"] (spD K 2 m_look_at_ties) "look_at_ties" (top 36) :=
 oD T.g sc (i:=24) rfl λ_ _ _ _ _ _ _ hr=>(
 (ag (bT (DW.dt (dG (cz (bY (cB ij rfl T.n_isinstance rfl T.n_list PyProof.Rows.Boot.«list» (dv 0)))) (bC (aP yz (c5 λ_ _ _ _=>rb _) (br bZ dr rfl T.n_len PyProof.Rows.Boot.«len» (af (dv 0) aw)) (ba T.iC rfl) nm))))
 (ag dR
 ak)
 ak)
 (ag (nJ PassesOwn.never rfl (nM rfl T.n_enumerate (dv 0)) (l9 rfl (cA (i:=2) (nd 24) rfl (Or.inl rfl) (cA (i:=3) (nd 24) rfl (Or.inl rfl) i4))) fO
 (ag (bT (DW.dt (dG (cz (bY (rC (Af T) hr (af (dv 3) aw)))) (dG (aP (g6 hr.units) ia (ao (dv 3) (ba T.qu rfl)) (dv 1) rfl) (bC (aP (g6 hr.units) ia (ao (dv 3) (ba T.gI rfl)) (dv 1) rfl)))))
 (ag dR
 ak)
 ak)
 ak))
 ak)))
theorem mI(T:Txt K mg t):eF P w K mg base CX0 2 (t.A 25) (t.Q 25) ["thing","places"] (spD K 2 m_is_place) "is_place" (top 37) :=
 oD T.g sc (i:=25) rfl λ_ _ _ _ _ _ _ hr=>(
 (ag (aQ (me (rC (gs T) hr (af (dv 0) aw)) (jD (eJ (oj hr.units) oC (dv 0) (dv 1) rfl))))
 ak))
theorem oy(T:Txt K mg t):eF P w K mg base CX0 6 (t.A 26) (t.Q 26) ["thing"] (spD K 1 m_look_at_web) "look_at_web" (top 34) :=
 oD T.g sc (i:=26) rfl λ_ _ _ _ _ _ _ hr=>(
 (ag (bT (DW.dt (dG (cz (bY (cB gA rfl T.n_isinstance rfl T.n_tuple PyProof.Rows.Boot.«tuple» (dv 0)))) (bC (aP (gr hr.units) jX (br bZ dr rfl T.n_len PyProof.Rows.Boot.«len» (af (dv 0) aw)) aj nm))))
 (ag dR
 ak)
 ak)
 (ag (uf (rC (jV T) hr (af (ao (dv 0) (ba T.eY rfl)) aw)))
 (ag (uf (rC (m9 T) hr (af (ao (dv 0) (ba T.mh rfl)) (af (ao (dv 0) (ba T.eY rfl)) aw))))
 (ag (bT (cz (bY (rC (mI T) hr (af (ao (dv 0) (ba T.lu rfl)) (af (ao (dv 0) (ba T.eY rfl)) aw)))))
 (ag dR
 ak)
 ak)
 (ag (bT (DW.dt (dG (cz (bY (rC (mI T) hr (af (ao (dv 0) (ba T.jG rfl)) (af (ao (dv 0) (ba T.eY rfl)) aw))))) (bC (aP (dh hr.units) eL (ao (dv 0) (ba T.jG rfl)) (ao (dv 0) (ba T.lu rfl)) nm))))
 (ag dR
 ak)
 ak)
 ak))))))
theorem lT(T:Txt K mg t):eF P w K mg base CX0 2 (t.A 27) (t.Q 27) ["some"] (spD K 1 m_shared_bottom) "shared_bottom" (top 43) :=
 oD T.g sc (i:=27) rfl λ_ _ _ _ _ _ _ hr=>(
 (ag (aT (i:=1) (nd 27) rfl (Or.inl rfl) aj)
 (ag (l7 PassesOwn.never rfl (dv 0) (bI (i:=2) (nd 27) rfl (Or.inl rfl)) cj
 (ag (aT (i:=1) (nd 27) rfl (Or.inl rfl) (cg (iz (dv 1) (rC (dP T) hr (af (dv 1) (af (ao (dv 2) aj) aw)))) (ao (dv 2) aj)))
 ak))
 (ag (aQ (dv 1))
 ak))))
theorem u7(T:Txt K mg t):eF P w K mg base CX0 1 (t.A 28) (t.Q 28) ["one","bottom"] (spD K 2 m_as_whole) "as_whole" (top 44) :=
 oD T.g sc (i:=28) rfl λ_ _ _ _ _ _ _ _=>(
 (ag (aQ (cg (ao (dv 0) aj) (iz (dv 1) (ao (dv 0) aj))))
 ak))
theorem m8(T:Txt K mg t):eF P w K mg base CX0 3 (t.A 29) (t.Q 29) ["some"] (spD K 1 m_on_one_scale) "on_one_scale" (top 42) :=
 oD T.g sc (i:=29) rfl λ_ _ _ _ H _ _ hr=>(
 (ag (aT (i:=1) (nd 29) rfl (Or.inr rfl) (rC (lT T) hr (af (ji (ni ["one"] 1 [] rfl (gD (dv 0)) (cK (by decide)) (λs H C fp pn=>⟨λHe H0e=>(bI (i:=0) (show List.Nodup (["one"]:List Str) from by decide) rfl (Or.inl rfl)),(lh (aP tE tK (dv 0) cY nm)),(dv 0)⟩) ⟨rfl,rfl⟩ rfl rfl rfl rfl)) aw)))
 (ag (aQ (dk (af (ji (ni ["one","bottom"] 1 [1] rfl (gD (dv 0)) (cK (by decide)) (λs H C fp pn=>⟨λHe H0e=>(bI (i:=0) (show List.Nodup (["one","bottom"]:List Str) from by decide) rfl (Or.inl rfl)),gC,(qe (aP jv jx (dv 0) cY nm) cY (rC (u7 T) hr (af (dv 0) (af (dv 1) aw))))⟩) ⟨rfl,rfl⟩ rfl rfl rfl rfl)) (af (dv 1) aw))))
 ak)))
theorem jU(T:Txt K mg t):eF P w K mg base CX0 4 (t.A 30) (t.Q 30) ["web"] (spD K 1 m_scaled_lengths) "scaled_lengths" (top 47) :=
 oD T.g sc (i:=30) rfl λ_ _ _ _ H _ _ hr=>(
 (ag (aQ (rC (m8 T) hr (af (ji (ni ["tie"] 1 [] rfl (gD (ao (dv 0) (ba T.mh rfl))) (cK (by decide)) (λs H C fp pn=>⟨λHe H0e=>(bI (i:=0) (show List.Nodup (["tie"]:List Str) from by decide) rfl (Or.inl rfl)),gC,(ao (dv 0) (ba T.lr rfl))⟩) ⟨rfl,rfl⟩ rfl rfl rfl rfl)) aw)))
 ak))
theorem ot(T:Txt K mg t):eF P w K mg base CX0 1 (t.A 31) (t.Q 31) ["tie"] (spD K 1 m_steps_along) "steps_along" (top 39) :=
 oD T.g sc (i:=31) rfl λ_ _ _ _ _ _ _ hr=>(
 (ag (aT (i:=1) (nd 31) rfl (Or.inl rfl) (dk (af (ao (dv 0) (ba T.qu rfl)) (af (ao (dv 0) (ba T.gI rfl)) aw))))
 (ag (bT (aP (dh hr.units) eL (ao (dv 0) (ba T.qt rfl)) dm nm)
 (ag (aQ (dq (af (dv 1) aw)))
 ak)
 ak)
 (ag (aQ (dq (af (dv 1) (af (dk (af (ao (dv 0) (ba T.gI rfl)) (af (ao (dv 0) (ba T.qu rfl)) aw))) aw))))
 ak))))
theorem qT(T:Txt K mg t):eF P w K mg base CX0 2 (t.A 32) (t.Q 32) ["web","taken"] (spD K 2 m_steps_left) "steps_left" (top 40) :=
 oD T.g sc (i:=32) rfl λ_ _ _ _ _ _ _ hr=>(
 (ag (jB (i:=2) (nd 32) rfl (Or.inl rfl) (ma aw))
 (ag (nJ PassesOwn.never rfl (nM rfl T.n_enumerate (ao (dv 0) (ba T.mh rfl))) (l9 rfl (cA (i:=3) (nd 32) rfl (Or.inl rfl) (cA (i:=4) (nd 32) rfl (Or.inl rfl) i4))) fO
 (ag (bT (aP (g6 hr.units) ia (dv 3) (dv 1) rfl)
 (ag (l7 PassesOwn.never rfl (rC (ot T) hr (af (dv 4) aw)) (l9 rfl (cA (i:=5) (nd 32) rfl (Or.inl rfl) (cA (i:=6) (nd 32) rfl (Or.inl rfl) i4))) fO
 (ag (iZ (i:=2) rfl (Or.inl rfl) (dk (af (dv 3) (af (dv 5) (af (dv 6) aw)))))
 ak))
 ak)
 ak)
 ak))
 (ag (aQ (dv 2))
 ak))))
theorem gO(T:Txt K mg t):eF P w K mg base CX0 1 (t.A 33) (t.Q 33) ["steps","sizes","found"] (spD K 3 m_nearest_step) "nearest_step" (top 49) :=
 oD T.g sc (i:=33) rfl λ_ _ _ _ _ _ _ hr=>(
 (ag (aT (i:=3) (nd 33) rfl (Or.inl rfl) cY)
 (ag (l7 PassesOwn.never rfl (dv 0) (l9 rfl (cA (i:=4) (nd 33) rfl (Or.inl rfl) (cA (i:=5) (nd 33) rfl (Or.inl rfl) (cA (i:=6) (nd 33) rfl (Or.inl rfl) i4)))) fO
 (ag (bT (DW.dt (ub (aP (xj (uz hr.units)) xn (dv 5) (dv 2) rfl) (jA (aP (lS (uz hr.units)) lV (dv 6) (dv 2) rfl))))
 (ag (aT (i:=7) (nd 33) rfl (Or.inl rfl) (dD (ao (gE (uz hr.units) (dv 2) (dv 5)) aj) (ao (dv 1) (dv 4))))
 (ag (bT (DW.dt (dG (aP jv jx (dv 3) cY nm) (bC (aP uZ (c5 λ_ _ _ _=>rb _) (dv 7) (ao (dv 3) aj) nm))))
 (ag (aT (i:=3) (nd 33) rfl (Or.inl rfl) (dk (af (dv 6) (af (dv 7) (af (dD (ao (gE (uz hr.units) (dv 2) (dv 5)) aj) (dq (af (dv 4) aw))) aw)))))
 ak)
 ak)
 ak))
 ak)
 ak))
 (ag (aQ (dv 3))
 ak))))
theorem oz(T:Txt K mg t):eF P w K mg base CX0 3 (t.A 34) (t.Q 34) ["web","taken","sizes"] (spD K 3 m_all_reached) "all_reached" (top 48) :=
 oD T.g sc (i:=34) rfl λ_ _ _ _ _ _ _ hr=>(
 (ag (aT (i:=3) (nd 34) rfl (Or.inl rfl) (rC (qT T) hr (af (dv 0) (af (dv 1) aw))))
 (ag (ue (i:=4) (nd 34) rfl (Or.inl rfl) (rX (ao (dv 0) (ba T.lu rfl)) (dk (af aj (af (dq aw) aw)))))
 (ag (uc (i:=5) (nd 34) rfl (Or.inl rfl) (rC (gO T) hr (af (dv 3) (af (dv 2) (af (dv 4) aw)))))
 (ag (p7 _ PassesOwn.never (aP tE tK (dv 5) cY nm)
 (ag (ud (i:=4) (uz hr.units) rfl (Or.inl rfl) (dk (af (ao (dv 5) aj) (af (ao (dv 5) aj) aw))) (ao (dv 5) aj))
 (ag (uc (i:=5) (nd 34) rfl (Or.inl rfl) (rC (gO T) hr (af (dv 3) (af (dv 2) (af (dv 4) aw)))))
 ak)))
 (ag (aQ (dv 4))
 ak))))))
theorem u5(T:Txt K mg t):eF P w K mg base CX0 2 (t.A 35) (t.Q 35) ["top","bottom"] (spD K 2 m_ratio) "ratio" (top 13) :=
 oD T.g sc (i:=35) rfl λ_ _ _ _ _ _ _ hr=>(
 (ag (bT (DW.dt (dG (cz (bY (rC (fw T) hr (af (dv 0) aw)))) (bC (cz (bY (rC (fw T) hr (af (dv 1) aw)))))))
 (ag dR
 ak)
 ak)
 (ag (bT (aP (dh hr.units) eL (dv 1) aj nm)
 (ag dR
 ak)
 ak)
 (ag (aT (i:=2) (nd 35) rfl (Or.inl rfl) (rC (dP T) hr (af (dv 0) (af (dv 1) aw))))
 (ag (bT (aP uZ (c5 λ_ _ _ _=>rb _) (dv 1) aj nm)
 (ag (aT (i:=2) (nd 35) rfl (Or.inl rfl) (Ht (dv 2)))
 ak)
 ak)
 (ag (aQ (dk (af (iz (dv 0) (dv 2)) (af (iz (dv 1) (dv 2)) aw))))
 ak))))))
theorem mG(T:Txt K mg t):eF P w K mg base CX0 5 (t.A 36) (t.Q 36) ["web","taken"] (spD K 2 m_shortest) "shortest" (top 46) :=
 oD T.g sc (i:=36) rfl λ_ _ _ _ _ _ _ hr=>(
 (ag (aT (i:=2) (nd 36) rfl (Or.inl rfl) (rC (jU T) hr (af (dv 0) aw)))
 (ag (aT (i:=3) (nd 36) rfl (Or.inl rfl) (rC (oz T) hr (af (dv 0) (af (dv 1) (af (ao (dv 2) aj) aw)))))
 (ag (ue (i:=4) (nd 36) rfl (Or.inl rfl) EC)
 (ag (l7 PassesOwn.never rfl (ao (dv 0) (ba T.eY rfl)) (bI (i:=5) (nd 36) rfl (Or.inl rfl)) cj
 (ag (ud (i:=4) (uz hr.units) rfl (Or.inl rfl) (qe (aP (xj (uz hr.units)) xn (dv 5) (dv 3) rfl) (rC (u5 T) hr (af (ao (gE (uz hr.units) (dv 3) (dv 5)) aj) (af (ao (dv 2) aj) aw))) cY) (dv 5))
 ak))
 (ag (bT (aP (lS (uz hr.units)) lV (ao (dv 0) (ba T.jG rfl)) (dv 3) rfl)
 (ag (aQ (dk (af cY (af cY (af (dv 4) aw)))))
 ak)
 ak)
 (ag (aQ (dk (af (ao (gE (uz hr.units) (dv 3) (ao (dv 0) (ba T.jG rfl))) aj) (af (gE (uz hr.units) (dv 4) (ao (dv 0) (ba T.jG rfl))) (af (dv 4) aw)))))
 ak)))))))
theorem BV(T:Txt K mg t):eF P w K mg base CX0 3 (t.A 37) (t.Q 37) ["one","other"] (spD K 2 m_minus) "minus" (top 14) :=
 oD T.g sc (i:=37) rfl λ_ _ _ _ _ _ _ hr=>(
 (ag (aQ (rC (u5 T) hr (af (md (cg (ao (dv 0) aj) (ao (dv 1) aj)) (cg (ao (dv 1) aj) (ao (dv 0) aj))) (af (cg (ao (dv 0) aj) (ao (dv 1) aj)) aw))))
 ak))
theorem u4(T:Txt K mg t):eF P w K mg base CX0 4 (t.A 38) (t.Q 38) ["length","length_without"] (spD K 2 m_value_by) "value_by" (top 51) :=
 oD T.g sc (i:=38) rfl λ_ _ _ _ _ _ _ hr=>(
 (ag (bT (aP jv jx (dv 0) cY nm)
 (ag (aQ dm)
 ak)
 ak)
 (ag (bT (aP jv jx (dv 1) cY nm)
 (ag (aQ dm)
 ak)
 ak)
 (ag (aQ (rC (BV T) hr (af (dv 1) (af (dv 0) aw))))
 ak))))
theorem qS(T:Txt K mg t):eF P w K mg base CX0 7 (t.A 39) (t.Q 39) ["web"] (spD K 1 eP) "values_all" (top 52) :=
 oD T.g sc (i:=39) rfl λ_ _ _ _ _ _ _ hr=>(
 (ag (uf (rC (oy T) hr (af (dv 0) aw)))
 (ag (aT (i:=1) (nd 39) rfl (Or.inl rfl) (ao (rC (mG T) hr (af (dv 0) (af (dq aw) aw))) aj))
 (ag (jB (i:=2) (nd 39) rfl (Or.inl rfl) (ma aw))
 (ag (k7 PassesOwn.never rfl rfl T.n_range (br bZ dr rfl T.n_len PyProof.Rows.Boot.«len» (af (ao (dv 0) (ba T.mh rfl)) aw)) (bI (i:=3) (nd 39) rfl (Or.inl rfl)) cj
 (ag (aT (i:=4) (nd 39) rfl (Or.inl rfl) (rC (mG T) hr (af (dv 0) (af (dq (af (dv 3) aw)) aw))))
 (ag (iZ (i:=2) rfl (Or.inl rfl) (dk (af (rC (u4 T) hr (af (dv 1) (af (ao (dv 4) aj) aw))) (af (ao (dv 4) aj) aw))))
 ak)))
 (ag (aQ (dv 2))
 ak))))))
theorem gP(T:Txt K mg t):eF P w K mg base CX0 8 (t.A 40) (t.Q 40) ["web"] (E9 K 1 bE) "most_valued" (top 53) :=
 oF T.g sc (i:=40) rfl λ_ _ _ _ H _ _ hr=>(
 (iY (Ez (i:=1) (nd 40) rfl rfl sq (ni ["told"] 1 [] rfl (gD (rC (qS T) hr (af (dv 0) aw))) (cK (by decide)) (λs H C fp pn=>⟨λHe H0e=>(bI (i:=0) (show List.Nodup (["told"]:List Str) from by decide) rfl (Or.inl rfl)),gC,(ao (dv 0) aj)⟩) ⟨rfl,rfl⟩ rfl rfl rfl rfl))
 (Ey (DW.dt (dG (aP (dh hr.units) eL (dv 1) (dq aw) nm) (bC (aP (oj hr.units) oC dm (dv 1) rfl))))
 (l6 (ma aw))
 (iY (aT (i:=2) (nd 40) rfl (Or.inr rfl) (qe (aP (oj hr.units) oC dm (dv 1) rfl) dm (rC (xl T) hr (af (dv 1) aw))))
 (l6 (FJ (ni ["number","value","greatest"] 2 [2] rfl (nM rfl T.n_enumerate (dv 1)) (A5 (by decide)) (λs H C fp pn=>⟨λHe H0e=>(l9 rfl (cA (i:=0) (show List.Nodup (["number","value","greatest"]:List Str) from by decide) rfl (Or.inl rfl) (cA (i:=1) (show List.Nodup (["number","value","greatest"]:List Str) from by decide) rfl (Or.inl rfl) i4))),(lh (aP (dh hr.units) eL (dv 1) (dv 2) nm)),(dv 0)⟩) ⟨rfl,rfl⟩ rfl rfl rfl rfl)))))))
theorem ou(T:Txt K mg t):eF P w K mg base CX0 8 (t.A 40) (t.Q 40) ["web"] (spD K 1 bE) "most_valued" (top 53) :=
 (gP T).fD
theorem ok_law(T:Txt K mg t):eF P w K mg base CX0 9 (t.A 41) (t.Q 41) ["_law_script"] (spD K 1 m_law) "law" (top 70) :=
 oD T.g sc (i:=41) rfl λ_ _ _ _ H _ _ hr=>(
 (ag (k7 PassesOwn.never rfl rfl T.n_range (br (AG rfl) HB rfl T.n_max PyProof.Rows.Boot.«max» (af aj (af (br (AF rfl) HA rfl T.n_min PyProof.Rows.Boot.«min» (af (br bZ dr rfl T.n_len PyProof.Rows.Boot.«len» (af (dv 0) aw)) (af aj aw))) aw))) (bI (i:=1) (nd 41) rfl (Or.inl rfl)) cj
 (Ay (i:=2) (nd 41) rfl (Or.inl rfl) (rF (oA T) hr (af (dv 0) (af (dv 1) aw))) λa=>(aC (cM (i:=3) (nd 41) rfl (Or.inl rfl) (rM 2 (u9 T) hr (aW (aM (E:=E0) aj) (aW (aM (E:=E0) aj) bF))))
 (aC (cm (E:=E0) λvs=>(aT (i:=4) (nd 41) rfl (Or.inl rfl) (br (sC hr) zy rfl T.n_repr PyProof.Rows.Boot.«repr» (af (dv 3) aw))))
 (aC (cm (E:=E0) λvs=>(aT (i:=5) (nd 41) rfl (Or.inl rfl) (rC (vb T) hr (af (dv 3) aw))))
 (aC (cm (E:=E0) λvs=>(jB (i:=6) (nd 41) rfl (Or.inl rfl) (rF (gP T) hr (af (dv 3) aw))))
 (aC (nW (p8 (E:=E0) (DW.dt (dG (cz (bY (cB ij rfl T.n_isinstance rfl T.n_list PyProof.Rows.Boot.«list» (dv 6)))) (bC (aP (gr hr.units) jX (dv 6) (dv 5) nm)))))
 (aC (fq (E:=E0) gQ)
 bP)
 bP)
 (aC (nW (p8 (E:=E0) (aP (gr hr.units) jX (ji (ni ["_law_one"] 1 [] rfl (gD (dv 6)) (cK (by decide)) (λs H C fp pn=>⟨λHe H0e=>(bI (i:=0) (show List.Nodup (["_law_one"]:List Str) from by decide) rfl (Or.inl rfl)),(lh (bY (cB mL rfl T.n_isinstance rfl T.n_bool PyProof.Rows.Boot.«bool» (dv 0)))),(dv 0)⟩) ⟨rfl,rfl⟩ rfl rfl rfl rfl)) (dq aw) nm))
 (aC (fq (E:=E0) gQ)
 bP)
 bP)
 (aC (cm (E:=E0) λvs=>(iZ (i:=6) rfl (Or.inl rfl) aj))
 (aC (nW (p8 (E:=E0) (DW.dt (dG (aP (gr hr.units) jX (rC (ou T) hr (af (dv 3) aw)) (dv 5) nm) (bC (aP (gr hr.units) jX (br (sC hr) zy rfl T.n_repr PyProof.Rows.Boot.«repr» (af (dv 3) aw)) (dv 4) nm)))))
 (aC (fq (E:=E0) gQ)
 bP)
 bP)
 bP))))))))))
 (ag (aQ gQ)
 ak)))
end
theorem txt_mk{h:Heap}(X:K.In h)(G:h.Ns mainGlobals mg)(qs:QAs K rows [a0,a1,a2,a3,a4,a5,a6,a7,a8,a9,a10,a11,a12,a13,a14,a15,a16,a17,a18,a19,a20,a21,a22,a23,a24,a25,a26,a27,a28,a29,a30,a31,a32,a33,a34,a35,a36,a37,a38,a39,a40,a41])
  (z_abs:W.nsIn K mainGlobals "abs"=some none)
  (z_all:W.nsIn K mainGlobals "all"=some none)
  (z_bool:W.nsIn K mainGlobals "bool"=some none)
  (z_enumerate:W.nsIn K mainGlobals "enumerate"=some none)
  (z_int:W.nsIn K mainGlobals "int"=some none)
  (z_isinstance:W.nsIn K mainGlobals "isinstance"=some none)
  (AV:W.nsIn K mainGlobals "len"=some none)
  (z_list:W.nsIn K mainGlobals "list"=some none)
  (z_max:W.nsIn K mainGlobals "max"=some none)
  (z_min:W.nsIn K mainGlobals "min"=some none)
  (z_range:W.nsIn K mainGlobals "range"=some none)
  (z_repr:W.nsIn K mainGlobals "repr"=some none)
  (z_str:W.nsIn K mainGlobals "str"=some none)
  (z_tuple:W.nsIn K mainGlobals "tuple"=some none)
  (m4:W.nsIn K mainGlobals "FEWEST_PLACES"=some (some (.int 2 AO)))
  (Dc:W.nsIn K mainGlobals "FIRST"=some (some (.int 2 J3)))
  (FV:W.nsIn K mainGlobals "LAST"=some (some (.int 3 Km)))
  (AX:W.nsIn K mainGlobals "LENGTH"=some (some (.int 3 Il)))
  (zM:W.nsIn K mainGlobals "LETTERS"=some (some (.str "abcdefghijklmnopqrstuvwxyz" HX)))
  (nS:W.nsIn K mainGlobals "LONGEST_NAME"=some (some (.int 8 A6)))
  (qM:W.nsIn K mainGlobals "MOST_PLACES"=some (some (.int 7 C3)))
  (uD:W.nsIn K mainGlobals "MOST_TIES"=some (some (.int 14 E4)))
  (Ih:W.nsIn K mainGlobals "ONE"=some (some (.int 0 Lm)))
  (C9:W.nsIn K mainGlobals "OTHER"=some (some (.int 1 J2)))
  (AW:W.nsIn K mainGlobals "PLACES"=some (some (.int 0 Ik)))
  (FU:W.nsIn K mainGlobals "TIES"=some (some (.int 1 Kl)))
  (FR:W.nsIn K mainGlobals "WORD"=some (some (.int 2 Kk)))
  (C8:W.nsIn K mainGlobals "WORDS"=some (some (.ref DP)))(Df:K.lookup DP=some Ee)(Dk:∃od its n sl vs,Ee=⟨.type "tuple",od,.seq its n,sl⟩/\bz vs its.toList/\its.size<=sizeLine/\∀H,Reps K H [.str "one",.str "both"] vs)
  (C7:W.nsIn K mainGlobals "WORTH"=some (some (.int 4 J1))) :
  ∃t:Adr,Txt K mg t/\t.A 41=a41/\∃kV doc pm an cdv ct,t.Q 41=W.fnOf "law" "law" (defArgs (top 70)) (defBody (top 70)) (defScope (top 70)) .none kV doc pm an cdv ct:=by
 obtain⟨Q,hQ⟩:=E3 X G bn qs;have D_law:=(hQ 41 _ rfl).2;refine⟨⟨λi=>[a0,a1,a2,a3,a4,a5,a6,a7,a8,a9,a10,a11,a12,a13,a14,a15,a16,a17,a18,a19,a20,a21,a22,a23,a24,a25,a26,a27,a28,a29,a30,a31,a32,a33,a34,a35,a36,a37,a38,a39,a40,a41].getD i 0,Q⟩,⟨λi r h=>(hQ i r h).1,W.mg_none_of X G z_abs,W.mg_none_of X G z_all,W.mg_none_of X G z_bool,W.mg_none_of X G z_enumerate,W.mg_none_of X G z_int,W.mg_none_of X G z_isinstance,W.mg_none_of X G AV,W.mg_none_of X G z_list,W.mg_none_of X G z_max,W.mg_none_of X G z_min,W.mg_none_of X G z_range,W.mg_none_of X G z_repr,W.mg_none_of X G z_str,W.mg_none_of X G z_tuple,?eK,?lu,?jG,?lr,?mj,?eZ,?fJ,?iC,?qu,?gI,?eY,?mh,?qt,?uv,?uu⟩,rfl,D_law⟩
 case eK=>exact c9 (W.mg_of X G m4)
 case lu=>exact c9 (W.mg_of X G Dc)
 case jG=>exact c9 (W.mg_of X G FV)
 case lr=>exact c9 (W.mg_of X G AX)
 case mj=>exact Er (W.mg_of X G zM)
 case eZ=>exact c9 (W.mg_of X G nS)
 case fJ=>exact c9 (W.mg_of X G qM)
 case iC=>exact c9 (W.mg_of X G uD)
 case qu=>exact c9 (W.mg_of X G Ih)
 case gI=>exact c9 (W.mg_of X G C9)
 case eY=>exact c9 (W.mg_of X G AW)
 case mh=>exact c9 (W.mg_of X G FU)
 case qt=>exact c9 (W.mg_of X G FR)
 case uv =>
  obtain⟨od,its,n,sl,vs,rfl,h1,h2,h3⟩:=Dk;exact Ep (W.mg_of X G C8) Df h1 h2 h3
 case uu=>exact c9 (W.mg_of X G C7)
theorem txt_wr{R:Adr->Prop}(h:∃t:Adr,Txt K mg t/\t.A 41=a/\R t):∃t:Adr,Txt K mg t/\mg "law"=some (.ref (t.A 41))/\R t:=h.elim λt ⟨T,_,r⟩=>⟨t,T,(T.g 41 _ rfl).g,r⟩
end K20
namespace Bfd
open PySem L2 DL Com Bor Pth Vlu
open K11 (nums ways pr there oS)
open K51 (Bd pl)
noncomputable abbrev hB:Ev->ai Fl :=
 (az (bg 8 (ar (ah (aa 6) (ah (aa 7) aF)) bq))
 (az (dX (gW (ae (aa 5) (aa 1) cZ) (gW (ae (aa 8) (dC (.non)) iA) (ae (aa 7) (aa 2) qg)))
 (az (nZ 9 (ar (ah (ae (aa 2) (aa 7) dS) (ah (ae (aa 6) (dC (.int 3)) aN) aF)) bN))
 (az (dX (jb (ae (aa 8) (aa 2) ef) (ar (ah (aa 9) (ah (ae (aa 2) (aa 8) dS) aF)) bH))
 (az (mE 2 (aa 9) (aa 8))
 (az (bg 4 (dC (.bl false)))
 aq))
 aq)
 aq))
 aq)
 aq))
noncomputable abbrev tB:Ev->ai Fl :=
 (az (bg 6 (ae (ae (aa 0) (dC (.int 1)) aN) (aa 5) aN))
 (az (je (Ba (AD (aa 6) eM (eu (dC (.int 2))))) (bb 7)
 hB)
 aq))
noncomputable abbrev rB:Ev->ai Fl :=
 (az (bg 4 (dC (.bl true)))
 (az (mF (ar (ah (ae (aa 0) (dC (.int 1)) aN) aF) (m1 dJ)) (bb 5)
 tB)
 (az (dX (aa 4)
 (az (bM (aa 2))
 aq)
 aq)
 aq)))
noncomputable def Pl(x:Sl):Prop:=x=.no∨∃d,x=.sh d
noncomputable def gX(w:fL) (tk:List Nat) (S:BS) (c:Bool) (x3 x5 x6 x7 x8 x9:Sl):Ev:=[.sh (bp w),.sh (bD tk),.ow (dB w S),x3,.sh (.bl (!c)),x5,x6,x7,x8,x9]
noncomputable def yT(zs:List Int) (tk:List Nat) (n:Nat) (t:uA) (z:Str) (r:BS×Bool):BS×Bool:=if n∈tk then r else match there t z with
 |none=>r
 |some b=>((fv zs ⟨n,z,b⟩ r.1).1,r.2||(fv zs ⟨n,z,b⟩ r.1).2)
section
variable {w:fL}(W:cf w) (hw:∀t∈w.ts,c4 t) {tk:List Nat}
include W hw
theorem yS{n:Nat}(ht:w.ts[n]?=some t){S:BS}(K:dI w tk S)(h3:Pl x3)(h9:Pl x9) :
  ∃y8 y9,hB (gX w tk S c x3 (.sh (.int (n:Int))) (.sh (bO t)) (.sh (.str z)) x8 x9)=.ok (.nx (gX w tk (yT (lz w) tk n t z (S,c)).1 (yT (lz w) tk n t z (S,c)).2 x3 (.sh (.int (n:Int))) (.sh (bO t)) (.sh (.str z)) y8 y9))/\Pl y8/\Pl y9:=by
 have hth:=K11.there_ok (t:=t) (z:=z);have hni:=K11.notIn_nums (ks:=tk) (n:=n);have hni:cZ (.int (n:Int)) (bD tk)=.ok (.bl (!(decide (n∈tk)))):=hni;have i3:aN (bO t) (.int 3)=.ok (fr t.l):=rfl;unfold yT
 by_cases hk:n∈tk
 .rw[decide_eq_true hk] at hni
  refine⟨.sh (oS (there t z)),x9,?_,.inr ⟨_,rfl⟩,h9⟩;rw[if_pos hk];unfold gX;open_line with[hth,hni]
 .rw[decide_eq_false hk] at hni
  simp only[if_neg hk];cases hz:there t z with
  |none =>
   rw[hz] at hth;have hth:bq [bO t,.str z]=.ok .non:=hth;refine⟨.sh .non,x9,?_,.inr ⟨_,rfl⟩,h9⟩;unfold gX;open_line with[hth,hni]
  |some b =>
   rw[hz] at hth;have hth:bq [bO t,.str z]=.ok (.str b):=hth;have hin:=Hn (w:=w) (S:=S) (p:=z);have hN:iA (.str b) .non=.ok (.bl true):=rfl;unfold fv;simp only
   by_cases ha:z∈S.ks
   .rw[decide_eq_true ha] at hin
    have hg:=zw (w:=w) ha;obtain⟨z0,z1⟩:=xY W hw K ha;obtain⟨n0,n1⟩:=GV W hw n;have n1:cJ (lz w) n<=mv:=n1;have hpl:=K51.lplus_bd (wM W hw z0 (by omega)) (G8 (W.ts t (List.mem_of_getElem? ht)).l) (by decide);rw[Gy W hw ht] at hpl;have hpl:bN [fr (bA (S.Z z) (lB w)),fr t.l]=.ok (fr (bA (S.Z z+cJ (lz w) n) (lB w))):=hpl;have hnd:nd (fr (bA (S.Z z+cJ (lz w) n) (lB w)))=true:=rfl;have hoD:∀d8:D,oq (gX w tk S c x3 (.sh (.int (n:Int))) (.sh (bO t)) (.sh (.str z)) (.sh d8) x9)=true:=by
     intro d8;rcases h3 with rfl|⟨_,rfl⟩<;>rcases h9 with rfl|⟨_,rfl⟩<;>rfl
    have hoD:=hoD (.str b);unfold gX at hoD;have hnb:=Az (w:=w) (S:=S) (p:=b);have hlen:decide (S.ks.length<=900)=true:=decide_eq_true (by have:=Cod.nodup_le K.nd K.pl;have:=W.n7;omega);have hput:=EB (w:=w) (S:=S) (b:=b) (z:=S.Z z+cJ (lz w) n);have hp1:∀(f k:Ev->ai D) (ρ:Ev),Bw 2 f k ρ (some (.ow (dB w S)))=(f ρ).bind (Bv 2 k ρ S.ks (S.ks.map λp=>fr (bA (S.Z p) (lB w)))):=λ_ _ _=>nH
    by_cases hb:b∈S.ks
    .rw[decide_eq_true hb] at hnb
     have hgb:=zw (w:=w) hb;obtain⟨b0,b1⟩:=xY W hw K hb;have hls:=K51.lless_bd (wM W hw (z:=S.Z z+cJ (lz w) n) (by omega) (by omega)) (wM W hw b0 (by omega)) (by decide) (by decide);rw[nA W hw] at hls;have hls:bH [fr (bA (S.Z z+cJ (lz w) n) (lB w)),fr (bA (S.Z b) (lB w))]=.ok (.bl (decide (S.Z z+cJ (lz w) n<S.Z b))):=hls
     by_cases hlt:S.Z z+cJ (lz w) n<S.Z b
     .rw[decide_eq_true hlt] at hls
      rw[if_pos ⟨ha,.inr hlt⟩];refine⟨.sh (.str b),.sh (fr (bA (S.Z z+cJ (lz w) n) (lB w))),?_,.inr ⟨_,rfl⟩,.inr ⟨_,rfl⟩⟩;unfold gX;open_line with[hth,hni,hN,hin,hg,i3,hpl,pV,kX hnd hoD,hnb,hgb,hls,pW,hp1,kZ,kY hlen,hput,Bool.or_true]
     .rw[decide_eq_false hlt] at hls
      rw[if_neg (by rintro⟨_,h|h⟩;exact h hb;exact hlt h)];refine⟨.sh (.str b),.sh (fr (bA (S.Z z+cJ (lz w) n) (lB w))),?_,.inr ⟨_,rfl⟩,.inr ⟨_,rfl⟩⟩;unfold gX;open_line with[hth,hni,hN,hin,hg,i3,hpl,pV,kX hnd hoD,hnb,hgb,hls,Bool.or_false]
    .rw[decide_eq_false hb] at hnb
     rw[if_pos ⟨ha,.inl hb⟩];refine⟨.sh (.str b),.sh (fr (bA (S.Z z+cJ (lz w) n) (lB w))),?_,.inr ⟨_,rfl⟩,.inr ⟨_,rfl⟩⟩;unfold gX;open_line with[hth,hni,hN,hin,hg,i3,hpl,pV,kX hnd hoD,hnb,pW,hp1,kZ,kY hlen,hput,Bool.or_true]
   .rw[decide_eq_false ha] at hin
    rw[if_neg (λh=>ha h.1)];refine⟨.sh (.str b),x9,?_,.inr ⟨_,rfl⟩,h9⟩;unfold gX;open_line with[hth,hni,hN,hin,Bool.or_false]
theorem Au(ht:w.ts[n]?=some t)(hz:z=t.a∨z=t.b){S:BS}(K:dI w tk S):dI w tk (yT (lz w) tk n t z (S,c)).1:=by
 unfold yT;split
 .exact K
 .rename_i hk
  split
  .exact K
  .rename_i b hb
   have hs:(⟨n,z,b⟩:rf)∈aY w tk:=by
    refine dF.mpr ⟨t,ht,hk,?_⟩;unfold there at hb;show(z,b)∈ways t;unfold ways;have T:=W.ts t (List.mem_of_getElem? ht);split at hb
    .rename_i e
     cases hb;rw[←e];split<;>simp
    .split at hb
     .rename_i e
      cases hb;have:t.w≠"one":=by rw[e.2];decide
      rw[if_neg this,←e.1];simp
     .cases hb
   exact(uN W hw K hs).1
theorem G6(ht:w.ts[n]?=some t):yT (lz w) tk n t t.b (yT (lz w) tk n t t.a r)=dg (lz w) (bW tk n t) r:=by
 have T:=W.ts t (List.mem_of_getElem? ht);obtain⟨S,c⟩:=r;unfold bW yT
 by_cases hk:n∈tk
 .simp only[if_pos hk];rfl
 .simp only[if_neg hk]
  have h1:there t t.a=some t.b:=by unfold there;rw[if_pos rfl]
  have hne:t.a≠t.b:=T.ne;rw[h1];unfold ways;rcases T.w with e|e
  .have h2:there t t.b=none:=by unfold there;rw[if_neg hne,if_neg (by rw[e];rintro⟨_,h⟩;exact absurd h (by decide))]
   rw[h2,if_pos e];rfl
  .have h2:there t t.b=some t.a:=by unfold there;rw[if_neg hne,if_pos ⟨rfl,e⟩]
   rw[h2,if_neg (by rw[e];decide)];rfl
theorem F3{n:Nat}(ht:w.ts[n]?=some t){S:BS}(K:dI w tk S)(h3:Pl x3)(h9:Pl x9) :
  ∃y6 y7 y8 y9,tB (gX w tk S c x3 (.sh (.int (n:Int))) x6 x7 x8 x9)=.ok (.nx (gX w tk (dg (lz w) (bW tk n t) (S,c)).1 (dg (lz w) (bW tk n t) (S,c)).2 x3 (.sh (.int (n:Int))) y6 y7 y8 y9))/\Pl y9:=by
 have i1:aN (bp w) (.int 1)=.ok (.lst (w.ts.map bO)):=rfl;have hix:=F4 ht;obtain⟨a8,a9,e1,_,p9⟩:=yS W hw ht (z:=t.a) (c:=c) K (x3:=x3) (x8:=x8) (x9:=x9) h3 h9;have K1:=Au W hw ht (z:=t.a) (.inl rfl) (c:=c) K;obtain⟨b8,b9,e2,_,q9⟩:=yS W hw ht (z:=t.b) (c:=(yT (lz w) tk n t t.a (S,c)).2) K1 (x3:=x3) (x8:=a8) (x9:=a9) h3 p9;have hg:yT (lz w) tk n t t.b ((yT (lz w) tk n t t.a (S,c)).1,(yT (lz w) tk n t t.a (S,c)).2)=dg (lz w) (bW tk n t) (S,c):=G6 W hw ht;rw[hg] at e2;refine⟨.sh (bO t),.sh (.str t.b),b8,b9,?_,q9⟩;have hsl:Bc (bO t) none (some 2)=.ok (.tup [.str t.a,.str t.b]):=(oY (by rfl)).trans rfl;have hl:bL (bb 7) hB [.str t.a,.str t.b] (gX w tk S c x3 (.sh (.int (n:Int))) (.sh (bO t)) x7 x8 x9)=.ok (.nx (gX w tk (dg (lz w) (bW tk n t) (S,c)).1 (dg (lz w) (bW tk n t) (S,c)).2 x3 (.sh (.int (n:Int))) (.sh (bO t)) (.sh (.str t.b)) b8 b9)):=by
  rw[cQ (ρ1:=gX w tk S c x3 (.sh (.int (n:Int))) (.sh (bO t)) (.sh (.str t.a)) x8 x9) rfl e1,cQ (ρ1:=gX w tk (yT (lz w) tk n t t.a (S,c)).1 (yT (lz w) tk n t t.a (S,c)).2 x3 (.sh (.int (n:Int))) (.sh (bO t)) (.sh (.str t.b)) a8 a9) rfl e2];rfl
 unfold gX at hl ⊢;open_line with[i1,hix,hsl,hl]
theorem nt:∀(ts:List uA) (n:Nat) {S:BS}{c:Bool},(∀j t,ts[j]?=some t->w.ts[n+j]?=some t)->dI w tk S->∀{x3 x5 x6 x7 x8 x9:Sl},Pl x3->Pl x9 ->
  ∃y5 y6 y7 y8 y9,bL (bb 5) tB (DL.intsFrom (n:Int) ts.length) (gX w tk S c x3 x5 x6 x7 x8 x9)=.ok (.nx (gX w tk (dg (lz w) (bS tk n ts) (S,c)).1 (dg (lz w) (bS tk n ts) (S,c)).2 x3 y5 y6 y7 y8 y9))/\Pl y9
 |[],n,S,c,_,K,x3,x5,x6,x7,x8,x9,h3,h9=>⟨x5,x6,x7,x8,x9,rfl,h9⟩
 |t::ts,n,S,c,ht,K,x3,x5,x6,x7,x8,x9,h3,h9=>by
  have h0:w.ts[n]?=some t:=ht 0 t rfl;obtain⟨y6,y7,y8,y9,e1,p9⟩:=F3 W hw h0 (c:=c) K (x6:=x6) (x7:=x7) (x8:=x8) h3 h9;have hsub:∀s∈bW tk n t,s∈aY w tk:=by
   intro s hs;unfold bW at hs;split at hs
   .cases hs
   .rename_i hk
    obtain⟨p,hp,rfl⟩:=List.mem_map.mp hs;exact dF.mpr ⟨t,h0,hk,hp⟩
  have K1:=(iO W hw (bW tk n t) hsub (c:=c) K).1;obtain⟨z5,z6,z7,z8,z9,e2,q9⟩:=nt ts (n+1) (S:=(dg (lz w) (bW tk n t) (S,c)).1) (c:=(dg (lz w) (bW tk n t) (S,c)).2) (λj u hj=>by
   have:=ht (j+1) u (by simpa using hj);rw[show n+1+j=n+(j+1) by omega];exact this) K1 (x3:=x3) (x5:=.sh (.int (n:Int))) (x6:=y6) (x7:=y7) (x8:=y8) h3 p9
  refine⟨z5,z6,z7,z8,z9,?_,q9⟩;have hI:DL.intsFrom (n:Int) (t::ts).length=.int (n:Int)::DL.intsFrom ((n+1:Nat):Int) ts.length:=by
   unfold DL.intsFrom;rw[List.length_cons,List.range_succ_eq_map,List.map_cons,List.map_map];simp;intro a _;omega
  rw[hI,cQ (ρ1:=gX w tk S c x3 (.sh (.int (n:Int))) x6 x7 x8 x9) rfl e1,e2,bS,uV]
theorem Bp{S:BS}(K:dI w tk S)(h3:Pl x3)(h9:Pl x9) :
  ((dg (lz w) (aY w tk) (S,false)).2=false/\rB (gX w tk S c x3 x5 x6 x7 x8 x9)=.ok (.rt (dB w S))) ∨
  ((dg (lz w) (aY w tk) (S,false)).2=true/\∃y5 y6 y7 y8 y9,rB (gX w tk S c x3 x5 x6 x7 x8 x9)=.ok (.nx (gX w tk (dg (lz w) (aY w tk) (S,false)).1 true x3 y5 y6 y7 y8 y9))/\Pl y9):=by
 have t14:=W.t14;have i1:aN (bp w) (.int 1)=.ok (.lst (w.ts.map bO)):=rfl;have hlen:dJ (.lst (w.ts.map bO))=.ok (.int w.ts.length):=by rw[da,List.length_map]
 obtain⟨y5,y6,y7,y8,y9,e,p9⟩:=nt W hw w.ts 0 (S:=S) (c:=false) (λj t h=>by rw[Nat.zero_add];exact h) K (x3:=x3) (x5:=x5) (x6:=x6) (x7:=x7) (x8:=x8) h3 h9;have hL:bS tk 0 w.ts=aY w tk:=rfl;rw[hL] at e;have hfr:=il (tg:=bb 5) (s:=tB) (ρ:=gX w tk S false x3 x5 x6 x7 x8 x9) (k:=w.ts.length) (by omega);have e:bL (bb 5) tB (DL.intsFrom 0 w.ts.length) (gX w tk S false x3 x5 x6 x7 x8 x9)=.ok (.nx (gX w tk (dg (lz w) (aY w tk) (S,false)).1 (dg (lz w) (aY w tk) (S,false)).2 x3 y5 y6 y7 y8 y9)):=e;cases hc:(dg (lz w) (aY w tk) (S,false)).2 with
 |false =>
  have hS:=((iO W hw (aY w tk) (λs h=>h) (c:=false) K).2.2.2 hc).2;rw[hc,hS] at e;refine .inl ⟨rfl,?_⟩;unfold gX at hfr e ⊢;simp only[Bool.not_false,Bool.not_true] at hfr e ⊢;open_line with[i1,hlen,hfr,e]
 |true =>
  rw[hc] at e;refine .inr ⟨rfl,y5,y6,y7,y8,y9,?_,p9⟩;unfold gX at hfr e ⊢;simp only[Bool.not_false,Bool.not_true] at hfr e ⊢;open_line with[i1,hlen,hfr,e]
end
open K11 (nums ways pr there oS)
open K51 (Bd pl)
theorem Ju(hb:0<b):bA 0 b=(0,1):=by
 refine vm (cP hb) ⟨by decide,by decide⟩ ?_;show(bA 0 b).1*1=0*(bA 0 b).2;unfold bA;simp
section
variable {w:fL}(W:cf w) (hw:∀t∈w.ts,c4 t) {tk:List Nat}
include W hw
theorem rE:∀(m r:Nat) {S:BS}{c:Bool}(i:Int),dI w tk S->Rd w tk r S->∀{x3 x5 x6 x7 x8 x9:Sl},Pl x9 ->
  (∃S',dI w tk S'/\(∀k,Rd w tk k S')/\bL (bb 3) rB (DL.intsFrom i m) (gX w tk S c x3 x5 x6 x7 x8 x9)=.ok (.rt (dB w S'))) ∨
  (∃S' c' y3 y5 y6 y7 y8 y9,dI w tk S'/\Rd w tk (r+m) S'/\bL (bb 3) rB (DL.intsFrom i m) (gX w tk S c x3 x5 x6 x7 x8 x9)=.ok (.nx (gX w tk S' c' y3 y5 y6 y7 y8 y9)))
 |0,r,S,c,i,K,R,x3,x5,x6,x7,x8,x9,h9=>.inr ⟨S,c,x3,x5,x6,x7,x8,x9,K,R,rfl⟩
 |m+1,r,S,c,i,K,R,x3,x5,x6,x7,x8,x9,h9=>by
  have hI:DL.intsFrom i (m+1)=.int i::DL.intsFrom (i+1) m:=by
   unfold DL.intsFrom;rw[List.range_succ_eq_map,List.map_cons,List.map_map];simp;intro a _;omega
  rw[hI];have hg:bb 3 (gX w tk S c x3 x5 x6 x7 x8 x9) (.int i)=.ok (gX w tk S c (.sh (.int i)) x5 x6 x7 x8 x9):=rfl;rcases Bp W hw (c:=c) K (x3:=.sh (.int i)) (x5:=x5) (x6:=x6) (x7:=x7) (x8:=x8) (x9:=x9) (.inr ⟨_,rfl⟩) h9 with⟨hc,e⟩|⟨hc,y5,y6,y7,y8,y9,e,p9⟩
  .refine .inl ⟨S,K,λk=>DK W hw K hc k,?_⟩
   unfold bL;rw[hg,fR,e,fR]
  .have K1:=(iO W hw (aY w tk) (λs h=>h) (c:=false) K).1
   have R1:=DJ W hw (c:=false) K R;rcases rE m (r+1) (S:=(dg (lz w) (aY w tk) (S,false)).1) (c:=true) (i+1) K1 R1 (x3:=.sh (.int i)) (x5:=y5) (x6:=y6) (x7:=y7) (x8:=y8) p9 with⟨S',a1,a2,a3⟩|⟨S',c',z3,z5,z6,z7,z8,z9,a1,a2,a3⟩
   .exact .inl ⟨S',a1,a2,by rw[cQ hg e];exact a3⟩
   .refine .inr ⟨S',c',z3,z5,z6,z7,z8,z9,a1,?_,by rw[cQ hg e];exact a3⟩
    rw[show r+(m+1)=r+1+m by omega];exact a2
theorem Hc:∃S,dI w tk S/\Rd w tk w.ps.length S/\bK [bp w,bD tk]=.ok (dB w S):=by
 have n7:=W.n7;have i0:aN (bp w) (.int 0)=.ok (.lst (w.ps.map D.str)):=rfl;have i2:aN (bp w) (.int 2)=.ok (.str w.fi):=rfl;have hlen:dJ (.lst (w.ps.map D.str))=.ok (.int w.ps.length):=by rw[da,List.length_map]
 have K0:dI w tk ⟨[w.fi],λ_=>0⟩:=⟨by simp,λp hp=>by rw[List.mem_singleton] at hp;subst hp;exact W.fi,by simp,Int.le_refl _,λp hp=>by
  rw[List.mem_singleton] at hp;subst hp;exact⟨[],.nil,rfl⟩,λp _=>by show(0:Int)<=((1:Int)-1)*mv;simp⟩
 have hd:D.dic [w.fi] [.tup [.int 0,.int 1]]=dB w ⟨[w.fi],λ_=>0⟩:=by
  unfold dB;rw[List.map_cons,List.map_nil,Ju (jh W).1];rfl
 have hown:∀ρ:Ev,yu 2 ρ (dB w ⟨[w.fi],λ_=>0⟩)=.ok (.nx (ρ.set 2 (.ow (dB w ⟨[w.fi],λ_=>0⟩)))):=λ_=>nI;have hfr:=il (tg:=bb 3) (s:=rB) (ρ:=[.sh (bp w),.sh (bD tk),.ow (dB w ⟨[w.fi],λ_=>0⟩),.no,.no,.no,.no,.no,.no,.no]) (k:=w.ps.length) (by omega);have hr:∀(d3:D) (x4 x4':Sl),rB [.sh (bp w),.sh (bD tk),.ow (dB w ⟨[w.fi],λ_=>0⟩),.sh d3,x4,.no,.no,.no,.no,.no]=rB [.sh (bp w),.sh (bD tk),.ow (dB w ⟨[w.fi],λ_=>0⟩),.sh d3,x4',.no,.no,.no,.no,.no]:=λ_ _ _=>rfl;have start:∀(d:D) (ds:List D),bL (bb 3) rB (d::ds) [.sh (bp w),.sh (bD tk),.ow (dB w ⟨[w.fi],λ_=>0⟩),.no,.no,.no,.no,.no,.no,.no]=bL (bb 3) rB (d::ds) (gX w tk ⟨[w.fi],λ_=>0⟩ false .no .no .no .no .no .no):=by
  intro d ds
  conv=>lhs;unfold bL
  conv=>rhs;unfold bL
  rw[show bb 3 [.sh (bp w),.sh (bD tk),.ow (dB w ⟨[w.fi],λ_=>0⟩),.no,.no,.no,.no,.no,.no,.no] d=.ok [.sh (bp w),.sh (bD tk),.ow (dB w ⟨[w.fi],λ_=>0⟩),.sh d,.no,.no,.no,.no,.no,.no] from rfl,show bb 3 (gX w tk ⟨[w.fi],λ_=>0⟩ false .no .no .no .no .no .no) d=.ok [.sh (bp w),.sh (bD tk),.ow (dB w ⟨[w.fi],λ_=>0⟩),.sh d,.sh (.bl true),.no,.no,.no,.no,.no] from rfl,fR,fR,hr d .no (.sh (.bl true))]
 obtain⟨m,hm⟩:∃m,w.ps.length=m+1:=⟨w.ps.length-1,by have:=W.n2;omega⟩
 have hI:DL.intsFrom 0 w.ps.length=.int 0::DL.intsFrom (0+1) m:=by
  rw[hm];unfold DL.intsFrom;rw[List.range_succ_eq_map,List.map_cons,List.map_map];simp;intro a _;omega
 rcases rE W hw w.ps.length 0 (c:=false) 0 K0 (DH W hw K0) (x3:=.no) (x5:=.no) (x6:=.no) (x7:=.no) (x8:=.no) (x9:=.no) (.inl rfl) with⟨S',a1,a2,a3⟩|⟨S',c',z3,z5,z6,z7,z8,z9,a1,a2,a3⟩
 .rw[hI,←start,←hI] at a3
  refine⟨S',a1,a2 _,?_⟩;open_line with[bK,jJ,pX,ua,pY,i2,hd,hown,i0,hlen,hfr,a3]
 .rw[hI,←start,←hI] at a3
  rw[Nat.zero_add] at a2;refine⟨S',a1,a2,?_⟩;unfold gX at a3;open_line with[bK,jJ,pX,ua,pY,i2,hd,hown,i0,hlen,hfr,a3]
theorem Et:∃S,bK [bp w,bD tk]=.ok (dB w S)/\∀{F:List gM}{m:Int},nO w tk (lz w) F m->wF w tk F->∀(g:Ev->ai D) (ρ:Ev),g ρ=.ok (.str w.la)->oR g ρ (dB w S)=.ok (dA w F):=by
 obtain⟨S,K,R,e⟩:=Hc W hw (tk:=tk);refine⟨S,e,λRF SF g ρ hg=>?_⟩;have h:=Gn W hw K R RF SF w.la;have ha:=um (w:=w) (S:=S) (p:=w.la);unfold dA;cases hF:get _ w.la with
 |none =>
  rw[hF] at h
  by_cases hp:w.la∈S.ks
  .rw[if_pos hp] at h;cases h
  .rw[if_neg hp] at ha
   unfold oR dB;show(g ρ).bind _=_;rw[hg,fR];unfold uq;simp only[ha];rfl
 |some e =>
  rw[hF] at h
  by_cases hp:w.la∈S.ks
  .rw[if_pos hp] at h ha
   have hz:S.Z w.la=e.z:=Option.some.inj h;rw[hz] at ha;unfold oR dB;show(g ρ).bind _=_;rw[hg,fR];unfold uq;simp only[ha];rfl
  .rw[if_neg hp] at h;cases h
end
end Bfd
namespace Vlx
open PySem L2 DL Com Bor Pth Vlu Bfd
open K51 (Bd pl)
section
variable {w:fL}(W:cf w)
noncomputable def FF(ks:List Nat):List gM:=Classical.choose (Pth.shortest_ok W (ks:=ks))
theorem sR(ks:List Nat):∃m,nO w ks (lz w) (FF W ks) m/\wF w ks (FF W ks)/\K17.m_shortest [bp w,bD ks]=.ok (qR w (FF W ks)):=Classical.choose_spec (Pth.shortest_ok W (ks:=ks))
noncomputable def b5(ks:List Nat):Option Int:=(get (FF W ks) w.la).map (·.z)
noncomputable def pD(w:fL):Option Int->D
 |none=>.non
 |some z=>fr (bA z (lB w))
noncomputable def vD(w:fL):Option Int->Option Int->D
 |none,_=>.str "none"
 |some _,none=>.str "cut"
 |some z,some z'=>fr (bA (z' - z) (lB w))
theorem BE(ks:List Nat):dA w (FF W ks)=pD w (b5 W ks):=by
 unfold dA b5;cases get (FF W ks) w.la<;>rfl
include W in
theorem B2{z z':Int}:mi (bA z' (lB w)) (bA z (lB w))=bA (z' - z) (lB w):=by
 have hB:=(jh W).1;have q1:=(cP (a:=z) hB).q1;have q2:=(cP (a:=z') hB).q1;refine uH (cP (Int.mul_pos (by omega) (by omega))) (cP hB) ?_;have e:mi (bA z' (lB w)) (bA z (lB w))=bA ((bA z' (lB w)).1*(bA z (lB w)).2-(bA z (lB w)).1*(bA z' (lB w)).2) ((bA z' (lB w)).2*(bA z (lB w)).2):=rfl;rw[e,eO (Int.mul_pos (by omega) (by omega)),eO hB];have h1:=eO (a:=z) hB;have h2:=eO (a:=z') hB;unfold val at h1 h2;have p1:=cy (show 0<(bA z (lB w)).2 by omega);have p2:=cy (show 0<(bA z' (lB w)).2 by omega);have p3:=cy hB;rw[Rat.intCast_sub,Rat.intCast_mul,Rat.intCast_mul,Rat.intCast_mul,Rat.intCast_sub]
 grind
theorem FY(k:Nat):Dn w (FF W []) (FF W [k])=vD w (b5 W []) (b5 W [k]):=by
 unfold Dn b5;cases get (FF W []) w.la with
 |none=>rfl
 |some e =>
  cases get (FF W [k]) w.la with|none=>rfl|some e'=>show fr (mi _ _)=fr (bA _ _);rw[B2 W]
theorem G9{k:Nat}(h:b5 W [k]=some z'):∃z,b5 W []=some z/\z<=z':=by
 obtain⟨m,R,S,_⟩:=sR W [];obtain⟨m',R',S',_⟩:=sR W [k];unfold b5 at h ⊢;cases hg:get (FF W [k]) w.la with
 |none=>rw[hg] at h;cases h
 |some e' =>
  rw[hg] at h;have hz:e'.z=z':=Option.some.inj h;obtain⟨h1,h2⟩:=cV hg;obtain⟨w1,w2,_⟩:=R'.wy e' h1;rw[h2] at w1;have w1':mq w [] w.fi e'.y w.la:=zN (λn hn=>nomatch hn) w1;obtain⟨e,he,hp,hle⟩:=ya R S w1';have hg2:=xF R.nd he;rw[hp] at hg2;exact⟨e.z,by rw[hg2];rfl,by omega⟩
theorem iU(hw:∀t∈w.ts,c4 t)(h:b5 W ks=some z):0<=z/\z<=7*mv:=by
 obtain⟨m,R,S,_⟩:=sR W ks;unfold b5 at h;cases hg:get (FF W ks) w.la with
 |none=>rw[hg] at h;cases h
 |some e =>
  rw[hg] at h;have hz:e.z=z:=Option.some.inj h;obtain⟨h1,_⟩:=cV hg;obtain⟨w1,w2,_,w4⟩:=R.wy e h1;have hl:=R.len W;obtain⟨s0,s1⟩:=nR W hw e.y;rw[←w2,hz] at s0 s1;have:(e.y.length:Int)*(1000000000000*60 ^ 14)<=7*(1000000000000*60 ^ 14):=Int.mul_le_mul_of_nonneg_right (by omega) (by decide);exact⟨s0,Int.le_trans s1 this⟩
end
noncomputable def mx(a d:Int):Int:=if a<d then d else a
noncomputable def iE(a:Int) (ds:List Int):Int:=ds.foldl mx a
theorem AK(h:0<=d):iE 0 (d::ds)=iE d (d::ds):=by
 unfold iE;rw[List.foldl_cons,List.foldl_cons]
 congr 1
 unfold mx;split<;>split<;>omega
section
variable {w:fL}(W:cf w) (hw:∀t∈w.ts,c4 t)
include W hw
theorem vo(ha:0<=a/\a<=7*mv)(hd:0<=d/\d<=7*mv):Com.m_is_less [fr (bA a (lB w)),fr (bA d (lB w))]=.ok (.bl (decide (a<d)))/\K51.bH [fr (bA a (lB w)),fr (bA d (lB w))]=.ok (.bl (decide (a<d))):=by
 have h1:=wM W hw ha.1 ha.2;have h2:=wM W hw hd.1 hd.2;have h:=nA W hw (z:=a) (z':=d);rw[←h];exact⟨K51.less_bd h1 h2 (by decide) (by decide),K51.lless_bd h1 h2 (by decide) (by decide)⟩
theorem Hf:(bA a (lB w)=bA d (lB w))↔a=d:=by
 constructor
 .intro h
  have h1:=nA W hw (z:=a) (z':=d);have h2:=nA W hw (z:=d) (z':=a);rw[h] at h1 h2;have hs:flt (bA d (lB w)) (bA d (lB w))=false:=by unfold flt;exact decide_eq_false (by omega)
  rw[hs] at h1 h2;have:=of_decide_eq_false h1.symm;have:=of_decide_eq_false h2.symm;omega
 .intro h;rw[h]
end
theorem eq_fr:gR (fr x) (fr y)=.ok (.bl (decide (x=y))):=by
 obtain⟨a,b⟩:=x;obtain⟨c,d⟩:=y;have h:gR (fr (a,b)) (fr (c,d))=.ok (.bl ((a==c)&&((b==d)&&true))):=by
  unfold gR;rw[if_pos ⟨rfl,rfl⟩];show ai.ok (D.bl (b6 (.tup [.int a,.int b]) (.tup [.int c,.int d])))=_;rw[b6,eqDs,eqDs,eqDs,b6,b6]
 rw[h]
 by_cases e:(a,b)=(c,d)
 .cases e;simp
 .rw[decide_eq_false e]
  have:((a==c)&&((b==d)&&true))=false:=by
   rw[Bool.and_true,Bool.and_eq_false_iff]
   by_cases h1:a=c
   .right;exact beq_eq_false_iff_ne.mpr λh2=>e (by rw[h1,h2])
   .left;exact beq_eq_false_iff_ne.mpr h1
  rw[this]
end Vlx
namespace K17
open PySem L2 DL Com Bor Pth
theorem rp_tup{n k:Nat}(h:Rp (.tup ds) n k)(hn:n<=sizeLine)(hk:k<=100):∃z,lj (.tup ds)=.ok (.str z):=by
 obtain⟨p,h1,h2,h3,h4⟩:=h;refine⟨p.shown,?_⟩;unfold lj;rw[h1];show(if _ then _ else _)=_;have hs:mC p=true:=by
  unfold mC;rw[h2,decide_eq_true (Nat.le_trans h3 hk),decide_eq_true (Nat.le_trans h4 hn)];rfl
 rw[if_pos ⟨rfl,hs⟩]
theorem ne_nums:i5 (bD ks) (bD ks)=.ok (.bl false):=by
 have h:aZ 40 (bD ks)=true:=K11.shal_nums (m:=39);unfold i5;rw[if_pos ⟨h,h⟩,iy 40 _ h];rfl
end K17
namespace K20
open PySem L2 DL Com Bor Pth Vlu Bfd Vlx
open K51 (Bd pl)
noncomputable abbrev rng(n:Nat):List Nat:=List.range n
section
variable {w:fL}(W:cf w) (hw:∀t∈w.ts,c4 t)
include W hw
theorem A1(o o':Option Int)(h:∀z,o=some z->0<=z/\z<=7*mv)(h':∀z,o'=some z->0<=z/\z<=7*mv):bx [pD w o,pD w o']=.ok (vD w o o'):=by
 cases o with
 |none =>
  show bx [.non,pD w o']=.ok (.str "none");open_line with[Bfd.bx,Bfd.eR]
 |some z =>
  cases o' with
  |none =>
   show bx [fr (bA z (lB w)),.non]=.ok (.str "cut");open_line with[Bfd.bx,Bfd.eR,tR]
  |some z' =>
   obtain⟨a0,a1⟩:=h z rfl;obtain⟨b0,b1⟩:=h' z' rfl;have hx:=wM W hw b0 b1;have hy:=wM W hw a0 a1;have b1:=hx.c60 (by decide);have b2:=hy.c60 (by decide);have hy':Bd (-(bA z (lB w)).1,(bA z (lB w)).2) 130:=⟨hy.q0,by show(-(bA z (lB w)).1).natAbs<_;rw[Int.natAbs_neg];exact hy.a,hy.b⟩
   have hp:=K51.un_bd hx hy';have hc:=hp.c13 (by decide);have e:(bA z' (lB w)).1*(bA z (lB w)).2 + -(bA z (lB w)).1*(bA z' (lB w)).2=(bA z' (lB w)).1*(bA z (lB w)).2-(bA z (lB w)).1*(bA z' (lB w)).2:=by rw[Int.neg_mul];omega
   have hlo:bj [.int ((bA z' (lB w)).1*(bA z (lB w)).2-(bA z (lB w)).1*(bA z' (lB w)).2),.int ((bA z' (lB w)).2*(bA z (lB w)).2)]=.ok (fr (mi (bA z' (lB w)) (bA z (lB w)))):=by
    have h1:=hc.1;have h2:=hc.2;unfold un at h1 h2;simp only[e] at h1;exact Cod.low_ok hp.q0 h1 h2
   rw[B2 W] at hlo;have m1:=bV (di b1.1 b2.2);have m2:=bV (di b2.1 b1.2);have m3:=bV (di b1.2 b2.2);have i0:∀z:gV,aN (fr z) (.int 0)=.ok (.int z.1):=λ_=>rfl;have i1:∀z:gV,aN (fr z) (.int 1)=.ok (.int z.2):=λ_=>rfl;show bx [fr (bA z (lB w)),fr (bA z' (lB w))]=.ok (fr (bA (z' - z) (lB w)));open_line with[Bfd.bx,Bfd.eR,tR,i0,i1,m1,m2,m3,jE,hlo]
theorem Cm(tk:List Nat):∃S,bK [bp w,bD tk]=.ok (dB w S)/\∀(g:Ev->ai D) (ρ:Ev),g ρ=.ok (.str w.la)->oR g ρ (dB w S)=.ok (pD w (b5 W tk)):=by
 obtain⟨S,e,h⟩:=Et W hw (tk:=tk);obtain⟨m,R,SF,_⟩:=sR W tk;exact⟨S,e,λg ρ hg=>by rw[h R SF g ρ hg,BE W]⟩
theorem uE:ck [bp w]=.ok (.lst ((rng w.ts.length).map λk=>pD w (b5 W [k]))):=by
 have t14:=W.t14;have i1:aN (bp w) (.int 1)=.ok (.lst (w.ts.map bO)):=rfl;have hlen:dJ (.lst (w.ts.map bO))=.ok (.int w.ts.length):=by rw[da,List.length_map]
 have hsrc:=Wex.srcR1_nat (k:=w.ts.length) (by omega);have hc:dH 1 [0] (bb 0) mYes (qf (ar (ah (aa 1) (ah (ar (ah (aa 0) aF) dj) aF)) bK) (ae (aa 1) (dC (.int 3)) aN)) [.sh (bp w)] (DL.intsFrom 0 w.ts.length)=.ok (.lst (((rng w.ts.length).filter λ_=>true).map λk=>pD w (b5 W [k]))) :=
  Wex.comp_rng (by omega) λk hk=>by
   obtain⟨S,e,hg⟩:=Cm W hw [k];refine⟨[.sh (.int (k:Int)),.sh (bp w)],rfl,rfl,λ_=>?_⟩;have e:bK [bp w,.lst [.int (k:Int)]]=.ok (dB w S):=e;have:=hg (ae (aa 1) (dC (.int 3)) aN) [.sh (.int (k:Int)),.sh (bp w)] rfl;have h1:(ar (ah (aa 1) (ah (ar (ah (aa 0) aF) dj) aF)) bK) [.sh (.int (k:Int)),.sh (bp w)]=.ok (dB w S):=by
    open_line with[e]
   unfold qf;rw[h1,fR,this]
 rw[List.filter_eq_self.mpr λ_ _=>rfl] at hc;open_line with[Bfd.ck,Bfd.gU,cR,Wex.ev_srcR1,i1,hlen,hsrc,hc]
noncomputable def vs(W:cf w):List D:=(rng w.ts.length).map λk=>vD w (b5 W []) (b5 W [k])
omit hw in
theorem sW{n:Nat}{o o':Option Int}:aZ (n+1) (vD w o o')=true:=by
 cases o with
 |none=>rfl
 |some z=>cases o'<;>cases n<;>rfl
theorem Ex:∃S,bK [bp w,.lst []]=.ok (dB w S)/\(∀(g:Ev->ai D) (ρ:Ev),g ρ=.ok (.str w.la)->oR g ρ (dB w S)=.ok (pD w (b5 W []))):=Cm W hw []
theorem zO(x:Sl){a b c d e:Sl}:dH 1 [1] (bb 0) mYes (ar (ah (aa 1) (ah (aa 0) aF)) bx) [a,.sh (pD w (b5 W [])),c,d,e] ((rng w.ts.length).map λk=>pD w (b5 W [k]))=.ok (.lst (vs W)):=by
 have t14:=W.t14;have:=K51.comp_pick (n:=1) (fr':=[1]) (ρ:=[a,.sh (pD w (b5 W [])),c,d,e]) (tg:=bb 0) (tt:=mYes) (fe:=ar (ah (aa 1) (ah (aa 0) aF)) bx) (λk:Nat=>pD w (b5 W [k])) (λk=>some (vD w (b5 W []) (b5 W [k]))) (L:=rng w.ts.length) (by simp;omega) λk hk=>by
  refine⟨[.sh (pD w (b5 W [k])),.sh (pD w (b5 W []))],rfl,.inr ⟨_,rfl,rfl,?_⟩⟩;have hv:=A1 W hw (b5 W []) (b5 W [k]) (λz hz=>iU W hw hz) (λz hz=>iU W hw hz);open_line with[hv]
 rw[this,List.filterMap_eq_map'];rfl
end
open K51 (Bd pl)
theorem jY:∀(n j:Nat),DL.numbered j ((List.range' j n).map f)=(List.range' j n).map λ(k:Nat)=>D.tup [.int (k:Int),f k]
 |0,j=>rfl
 |n+1,j=>by
  rw[List.range'_succ,List.map_cons,DL.numbered,jY n (j+1),List.map_cons]
theorem oE:DL.numbered 0 ((rng n).map f)=(rng n).map λ(k:Nat)=>D.tup [.int (k:Int),f k]:=by
 unfold rng;rw[List.range_eq_range'];exact jY n 0
section
variable {w:fL}(W:cf w) (hw:∀t∈w.ts,c4 t)
theorem yO(x:Str):we (.str x) (.lst (vs W))=.ok (.bl ((vs W).any λd=>b6 d (.str x))):=by
 have h:Ce (.str x) (.lst (vs W))=some ((vs W).any λd=>b6 d (.str x)):=if_pos ⟨rfl,List.all_eq_true.mpr λd hd=>by
  obtain⟨k,_,rfl⟩:=List.mem_map.mp hd;exact sW W⟩
 unfold we;rw[h]
theorem Fq(hx:aZ 40 x=true)(hy:aZ 40 y=true):gR x y=.ok (.bl (b6 x y)):=by
 unfold gR;rw[if_pos ⟨hx,hy⟩]
theorem zb:b6 (vD w (some z) o) (.str "cut")=o.isNone:=by
 cases o with
 |none=>rfl
 |some d=>show b6 (.tup _) (.str _)=false;rw[b6]<;>simp
theorem Co:b6 (vD w (some z) o) (.str "none")=false:=by
 cases o with
 |none=>show b6 (.str "cut") (.str "none")=false;rw[b6];decide
 |some d=>show b6 (.tup _) (.str _)=false;rw[b6]<;>simp
theorem Fn{k:Nat}(hk:k<w.ts.length):aN (.lst (vs W)) (.int (k:Int))=.ok (vD w (b5 W []) (b5 W [k])):=oO (by
 unfold vs rng;rw[List.getElem?_map,List.getElem?_range hk];rfl)
theorem B7:(vs W).length=w.ts.length:=by unfold vs rng;simp
end
open K51 (Bd pl)
noncomputable abbrev wB:Ev->ai Fl :=
 (az (dX (ar (ah (aa 3) (ah (aa 4) aF)) bH)
 (az (bg 3 (aa 4))
 aq)
 aq)
 aq)
noncomputable abbrev oB:Ev->ai Fl :=
 (az (dX (ar (ah (aa 1) (ah (aa 2) aF)) m_is_less)
 (az (bg 1 (aa 2))
 aq)
 aq)
 aq)
section
variable {w:fL}(W:cf w) (hw:∀t∈w.ts,c4 t)
include W hw
theorem vY:∀(ds:List Int) (a:Int) (d0 d1 d2:D) (x:Sl),(0<=a/\a<=7*mv)->(∀d∈ds,0<=d/\d<=7*mv) ->
  ∃y,bL (bb 4) wB (ds.map λd=>fr (bA d (lB w))) [.sh d0,.sh d1,.sh d2,.sh (fr (bA a (lB w))),x]=.ok (.nx [.sh d0,.sh d1,.sh d2,.sh (fr (bA (iE a ds) (lB w))),y])
 |[],a,d0,d1,d2,x,_,_=>⟨x,rfl⟩
 |d::ds,a,d0,d1,d2,x,ha,h=>by
  have hd:=h d List.mem_cons_self;have hl:=(vo W hw ha hd).2;have hm:0<=mx a d/\mx a d<=7*mv:=by unfold mx;split<;>omega
  obtain⟨y,e⟩:=vY ds (mx a d) d0 d1 d2 (.sh (fr (bA d (lB w)))) hm λx hx=>h x (List.mem_cons_of_mem _ hx);refine⟨y,?_⟩;rw[List.map_cons,cQ (ρ1:=[.sh d0,.sh d1,.sh d2,.sh (fr (bA a (lB w))),.sh (fr (bA d (lB w)))]) (ρ2:=[.sh d0,.sh d1,.sh d2,.sh (fr (bA (mx a d) (lB w))),.sh (fr (bA d (lB w)))]) rfl]
  .exact e
  .unfold mx
   by_cases hlt:a<d
   .rw[decide_eq_true hlt] at hl
    rw[if_pos hlt];open_line with[hl]
   .rw[decide_eq_false hlt] at hl
    rw[if_neg hlt];open_line with[hl]
theorem rH:∀(ds:List Int) (a:Int) (d0:D) (x:Sl),(0<=a/\a<=7*mv)->(∀d∈ds,0<=d/\d<=7*mv) ->
  ∃y,bL (bb 2) oB (ds.map λd=>fr (bA d (lB w))) [.sh d0,.sh (fr (bA a (lB w))),x]=.ok (.nx [.sh d0,.sh (fr (bA (iE a ds) (lB w))),y])
 |[],a,d0,x,_,_=>⟨x,rfl⟩
 |d::ds,a,d0,x,ha,h=>by
  have hd:=h d List.mem_cons_self;have hl:=(vo W hw ha hd).1;have hm:0<=mx a d/\mx a d<=7*mv:=by unfold mx;split<;>omega
  obtain⟨y,e⟩:=rH ds (mx a d) d0 (.sh (fr (bA d (lB w)))) hm λx hx=>h x (List.mem_cons_of_mem _ hx);refine⟨y,?_⟩;rw[List.map_cons,cQ (ρ1:=[.sh d0,.sh (fr (bA a (lB w))),.sh (fr (bA d (lB w)))]) (ρ2:=[.sh d0,.sh (fr (bA (mx a d) (lB w))),.sh (fr (bA d (lB w)))]) rfl]
  .exact e
  .unfold mx
   by_cases hlt:a<d
   .rw[decide_eq_true hlt] at hl
    rw[if_pos hlt];open_line with[hl]
   .rw[decide_eq_false hlt] at hl
    rw[if_neg hlt];open_line with[hl]
theorem Eh(h:∀x∈d::ds,0<=x/\x<=7*mv):K21.m_most_of [.lst ((d::ds).map λd=>fr (bA d (lB w)))]=.ok (fr (bA (iE 0 (d::ds)) (lB w))):=by
 have hd:=h d List.mem_cons_self;obtain⟨y,e⟩:=rH W hw (d::ds) d (.lst ((d::ds).map λd=>fr (bA d (lB w)))) .no hd h;rw[AK hd.1];rw[List.map_cons] at e ⊢;open_line with[K21.m_most_of,K21.b_most_of,e]
theorem Dl(h:b5 W []=none):vs W=(rng w.ts.length).map λ_=>.str "none":=by
 unfold vs;rw[h];rfl
noncomputable def dz(W:cf w) (z:Int) (k:Nat):Int:=(b5 W [k]).getD z-z
theorem yc(h:b5 W []=some z)(hc:∀k∈rng w.ts.length,b5 W [k]≠none):vs W=((rng w.ts.length).map (dz W z)).map λd=>fr (bA d (lB w)):=by
 unfold vs;rw[h,List.map_map];refine List.map_congr_left λk hk=>?_;show vD w (some z) (b5 W [k])=fr (bA (dz W z k) (lB w));unfold dz;cases e:b5 W [k] with|none=>exact absurd e (hc k hk)|some z'=>rfl
theorem FE(h:b5 W []=some z):∀d∈(rng w.ts.length).map (dz W z),0<=d/\d<=7*mv:=by
 intro d hd;obtain⟨k,_,rfl⟩:=List.mem_map.mp hd;have hz:=iU W hw h;unfold dz;cases e:b5 W [k] with
 |none=>show 0<=z-z/\z-z<=_;exact⟨by omega,by rw[Int.sub_self];decide⟩
 |some z' =>
  obtain⟨z0,e0,hle⟩:=G9 W e;rw[h] at e0;cases e0;have:=iU W hw e;show 0<=z' - z/\z' - z<=_;omega
end
open K51 (Bd pl)
theorem t9:qf f g ρ=(f ρ).bind (oR g ρ):=aG rfl
noncomputable def m5(w:fL) (F:List gM):D:=match get F w.la with
 |none=>.non
 |some e=>.lst (K11.nums e.y)
theorem Jc:aN (qR w F) (.int 0)=.ok (m5 w F):=by
 unfold qR m5;cases get F w.la<;>rfl
noncomputable def nh{w:fL}(W:cf w):List Nat:=match b5 W [] with
 |none=>[]
 |some z=>if(rng w.ts.length).any (λk=>(b5 W [k]).isNone)=true then(rng w.ts.length).filter (λk=>(b5 W [k]).isNone) else(rng w.ts.length).filter λk=>decide (dz W z k=iE 0 ((rng w.ts.length).map (dz W z)))
section
variable {w:fL}(W:cf w) (hw:∀t∈w.ts,c4 t)
include W hw
theorem HG:eP [bp w]=.ok (.lst ((rng w.ts.length).map λk=>D.tup [vD w (b5 W []) (b5 W [k]),m5 w (FF W [k])])):=by
 have t14:=W.t14;have hW:m_look_at_web [bp w]=.ok .non:=FX W;have i1:aN (bp w) (.int 1)=.ok (.lst (w.ts.map bO)):=rfl;have hlen:dJ (.lst (w.ts.map bO))=.ok (.int w.ts.length):=by rw[da,List.length_map]
 obtain⟨m,R,S,e0⟩:=sR W [];have e0:m_shortest [bp w,.lst []]=.ok (qR w (FF W [])):=e0;obtain⟨ρ',hf,y3,y4,rfl⟩:=tU (i:=3) (body:=(az (bg 4 (ar (ah (aa 0) (ah (ar (ah (aa 3) aF) dj) aF)) m_shortest))
 (az (dN 2 (ar (ah (ar (ah (aa 1) (ah (ae (aa 4) (dC (.int 1)) aN) aF)) m_value_by) (ah (ae (aa 4) (dC (.int 0)) aN) aF)) eQ))
 aq))) (λk ρ=>∃y3 y4,ρ=[.sh (bp w),.sh (dA w (FF W [])),.ow (.lst ((rng k).map λk=>D.tup [vD w (b5 W []) (b5 W [k]),m5 w (FF W [k])])),y3,y4]) (n:=w.ts.length) (by
  rintro k hk ρ ⟨y3,y4,rfl⟩;obtain⟨m',R',S',e1⟩:=sR W [k];have e1:m_shortest [bp w,.lst [.int (k:Int)]]=.ok (qR w (FF W [k])):=e1;have hv:=uG W hw R R';rw[FY W] at hv;have hv:m_value_by [dA w (FF W []),dA w (FF W [k])]=.ok (vD w (b5 W []) (b5 W [k])):=hv;have hap:decide (((rng k).map λk=>D.tup [vD w (b5 W []) (b5 W [k]),m5 w (FF W [k])]).length<=999)=true:=decide_eq_true (by simp;omega);refine⟨[.sh (bp w),.sh (dA w (FF W [])),.ow (.lst ((rng (k+1)).map λk=>D.tup [vD w (b5 W []) (b5 W [k]),m5 w (FF W [k])])),.sh (.int (k:Int)),.sh (qR w (FF W [k]))],?_,_,_,rfl⟩;have hr:(rng (k+1)).map (λk=>D.tup [vD w (b5 W []) (b5 W [k]),m5 w (FF W [k])])=(rng k).map (λk=>D.tup [vD w (b5 W []) (b5 W [k]),m5 w (FF W [k])])++[D.tup [vD w (b5 W []) (b5 W [k]),m5 w (FF W [k])]]:=by
   unfold rng;rw[List.range_succ,List.map_append];rfl
  rw[hr];open_line with[e1,Jc,Fg,hv,ee hap]) (ρ:=[.sh (bp w),.sh (dA w (FF W [])),.ow (.lst []),.no,.no]) ⟨_,_,rfl⟩
 have hfr:=λs:Ev->ai Fl=>il (tg:=bb 3) (s:=s) (ρ:=[.sh (bp w),.sh (dA w (FF W [])),.ow (.lst []),.no,.no]) (k:=w.ts.length) (by omega);open_line with[eP,lC,hW,e0,Fg,i1,hlen,hfr,hf]
theorem Dm(a b c:Sl):dH 1 [] (bb 0) mYes (ae (aa 0) (dC (.int 0)) aN) [a,b,c] ((rng w.ts.length).map λk=>D.tup [vD w (b5 W []) (b5 W [k]),m5 w (FF W [k])])=.ok (.lst (vs W)):=by
 have t14:=W.t14;have:=K51.comp_pick (n:=1) (fr':=[]) (ρ:=[a,b,c]) (tg:=bb 0) (tt:=mYes) (fe:=ae (aa 0) (dC (.int 0)) aN) (λk:Nat=>D.tup [vD w (b5 W []) (b5 W [k]),m5 w (FF W [k])]) (λk=>some (vD w (b5 W []) (b5 W [k]))) (L:=rng w.ts.length) (by simp;omega) λk hk =>
  ⟨[.sh (D.tup [vD w (b5 W []) (b5 W [k]),m5 w (FF W [k])])],rfl,.inr ⟨_,rfl,rfl,rfl⟩⟩
 rw[this,List.filterMap_eq_map'];rfl
theorem A3(h:b5 W []=some z)(hc:∀k∈rng w.ts.length,b5 W [k]≠none){k:Nat}(hk:k∈rng w.ts.length):gR (vD w (b5 W []) (b5 W [k])) (fr (bA M (lB w)))=.ok (.bl (decide (dz W z k=M))):=by
 rw[h];have e:vD w (some z) (b5 W [k])=fr (bA (dz W z k) (lB w)):=by
  unfold dz;cases e:b5 W [k] with|none=>exact absurd e (hc k hk)|some z'=>rfl
 rw[e,Vlx.eq_fr]
 congr 2
 exact decide_eq_decide.mpr (Hf W hw)
theorem CO(h:b5 W []=some z)(k:Nat):gR (vD w (b5 W []) (b5 W [k])) (.str "cut")=.ok (.bl (b5 W [k]).isNone):=by
 rw[h,Fq (sW W) rfl,zb]
theorem zE(h:b5 W []=some z):(vs W).any (λd=>b6 d (.str "cut"))=(rng w.ts.length).any λk=>(b5 W [k]).isNone:=by
 unfold vs;rw[h,List.any_map]
 congr 1
 funext k;exact zb
theorem wC(h:b5 W []=some z):(vs W).any (λd=>b6 d (.str "none"))=false:=by
 unfold vs;rw[h,List.any_map];rw[List.any_eq_false];intro k _;show ¬b6 _ _=true;rw[Co];decide
theorem zF(h:b5 W []=none):(vs W).any (λd=>b6 d (.str "none"))=decide (0<w.ts.length):=by
 rw[Dl W hw h,List.any_map]
 by_cases h0:0<w.ts.length
 .rw[decide_eq_true h0,List.any_eq_true]
  exact⟨0,List.mem_range.mpr h0,rfl⟩
 .have:w.ts.length=0:=by omega
  rw[this];rfl
end
open K51 (Bd pl)
theorem rG{q:Nat->Bool}:∀(L:List Nat),L.filterMap (λk=>if q k=true then some (D.int (k:Int)) else none)=(L.filter q).map λ(k:Nat)=>D.int (k:Int)
 |[]=>rfl
 |k::L=>by
  rw[List.filterMap_cons,List.filter_cons,rG L];cases q k<;>rfl
section
variable {w:fL}(W:cf w) (hw:∀t∈w.ts,c4 t)
include W hw
theorem rq(q:Nat->Bool)(h:∀k∈rng w.ts.length,gR (vD w (b5 W []) (b5 W [k])) d=.ok (.bl (q k)))(a b:Sl):dH 2 [2] (fj [0,1]) (ae (aa 1) (aa 2) gR) (aa 0) [a,b,.sh d] (DL.numbered 0 (vs W))=.ok (bD ((rng w.ts.length).filter q)):=by
 have t14:=W.t14;unfold vs;rw[oE];have:=K51.comp_pick (n:=2) (fr':=[2]) (ρ:=[a,b,.sh d]) (tg:=fj [0,1]) (tt:=ae (aa 1) (aa 2) gR) (fe:=aa 0) (λk:Nat=>D.tup [.int (k:Int),vD w (b5 W []) (b5 W [k])]) (λk=>if q k=true then some (D.int (k:Int)) else none) (L:=rng w.ts.length) (by simp;omega) λk hk=>by
  refine⟨[.sh (.int (k:Int)),.sh (vD w (b5 W []) (b5 W [k])),.sh d],pJ rfl,?_⟩;have hk:=h k hk;cases hq:q k with
  |false =>
   rw[hq] at hk;refine .inl ⟨by simp,?_⟩;open_line with[hk]
  |true =>
   rw[hq] at hk;refine .inr ⟨_,if_pos rfl,?_,rfl⟩;open_line with[hk]
 rw[this,rG];rfl
theorem Hh:gR (.lst (vs W)) (.lst [])=.ok (.bl (decide (w.ts.length=0))):=by
 rw[Fq (show aZ 40 (.lst (vs W))=true from List.all_eq_true.mpr λd hd=>by
  obtain⟨k,_,rfl⟩:=List.mem_map.mp hd;exact sW W) rfl]
 congr 2
 by_cases h0:w.ts.length=0
 .rw[decide_eq_true h0]
  have:vs W=[]:=by unfold vs;rw[h0];rfl
  rw[this];rfl
 .rw[decide_eq_false h0,tY]
  exact kW _ _ (by rw[B7];simpa using h0)
theorem Ds:bE [bp w]=.ok (bD (nh W)):=by
 have t14:=W.t14;have hall:=HG W hw;have hcomp:=Dm W hw (.sh (bp w)) .no .no;have hemp:=Hh W hw;have hin1:=yO W "none";have hin2:=yO W "cut"
 by_cases h0:w.ts.length=0
 .rw[decide_eq_true h0] at hemp
  have hd:nh W=[]:=by
   unfold nh;rw[h0];cases b5 W []<;>rfl
  rw[hd];have hr:bD []=.lst []:=rfl;rw[hr];open_line with[bE,dy,K12.ef_run,K12.ef_seq,K12.ef_seq1,K12.ef_retE,K12.ef_retE1,K12.ef_out,cR,hall,hcomp,hemp]
 .rw[decide_eq_false h0] at hemp
  cases hf:b5 W [] with
  |none =>
   rw[zF W hw hf,decide_eq_true (by omega)] at hin1;have hd:nh W=[]:=by unfold nh;rw[hf]
   rw[hd];have hr:bD []=.lst []:=rfl;rw[hr];open_line with[bE,dy,K12.ef_run,K12.ef_seq,K12.ef_seq1,K12.ef_retE,K12.ef_retE1,K12.ef_out,cR,hall,hcomp,hemp,hin1]
  |some z =>
   rw[wC W hw hf] at hin1;rw[zE W hw hf] at hin2;cases hc:(rng w.ts.length).any (λk=>(b5 W [k]).isNone) with
   |true =>
    rw[hc] at hin2;have hd:nh W=(rng w.ts.length).filter (λk=>(b5 W [k]).isNone):=by unfold nh;rw[hf];simp only[hc,if_true]
    have ht:=rq W hw (d:=.str "cut") (λk=>(b5 W [k]).isNone) (λk _=>CO W hw hf k) (.sh (bp w)) (.sh (.lst (vs W)));rw[hd];unfold bD at ht ⊢;open_line with[bE,dy,K12.ef_run,K12.ef_seq,K12.ef_seq1,K12.ef_retE,K12.ef_retE1,K12.ef_out,cR,hall,hcomp,hemp,hin1,hin2,ht]
   |false =>
    rw[hc] at hin2;have hno:∀k∈rng w.ts.length,b5 W [k]≠none:=λk hk e=>by
     have:=List.any_eq_false.mp hc k hk;rw[e] at this;exact this rfl
    have hd:nh W=(rng w.ts.length).filter λk=>decide (dz W z k=iE 0 ((rng w.ts.length).map (dz W z))):=by
     unfold nh;rw[hf];simp only[hc];rfl
    have hm:K21.m_most_of [.lst (vs W)]=.ok (fr (bA (iE 0 ((rng w.ts.length).map (dz W z))) (lB w))):=by
     rw[yc W hw hf hno];have hb:=FE W hw hf;cases hL:(rng w.ts.length).map (dz W z) with
     |nil =>
      have:=congrArg List.length hL;rw[List.length_map] at this;unfold rng at this;rw[List.length_range] at this;exact absurd this h0
     |cons d ds=>rw[hL] at hb;exact Eh W hw hb
    have hm:m_most_of [.lst (vs W)]=.ok (fr (bA (iE 0 ((rng w.ts.length).map (dz W z))) (lB w))):=hm;have ht:=rq W hw (d:=fr (bA (iE 0 ((rng w.ts.length).map (dz W z))) (lB w))) _ (λk hk=>A3 W hw hf hno hk) (.sh (bp w)) (.sh (.lst (vs W)));rw[hd];unfold bD at ht ⊢;open_line with[bE,dy,K12.ef_run,K12.ef_seq,K12.ef_seq1,K12.ef_retE,K12.ef_retE1,K12.ef_out,cR,hall,hcomp,hemp,hin1,hin2,hm,ht]
end
open K51 (Bd pl)
section
variable {w:fL}(W:cf w) (hw:∀t∈w.ts,c4 t)
include W hw
theorem Hi:cU [bp w]=.ok (bD (nh W)):=by
 have t14:=W.t14;obtain⟨S,hfar,hget⟩:=Ex W hw;have hget:=hget (ae (aa 0) (dC (.int 3)) aN) [.sh (bp w),.no,.no,.no,.no] rfl;have hwi:=uE W hw;have hcomp:=zO W hw .no (a:=.sh (bp w)) (b:=.no) (c:=.no) (d:=.no) (e:=.no);have hin1:=yO W "none";have hin2:=yO W "cut";have hlen:dJ (.lst (vs W))=.ok (.int w.ts.length):=by rw[da,B7]
 have hsrc:=Wex.srcR1_nat (k:=w.ts.length) (by omega);cases hf:b5 W [] with
 |none =>
  rw[zF W hw hf] at hin1;have hd:nh W=[]:=by unfold nh;rw[hf]
  rw[hd];have hr:bD []=.lst []:=rfl;rw[hr]
  by_cases h0:0<w.ts.length
  .rw[decide_eq_true h0] at hin1
   open_line with[cU,e8,t9,hfar,hget,cR,hwi,hcomp,hin1]
  .have hn:w.ts.length=0:=by omega
   rw[decide_eq_false h0] at hin1;have hv:vs W=[]:=by unfold vs;rw[hn];rfl
   rw[hv] at hin1 hin2 hcomp hlen;rw[hn] at hsrc hlen;have hin2:we (.str "cut") (.lst [])=.ok (.bl false):=rfl;have hsrc:Wex.srcR1K (.int 0)=.ok (DL.intsFrom 0 0):=rfl;have hfor:∀ρ,bL (bb 4) wB [] ρ=.ok (.nx ρ):=λ_=>rfl;have hc2:∀ρ,dH 1 [3,2] (bb 0) (ae (ae (aa 2) (aa 0) aN) (aa 1) gR) (aa 0) ρ (DL.intsFrom 0 0)=.ok (.lst []):=λ_=>rfl;open_line with[cU,e8,t9,hfar,hget,cR,hwi,hcomp,hin1,hin2,hfor,Wex.ev_srcR1,hlen,hsrc,hc2]
 |some z =>
  rw[wC W hw hf] at hin1;rw[zE W hw hf] at hin2;cases hc:(rng w.ts.length).any (λk=>(b5 W [k]).isNone) with
  |true =>
   rw[hc] at hin2;have hd:nh W=(rng w.ts.length).filter (λk=>(b5 W [k]).isNone):=by unfold nh;rw[hf];simp only[hc,if_true]
   have hc1:dH 1 [2] (bb 0) (ae (ae (aa 1) (aa 0) aN) (dC (.str "cut")) gR) (aa 0) [.sh (bp w),.sh (pD w (b5 W [])),.sh (.lst (vs W)),.no,.no] (DL.intsFrom 0 w.ts.length)=.ok (.lst (((rng w.ts.length).filter (λk=>(b5 W [k]).isNone)).map λ(k:Nat)=>D.int (k:Int))) :=
    Wex.comp_rng (by omega) λk hk=>by
     refine⟨[.sh (.int (k:Int)),.sh (.lst (vs W))],rfl,?_,λ_=>rfl⟩;have h1:=Fn W hk;have h2:=CO W hw hf k;open_line with[h1,h2]
   rw[hd];unfold bD;open_line with[cU,e8,t9,hfar,hget,cR,hwi,hcomp,hin1,hin2,Wex.ev_srcR1,hlen,hsrc,hc1]
  |false =>
   rw[hc] at hin2;have hno:∀k∈rng w.ts.length,b5 W [k]≠none:=λk hk e=>by
    have:=List.any_eq_false.mp hc k hk;rw[e] at this;exact this rfl
   have hd:nh W=(rng w.ts.length).filter λk=>decide (dz W z k=iE 0 ((rng w.ts.length).map (dz W z))):=by
    unfold nh;rw[hf];simp only[hc];rfl
   have hv:=yc W hw hf hno;obtain⟨y,hl⟩:=vY W hw ((rng w.ts.length).map (dz W z)) 0 (bp w) (pD w (b5 W [])) (.lst (vs W)) .no ⟨by decide,by decide⟩ (FE W hw hf);rw[←hv,Ju (jh W).1] at hl;have hl:bL (bb 4) wB (vs W) [.sh (bp w),.sh (pD w (b5 W [])),.sh (.lst (vs W)),.sh (.tup [.int 0,.int 1]),.no]=.ok (.nx [.sh (bp w),.sh (pD w (b5 W [])),.sh (.lst (vs W)),.sh (fr (bA (iE 0 ((rng w.ts.length).map (dz W z))) (lB w))),y]):=hl;have hc1:∀y,dH 1 [3,2] (bb 0) (ae (ae (aa 2) (aa 0) aN) (aa 1) gR) (aa 0) [.sh (bp w),.sh (pD w (b5 W [])),.sh (.lst (vs W)),.sh (fr (bA (iE 0 ((rng w.ts.length).map (dz W z))) (lB w))),y] (DL.intsFrom 0 w.ts.length)=.ok (.lst (((rng w.ts.length).filter λk=>decide (dz W z k=iE 0 ((rng w.ts.length).map (dz W z)))).map λ(k:Nat)=>D.int (k:Int))):=λy =>
    Wex.comp_rng (by omega) λk hk=>by
     refine⟨[.sh (.int (k:Int)),.sh (fr (bA (iE 0 ((rng w.ts.length).map (dz W z))) (lB w))),.sh (.lst (vs W))],rfl,?_,λ_=>rfl⟩;have h1:=Fn W hk;have h2:=A3 W hw hf hno (List.mem_range.mpr hk) (M:=iE 0 ((rng w.ts.length).map (dz W z)));open_line with[h1,h2]
   rw[hd];unfold bD;unfold wB at hl;open_line with[cU,e8,t9,hfar,hget,cR,hwi,hcomp,hin1,hin2,hl,Wex.ev_srcR1,hlen,hsrc,hc1]
end
theorem BW{ks:List Nat}(hl:ks.length<=100):dH 1 [] (bb 0) (cC (aa 0) (gF "bool")) (aa 0) [a,b,c,d,e,f,g] (ks.map λ(k:Nat)=>D.int (k:Int))=.ok (.lst []):=by
 have:=K51.comp_pick (n:=1) (fr':=[]) (ρ:=[a,b,c,d,e,f,g]) (tg:=bb 0) (tt:=cC (aa 0) (gF "bool")) (fe:=aa 0) (λk:Nat=>D.int (k:Int)) (λ_=>none) (L:=ks) (by omega) λk _=>⟨[.sh (.int (k:Int))],rfl,.inl ⟨rfl,rfl⟩⟩
 rw[this]
 congr 2
 exact List.filterMap_eq_nil_iff.mpr λ_ _=>rfl
theorem zv(W:cf w):(nh W).length<=100:=by
 have t14:=W.t14;unfold nh;split
 .simp
 .split
  .exact Nat.le_trans (List.length_filter_le ..) (by unfold rng;rw[List.length_range];omega)
  .exact Nat.le_trans (List.length_filter_le ..) (by unfold rng;rw[List.length_range];omega)
noncomputable abbrev yC(a:Addr):Ev->List D->ai dY :=
 (bc (d9 3 (b7 2 a (bG (mP (dC (.int 7))) (bG (mP (dC (.int 14))) c7)) cI))
 (bc (cO (bg 4 (ar (ah (aa 3) aF) (m1 lj))))
 (bc (cO (bg 5 (ar (ah (aa 3) aF) cU)))
 (bc (cO (jr 6 (ar (ah (aa 3) aF) bE)))
 (bc (Al (mT (jb (dE (cC (aa 6) (gF "list"))) (ae (aa 6) (aa 5) i5)))
 (bc (fz (dC (.bl false)))
 bX)
 bX)
 (bc (Al (mT (ae (cG 1 [] (lO (aa 6)) (bb 0) (cC (aa 0) (gF "bool")) (aa 0)) (ar aF dj) i5))
 (bc (fz (dC (.bl false)))
 bX)
 bX)
 (bc (cO (dN 6 (dC (.int 99))))
 (bc (Al (mT (jb (ae (ar (ah (aa 3) aF) bE) (aa 5) i5) (ae (ar (ah (aa 3) aF) (m1 lj)) (aa 4) i5)))
 (bc (fz (dC (.bl false)))
 bX)
 bX)
 bX))))))))
theorem A2(a:Addr)(S:St st):∃ρ st',yC a [.sh d0,.sh d1,.pt a,.no,.no,.no,.no] st=.ok (.nx (.sh d0::.sh d1::.pt a::ρ) st')/\ρ.length=4:=by
 obtain⟨w,st1,t1,W,hw,S1⟩:=Dh a (p:=7) (q:=14) ⟨by decide,by decide⟩ (by decide) S;obtain⟨z,hz⟩:∃z,lj (bp w)=.ok (.str z):=K17.rp_tup (Gk W) (by decide) (by decide);have t1:cI a st [.int 7,.int 14]=.ok (bp w,st1):=t1;have h1:=Hi W hw;have h2:=Ds W hw;have hne:i5 (bD (nh W)) (bD (nh W))=.ok (.bl false):=K17.ne_nums;have hez:i5 (.str z) (.str z)=.ok (.bl false):=by rw[K11.ne_str,decide_eq_true rfl];rfl
 have hcb:=BW (a:=.sh d0) (b:=.sh d1) (c:=.pt a) (d:=.sh (bp w)) (e:=.sh (.str z)) (f:=.sh (bD (nh W))) (g:=.sh (bD (nh W))) (zv W);have hap:decide (((nh W).map λ(k:Nat)=>D.int (k:Int)).length<=999)=true:=decide_eq_true (by rw[List.length_map];have:=zv W;omega);have hn0:i5 (.lst []) (.lst [])=.ok (.bl false):=rfl;unfold bD at h1 h2 hne hcb;refine⟨[.sh (bp w),.sh (.str z),.sh (.lst ((nh W).map λ(k:Nat)=>D.int (k:Int))),.ow (.lst ((nh W).map (λ(k:Nat)=>D.int (k:Int))++[.int 99]))],st1,?_,rfl⟩;open_line with[t1,hz,h1,h2,hne,cR,hcb,hn0,ee hap,hez]
theorem B8(ns:List Int)(hn:ns.length<=63):m_law [.lst (ns.map D.int)]=.ok (.bl true):=by
 obtain⟨q,m,hm,h1,hq⟩:∃(q:Int) (m:Nat),m<=4/\EI (.int ns.length) (.int 4)=.ok (.int q)/\(if q > 1 then q else 1)=(m:Int):=by
  have h1:EI (.int ns.length) (.int 4)=.ok (.int (if(4:Int)<ns.length then 4 else ns.length)):=rfl;refine⟨_,(if(if(4:Int)<ns.length then 4 else(ns.length:Int)) > 1 then(if(4:Int)<ns.length then 4 else(ns.length:Int)) else 1).toNat,?_,h1,?_⟩
  .split<;>split<;>omega
  .split<;>split<;>omega
 have hstep:∀k,k<m->∀ρ:Ev,(∃s,ρ=[.sh (.lst (ns.map D.int)),s,.no,.no,.no,.no,.no]) ->
   ∃ρ2,(jt 2 (ar (ah (aa 0) (ah (aa 1) aF)) bU) λa=>yC a) (ρ.set 1 (.sh (.int (k:Int))))=.ok (.nx ρ2)/\∃s,ρ2=[.sh (.lst (ns.map D.int)),s,.no,.no,.no,.no,.no]:=by
  rintro k hk ρ ⟨s,rfl⟩;obtain⟨st,hb,S⟩:=CV ns k (by omega) hn;refine⟨[.sh (.lst (ns.map D.int)),.sh (.int (k:Int)),.no,.no,.no,.no,.no],?_,_,rfl⟩;have h1:(ar (ah (aa 0) (ah (aa 1) aF)) bU) [.sh (.lst (ns.map D.int)),.sh (.int (k:Int)),.no,.no,.no,.no,.no]=.ok (.lst st):=by
   open_line with[hb]
  show jt 2 _ _ [.sh (.lst (ns.map D.int)),.sh (.int (k:Int)),.no,.no,.no,.no,.no]=_;unfold jt;rw[h1,fR];unfold tZ;show(if _ then _ else _)=_;rw[if_pos ⟨rfl,(by show 2<7;decide)⟩];refine El λa=>?_;obtain⟨ρ',st',e,hl⟩:=A2 a (d0:=.lst (ns.map D.int)) (d1:=.int (k:Int)) S
  match ρ',hl with
  |[x3,x4,x5,x6],_ =>
   show yX 2 (yC a [.sh (.lst (ns.map D.int)),.sh (.int (k:Int)),.pt a,.no,.no,.no,.no] st)=_;rw[e];rfl
 obtain⟨ρ',hf,s,rfl⟩:=tU (i:=1) (body:=(jt 2 (ar (ah (aa 0) (ah (aa 1) aF)) bU) λa=>yC a)) (λ_ ρ=>∃s,ρ=[.sh (.lst (ns.map D.int)),s,.no,.no,.no,.no,.no]) (n:=m) hstep (ρ:=[.sh (.lst (ns.map D.int)),.no,.no,.no,.no,.no,.no]) ⟨.no,rfl⟩;have hfr:=λs:Ev->ai Fl=>il (tg:=bb 1) (s:=s) (ρ:=[.sh (.lst (ns.map D.int)),.no,.no,.no,.no,.no,.no]) (k:=m) (by omega);unfold m_law FP;open_line with[List.length_map,h1,hq,hfr,hf]
end K20
namespace K20
open PySem L2 DL
theorem sp_law(K:W.Frag)(H:Hp)(a:Addr)(ns:List Int)(hl:ns.length<=63)(hS:eD K H a (ns.map V.int)):spD K 1 m_law [.ref a] H (λv _=>v=.bl true) λ_ _ _=>False:=by
 refine⟨rfl,H,[.lst (ns.map D.int)],aA.refl _,Reps.cons (aH.mpr ⟨a,_,rfl,hS,sP ns⟩) Reps.nil,?_⟩;rw[B8 ns hl];exact λv H' Ha' _ r=>aI.mp r
end K20
namespace PySem.W.Fast
def tw6431032854592969808:=0
def tw12988845741940788272:=0
def tw13080836801785482512:=0
def tw7399864128040015661:=0
def tw6360926393223412899:=0
def tw3834693152349976485:=0
def tw14054757113347683063:=0
def tw15382793288169250223:=0
def tw16447593510027013960:=0
def tw5794017988399019229:=0
def tw9820076511397818073:=0
def tw475845312968826382:=0
def tw9001789354687046466:=0
def tw6948896142313829641:=0
def tw14323647575573728348:=0
def tw17814571773455880147:=0
def tw10310765852290095595:=0
def tw4621064474614229157:=0
def tw7280454958685889480:=0
def tw8681106815662859943:=0
def tw15082859341525402375:=0
def tw2209770114933170606:=0
def tw17726636296119899770:=0
def tw15135093562391356708:=0
def tw12838043141119421750:=0
def tw5431655607275200417:=0
def tw8208529871698339506:=0
def tw6050278636902692083:=0
def tw2694682986998699964:=0
def tw7678027444204390065:=0
def tw17020394772026482074:=0
def tw7080329955838425000:=0
end PySem.W.Fast
open PySem PySem.W PyProof.Rows
set_option maxRecDepth 100000 in
set_option maxHeartbeats 0 in
theorem PySem.Challenge.cw_farthestcut_k20_most_valued_holds : PySem.Challenge.rw_farthestcut_k20_most_valued.Holds := by
 w_on;o_law;k_head;(case hw=>w_witness2)
 k_fill
 refine L2.walk_ofK (l:=PySem.Challenge.rw_farthestcut_k20_most_valued) (n:=63) (k:=9) (x:="_law_script") (CX:=L2.CX0) (sp:=fun K=>DL.spD K 1 K20.m_law) ?I rfl (by decide) rfl ⟨rfl,by decide,by decide,rfl⟩ (fun w h Y=>W.kIn_of Y) ?F ?S ?C
 case S=>exact fun K H a ns hl _ hS=>K20.sp_law K H a ns hl hS
 case C=>exact fun _ _ _ _ h=>h
 case I=>rfl
 case F =>
  intro w mg fa h KX G hmg;have T:∃ t:K20.Adr,K20.Txt (L2.KOf KX) mg t/\mg "law"=some (.ref (t.A 41))/\∃ kV doc pm an cdv ct,t.Q 41=W.fnOf "law" "law" (L2.defArgs (K20.top 70)) (L2.defBody (K20.top 70)) (L2.defScope (K20.top 70)) .none kV doc pm an cdv ct:=by
   dsimp only[L2.KOf];refine' K20.txt_wr (K20.txt_mk KX G ?QS ?_ ?_ ?_ ?_ ?_ ?_ ?_ ?_ ?_ ?_ ?_ ?_ ?_ ?_ ?_ ?_ ?_ ?_ ?_ ?_ ?_ ?_ ?_ ?_ ?_ ?_ ?_ ?_ ?_ ?_ ?_)
   case' QS=>iterate 42 refine DL.QAs.cons ⟨by k_is,by k_is,_,_,_,_,_,_,_,_,_,by k_is,by k_is⟩ ?_
   case QS=>trivial
   all_goals try first |k_is |k_exc |rfl
   exact⟨_,_,_,_,[.str "one",.str "both"],rfl,.cons ⟨_,rfl⟩ (.cons ⟨_,rfl⟩ (.nil)),by decide,fun H=>DL.Reps.cons (DL.Rep.str_iff.mpr rfl) (DL.Reps.cons (DL.Rep.str_iff.mpr rfl) (DL.Reps.nil))⟩
  obtain⟨t,T,e0,kV,doc,pm,an,cdv,ct,ed⟩:=T;have e1:=hmg.symm.trans e0;cases e1;refine⟨t.Q 41,fun s u=>?_,fun base kb nb=>(K20.ok_law T).F⟩;rw[ed];exact .of_eq rfl
