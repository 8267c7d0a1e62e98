import PyProof.Rows.All
import Wide.All
import OpenK.AllK
import Wide.FinOn
import PyProof.EqAt
import PyProof.EqKinds
import PyProof.NeKinds
import PyProof.TupleCall
import PyProof.StrWalks
import PyProof.EnumMake
import PyProof.WalksEnum
import PyProof.ZipIter
import PyProof.Rows.ZipGen
import PyProof.Rows.SortWalk
import KE.KSortedM
import PyProof.StrLawsIdx
import PyProof.StrLawsNeg
import PyProof.ExcInit
import PyProof.InstStoreFacts
import PyProof.AttrMissHeap
import PyProof.FactsAll.enumerate
import PyProof.FactsAll.dict_1
import KE.KDictOf
import KE.KItemsList
import PyProof.ReprRoads
import KE.LcSums
import PyProof.AttrMissSeq
import PyProof.TupleIter
import PyProof.WalksMore
import PyProof.ExcClass2
import PyProof.Rows.MatchSeqLen
import PyProof.FitsInt
import PySem.Challenge.RW_farthestcut_k65_webs_beside_one_another
set_option compiler.extract_closed false
set_option bootstrap.genMatcherCode false
set_option Elab.async false
set_option linter.all false
set_option maxRecDepth 100000
set_option maxHeartbeats 4000000
noncomputable section
abbrev bi:=List Nat
namespace L2
open PySem PySem.Spec PyProof.Rows
abbrev dD:=Sum Int Str
def pE:dD->Value->Bool
 |.inl k,v=>Value.isInt k v
 |.inr x,v=>Value.isStrOf x v
def Lc(w:World):dD->Int
 |.inl k=>hashInt k
 |.inr x=>hashStr w x
theorem cm:∀{k:dD}{v:Value},pE k v=true->(∃i t,k=Sum.inl i/\v=Value.int i t)∨(∃x t,k=Sum.inr x/\v=Value.str x t)
 |.inl i,v,h=>by
  obtain⟨t,e⟩:=Value.isInt_shape (k:=i) (v:=v) h;exact .inl ⟨i,t,rfl,e⟩
 |.inr x,v,h=>by
  obtain⟨t,e⟩:=Value.isStrOf_shape (x:=x) (v:=v) h;exact .inr ⟨x,t,rfl,e⟩
def yB(i:Int)(t:Tok):pE (.inl i) (.int i t)=true:=by simp[pE,Value.isInt]
def yA(x:Str)(t:Tok):pE (.inr x) (.str x t)=true:=by simp[pE,Value.isStrOf]
def GH(a b:Int):decide ((Sum.inl a:dD)=Sum.inl b)=(a==b):=by
 by_cases e:a=b
 .subst e;simp
 .have h:¬(Sum.inl a:dD)=Sum.inl b:=λq=>e (Sum.inl.inj q)
  rw[decide_eq_false h];exact(beq_eq_false_iff_ne.mpr e).symm
def GD(a b:Str):decide ((Sum.inr a:dD)=Sum.inr b)=decide (a=b):=by
 by_cases e:a=b
 .subst e;simp
 .have h:¬(Sum.inr a:dD)=Sum.inr b:=λq=>e (Sum.inr.inj q)
  rw[decide_eq_false h,decide_eq_false e]
def GG(a:Int)(b:Str):decide ((Sum.inl a:dD)=Sum.inr b)=false:=decide_eq_false (λq=>nomatch q)
def GF(a:Str)(b:Int):decide ((Sum.inr a:dD)=Sum.inl b)=false:=decide_eq_false (λq=>nomatch q)
noncomputable def cg(prog:Program) (w:World):PySem.KeyKind prog w dD where
 is:=pE
 hash:=Lc w
 inj:=λv a b ha hb=>by
  rcases cm ha with⟨i,t,rfl,rfl⟩|⟨x,t,rfl,rfl⟩
  .rcases cm hb with⟨j,u,rfl,e⟩|⟨y,u,rfl,e⟩
   .injection e with e1 _;rw[e1]
   .exact nomatch e
  .rcases cm hb with⟨j,u,rfl,e⟩|⟨y,u,rfl,e⟩
   .exact nomatch e
   .injection e with e1 _;rw[e1]
 byValue:=λk v h=>by
  rcases cm h with⟨i,t,rfl,rfl⟩|⟨x,t,rfl,rfl⟩<;>rfl
 pyHash:=λhv h=>by
  rcases cm hv with⟨i,t,rfl,rfl⟩|⟨x,t,rfl,rfl⟩
  .exact wpAny_pyHash_int h
  .exact wpAny_pyHash_str h
 eqBool:=λhu hv h=>by
  rcases cm hu with⟨i,t,rfl,rfl⟩|⟨x,t,rfl,rfl⟩
  .rcases cm hv with⟨j,u,rfl,rfl⟩|⟨y,u,rfl,rfl⟩
   .rw[GH]at h;exact wpAny_eqBool_int h
   .rw[GG]at h;exact SeqAt.EqAt.int_str i t y u _ _ _ _ h
  .rcases cm hv with⟨j,u,rfl,rfl⟩|⟨y,u,rfl,rfl⟩
   .rw[GF]at h;exact SeqAt.EqAt.str_int x t j u _ _ _ _ h
   .rw[GD]at h;exact wpAny_eqBool_str h
 «strs»:=λk x t v h=>by
  rcases cm h with⟨i,u,rfl,e⟩|⟨y,u,rfl,e⟩
  .exact nomatch e
  .injection e with e1 _
   subst e1;cases v<;>rfl
def tH(prog:Program)(w:World)(i:Int)(t:Tok):(cg prog w).is (.inl i) (.int i t)=true:=yB i t
def tE(prog:Program)(w:World)(x:Str)(t:Tok):(cg prog w).is (.inr x) (.str x t)=true:=yA x t
inductive V where
 |non|bl (b:Bool)|int (i:Int)|str (x:Str)|byt (b:Array UInt8)|flt (b:UInt64)|ref (a:Addr)|ty (n:String)
 deriving DecidableEq
abbrev al:=List V
noncomputable def bb:V->Value->Prop
 |.non,u=>u=Value.none
 |.bl b,u=>u=Value.bool b
 |.int i,u=>∃t,u=Value.int i t
 |.str x,u=>∃t,u=Value.str x t
 |.byt b,u=>∃t,u=Value.bytes b t
 |.flt b,u=>∃t,u=Value.float b t
 |.ref a,u=>u=Value.ref a
 |.ty n,u=>u=Value.type n
abbrev bj:al->List Value->Prop:=Paired bb
def bj.length{xs:al}{us:List Value}(r:bj xs us):xs.length=us.length:=Paired.length r
theorem bj.get:∀{xs:al}{us:List Value}{i:Nat}{x:V},bj xs us->xs[i]?=some x->∃u,us[i]?=some u/\bb x u
 |_,_,_,_,.nil,e=>by simp at e
 |_,_,0,_,.cons r _,e=>by simp at e;subst e;exact⟨_,rfl,r⟩
 |_,_,i+1,x,.cons _ t,e=>by
  obtain⟨u,h1,h2⟩:=bj.get (i:=i) (x:=x) t (by simpa using e);exact⟨u,by simpa using h1,h2⟩
theorem bj.append:∀{xs ys:al}{us ws:List Value},bj xs us->bj ys ws->bj (xs++ys) (us++ws)
 |_,_,_,_,.nil,s=>s
 |_,_,_,_,.cons r t,s=>.cons r (bj.append t s)
theorem bj.take:∀{xs:al}{us:List Value}(n:Nat),bj xs us->bj (xs.take n) (us.take n)
 |_,_,0,_=>.nil
 |_,_,_+1,.nil=>.nil
 |_,_,n+1,.cons r t=>.cons r (bj.take n t)
theorem bj.drop:∀{xs:al}{us:List Value}(n:Nat),bj xs us->bj (xs.drop n) (us.drop n)
 |_,_,0,r=>r
 |_,_,_+1,.nil=>.nil
 |_,_,n+1,.cons _ t=>bj.drop n t
def jR:Option V->Option Value->Prop
 |some v,some u=>bb v u
 |none,none=>True
 |_,_=>False
def KV{κ:Type}:List (κ×V)->List (κ×Value)->Prop:=Paired λ(p:κ×V) (q:κ×Value)=>p.1=q.1/\bb p.2 q.2
def kV:dD->V
 |.inl i=>.int i
 |.inr x=>.str x
inductive HO where
 |lst (xs:al)
 |tup (xs:al)
 |dK (kvs:List (dD×V))|dT (kvs:List (List dD×V))
 |set (S:Int->Bool) (n:Nat)
 |ins (C dx:Addr) (fs:List (Str×V))
 |own (x:Addr)
 |xd (fs:List (Str×V))
 |met (f x:Addr)
 |rng (lo hi:Int)
 |frz (o:Obj) (u:HO)
 |tbl (ps:Array Value)
 |ext (φ:Heap->Prop)
abbrev Hp:=Addr->Option HO
def upd(H:Hp)(a:Addr)(o:HO):Hp:=λb=>if b=a then some o else H b
def aG{H:Hp}{a:Addr}{o:HO}:upd H a o a=some o:=by unfold upd;rw[if_pos rfl]
def az{H:Hp}{a b:Addr}{o:HO}(h:b≠a):upd H a o b=H b:=by unfold upd;rw[if_neg h]
def Jn{H:Hp}{a b:Addr}{o u:HO}(h:H a=some o)(h':H b=some u)(d:o≠u):a≠b:=by
 intro e;subst e;rw[h]at h';exact d (Option.some.inj h')
def aO{H:Hp}{a b:Addr}{o:HO}(h:H a=some o)(h':H b=none):a≠b:=by
 intro e;subst e;rw[h]at h';cases h'
section
variable (P:Program) (w:World)
noncomputable def br(H:Hp) (h:Heap) (a:Addr):HO->Prop
 |.lst xs=>xs.length<=sizeLine/\∃(its:List Value) (n:Nat),bj xs its/\h.get? a=some { cls:=.type "list",data:=.seq its.toArray n }
 |.tup xs=>xs.length<=sizeLine/\∃its:List Value,bj xs its/\IsTup h a its.toArray
 |.dK kvs=>kvs.length<=sizeLine/\(a==sysModules)=false/\∃vs,KV kvs vs/\h.DictOf (cg P w) a vs
 |.dT kvs=>kvs.length<=sizeLine/\(a==sysModules)=false/\∃xs:List (List dD×Addr×Value),
   Paired (λ(p:List dD×V) (q:List dD×Addr×Value)=>p.1=q.1/\H q.2.1=some (.tup (p.1.map kV))/\bb p.2 q.2.2) kvs xs /\
   ∃o es ep,h.get? a=some o/\o.ExactDict/\o.data=.dict es ep/\es.toList=xs.map (entryOfKey (tupleKind (cg P w)))/\(xs.map (·.1)).Nodup
 |.set S n=>h.SetOf (intKind P w) a S n
 |.ins C dx fs=>H dx=some (.own a)/\fs.length<=1000/\dx≠a/\h.get? a=some (W.instObj C dx) /\
   ∃mA,h.Ns1 dx mA/\(∀f,jR (fs.lookup f) (mA f))/\PySem.Within mA (fs.map (·.1))
 |.own _=>∃o,h.get? a=some o
 |.xd fs=>∃mA,h.Ns1 a mA/\∀f,jR (fs.lookup f) (mA f)
 |.rng lo hi=>∃t u v,h.get? a=some { cls:=.type "range",data:=.fields #[.int lo t,.int hi u,.int 1 v] }
 |.frz o u=>h.get? a=some o/\br H h a u
 |.tbl ps=>h.get? a=some { cls:=.none,data:=.fields ps }
 |.met f x=>h.get? a=some (W.methodObj (.ref f) (.ref x))
 |.ext φ=>φ h/\(∃o,h.get? a=some o)/\∀h1 h2:Heap,φ h1->(∀o,h1.get? a=some o->h2.get? a=some o)->φ h2
def er(H:Hp)(h:Heap):Prop:=∀a o,H a=some o->br P w H h a o
end
section
variable {P:Program}{w:World}{H H':Hp}{h h':Heap}{a:Addr}{o:HO}
def br.lt(x:br P w H h a o):a<h.objs.size:=by
 cases o with|lst xs=>obtain⟨_,_,_,_,e⟩:=x;exact Heap.lt_size e|tup xs=>obtain⟨_,_,_,p⟩:=x;exact p.lt|dK kvs|dT kvs=>obtain⟨_,_,_,_,o,_,_,e,_⟩:=x;exact Heap.lt_size e|set S n=>obtain⟨o,_,_,_,e,_⟩:=x;exact Heap.lt_size e|ins C dx fs=>obtain⟨_,_,_,e,_⟩:=x;exact Heap.lt_size e|own y=>obtain⟨_,e⟩:=x;exact Heap.lt_size e|xd fs=>obtain⟨_,⟨_,_,_,e,_⟩,_⟩:=x;exact Heap.lt_size e|rng lo hi=>obtain⟨_,_,_,e⟩:=x;exact Heap.lt_size e|frz ob u=>obtain⟨e,_⟩:=x;exact Heap.lt_size e|tbl ps|met f y=>exact Heap.lt_size (show h.get? a=some _ from x)|ext φ=>obtain⟨_,⟨_,e⟩,_⟩:=x;exact Heap.lt_size e
theorem iU{α β:Type}{F G:α->β->Prop}:∀{lb:List α}{lc:List β},Paired F lb lc->(∀a b,F a b->G a b)->Paired G lb lc
 |_,_,.nil,_=>.nil
 |_,_,.cons r t,f=>.cons (f _ _ r) (iU t f)
def br.stay(x:br P w H h a o)(k:∀b u,(b=a∨H b=some (.own a))->h.get? b=some u->h'.get? b=some u)
  (ho:∀b,H b=some (.own a)->H' b=some (.own a))(ht:∀b xs,H b=some (.tup xs)->H' b=some (.tup xs)):br P w H' h' a o:=by
 induction o with
 |lst xs=>obtain⟨z,its,n,r,e⟩:=x;exact⟨z,its,n,r,k _ _ (.inl rfl) e⟩|tup xs=>obtain⟨z,its,r,ob,e,c⟩:=x;exact⟨z,its,r,ob,k _ _ (.inl rfl) e,c⟩|dK kvs=>obtain⟨z,y,vs,r,ob,es,ep,e,c⟩:=x;exact⟨z,y,vs,r,ob,es,ep,k _ _ (.inl rfl) e,c⟩
 |dT kvs=>
  obtain⟨z,y,xs,r,ob,es,ep,e,c⟩:=x;exact⟨z,y,xs,iU r λp q z=>⟨z.1,ht _ _ z.2.1,z.2.2⟩,ob,es,ep,k _ _ (.inl rfl) e,c⟩
 |set S n=>obtain⟨ob,es,ep,t,e,c⟩:=x;exact⟨ob,es,ep,t,k _ _ (.inl rfl) e,c⟩
 |ins C dx fs=>
  obtain⟨d,z,ne,e,mA,⟨od,es,ep,e2,c⟩,r⟩:=x;exact⟨ho _ d,z,ne,k _ _ (.inl rfl) e,mA,⟨od,es,ep,k _ _ (.inr d) e2,c⟩,r⟩
 |own y=>obtain⟨ob,e⟩:=x;exact⟨ob,k _ _ (.inl rfl) e⟩|xd fs=>obtain⟨mA,⟨od,es,ep,e,c⟩,r⟩:=x;exact⟨mA,⟨od,es,ep,k _ _ (.inl rfl) e,c⟩,r⟩|rng lo hi=>obtain⟨t,u,v,e⟩:=x;exact⟨t,u,v,k _ _ (.inl rfl) e⟩|frz ob u ih=>obtain⟨e,q⟩:=x;exact⟨k _ _ (.inl rfl) e,ih q⟩
 |tbl ps=>
  have e:h.get? a=some { cls:=.none,data:=.fields ps }:=x;show h'.get? a=some { cls:=.none,data:=.fields ps };exact k a _ (.inl rfl) e
 |met f y=>
  have e:h.get? a=some (W.methodObj (.ref f) (.ref y)):=x;show h'.get? a=some (W.methodObj (.ref f) (.ref y));exact k a _ (.inl rfl) e
 |ext φ=>obtain⟨p,⟨o,e⟩,st⟩:=x;exact⟨st _ _ p λo q=>k _ _ (.inl rfl) q,⟨o,k _ _ (.inl rfl) e⟩,st⟩
def er.lt(x:er P w H h)(e:H a=some o):a<h.objs.size:=(x a o e).lt
def er.fresh(x:er P w H h)(e:h.objs.size<=a):H a=none:=by
 cases q:H a with|none=>rfl|some u=>exact absurd (Nat.lt_of_lt_of_le (x.lt q) e) (Nat.lt_irrefl _)
def er.kept(x:er P w H h)(k:∀b u,h.get? b=some u->h'.get? b=some u):er P w H h':=λa o e=>
 (x a o e).stay (λb u _ q=>k b u q) (λ_ q=>q) λ_ _ q=>q
def er.laid(x:er P w H h)(k:∀b u,h.get? b=some u->h'.get? b=some u)(hp:h.objs.size<=a)(new:br P w (upd H a o) h' a o):er P w (upd H a o) h':=λb u e=>by
 have hn:=x.fresh hp
 by_cases hb:b=a
 .subst hb;rw[aG]at e;cases e;exact new
 .rw[az hb]at e
  exact(x b u e).stay (λc v _ q=>k c v q) (λc q=>by rw[az (aO q hn)];exact q) λc xs q=>by rw[az (aO q hn)];exact q
end
def Rd(H:Hp)(a:Addr)(u:HO):Prop:=H a=some u∨∃o,H a=some (.frz o u)
def Rd.ok{P:Program}{w:World}{H:Hp}{h:Heap}{a:Addr}{u:HO}(r:Rd H a u)(x:er P w H h):br P w H h a u:=by
 rcases r with r|⟨o,r⟩
 .exact x a u r
 .obtain⟨_,q⟩:=x a _ r
  exact q
def HY:Option HO->Prop
 |some (.lst _)=>True
 |some (.dK _)=>True
 |some (.dT _)=>True
 |some (.set _ _)=>True
 |some (.ins _ _ _)=>True
 |some (.ext _)=>True
 |_=>False
section
variable {P:Program}{w:World}{H:Hp}{h h':Heap}{x e:Addr}{o':HO}
def er.write(ok:er P w H h)(mu:HY (H x))(he:e=x∨H e=some (.own x))(k:∀b u,b≠e->h.get? b=some u->h'.get? b=some u)(heo:∃u,h'.get? e=some u)
  (new:br P w (upd H x o') h' x o'):er P w (upd H x o') h':=λb u q=>by
 have nown:∀c y,H c=some (.own y)->c≠x:=λc y r z=>by subst z;rw[r]at mu;exact mu
 have ntup:∀c xs,H c=some (.tup xs)->c≠x:=λc xs r z=>by subst z;rw[r]at mu;exact mu
 by_cases hb:b=x
 .subst hb;rw[aG]at q;cases q;exact new
 .rw[az hb]at q
  by_cases hbe:b=e
  .have q':H b=some (.own x):=by
    rcases he with z|z
    .exact absurd (hbe.trans z) hb
    .rw[hbe];exact z
   rw[q]at q';cases q';obtain⟨v,hv⟩:=heo;exact⟨v,by rw[hbe];exact hv⟩
  .refine(ok b u q).stay (λc v hc r=>k c v ?_ r) (λc r=>by rw[az (nown c b r)];exact r) λc xs r=>by rw[az (ntup c xs r)];exact r
   rcases hc with rfl|hc
   .exact hbe
   .rintro rfl
    rcases he with z|z
    .exact nown c b hc z
    .rw[hc]at z;cases z;exact hb rfl
end
structure Un (fs ex:List Addr) (H H':Hp) (h h':Heap):Prop where
 keep:∀b o,h.get? b=some o->H b=none->b∉fs->b∉ex->h'.get? b=some o
 slot:∀b o,h.get? b=some o->H b=none->b∈fs->b∉ex->∃sl,h'.get? b=some { o with slots:=sl }
 free:∀b o,h.get? b=some o->H b=none->b∉ex->H' b=none
 there:∀b o,h.get? b=some o->b∉ex->∃o',h'.get? b=some o'
 tups:∀b xs,H b=some (.tup xs)->H' b=some (.tup xs)
 frzs:∀b o u,H b=some (.frz o u)->H' b=some (.frz o u)
 tbls:∀b ps,H b=some (.tbl ps)->∃more,H' b=some (.tbl (ps++more))
section
variable {fs fs' ex ex':List Addr}{H H1 H2:Hp}{h h1 h2 h':Heap}{a x e:Addr}{o:HO}
def Un.any(u:Un fs ex H H1 h h1){b:Addr}{ob:Obj}(q:h.get? b=some ob)(n:H b=none)(hx:b∉ex):∃sl,h1.get? b=some { ob with slots:=sl }:=by
 by_cases hb:b∈fs
 .exact u.slot b ob q n hb hx
 .exact⟨ob.slots,u.keep b ob q n hb hx⟩
def Un.trans(a:Un fs ex H H1 h h1)(b:Un fs ex H1 H2 h1 h2):Un fs ex H H2 h h2 where
 keep:=λc ob q n hc hx=>b.keep c ob (a.keep c ob q n hc hx) (a.free c ob q n hx) hc hx
 slot:=λc ob q n hc hx=>by
  obtain⟨sl,e1⟩:=a.slot c ob q n hc hx;obtain⟨sl',e2⟩:=b.slot c _ e1 (a.free c ob q n hx) hc hx;exact⟨sl',e2⟩
 free:=λc ob q n hx=>by
  obtain⟨o',e1⟩:=a.there c ob q hx;exact b.free c o' e1 (a.free c ob q n hx) hx
 there:=λc ob q hx=>by
  obtain⟨o',e1⟩:=a.there c ob q hx;exact b.there c o' e1 hx
 tups:=λc xs q=>b.tups c xs (a.tups c xs q)
 frzs:=λc ob xs q=>b.frzs c ob xs (a.frzs c ob xs q)
 tbls:=λc ps q=>by
  obtain⟨m1,e1⟩:=a.tbls c ps q;obtain⟨m2,e2⟩:=b.tbls c _ e1;exact⟨m1++m2,by rw[e2,Array.append_assoc]⟩
def Un.kept(k:∀b u,h.get? b=some u->h'.get? b=some u):Un fs ex H H h h' :=
 ⟨λb ob q _ _ _=>k b ob q,λb ob q _ _ _=>⟨ob.slots,k b ob q⟩,λ_ _ _ n _=>n,λb ob q _=>⟨ob,k b ob q⟩,λ_ _ q=>q,λ_ _ _ q=>q,λ_ ps q=>⟨#[],by rw[q];simp⟩⟩
def Un.refl:Un fs ex H H h h:=Un.kept λ_ _ q=>q
def Un.laid(k:∀b u,h.get? b=some u->h'.get? b=some u)(hp:h.objs.size<=a)(hn:H a=none):Un fs ex H (upd H a o) h h' where
 keep:=λb u q _ _ _=>k b u q
 slot:=λb u q _ _ _=>⟨u.slots,k b u q⟩
 free:=λb u q n _=>by rw[az (Nat.ne_of_lt (Nat.lt_of_lt_of_le (Heap.lt_size q) hp))];exact n
 there:=λb u q _=>⟨u,k b u q⟩
 tups:=λb xs q=>by rw[az (aO q hn)];exact q
 frzs:=λb u xs q=>by rw[az (aO q hn)];exact q
 tbls:=λb ps q=>⟨#[],by rw[az (aO q hn),q];simp⟩
def Un.write(mu:HY (H x))(he:e=x∨H e=some (.own x))(k:∀b u,b≠e->h.get? b=some u->h'.get? b=some u)(heo:∃u,h'.get? e=some u):Un fs ex H (upd H x o) h h':=by
 have hx:∀b,H b=none->b≠x:=λb n z=>by subst z;rw[n]at mu;exact mu
 have hb:∀b,H b=none->b≠e:=λb n z=>by
  subst z;rcases he with r|r
  .exact hx b n r
  .rw[n]at r;cases r
 have hm:∀b u,H b=some u->¬HY (some u)->b≠x:=λb u q nm z=>by subst z;rw[q]at mu;exact nm mu
 refine⟨λb u q n _ _=>k b u (hb b n) q,λb u q n _ _=>⟨u.slots,k b u (hb b n) q⟩,λb u q n _=>by rw[az (hx b n)];exact n,λb u q _=>?_,
  λb xs q=>by rw[az (hm b _ q λz=>z)];exact q,λb u xs q=>by rw[az (hm b _ q λz=>z)];exact q,λb ps q=>⟨#[],by rw[az (hm b _ q λz=>z),q];simp⟩⟩
 by_cases hbe:b=e
 .subst hbe;exact heo
 .exact⟨u,k b u hbe q⟩
end
def Kj(h:Heap)(H:Hp):List Addr:=(List.range h.objs.size).filter λa=>(H a).isSome
def qT(h:Heap)(H:Hp):Heap:=W.hideAll h (Kj h H)
def yH(h:Heap)(H:Hp):(qT h H).objs.size=h.objs.size:=W.hideAll_size _ _
def A7{h:Heap}{H:Hp}{b:Addr}{o:Obj}(e:h.get? b=some o)(n:H b=none):(qT h H).get? b=some o :=
 W.hideAll_get _ e λhm=>by
  have q:(H b).isSome=true:=(List.mem_filter.mp hm).2;rw[n]at q;simp at q
def Di{h:Heap}{H:Hp}{b:Addr}{o:Obj}(e:(qT h H).get? b=some o):h.get? b=some o/\H b=none:=by
 have e':h.get? b=some o:=W.of_hideAll (Kj h H) e;refine⟨e',?_⟩;cases q:H b with
 |none=>rfl
 |some x=>
  have hm:b∈Kj h H:=List.mem_filter.mpr ⟨List.mem_range.mpr (Heap.lt_size e'),by simp[q]⟩;have z:(qT h H).get? b=none:=W.hideAll_none (Kj h H) hm;rw[z]at e;cases e
structure Mod (K:W.Frag) (mg:Str->Option Value) (base:Heap):Prop where
 kin:K.In base
 glob:base.Ns mainGlobals mg
 blt:∃mb,base.Ns builtinsNs mb/\∀x:Str,x≠"__name__"->mb x=bootBuiltins x
 nolimit:base.NoLimit
 sm:∃mm,base.Ns sysModules mm
structure Cx where
 prog:Program
 w:World
 K:W.Frag
 mg:Str->Option Value
 base:Heap
 A:Around
 N:List Str
 sf:Shared
 Ha:Hp
 env:Env
 outer:List Env
 stack:List Env
 ex:List Addr
 fn:Str->Bool
 calm:Bool
 pn:List (Addr×Obj)
 xe:Value->Shared->Prop
def eQ(l:List Env):List Addr:=l.filterMap (·.frame)
abbrev Cx.fs(X:Cx):List Addr:=eQ X.outer
def zg(sc:Scope)(x:Str):Prop:=sc.names.lookup x=some .local ∨ sc.names.lookup x=some .cell∨sc.names.lookup x=some .free
def zp(sc:Scope)(x:Str):Prop:=sc.names.lookup x=some .local ∨ sc.names.lookup x=some .cell
def J8(env:Env)(h:Heap)(m:Str->Option Value)(x:Str)(u:Value):Prop :=
 (env.kindOf x=some .local /\ m x=some u)∨((env.kindOf x=some .cell∨env.kindOf x=some .free)/\∃c,env.cells.lookup x=some c/\h.IsCell c (some u))
structure Cx.Ok (X:Cx):Prop where
 mod:Mod X.K X.mg X.base
 kind:X.env.scope.kind=.function
 glob:X.env.globals=mainGlobals
 blt:X.env.builtins=builtinsNs
 above:X.sf.heap.objs.size<=X.env.locals
 inj:∀x y c,X.env.cells.lookup x=some c->X.env.cells.lookup y=some c->x=y
 has:∀x,(X.env.kindOf x=some .cell∨X.env.kindOf x=some .free)->∃c,X.env.cells.lookup x=some c
 cab:∀x c,X.fn x=true->X.env.cells.lookup x=some c->X.sf.heap.objs.size<=c
 hd:X.calm=true->X.A.handled=none
 frames:X.A.frames=some X.stack
 stk:X.stack=X.outer∨(X.stack=X.env::X.outer/\X.env.frame=some X.env.locals)
 exf:∀b∈X.ex,b≠X.env.locals/\∀x c,X.env.cells.lookup x=some c->c≠b
 bs:∀b o,X.base.get? b=some o->X.sf.heap.get? b=some o/\X.Ha b=none
 bsz:X.base.objs.size<=X.sf.heap.objs.size
 noex:∀b o,X.base.get? b=some o->b∉X.ex
 exfs:∀b∈X.ex,b∉X.fs
 funs:X.sf.heap.FunFrames X.base X.outer
 frf:∀b∈X.fs,X.Ha b=none
structure Inv (X:Cx) (pins:List (Addr×Obj)) (σ:List (Option V)) (H:Hp) (s:Shared):Prop where
 ok:X.Ok
 os:s.os=X.sf.os
 bare:AllBare s.gens
 base:Un X.fs X.ex X.Ha H X.sf.heap s.heap
 loc:∃m,s.heap.Ns X.env.locals m/\∀(i:Nat) (x:Str) (v:V),X.N[i]?=some x->σ[i]?=some (some v)->zg X.env.scope x->∃u,bb v u/\J8 X.env s.heap m x u
 cell:∀x c,X.env.cells.lookup x=some c->∃v,s.heap.IsCell c v
 free:H X.env.locals=none
 freeC:∀x c,X.env.cells.lookup x=some c->H c=none
 pin:∀p∈X.pn++pins,s.heap.get? p.1=some p.2/\H p.1=none/\p.1≠X.env.locals/\p.1∉X.fs/\∀v,p.2.data≠.cell v
 hok:er X.prog X.w H s.heap
 len:σ.length=X.N.length
section
variable {X:Cx}{pins:List (Addr×Obj)}{σ:List (Option V)}{H H':Hp}{s:Shared}{h':Heap}
def Cx.Ok.nofr(ok:X.Ok){b:Addr}{o:Obj}(e:X.base.get? b=some o):b∉X.fs:=λhb=>by
 have:=(ok.funs.mem hb).1;rw[e]at this;cases this
def Inv.bs(I:Inv X pins σ H s):∀b o,X.base.get? b=some o->s.heap.get? b=some o/\H b=none:=λb o e=>
 ⟨I.base.keep b o (I.ok.bs b o e).1 (I.ok.bs b o e).2 (I.ok.nofr e) (I.ok.noex b o e),I.base.free b o (I.ok.bs b o e).1 (I.ok.bs b o e).2 (I.ok.noex b o e)⟩
def Inv.bk(I:Inv X pins σ H s):∀b o,X.base.get? b=some o->s.heap.get? b=some o:=λb o e=>(I.bs b o e).1
def Inv.mod(I:Inv X pins σ H s):Mod X.K X.mg X.base:=I.ok.mod
def Inv.kIn(I:Inv X pins σ H s):X.K.In s.heap:=I.ok.mod.kin.keeps I.bk
def Inv.lt(I:Inv X pins σ H s):X.env.locals<s.heap.objs.size:=let ⟨_,hn,_⟩:=I.loc;hn.lt
def Inv.sz(I:Inv X pins σ H s):X.sf.heap.objs.size<=s.heap.objs.size:=Nat.le_trans I.ok.above (Nat.le_of_lt I.lt)
def Inv.nofs(I:Inv X pins σ H s){a:Addr}(h:s.heap.objs.size<=a):a∉X.fs:=λhb=>by
 obtain⟨_,o,ho,_⟩:=I.ok.funs.mem hb;exact absurd (Nat.lt_of_lt_of_le (Heap.lt_size ho) (Nat.le_trans I.sz h)) (Nat.lt_irrefl _)
def Inv.cne(I:Inv X pins σ H s):∀x c,X.env.cells.lookup x=some c->c≠X.env.locals:=λx c e z=>by
 obtain⟨v,o,ho,hd⟩:=I.cell x c e;obtain⟨m,⟨o',es,ep,ho',hd',_⟩,_⟩:=I.loc;rw[z,ho']at ho;cases ho;rw[hd']at hd;cases hd
def Inv.funs(I:Inv X pins σ H s):s.heap.FunFrames X.base X.outer:=by
 have all:∀(l:List Env),(∀b∈eQ l,b∈X.fs)->X.sf.heap.FunFrames X.base l->s.heap.FunFrames X.base l:=by
  intro l
  induction l with
  |nil=>intro _ _;trivial
  |cons env r ih=>
   intro hs hl;obtain⟨hk,⟨L,o,hf,hn,ho,hd⟩,hr⟩:=hl;have hL:L∈X.fs:=hs L (by unfold eQ;rw[List.filterMap_cons,hf];exact List.mem_cons_self);obtain⟨sl,e⟩:=I.base.slot L o ho (I.ok.frf L hL) hL λz=>I.ok.exfs L z hL;exact⟨hk,⟨L,_,hf,hn,e,hd⟩,ih (λb hb=>hs b (by unfold eQ;rw[List.filterMap_cons,hf];exact List.mem_cons_of_mem _ hb)) hr⟩
 exact all X.outer (λ_ hb=>hb) I.ok.funs
def Inv.stack(I:Inv X pins σ H s):s.heap.FunFrames X.base X.stack:=by
 rcases I.ok.stk with e|⟨e,hf⟩
 .rw[e];exact I.funs
 .rw[e]
  obtain⟨m,hn,_⟩:=I.loc;refine .cons (by rw[I.ok.kind];decide) hf hn ?_ I.funs;exact Heap.get?_none_of_le (Nat.le_trans I.ok.bsz I.ok.above)
def Inv.stkSub(I:Inv X pins σ H s):∀b∈eQ X.stack,b∈X.env.locals::X.fs:=λb hb=>by
 rcases I.ok.stk with e|⟨e,hf⟩
 .rw[e]at hb;exact List.mem_cons_of_mem _ hb
 .rw[e]at hb
  unfold eQ at hb;rw[List.filterMap_cons,hf]at hb;exact hb
def Inv.stkFree(I:Inv X pins σ H s):∀b∈eQ X.stack,H b=none:=λb hb=>by
 rcases List.mem_cons.mp (I.stkSub b hb) with e|hb
 .rw[e];exact I.free
 .obtain⟨_,o,ho,_⟩:=I.ok.funs.mem hb
  exact I.base.free b o ho (I.ok.frf b hb) λz=>I.ok.exfs b z hb
def Inv.step{g':Array GenState}{t':Nat}{d':Drawn}{ch:List Addr}(I:Inv X pins σ H s)
  (hch:∀b∈ch,(b∈X.ex∨X.sf.heap.objs.size<=b)/\b≠X.env.locals/\(∀x c,X.env.cells.lookup x=some c->c≠b)/\∀p∈X.pn++pins,p.1≠b)
  (keep:∀b o,b≠X.env.locals->b∉X.fs->b∉ch->s.heap.get? b=some o->H b=none->h'.get? b=some o)
  (slot:∀b o,b≠X.env.locals->b∈X.fs->b∉ch->s.heap.get? b=some o->H b=none->∃sl,h'.get? b=some { o with slots:=sl })(free:∀b o,b∉ch->s.heap.get? b=some o->H b=none->H' b=none)
  (there:∀b o,b∉ch->s.heap.get? b=some o->∃o',h'.get? b=some o')
  (tups:∀b xs,H b=some (.tup xs)->H' b=some (.tup xs))(frzs:∀b o u,H b=some (.frz o u)->H' b=some (.frz o u))(tbls:∀b ps,H b=some (.tbl ps)->∃more,H' b=some (.tbl (ps++more)))
  (ns:∀m,s.heap.Ns X.env.locals m->h'.Ns X.env.locals m)(hok:er X.prog X.w H' h')(hg:AllBare g') :
  Inv X pins σ H' { s with heap:=h',gens:=g',drawn:=d',toks:=t' }:=by
 have neL:∀b o,X.sf.heap.get? b=some o->b≠X.env.locals:=λb o e=>Nat.ne_of_lt (Nat.lt_of_lt_of_le (Heap.lt_size e) I.ok.above);have neC:∀b o,X.sf.heap.get? b=some o->b∉X.ex->b∉ch:=λb o e hx hb=>by
  rcases(hch b hb).1 with z|z
  .exact hx z
  .exact absurd (Nat.lt_of_lt_of_le (Heap.lt_size e) z) (Nat.lt_irrefl _)
 have cellK:∀x c,X.env.cells.lookup x=some c->∀v,s.heap.IsCell c v->h'.IsCell c v:=λx c e v z9=>by
  obtain⟨o,ho,hd⟩:=z9;have nch:c∉ch:=λz=>(hch c z).2.2.1 x c e rfl
  by_cases hc:c∈X.fs
  .obtain⟨sl,q⟩:=slot c o (I.cne x c e) hc nch ho (I.freeC x c e)
   exact⟨_,q,hd⟩
  .exact⟨o,keep c o (I.cne x c e) hc nch ho (I.freeC x c e),hd⟩
 refine⟨I.ok,I.os,hg,⟨λb o e n hb hx=>?_,λb o e n hb hx=>?_,λb o e n hx=>?_,λb o e hx=>?_,λb xs e=>tups b xs (I.base.tups b xs e),λb o xs e=>frzs b o xs (I.base.frzs b o xs e),λb ps e=>?_⟩,?_,λx c e=>?_,?_,λx c e=>?_,λp hp=>?_,hok,I.len⟩
 .exact keep b o (neL b o e) hb (neC b o e hx) (I.base.keep b o e n hb hx) (I.base.free b o e n hx)
 .obtain⟨sl,e1⟩:=I.base.slot b o e n hb hx
  obtain⟨sl',e2⟩:=slot b _ (neL b o e) hb (neC b o e hx) e1 (I.base.free b o e n hx);exact⟨sl',e2⟩
 .obtain⟨o',e1⟩:=I.base.there b o e hx
  exact free b o' (neC b o e hx) e1 (I.base.free b o e n hx)
 .obtain⟨o',e1⟩:=I.base.there b o e hx
  exact there b o' (neC b o e hx) e1
 .obtain⟨m1,e1⟩:=I.base.tbls b ps e
  obtain⟨m2,e2⟩:=tbls b _ e1;exact⟨m1++m2,by rw[e2,Array.append_assoc]⟩
 .obtain⟨m,hn,hl⟩:=I.loc
  refine⟨m,ns m hn,λi x v e1 e2 e3=>?_⟩;obtain⟨u,r,l⟩:=hl i x v e1 e2 e3;refine⟨u,r,?_⟩;rcases l with l|⟨k,c,e,z⟩
  .exact .inl l
  .exact .inr ⟨k,c,e,cellK x c e _ z⟩
 .obtain⟨v,z⟩:=I.cell x c e
  exact⟨v,cellK x c e v z⟩
 .obtain⟨m,⟨o,_,_,ho,_⟩,_⟩:=I.loc
  exact free _ o (λz=>(hch _ z).2.1 rfl) ho I.free
 .obtain⟨v,o,ho,hd⟩:=I.cell x c e
  exact free c o (λz=>(hch c z).2.2.1 x c e rfl) ho (I.freeC x c e)
 .obtain⟨e,n,ne,nf,d⟩:=I.pin p hp
  have nch:p.1∉ch:=λz=>(hch p.1 z).2.2.2 p hp rfl;exact⟨keep p.1 p.2 ne nf nch e n,free p.1 p.2 nch e n,ne,nf,d⟩
def Inv.un{t':Nat}(I:Inv X pins σ H s)(u:Un X.fs [] H H' s.heap h')(hok:er X.prog X.w H' h'):Inv X pins σ H' { s with heap:=h',toks:=t' }:=by
 obtain⟨m,⟨o,es,ep,ho,r⟩,_⟩:=id I.loc;obtain⟨sl,hL⟩:=u.any ho I.free (by simp);exact I.step (g':=s.gens) (d':=s.drawn) (ch:=[]) (λ_ z=>nomatch z) (λb o _ hb _ e n=>u.keep b o e n hb (by simp)) (λb o _ hb _ e n=>u.slot b o e n hb (by simp)) (λb o _ e n=>u.free b o e n (by simp)) (λb o _ e=>u.there b o e (by simp)) u.tups u.frzs u.tbls (λm' hm=>by
  obtain⟨o',es',ep',ho',r'⟩:=hm;rw[ho]at ho';cases ho';exact⟨_,es',ep',hL,r'⟩) hok I.bare
def Inv.call{g':Array GenState}{t':Nat}{d':Drawn}{ch:List Addr}(I:Inv X pins σ H s)(u:Un (eQ X.stack) ch H H' s.heap h')(hok:er X.prog X.w H' h')(hg:AllBare g')
  (hch:∀b∈ch,(b∈X.ex∨X.sf.heap.objs.size<=b)/\b≠X.env.locals/\(∀x c,X.env.cells.lookup x=some c->c≠b)/\∀p∈X.pn++pins,p.1≠b) :
  Inv X pins σ H' { s with heap:=h',gens:=g',drawn:=d',toks:=t' }:=by
 obtain⟨m,⟨o,es,ep,ho,r⟩,_⟩:=id I.loc;obtain⟨sl,hL⟩:=u.any ho I.free λz=>(hch _ z).2.1 rfl;exact I.step (ch:=ch) hch (λb o hL hb hc e n=>u.keep b o e n (λz=>(List.mem_cons.mp (I.stkSub b z)).elim hL hb) hc) (λb o _ _ hc e n=>u.any e n hc) (λb o hc e n=>u.free b o e n hc) (λb o hc e=>u.there b o e hc) u.tups u.frzs u.tbls (λm' hm=>by
  obtain⟨o',es',ep',ho',r'⟩:=hm;rw[ho]at ho';cases ho';exact⟨_,es',ep',hL,r'⟩) hok hg
def Inv.turned{t':Nat}{it:Addr}(I:Inv X pins σ H s)(k:∀b o,b≠it->s.heap.get? b=some o->h'.get? b=some o)(hn:H it=none)(hL:it≠X.env.locals)
  (h1:it∈X.ex∨X.sf.heap.objs.size<=it)(h2:∀x c,X.env.cells.lookup x=some c->c≠it)(h3:∀p∈X.pn++pins,p.1≠it):Inv X pins σ H { s with heap:=h',toks:=t' }:=by
 have nit:∀b u,H b=some u->b≠it:=λb u e z=>by rw[z,hn]at e;cases e
 refine I.step (g':=s.gens) (d':=s.drawn) (ch:=[it]) (λb hb=>?_) (λb o _ _ hc e _=>k b o (λz=>hc (by simp[z])) e) (λb o _ _ hc e _=>⟨o.slots,k b o (λz=>hc (by simp[z])) e⟩) (λ_ _ _ _ n=>n)
  (λb o hc e=>⟨o,k b o (λz=>hc (by simp[z])) e⟩) (λ_ _ e=>e) (λ_ _ _ e=>e) (λb ps e=>⟨#[],by rw[e];simp⟩) (λm hm=>?_) (λb u e=>?_) I.bare
 .have e:b=it:=by simpa using hb
  subst e;exact⟨h1,hL,h2,h3⟩
 .obtain⟨o,es,ep,ho,r⟩:=hm
  exact⟨o,es,ep,k _ o (Ne.symm hL) ho,r⟩
 .refine(I.hok b u e).stay (λc v hc q=>k c v ?_ q) (λ_ q=>q) λ_ _ q=>q
  rcases hc with z|z
  .rw[z];exact nit b u e
  .exact nit c _ z
def Inv.tok(I:Inv X pins σ H s)(t:Nat):Inv X pins σ H { s with toks:=t }:=I.un (h':=s.heap) (t':=t) Un.refl I.hok
def Inv.kept{t':Nat}(I:Inv X pins σ H s)(k:∀b u,s.heap.get? b=some u->h'.get? b=some u):Inv X pins σ H { s with heap:=h',toks:=t' }:=I.un (Un.kept k) (I.hok.kept k)
def Inv.laid{a:Addr}{o:HO}{t':Nat}(I:Inv X pins σ H s)(k:∀b u,s.heap.get? b=some u->h'.get? b=some u)(hp:s.heap.objs.size<=a)(new:br X.prog X.w (upd H a o) h' a o) :
  Inv X pins σ (upd H a o) { s with heap:=h',toks:=t' }:=I.un (Un.laid k hp (I.hok.fresh hp)) (I.hok.laid k hp new)
def Inv.write{x e:Addr}{o:HO}{t':Nat}(I:Inv X pins σ H s)(mu:HY (H x))(he:e=x∨H e=some (.own x))(k:∀b u,b≠e->s.heap.get? b=some u->h'.get? b=some u)(heo:∃u,h'.get? e=some u)
  (new:br X.prog X.w (upd H x o) h' x o):Inv X pins σ (upd H x o) { s with heap:=h',toks:=t' }:=I.un (Un.write mu he k heo) (I.hok.write mu he k heo new)
def Inv.pins_of{pins':List (Addr×Obj)}(I:Inv X pins σ H s)(h:∀p∈pins',s.heap.get? p.1=some p.2/\H p.1=none/\p.1≠X.env.locals/\p.1∉X.fs/\∀v,p.2.data≠.cell v):Inv X pins' σ H s :=
 ⟨I.ok,I.os,I.bare,I.base,I.loc,I.cell,I.free,I.freeC,λp hp=>(List.mem_append.mp hp).elim (λz=>I.pin p (List.mem_append_left _ z)) (h p),I.hok,I.len⟩
def m5{N:List Str}(hN:N.Nodup){i j:Nat}{x:Str}(a:N[i]?=some x)(b:N[j]?=some x):i=j:=by
 obtain⟨h1,e1⟩:=List.getElem?_eq_some_iff.mp a;obtain⟨h2,e2⟩:=List.getElem?_eq_some_iff.mp b;exact(List.getElem_inj hN).mp (e1.trans e2.symm)
def pd{M:Model}{A:Around}{E:Value->Shared->Prop}{i:Nat}{x:Str}{v:V}{u:Value}{Q:Unit->Shared->Prop}(I:Inv X pins σ H s)(hN:X.N.Nodup)(hi:X.N[i]?=some x)(hx:zp X.env.scope x)(r:bb v u)
  (h:∀s',Inv X pins (σ.set i (some v)) H s'->(∃a,Heap.SameBut a s.heap s'.heap/\(a=X.env.locals∨X.env.cells.lookup x=some a))->Q () s')(hf:X.fn x=true∨X.env.scope.names.lookup x=some .local := by first|exact .inl rfl|exact .inr rfl|assumption):wpAny M A (storeName X.env x u) Q E s:=by
 obtain⟨m,hn,hl⟩:=id I.loc;have hcls:(X.env.scope.kind==.class||(X.env.scope.kind==.module&&X.env.locals != X.env.globals))=false:=by rw[I.ok.kind];rfl
 have hiσ:i<σ.length:=by rw[I.len];exact(List.getElem?_eq_some_iff.mp hi).1
 have cne:=I.cne;have tracked:∀{a:Addr}{h':Heap},(∃o,s.heap.get? a=some o/\H a=none)->Heap.SameBut a s.heap h'->er X.prog X.w H h':=λ{a h'} ha hs b ob e=>by
  obtain⟨_,_,hfree⟩:=ha;refine(I.hok b ob e).stay (λc w' hc q=>(hs.2 c ?_).trans q) (λ_ q=>q) λ_ _ q=>q;rintro rfl;rcases hc with rfl|hc
  .rw[hfree]at e;cases e
  .rw[hfree]at hc;cases hc
 rcases hx with hk|hk
 .refine wpAny_storeName_local hk hn (λh' hn' hs=>?_) hcls
  obtain⟨oL,_,_,hoL,_⟩:=id hn;refine h _ ⟨I.ok,I.os,I.bare,⟨λb o e n hb hx=>?_,λb o e n hb hx=>?_,I.base.free,λb o e hx=>?_,I.base.tups,I.base.frzs,I.base.tbls⟩,⟨_,hn',λj y v' e1 e2 e3=>?_⟩,λy c e=>?_,I.free,I.freeC,λp hp=>?_,tracked ⟨oL,hoL,I.free⟩ hs,by simpa using I.len⟩ ⟨_,hs,.inl rfl⟩
  .exact(hs.2 b (Nat.ne_of_lt (Nat.lt_of_lt_of_le (Heap.lt_size e) I.ok.above))).trans (I.base.keep b o e n hb hx)
  .obtain⟨sl,e1⟩:=I.base.slot b o e n hb hx
   exact⟨sl,(hs.2 b (Nat.ne_of_lt (Nat.lt_of_lt_of_le (Heap.lt_size e) I.ok.above))).trans e1⟩
  .obtain⟨o',e1⟩:=I.base.there b o e hx
   exact⟨o',(hs.2 b (Nat.ne_of_lt (Nat.lt_of_lt_of_le (Heap.lt_size e) I.ok.above))).trans e1⟩
  .by_cases hj:j=i
   .subst hj
    rw[hi]at e1;cases e1;rw[List.getElem?_set_self hiσ]at e2;cases e2;exact⟨u,r,.inl ⟨hk,by simp⟩⟩
   .rw[List.getElem?_set_ne (Ne.symm hj)]at e2
    obtain⟨u',r',q⟩:=hl j y v' e1 e2 e3;refine⟨u',r',?_⟩;rcases q with⟨k,e⟩|⟨k,c,e,z⟩
    .refine .inl ⟨k,?_⟩
     have:y≠x:=λe=>hj (m5 hN e1 (e▸hi));simp[this,e]
    .exact .inr ⟨k,c,e,z.sameBut hs (cne y c e)⟩
  .obtain⟨w',z⟩:=I.cell y c e
   exact⟨w',z.sameBut hs (cne y c e)⟩
  .obtain⟨e,n,ne,nf,d⟩:=I.pin p hp
   exact⟨(hs.2 p.1 ne).trans e,n,ne,nf,d⟩
 .have hfn:X.fn x=true:=by
   rcases hf with z|z
   .exact z
   .rw[z]at hk;cases hk
  obtain⟨c,hc⟩:=I.ok.has x (.inl hk);obtain⟨w',z⟩:=I.cell x c hc;refine wpAny_storeName_cell I.ok.kind hk hc z (λh' hc' hs=>?_);obtain⟨oc,hoc,hocd⟩:=id z;refine h { s with heap:=h' } ⟨I.ok,I.os,I.bare,⟨λb o e n hb hx=>?_,λb o e n hb hx=>?_,I.base.free,λb o e hx=>?_,I.base.tups,I.base.frzs,I.base.tbls⟩,⟨m,hn.sameBut hs (Ne.symm (cne x c hc)),λj y v' e1 e2 e3=>?_⟩,λy c' e=>?_,I.free,I.freeC,λp hp=>?_,tracked ⟨oc,hoc,I.freeC x c hc⟩ hs,by simpa using I.len⟩ ⟨c,hs,.inr hc⟩
  .exact(hs.2 b (Nat.ne_of_lt (Nat.lt_of_lt_of_le (Heap.lt_size e) (I.ok.cab x c hfn hc)))).trans (I.base.keep b o e n hb hx)
  .obtain⟨sl,e1⟩:=I.base.slot b o e n hb hx
   exact⟨sl,(hs.2 b (Nat.ne_of_lt (Nat.lt_of_lt_of_le (Heap.lt_size e) (I.ok.cab x c hfn hc)))).trans e1⟩
  .obtain⟨o',e1⟩:=I.base.there b o e hx
   exact⟨o',(hs.2 b (Nat.ne_of_lt (Nat.lt_of_lt_of_le (Heap.lt_size e) (I.ok.cab x c hfn hc)))).trans e1⟩
  .by_cases hj:j=i
   .subst hj
    rw[hi]at e1;cases e1;rw[List.getElem?_set_self hiσ]at e2;cases e2;exact⟨u,r,.inr ⟨.inl hk,c,hc,hc'⟩⟩
   .rw[List.getElem?_set_ne (Ne.symm hj)]at e2
    obtain⟨u',r',q⟩:=hl j y v' e1 e2 e3;refine⟨u',r',?_⟩;rcases q with q|⟨k,c',e,z'⟩
    .exact .inl q
    .refine .inr ⟨k,c',e,z'.sameBut hs ?_⟩
     rintro rfl;exact hj (m5 hN e1 (I.ok.inj _ _ _ e hc▸hi))
  .by_cases hcc:c'=c
   .subst hcc;exact⟨_,hc'⟩
   .obtain⟨w2,z2⟩:=I.cell y c' e
    exact⟨w2,z2.sameBut hs hcc⟩
  .obtain⟨e,n,ne,nf,d⟩:=I.pin p hp
   refine⟨(hs.2 p.1 ?_).trans e,n,ne,nf,d⟩;intro q;rw[q,hoc]at e;have q':oc=p.2:=Option.some.inj e;exact d w' (by rw[←q'];exact hocd)
def gk{M:Model}{A:Around}{E:Value->Shared->Prop}{i:Nat}{x:Str}{v:V}{u:Value}{Q:Unit->Shared->Prop}(I:Inv X pins σ H s)(hN:X.N.Nodup)(hi:X.N[i]?=some x)(hx:zp X.env.scope x)(r:bb v u)
  (h:∀s',Inv X pins (σ.set i (some v)) H s'->Q () s')(hf:X.fn x=true∨X.env.scope.names.lookup x=some .local := by first|exact .inl rfl|exact .inr rfl|assumption):wpAny M A (storeName X.env x u) Q E s :=
 pd I hN hi hx r (λs' I' _=>h s' I') hf
def Inv.call'{s':Shared}{ch:List Addr}(I:Inv X pins σ H s)(ho:s'.os=s.os)(u:Un (eQ X.stack) ch H H' s.heap s'.heap)(hok:er X.prog X.w H' s'.heap)(hg:AllBare s'.gens)
  (hch:∀b∈ch,(b∈X.ex∨X.sf.heap.objs.size<=b)/\b≠X.env.locals/\(∀x c,X.env.cells.lookup x=some c->c≠b)/\∀p∈X.pn++pins,p.1≠b):Inv X pins σ H' s':=by
 obtain⟨h',g',d',t',o'⟩:=s';have e:o'=s.os:=ho;subst e;exact I.call (g':=g') (t':=t') (d':=d') u hok hg hch
end
abbrev XK:=Value->Option Addr->Hp->Prop
abbrev St:=List (Option V)
abbrev VK:=V->Hp->Prop
abbrev TE:=St->Hp->VK->Prop
abbrev TT:=St->Hp->(Bool->Hp->Prop)->Prop
abbrev TA:=St->Hp->(al->Hp->Prop)->Prop
structure fK where
 nx:St->Hp->Prop
 rt:VK
 bk:St->Hp->Prop:=λ_ _=>False
 ct:St->Hp->Prop:=λ_ _=>False
abbrev TS:=fK->St->Hp->Prop
def EP(X:Cx)(pins:List (Addr×Obj))(σ:St)(Q:VK)(u:Value)(s':Shared):Prop:=∃v H',Inv X pins σ H' s'/\bb v u/\Q v H'
def TP(X:Cx)(pins:List (Addr×Obj))(σ:St)(Q:Bool->Hp->Prop)(b:Bool)(s':Shared):Prop:=∃H',Inv X pins σ H' s'/\Q b H'
def AP(X:Cx)(pins:List (Addr×Obj))(σ:St)(Q:al->Hp->Prop)(us:List Value)(s':Shared):Prop:=∃vs H',Inv X pins σ H' s'/\bj vs us/\Q vs H'
noncomputable def SP(X:Cx) (pins:List (Addr×Obj)) (D:fK) (f:Flow) (s':Shared):Prop :=
 match f with
 |.next=>∃σ' H',Inv X pins σ' H' s'/\D.nx σ' H'
 |.brk=>∃σ' H',Inv X pins σ' H' s'/\D.bk σ' H'
 |.cont=>∃σ' H',Inv X pins σ' H' s'/\D.ct σ' H'
 |.ret u=>∃v σ' H',Inv X pins σ' H' s'/\bb v u/\D.rt v H'
def PE(X:Cx)(e:Expr)(t:TE):Prop :=
 ∀(pins:List (Addr×Obj)) (s:Shared) (σ:St) (H:Hp) (Q:VK),Inv X pins σ H s->t σ H Q->wpAny (model X.prog X.w) X.A (eval e X.env) (EP X pins σ Q) X.xe s
def PT(X:Cx)(e:Expr)(t:TT):Prop :=
 ∀(pins:List (Addr×Obj)) (s:Shared) (σ:St) (H:Hp) (Q:Bool->Hp->Prop),Inv X pins σ H s->t σ H Q->wpAny (model X.prog X.w) X.A (isTrue e X.env (eval e X.env)) (TP X pins σ Q) X.xe s
def PW(X:Cx)(e:Expr)(t:TT):Prop :=
 ∀(whole:Sem Value) (pins:List (Addr×Obj)) (s:Shared) (σ:St) (H:Hp) (Q:Bool->Hp->Prop),Inv X pins σ H s->t σ H Q->wpAny (model X.prog X.w) X.A (isTrue e X.env whole) (TP X pins σ Q) X.xe s
def PW.pt{X:Cx}{e:Expr}{t:TT}(h:PW X e t):PT X e t:=h _
def PA(X:Cx)(es:List Expr)(t:TA):Prop :=
 ∀(pos:Pos) (pins:List (Addr×Obj)) (s:Shared) (σ:St) (H:Hp) (Q:al->Hp->Prop),Inv X pins σ H s->t σ H Q->wpAny (model X.prog X.w) X.A (spliced (backTo pos (starEach es X.env))) (AP X pins σ Q) X.xe s
def PS(X:Cx)(st:Stmt)(t:TS):Prop :=
 ∀(pins:List (Addr×Obj)) (s:Shared) (σ:St) (H:Hp) (D:fK),Inv X pins σ H s->t D σ H->wpAny (model X.prog X.w) X.A (exec st X.env) (SP X pins D) X.xe s
def uG(X:Cx)(st:List Stmt)(t:TS):Prop :=
 ∀(pins:List (Addr×Obj)) (s:Shared) (σ:St) (H:Hp) (D:fK),Inv X pins σ H s->t D σ H->wpAny (model X.prog X.w) X.A (execs st X.env) (SP X pins D) X.xe s
def cA{α:Type}{t:Sem α}{Q Q':α->Shared->Prop}{M:Model}{A:Around}{E:Value->Shared->Prop}{s:Shared}(h:wpAny M A t Q E s)(hQ:∀a s,Q a s->Q' a s):wpAny M A t Q' E s:=wpAny_mono h hQ λ_ _ x=>x
section
variable {X:Cx}
def KL(i:Nat):TE:=λσ H Q=>∃v,σ[i]?=some (some v)/\Q v H
def tC(v:V):TE:=λ_ H Q=>Q v H
def fX{i:Nat}{x:Str}{pos:Pos}(hN:X.N[i]?=some x)(hv:zg X.env.scope x)(hd:(x==("__debug__":Str))=false:=by decide)(hcd:(x==("__classdict__":Str))=false:=by decide):PE X (.Name x pos) (KL i):=by
 intro pins s σ H Q I h;obtain⟨v,e,h⟩:=h;obtain⟨m,hn,hl⟩:=I.loc;obtain⟨u,r,l⟩:=hl i x v hN e hv;have fin:EP X pins σ Q u s:=⟨v,H,I,r,h⟩
 rcases l with⟨hk,hm⟩|⟨hk,c,hc,hcell⟩
 .exact wpAny_Name (wpAny_loadName_local I.ok.kind hk hn hm fin) hd
 .rcases hk with hk|hk
  .exact wpAny_Name (wpAny_loadName_cell I.ok.kind hk hc hcell fin) hd
  .exact wpAny_Name (wpAny_loadName_free I.ok.kind hk hc hcell fin hcd) hd
def vj{i j pos}:PE X (.Constant (.int i) j pos) (tC (.int i)):=λ_ _ _ H _ I h=>wpAny_Constant_int ⟨.int i,H,I.tok _,⟨_,rfl⟩,h⟩
def Jc{b j pos}:PE X (.Constant (.bool b) j pos) (tC (.bl b)):=λ_ _ _ H _ I h=>Constant_bool ⟨.bl b,H,I,rfl,h⟩
def Aw{j pos}:PE X (.Constant .none j pos) (tC .non):=λ_ _ _ H _ I h=>Constant_none ⟨.non,H,I,rfl,h⟩
def Gm{x j pos}:PE X (.Constant (.str x) j pos) (tC (.str x)):=λ_ _ _ H _ I h=>Calls.Constant_str ⟨.str x,H,I.tok _,⟨_,rfl⟩,h⟩
def Gl(X:Cx)(x:Str):Prop:=X.env.kindOf x=some .globalImplicit
def fN{E:Value->Shared->Prop}{pins:List (Addr×Obj)}{s:Shared}{σ:St}{H:Hp}{x:Str}{u:Value}{pos:Pos}{Q:Value->Shared->Prop}(I:Inv X pins σ H s)(hg:Gl X x)(hm:X.mg x=some u)(h:Q u s)
  (hd:(x==("__debug__":Str))=false:=by decide):wpAny (model X.prog X.w) X.A (eval (.Name x pos) X.env) Q E s :=
 Calls.Name_function_global I.ok.kind hg (Calls.loadGlobal_global (by rw[I.ok.glob];exact I.mod.glob.keeps I.bk) hm h) hd
def jN{E:Value->Shared->Prop}{pins:List (Addr×Obj)}{s:Shared}{σ:St}{H:Hp}{x:Str}{u:Value}{pos:Pos}{Q:Value->Shared->Prop}(I:Inv X pins σ H s)(hg:Gl X x)(hm:X.mg x=none)(hv:bootBuiltins x=some u)(h:Q u s)
  (hn:x≠"__name__":=by decide)(hd:(x==("__debug__":Str))=false:=by decide):wpAny (model X.prog X.w) X.A (eval (.Name x pos) X.env) Q E s:=by
 obtain⟨mb,h1,h2⟩:=I.mod.blt;exact Calls.Name_function_global I.ok.kind hg (Calls.loadGlobal_builtin (by rw[I.ok.glob];exact I.mod.glob.keeps I.bk) hm (by rw[I.ok.blt];exact h1.keeps I.bk) ((h2 x hn).trans hv) h) hd
def qG{x:Str}{v:V}{u:Value}{pos:Pos}(hg:Gl X x)(hm:X.mg x=some u)(r:bb v u)(hd:(x==("__debug__":Str))=false:=by decide):PE X (.Name x pos) (tC v) :=
 λ_ _ _ H _ I h=>fN I hg hm ⟨v,H,I,r,h⟩ hd
def qH{x:Str}{v:V}{u:Value}{pos:Pos}(hg:Gl X x)(hm:X.mg x=none)(hv:bootBuiltins x=some u)(r:bb v u)(hn:x≠"__name__":=by decide)(hd:(x==("__debug__":Str))=false:=by decide):PE X (.Name x pos) (tC v) :=
 λ_ _ _ H _ I h=>jN I hg hm hv ⟨v,H,I,r,h⟩ hn hd
variable {a b:Expr}{ta tb:TE}{pos:Pos}
noncomputable def PC(X:Cx) (op:CmpOp) (a b:Expr) (t:TE):Prop :=
 ∀(pins:List (Addr×Obj)) (s:Shared) (σ:St) (H:Hp) (Q:VK),Inv X pins σ H s->t σ H Q ->
  wpAny (model X.prog X.w) X.A (eval a X.env) (λv sg=>wpAny (model X.prog X.w) X.A (eval b X.env) (λu si=>wpAny (model X.prog X.w) X.A (compareOp op v u) (EP X pins σ Q) X.xe si) X.xe sg) X.xe s
def AJ(b:Expr){op:CmpOp}(h:op≠.In)(h2:op≠.NotIn):behindInMarks op b=false:=by
 have e1:(op==CmpOp.In)=false:=by cases op<;>first|rfl|exact absurd rfl h
 have e2:(op==CmpOp.NotIn)=false:=by cases op<;>first|rfl|exact absurd rfl h2
 cases b<;>simp[behindInMarks,e1,e2]
def tB(t:TE):TT:=λσ H Q=>t σ H λx H1=>∃c,x=.bl c/\Q c H1
def Ge{e:Expr}{t:TE}(h:PE X e t)(he:∀whole,isTrue e X.env whole=(do let v ←whole;standAt e.pos;holding [v] (truthy v)):=by intro _;rfl):PT X e (tB t):=by
 intro pins s σ H Q I hw;refine isTrue_plain (cA (h pins s σ H _ I hw) λv s1 z9=>?_) (he _);obtain⟨x,H1,I1,r1,q1⟩:=z9;obtain⟨d,rfl,q⟩:=q1;cases r1;exact wpAny_truthy_bool ⟨H1,I1,q⟩
variable {tA tB':TT}{rest:List Expr}
def K2(t u:TT):TT:=λσ H Q=>t σ H λc H1=>if c=true then u σ H1 Q else Q false H1
def LY(t u:TT):TT:=λσ H Q=>t σ H λc H1=>if c=true then Q true H1 else u σ H1 Q
def KS(t:TT):TT:=λσ H Q=>t σ H λc H1=>Q (!c) H1
def CO(ha:PT X a tA):PW X (.BoolOp .And [a] pos) tA:=by
 intro wh pins s σ H Q I h;refine isTrue_and (cA (ha pins s σ H Q I h) λc s1 e=>?_);cases c with|true=>exact isTrue_and_nil e|false=>exact e
def Ga(ha:PT X a tA):PW X (.BoolOp .Or [a] pos) tA:=by
 intro wh pins s σ H Q I h;refine isTrue_or (cA (ha pins s σ H Q I h) λc s1 e=>?_);cases c with|false=>exact isTrue_or_nil e|true=>exact e
def Gb(ha:PT X a tA)(hb:PW X (.BoolOp .And (b::rest) pos) tB'):PW X (.BoolOp .And (a::b::rest) pos) (K2 tA tB'):=by
 intro wh pins s σ H Q I h;refine isTrue_and (cA (ha pins s σ H _ I h) λc s1 z9=>?_);obtain⟨H1,I1,q1⟩:=z9;cases c with|true=>exact hb wh pins s1 σ H1 Q I1 q1|false=>exact⟨H1,I1,q1⟩
def IT(ha:PT X a tA)(hb:PW X (.BoolOp .Or (b::rest) pos) tB'):PW X (.BoolOp .Or (a::b::rest) pos) (LY tA tB'):=by
 intro wh pins s σ H Q I h;refine isTrue_or (cA (ha pins s σ H _ I h) λc s1 z9=>?_);obtain⟨H1,I1,q1⟩:=z9;cases c with|true=>exact⟨H1,I1,q1⟩|false=>exact hb wh pins s1 σ H1 Q I1 q1
def Gf(ha:PT X a tA):PT X (.UnaryOp .Not a pos) (KS tA):=by
 intro pins s σ H Q I h;exact isTrue_not (ha pins s σ H (λc H1=>Q (!c) H1) I h)
def ID(ta tb:TE):TE:=λσ H Q=>ta σ H λx H1=>∃c,x=.bl c/\if c=true then tb σ H1 Q else Q (.bl false) H1
def KR(ta tb:TE):TE:=λσ H Q=>ta σ H λx H1=>∃c,x=.bl c/\if c=true then Q (.bl true) H1 else tb σ H1 Q
def Iu(ta:TE):TE:=λσ H Q=>ta σ H λx H1=>∃c,x=.bl c/\Q (.bl (!c)) H1
def Gn{op}{t:TE}(h:PE X a t):PE X (.BoolOp op [a] pos) t:=λpins s σ H Q I hw=>BoolOp_one (h pins s σ H Q I hw)
def Gr(ha:PE X a ta)(hb:PE X (.BoolOp .And (b::rest) pos) tb):PE X (.BoolOp .And (a::b::rest) pos) (ID ta tb):=by
 intro pins s σ H Q I h;refine BoolOp_and (cA (ha pins s σ H _ I h) λv s1 ⟨x,H1,I1,r1,q1⟩=>?_);obtain⟨c,rfl,q1⟩:=q1;cases r1;refine wpAny_truthy_bool ?_;cases c with|true=>exact hb pins s1 σ H1 Q I1 q1|false=>exact⟨.bl false,H1,I1,rfl,q1⟩
def Jb(ha:PE X a ta)(hb:PE X (.BoolOp .Or (b::rest) pos) tb):PE X (.BoolOp .Or (a::b::rest) pos) (KR ta tb):=by
 intro pins s σ H Q I h;refine BoolOp_or (cA (ha pins s σ H _ I h) λv s1 ⟨x,H1,I1,r1,q1⟩=>?_);obtain⟨c,rfl,q1⟩:=q1;cases r1;refine wpAny_truthy_bool ?_;cases c with|false=>exact hb pins s1 σ H1 Q I1 q1|true=>exact⟨.bl true,H1,I1,rfl,q1⟩
def Gp(ha:PE X a ta):PE X (.UnaryOp .Not a pos) (Iu ta):=by
 intro pins s σ H Q I h;refine UnaryOp_ (cA (ha pins s σ H _ I h) λv s1 z9=>?_);obtain⟨x,H1,I1,r1,q1⟩:=z9;obtain⟨c,rfl,q1⟩:=q1;cases r1;exact not_of (wpAny_truthy_bool ⟨.bl (!c),H1,I1,rfl,q1⟩)
end
def eh(K:W.Frag)(H:Hp)(a:Addr)(xs:al):Prop :=
 Rd H a (.lst xs) ∨
  ∃(o:Obj) (its:Array Value) (n:Nat),K.lookup a=some o/\o.cls=.type "list"/\o.dict=none/\o.data=.seq its n/\its.size<=sizeLine/\bj xs its.toList
def ip(K:W.Frag)(H:Hp)(a:Addr)(xs:al):Prop :=
 Rd H a (.tup xs) ∨
  ∃(o:Obj) (its:Array Value) (n:Nat),K.lookup a=some o/\o.cls=.type "tuple"/\o.data=.seq its n/\its.size<=sizeLine/\bj xs its.toList
def Ln:Value->Option V
 |.none=>some .non
 |.bool b=>some (.bl b)
 |.int i _=>some (.int i)
 |.str x _=>some (.str x)
 |.bytes b _=>some (.byt b)
 |.float b _=>some (.flt b)
 |.ref a=>some (.ref a)
 |.type n=>some (.ty n)
 |_=>none
def bb.abs{x:V}{u:Value}(r:bb x u):Ln u=some x:=by
 cases x with|non|bl _=>cases r;rfl|int _|str _|byt _|flt _=>obtain⟨t,rfl⟩:=r;rfl|ref _|ty _=>cases r;rfl
def bb.inj{x y:V}{u:Value}(r:bb x u)(q:bb y u):x=y:=Option.some.inj (r.abs.symm.trans q.abs)
theorem bj.inj:∀{xs ys:al}{us:List Value},bj xs us->bj ys us->xs=ys
 |_,_,_,.nil,.nil=>rfl
 |_,_,_,.cons r t,.cons r' t'=>by rw[r.inj r',bj.inj t t']
section
variable {X:Cx}{pins:List (Addr×Obj)}{σ:St}{H:Hp}{s:Shared}{a:Addr}{xs ys:al}
def eh.of{K:W.Frag}(h:H a=some (.lst xs)):eh K H a xs:=.inl (.inl h)
def ip.of{K:W.Frag}(h:H a=some (.tup xs)):ip K H a xs:=.inl (.inl h)
def Inv.list(I:Inv X pins σ H s)(h:eh X.K H a xs):∃its:List Value,bj xs its/\PlainL s.heap a its.toArray/\xs.length<=sizeLine:=by
 rcases h with h|⟨o,its,n,hk,hc,hd,hs,hz,r⟩
 .obtain⟨z,its,n,r,e⟩:=h.ok I.hok
  exact⟨its,r,⟨_,n,e,rfl,rfl,rfl⟩,z⟩
 .refine⟨its.toList,r,⟨o,n,I.kIn a o hk,hc,hd,by simpa using hs⟩,?_⟩
  have e:=r.length;simp only[Array.length_toList]at e;omega
def Inv.tuple(I:Inv X pins σ H s)(h:ip X.K H a xs):∃its:List Value,bj xs its/\IsTup s.heap a its.toArray/\xs.length<=sizeLine:=by
 rcases h with h|⟨o,its,n,hk,hc,hs,hz,r⟩
 .obtain⟨z,its,r,p⟩:=h.ok I.hok
  exact⟨its,r,p,z⟩
 .refine⟨its.toList,r,⟨o,I.kIn a o hk,hc,n,by simpa using hs⟩,?_⟩
  have e:=r.length;simp only[Array.length_toList]at e;omega
def Inv.list_inj(I:Inv X pins σ H s)(h:eh X.K H a xs)(h':eh X.K H a ys):xs=ys:=by
 obtain⟨its,r,⟨o,n,e,_,_,d⟩,_⟩:=I.list h;obtain⟨its',r',⟨o',n',e',_,_,d'⟩,_⟩:=I.list h';rw[e]at e';cases e';rw[d]at d';injection d' with d1 _;have:its=its':=by simpa using congrArg Array.toList d1
 subst this;exact r.inj r'
def Inv.tuple_inj(I:Inv X pins σ H s)(h:ip X.K H a xs)(h':ip X.K H a ys):xs=ys:=by
 obtain⟨its,r,⟨o,e,_,n,d⟩,_⟩:=I.tuple h;obtain⟨its',r',⟨o',e',_,n',d'⟩,_⟩:=I.tuple h';rw[e]at e';cases e';rw[d]at d';injection d' with d1 _;have:its=its':=by simpa using congrArg Array.toList d1
 subst this;exact r.inj r'
end
abbrev Cx.wish(X:Cx)(E:Value->Shared->Prop):Cx:={ X with xe:=E }
abbrev Cx.nox(X:Cx):Cx:=X.wish λ_ _=>False
def Cx.Ok.wish{X:Cx}(ok:X.Ok)(E:Value->Shared->Prop):(X.wish E).Ok :=
 ⟨ok.mod,ok.kind,ok.glob,ok.blt,ok.above,ok.inj,ok.has,ok.cab,ok.hd,ok.frames,ok.stk,ok.exf,ok.bs,ok.bsz,ok.noex,ok.exfs,ok.funs,ok.frf⟩
def Cx.Ok.unwish{X:Cx}{E:Value->Shared->Prop}(ok:(X.wish E).Ok):X.Ok :=
 ⟨ok.mod,ok.kind,ok.glob,ok.blt,ok.above,ok.inj,ok.has,ok.cab,ok.hd,ok.frames,ok.stk,ok.exf,ok.bs,ok.bsz,ok.noex,ok.exfs,ok.funs,ok.frf⟩
section
variable {X:Cx}{pins:List (Addr×Obj)}{σ:St}{H:Hp}{s:Shared}{E:Value->Shared->Prop}
def Inv.wish(I:Inv X pins σ H s)(E:Value->Shared->Prop):Inv (X.wish E) pins σ H s:=⟨I.ok.wish E,I.os,I.bare,I.base,I.loc,I.cell,I.free,I.freeC,I.pin,I.hok,I.len⟩
def Inv.unwish(I:Inv (X.wish E) pins σ H s):Inv X pins σ H s:=⟨I.ok.unwish,I.os,I.bare,I.base,I.loc,I.cell,I.free,I.freeC,I.pin,I.hok,I.len⟩
def SP.unwish{D:fK}{f:Flow}{s':Shared}(h:SP (X.wish E) pins D f s'):SP X pins D f s':=by
 cases f with|next|brk|cont=>obtain⟨σ',H',I,q⟩:=h;exact⟨σ',H',I.unwish,q⟩|ret u=>obtain⟨v,σ',H',I,r,q⟩:=h;exact⟨v,σ',H',I.unwish,r,q⟩
def uG.nox{st:List Stmt}{t:TS}(h:uG X.nox st t):uG X st t:=λpins s σ H D I hw=>
 wpAny_mono (h pins s σ H D (I.wish _) hw) (λ_ _ q=>q.unwish) λ_ _ z=>False.elim z
end
section
variable {X:Cx}{st:Stmt}{rest:List Stmt}{t u:TS}{e:Expr}{te:TE}{pos:Pos}
def Iv:TS:=λD σ H=>D.nx σ H
def KO(t u:TS):TS:=λD σ H=>t { D with nx:=u D } σ H
def wL:uG X [] Iv:=λ_ _ σ H _ I h=>wpAny_execs_nil ⟨σ,H,I,h⟩
def gu(h1:PS X st t)(h2:uG X rest u):uG X (st::rest) (KO t u):=by
 intro pins s σ H D I h;refine wpAny_execs_cons (cA (h1 pins s σ H { D with nx:=u D } I h) λf s1 q=>?_);cases f with
 |next=>
  obtain⟨σ',H',I',q⟩:=q;exact h2 pins s1 σ' H' D I' q
 |ret v|brk|cont=>exact q
def Inv.quiet{pins:List (Addr×Obj)}{σ:St}{H:Hp}{s:Shared}(I:Inv X pins σ H s):interactive X.env=false:=by simp[interactive,I.ok.kind]
def Iw(te:TE):TS:=λD σ H=>te σ H λ_ H1=>D.nx σ H1
def jX(he:PE X e te)(hs:swapsWith e none pos.line X.env=pure false:=by rfl):PS X (.Expr e pos) (Iw te):=by
 intro pins s σ H D I h;exact wpAny_Expr_any (cA (he pins s σ H _ I h) λv s1 ⟨x,H1,I1,r1,q1⟩=>⟨σ,H1,I1,q1⟩) I.quiet hs
def KP(te:TE):TS:=λD σ H=>te σ H D.rt
def Gg(he:PE X e te):PS X (.Return (some e) pos) (KP te):=by
 intro pins s σ H D I h;exact wpAny_Return_some (cA (he pins s σ H _ I h) λv s1 ⟨x,H1,I1,r1,q1⟩=>⟨x,σ,H1,I1,r1,q1⟩)
def KY(c:TT)(t u:TS):TS:=λD σ H=>c σ H λb H1=>if b=true then t D σ H1 else u D σ H1
def IW{c:Expr}{a b:List Stmt}{tc:TT}(hc:PT X c tc)(ha:uG X a t)(hb:uG X b u):PS X (.If c a b pos) (KY tc t u):=by
 intro pins s σ H D I h;refine wpAny_If (cA (hc pins s σ H _ I h) λd s1 z9=>?_);obtain⟨H1,I1,q1⟩:=z9;cases d with|true=>exact ha pins s1 σ H1 D I1 q1|false=>exact hb pins s1 σ H1 D I1 q1
end
abbrev TG:=V->St->Hp->(St->Hp->Prop)->Prop
abbrev B7:=al->St->Hp->(St->Hp->Prop)->Prop
noncomputable def PG(X:Cx) (target:Expr) (t:TG):Prop :=
 ∀(pins:List (Addr×Obj)) (s:Shared) (σ:St) (H:Hp) (v:V) (u:Value) (Q:St->Hp->Prop),Inv X pins σ H s->bb v u->t v σ H Q ->
  wpAny (model X.prog X.w) X.A (assign target X.env u) (λ_ s'=>∃σ' H',Inv X pins σ' H' s'/\Q σ' H') X.xe s
noncomputable def zo(X:Cx) (ts:List Expr) (t:B7):Prop :=
 ∀(pins:List (Addr×Obj)) (s:Shared) (σ:St) (H:Hp) (vs:al) (us:List Value) (Q:St->Hp->Prop),Inv X pins σ H s->bj vs us->t vs σ H Q ->
  wpAny (model X.prog X.w) X.A (assignInOrder ((assignEach ts X.env).map (·.2)) us) (λ_ s'=>∃σ' H',Inv X pins σ' H' s'/\Q σ' H') X.xe s
section
variable {X:Cx}{pos:Pos}
def Ba(i:Nat):TG:=λv σ H Q=>Q (σ.set i (some v)) H
def wO{i:Nat}{x:Str}(hN:X.N.Nodup)(hi:X.N[i]?=some x)(hx:zp X.env.scope x)(hf:X.fn x=true∨X.env.scope.names.lookup x=some .local := by first|exact .inl rfl|exact .inr rfl|assumption):PG X (.Name x pos) (Ba i):=by
 intro pins s σ H v u Q I r h;exact wpAny_assign_Name (gk I hN hi hx r (λs' I'=>⟨_,H,I',h⟩) hf)
def Lg:B7:=λvs σ H Q=>vs=[]/\Q σ H
def JC(t:TG)(u:B7):B7:=λvs σ H Q=>∃v r,vs=v::r/\t v σ H λσ' H'=>u r σ' H' Q
def C3:zo X [] Lg:=by
 intro pins s σ H vs us Q I r h;obtain⟨e,h⟩:=h;subst e;cases r;exact assignInOrder_nil ⟨σ,H,I,h⟩
def As{e:Expr}{es:List Expr}{t:TG}{u:B7}(h1:PG X e t)(h2:zo X es u)
  (hs:(assignEach (e::es) X.env).map (·.2)=assign e X.env::(assignEach es X.env).map (·.2):=by rfl):zo X (e::es) (JC t u):=by
 intro pins s σ H vs us Q I r h;obtain⟨v,vr,e1,h⟩:=h;subst e1;cases r with
 |cons r rr=>
  rw[hs];refine assignInOrder_cons (cA (h1 pins s σ H _ _ _ I r h) λ_ s1 z9=>?_);obtain⟨σ1,H1,I1,q1⟩:=z9;exact h2 pins s1 σ1 H1 _ _ Q I1 rr q1
def Lf(K:W.Frag)(n:Nat)(t:B7):TG:=λv σ H Q=>∃a xs,v=.ref a/\ip K H a xs/\xs.length=n/\t xs σ H Q
def Gj{es:List Expr}{k:Nat}{t:B7}{n:Nat}(hc:X.calm=true)(h:zo X es t)
  (hn:(assignEach es X.env).length=n:=by rfl)(hst:(assignEach es X.env).findIdx? (·.1)=none:=by rfl):PG X (.Tuple es k pos) (Lf X.K n t):=by
 intro pins s σ H v u Q I r hw;obtain⟨a,xs,e1,hq,hl,hw⟩:=hw;subst e1;cases r;obtain⟨its,rv,ht,hz⟩:=I.tuple hq;refine assign_Tuple_tuple (I.ok.hd hc) ht (by simp[hn,←hl,rv.length]) hst λh' hx=>?_;have I1:Inv X pins σ H { s with heap:=h' }:=I.kept (t':=s.toks) λb o e=>hx b o (Nat.ne_of_lt (Heap.lt_size e)) e;exact h pins _ σ H xs _ Q I1 (by simpa using rv) hw
def IC(te:TE)(g:TG):TS:=λD σ H=>te σ H λx H1=>g x σ H1 D.nx
def qE{i:Nat}{x:Str}{e:Expr}{te:TE}{pos':Pos}(hN:X.N.Nodup)(hi:X.N[i]?=some x)(hx:zp X.env.scope x)(he:PE X e te)(hs:swapsWith e (some (.Name x pos')) pos.line X.env=pure false:=by rfl)(hf:X.fn x=true∨X.env.scope.names.lookup x=some .local := by first|exact .inl rfl|exact .inr rfl|assumption) :
  PS X (.Assign [.Name x pos'] e pos) (IC te (Ba i)):=by
 intro pins s σ H D I h;refine wpAny_Assign_Name (cA (he pins s σ H _ I h) λv s1 z9=>?_) hs;obtain⟨y,H1,I1,r1,q1⟩:=z9;exact gk I1 hN hi hx r1 (λs2 I2=>⟨_,H1,I2,q1⟩) hf
def KQ(i j:Nat)(ta:TA):TS:=λD σ H=>ta σ H λvs H1=>∃v w,vs=[v,w]/\D.nx ((σ.set i (some v)).set j (some w)) H1
def Gh{i j:Nat}{x y:Str}{a b:Expr}{ta:TA}{px py pt:Pos}{kt k2 pt2}(hc:X.calm=true)(hN:X.N.Nodup)(hi:X.N[i]?=some x)(hj:X.N[j]?=some y)(hij:i≠j)
  (hx:X.env.scope.names.lookup x=some .local)(hy:X.env.scope.names.lookup y=some .local)(ha:PA X [a,b] ta)
  (hw:swappedStores [.Tuple [.Name x px,.Name y py] kt pt] (.Tuple [a,b] k2 pt2) X.env=pure (some [x,y]))
  (hs:swapsWithSole [.Tuple [.Name x px,.Name y py] kt pt] (.Tuple [a,b] k2 pt2) pos.line X.env=pure false:=by rfl) :
  PS X (.Assign [.Tuple [.Name x px,.Name y py] kt pt] (.Tuple [a,b] k2 pt2) pos) (KQ i j ta):=by
 intro pins s σ H D I h;rw[exec_Assign_arm];refine wpAny_bind (wpAny_standAt ?_);rw[hs];refine wpAny_bind (wpAny_pure ?_);rw[if_neg (by decide)];refine wpAny_bind (Tuple_ (cA (ha _ pins s σ H _ I h) λus s1 z9=>?_));obtain⟨vs,H1,I1,r1,q1⟩:=z9;obtain⟨v,w,e1,q1⟩:=q1;subst e1;obtain⟨u1,u2,rfl,rv,rw'⟩:∃u1 u2,us=[u1,u2]/\bb v u1/\bb w u2:=by
  cases r1 with
  |cons p q=>
   cases q with
   |cons p' q'=>
    cases q';exact⟨_,_,rfl,p,p'⟩
 refine wpAny_newObj_type ?_ (by show 2<=sizeLine;decide);have I2:Inv X pins σ H1 { s1 with heap:=s1.heap.push { cls:=.type "tuple",data:=.seq [u1,u2].toArray } }:=I1.kept (t':=s1.toks) λb o e=>Heap.get?_push_of_some _ e;rw[hw];refine wpAny_bind (wpAny_pure ?_);show wpAny (model X.prog X.w) X.A (do rule "assign.swapped-stores";let items ←unpackItems (.ref s1.heap.objs.size) 2 none;assignInOrder [λv=>bindName X.env y v,λv=>bindName X.env x v] items.reverse;pure Flow.next) _ _ _;refine wpAny_bind (wpAny_rule (wpAny_bind (unpackItems_tuple (items:=#[u1,u2]) (I.ok.hd hc) (IsTup.new s1.heap _) λh' hx'=>?_)));have I3:=I2.kept (h':=h') (t':=s1.toks) λb o e=>hx' b o (Nat.ne_of_lt (Heap.lt_size e)) e;show wpAny _ _ (assignInOrder [λv=>bindName X.env y v,λv=>bindName X.env x v] [u2,u1] >>= λ_=>pure Flow.next) _ _ _;refine wpAny_bind (assignInOrder_cons (wpAny_bindName (gk I3 hN hj (.inl hy) rw' (λs2 I4=>?_) (.inr hy))));refine assignInOrder_cons (wpAny_bindName (gk I4 hN hi (.inl hx) rv (λs3 I5=>assignInOrder_nil (wpAny_pure ?_)) (.inr hx)));rw[List.set_comm _ _ (Ne.symm hij)]at I5;exact⟨_,H1,I5,q1⟩
end
section
variable {X:Cx}{pos:Pos}
def FY(c:TT)(tb:TS):TS:=λD σ H=>∃W:Nat->St->Hp->Prop,(∃m,W m σ H)/\∀m σ H,W m σ H ->
 c σ H λb H1=>if b=true then ∃N:St->Hp->Prop,(∀σ' H',N σ' H'->∃m',m' < m/\W m' σ' H')/\tb { D with nx:=N,ct:=N,bk:=D.nx } σ H1 else D.nx σ H1
def Ap{c:Expr}{body:List Stmt}{tc:TT}{tb:TS}(hp:PassesOwn (model X.prog X.w) X.A X.env X.xe)(hc:PT X c tc)(hb:uG X body tb):PS X (.While c body [] pos) (FY tc tb):=by
 intro pins s σ H D I h;obtain⟨W,⟨m0,w0⟩,turn⟩:=h;refine wpAny_While (codeAny_whileLoop (λn s'=>∃σ' H',Inv X pins σ' H' s'/\W n σ' H') ?_ m0 ⟨σ,H,I,w0⟩);rintro n s1 ⟨σ1,H1,I1,w1⟩;refine wpAny_passesOwn hp (cA (hc pins s1 σ1 H1 _ I1 (turn n σ1 H1 w1)) λb s2 z9=>?_);obtain⟨H2,I2,q2⟩:=z9;cases b with
 |true=>
  obtain⟨N,hN,q2⟩:=q2;rw[if_pos rfl];refine wpAny_passesOwn hp (cA (hb pins s2 σ1 H2 _ I2 q2) λf s3 q3=>?_);cases f with
  |next=>
   obtain⟨σ3,H3,I3,n3⟩:=q3;obtain⟨m',hm,w3⟩:=hN σ3 H3 n3;exact⟨m',hm,σ3,H3,I3,w3⟩
  |cont=>
   obtain⟨σ3,H3,I3,n3⟩:=q3;obtain⟨m',hm,w3⟩:=hN σ3 H3 n3;exact⟨m',hm,σ3,H3,I3,w3⟩
  |brk|ret v=>exact q3
 |false=>
  rw[if_neg Bool.false_ne_true];exact wpAny_execs_nil ⟨σ1,H2,I2,q2⟩
end
structure It where
 go:Nat->Hp->Prop
 yld:Nat->Hp->V->Hp->Prop
 stop:Nat->Hp->Prop
def lq(X:Cx)(pins:List (Addr×Obj))(H:Hp)(b:Addr):Prop :=
 H b=none/\b≠X.env.locals/\b∉X.fs/\(b∈X.ex∨X.sf.heap.objs.size<=b)/\(∀x c,X.env.cells.lookup x=some c->c≠b)/\∀p∈X.pn++pins,p.1≠b
def Inv.fpOk{X:Cx}{pins:List (Addr×Obj)}{σ:St}{H H':Hp}{s:Shared}{b:Addr}(I:Inv X pins σ H s)(hb:s.heap.objs.size<=b)(hn:H' b=none):lq X pins H' b:=by
 refine⟨hn,Nat.ne_of_gt (Nat.lt_of_lt_of_le I.lt hb),I.nofs hb,.inr (Nat.le_trans I.sz hb),λx c e z=>?_,λp hp z=>?_⟩
 .obtain⟨v,q⟩:=I.cell x c e
  exact absurd (Nat.lt_of_lt_of_le q.lt (by rw[z];exact hb)) (Nat.lt_irrefl _)
 .exact absurd (Nat.lt_of_lt_of_le (Heap.lt_size (I.pin p hp).1) (by rw[z];exact hb)) (Nat.lt_irrefl _)
structure rH (P:Program) (w:World) (K:W.Frag) (tg:Expr) (J:It) (fp:List Addr) (it:Addr) (tn:Nat->Heap->Prop):Prop where
 mem:it∈fp
 obj:∀i h,tn i h->∀b∈fp,∃o,h.get? b=some o/\∀v,o.data≠.cell v
 keep:∀i h h',tn i h->(∀b∈fp,∀o,h.get? b=some o->h'.get? b=some o)->tn i h'
 item:∀(X:Cx),X.prog=P->X.w=w->X.K=K->X.calm=true->∀(i:Nat) (pins:List (Addr×Obj)) (s:Shared) (σ:St) (H:Hp) (E:Value->Shared->Prop),Inv X pins σ H s->(∀b∈fp,lq X pins H b)->tn i s.heap->J.go i H ->
  wpAny (model P w) X.A (pyNext (.ref it)) (λr s1=>∃u,r=some u /\
   wpAny (model P w) X.A (letOwnedTupleGo tg (.ref it) u) (λ_ s2=>∃x H',Inv X pins σ H' s2/\bb x u/\J.yld i H x H'/\tn (i+1) s2.heap/\∀b∈fp,H' b=none) E s1) E s
 done:∀(X:Cx),X.prog=P->X.w=w->X.K=K->X.calm=true->∀(i:Nat) (pins:List (Addr×Obj)) (s:Shared) (σ:St) (H:Hp) (E:Value->Shared->Prop),Inv X pins σ H s->(∀b∈fp,lq X pins H b)->tn i s.heap->J.stop i H ->
  wpAny (model P w) X.A (pyNext (.ref it)) (λr s1=>r=none/\Inv X pins σ H s1) E s
 self:∀(A:Around) (i:Nat) (s:Shared) (Q:Value->Shared->Prop) (E:Value->Shared->Prop),tn i s.heap->Q (.ref it) s->wpAny (model P w) A (pyIter (.ref it)) Q E s
abbrev TI:=St->Hp->(It->Hp->Prop)->Prop
noncomputable def Ky(X:Cx) (pins:List (Addr×Obj)) (σ:St) (tg:Expr) (R:It->Hp->Prop) (itv:Value) (s2:Shared):Prop :=
 ∃(it:Addr) (fp:List Addr) (tn:Nat->Heap->Prop) (J:It) (H':Hp),itv=.ref it/\Inv X pins σ H' s2/\rH X.prog X.w X.K tg J fp it tn/\tn 0 s2.heap/\(∀b∈fp,lq X pins H' b)/\R J H'
noncomputable def PI(X:Cx) (tg iter:Expr) (wi:TI):Prop :=
 ∀(pins:List (Addr×Obj)) (s:Shared) (σ:St) (H:Hp) (R:It->Hp->Prop),Inv X pins σ H s->wi σ H R ->
  wpAny (model X.prog X.w) X.A (eval iter X.env) (λv s1=>wpAny (model X.prog X.w) X.A (pyIter v) (Ky X pins σ tg R) X.xe s1) X.xe s
def tT{M:Model}{A:Around}{E:Value->Shared->Prop}{s:Shared}{tg:Expr}{it:Addr}{u:Value}{o:Obj}{n:String}{vs:Array Value}{Q:Unit->Shared->Prop}(ho:s.heap.get? it=some o)(hc:o.cls=.type n)(hd:o.data=.fields vs)
  (hn:["enumerate","zip","dict_itemiterator","dict_reverseitemiterator","odict_iterator","itertools.zip_longest","itertools.pairwise"].contains n=false)(hQ:Q () s):wpAny M A (letOwnedTupleGo tg (.ref it) u) Q E s:=by
 unfold letOwnedTupleGo;cases tg<;>first
  |exact wpAny_pure hQ
  |(cases u<;>first
    |exact wpAny_pure hQ
    |(refine wpAny_bind (wpAny_load ho ?_);rw[hc,hd];show wpAny M A (if(["enumerate","zip","dict_itemiterator","dict_reverseitemiterator","odict_iterator","itertools.zip_longest","itertools.pairwise"].contains n&&vs[0]?==some (rawInt _))=true then _ else _) Q E s;rw[if_neg (by intro h;rw[hn,Bool.false_and]at h;cases h)];exact wpAny_pure hQ))
def Kc(K:W.Frag)(a:Addr):It :=
 ⟨λi H=>∃xs x,eh K H a xs/\xs[i]?=some x,λi H x H'=>H'=H/\∀xs,eh K H a xs->xs[i]?=some x,λi H=>∃xs,eh K H a xs/\xs.length<=i⟩
def uJ(lo:Int)(n:Nat):It:=⟨λi _=>i<n,λi H x H'=>H'=H/\x=.int (lo+i),λi _=>n<=i⟩
def xT{P:Program}{w:World}{K:W.Frag}{tg:Expr}(a it:Addr):rH P w K tg (Kc K a) [it] it (λi h=>h.IsListIter it a i) where
 mem:=by simp
 obj:=λi h st b hb=>by
  have e:b=it:=by simpa using hb
  subst e;obtain⟨o,e,c,d⟩:=st;exact⟨o,e,λv z=>by rw[d]at z;cases z⟩
 keep:=λi h h' st k=>st.at λo e=>k it (by simp) o e
 item:=by
  intro X hP hw hK hc i pins s σ H E I hf st hg;subst hP hw hK;obtain⟨xs,x,hq,hx⟩:=hg;obtain⟨its,rv,p,hz⟩:=I.list hq;obtain⟨u,hu,ru⟩:=rv.get hx;obtain⟨f0,f1,f2,f3,f4,f5⟩:=hf it (by simp);refine wpAny_pyNext_list_item st p.isList (x:=u) (by simpa using hu) λh' st' sb=>?_;have I1:Inv X pins σ H { s with heap:=h' }:=I.turned (t':=s.toks) (λb o hb e=>(sb.2 b hb).trans e) f0 f1 f3 f4 f5;obtain⟨o,e,c,d⟩:=id st';exact⟨u,rfl,tT (s:={ s with heap:=h' }) e c d (by decide) ⟨x,H,I1,ru,⟨rfl,λys hy=>by rw[I.list_inj hy hq];exact hx⟩,st',λb hb=>(hf b hb).1⟩⟩
 done:=by
  intro X hP hw hK hc i pins s σ H E I hf st hg;subst hP hw hK;obtain⟨xs,hq,hx⟩:=hg;obtain⟨its,rv,p,hz⟩:=I.list hq;obtain⟨f0,f1,f2,f3,f4,f5⟩:=hf it (by simp);have hl:=rv.length;exact wpAny_pyNext_list_end (I.ok.hd hc) st p.isList (by simp;omega) λh' eb=>⟨rfl,I.turned (t':=s.toks) (λb o hb e=>eb b o hb e) f0 f1 f3 f4 f5⟩
 self:=λ_ _ _ _ _ st h=>wpAny_pyIter_listiter st h
def uP{P:Program}{w:World}{K:W.Frag}{tg:Expr}(it:Addr)(lo:Int)(n:Nat):rH P w K tg (uJ lo n) [it] it (λi h=>IsRangeIter h it (lo+(i:Nat)*1) ((n:Int)-(i:Nat)) 1) where
 mem:=by simp
 obj:=λi h st b hb=>by
  have e:b=it:=by simpa using hb
  subst e;exact⟨_,st,λv z=>by
   have z':Data.fields _=Data.cell v:=z;cases z'⟩
 keep:=λi h h' st k=>k it (by simp) _ st
 item:=by
  intro X hP hw hK hc i pins s σ H E I hf st hg;subst hP hw hK;obtain⟨f0,f1,f2,f3,f4,f5⟩:=hf it (by simp);have W:=Walks.range (prog:=X.prog) (w:=X.w) (I.ok.hd hc) it lo 1 n;refine W.item i s _ _ hg st λv h' tk hv st' kk=>?_;obtain⟨t,rfl⟩:=hv;have I1:Inv X pins σ H { s with heap:=h',toks:=tk }:=I.turned (λb o hb e=>kk b o (by simpa using hb) e) f0 f1 f3 f4 f5;refine⟨_,rfl,tT (s:={ s with heap:=h',toks:=tk }) (n:="range_iterator") st' rfl rfl (by decide) ⟨.int (lo+i),H,I1,⟨t,?_⟩,⟨rfl,rfl⟩,st',λb hb=>(hf b hb).1⟩⟩;rw[Int.mul_one]
 done:=by
  intro X hP hw hK hc i pins s σ H E I hf st hg;subst hP hw hK;obtain⟨f0,f1,f2,f3,f4,f5⟩:=hf it (by simp);exact wpAny_pyNext_range_end (I.ok.hd hc) st (by have:n<=i:=hg;omega) λh' eb=>⟨rfl,I.turned (t':=s.toks) (λb o hb e=>eb b o hb e) f0 f1 f3 f4 f5⟩
 self:=λ_ _ _ _ _ st h=>wpAny_pyIter_rangeiter st h
section
variable {X:Cx}{tg:Expr}
def Jy(K:W.Frag)(tl:TE):TI:=λσ H R=>tl σ H λx H1=>∃a,x=.ref a/\(∃xs,eh K H1 a xs)/\R (Kc K a) H1
def wN{l:Expr}{tl:TE}(hl:PE X l tl):PI X tg l (Jy X.K tl):=by
 intro pins s σ H R I h;refine cA (hl pins s σ H _ I h) λv s1 ⟨x,H1,I1,r1,q1⟩=>?_;obtain⟨a,e,⟨xs,hq⟩,q⟩:=q1;subst e;cases r1;obtain⟨its,rv,p,hz⟩:=I1.list hq;refine wpAny_pyIter_list p.isList ?_;refine⟨s1.heap.objs.size,[s1.heap.objs.size],_,_,H1,rfl,I1.kept (t':=s1.toks) λb o e=>Heap.get?_push_of_some _ e,xT a _,⟨_,Heap.get?_push_size _ rfl,rfl,rfl⟩,λb hb=>?_,q⟩;have e:b=s1.heap.objs.size:=by simpa using hb
 subst e;exact I1.fpOk (Nat.le_refl _) (I1.hok.fresh (Nat.le_refl _))
def Aj{pins:List (Addr×Obj)}{σ:St}{H:Hp}{s:Shared}{R:It->Hp->Prop}{E:Value->Shared->Prop}{lo hi:Int}{t u v:Tok}{tk:Nat}(I:Inv X pins σ H s)(h1:-(2 ^ 62)<=lo)(h2:lo<2 ^ 62)(h3:-(2 ^ 62)<=hi)(h4:hi<2 ^ 62)
  (q:R (uJ lo (hi-lo).toNat) H):wpAny (model X.prog X.w) X.A (pyIter (.ref s.heap.objs.size)) (Ky X pins σ tg R) E { s with heap:=s.heap.push { cls:=.type "range",data:=.fields #[.int lo t,.int hi u,.int 1 v] },toks:=tk }:=by
 refine wpAny_pyIter_range (IsRange.new ..) (small_one h1 h2 h3 h4) ?_;have I1:Inv X pins σ H { s with heap:=s.heap.push { cls:=.type "range",data:=.fields #[.int lo t,.int hi u,.int 1 v] },toks:=tk }:=I.kept λb o e=>Heap.get?_push_of_some _ e;refine⟨(s.heap.push { cls:=.type "range",data:=.fields #[.int lo t,.int hi u,.int 1 v] }).objs.size,[(s.heap.push { cls:=.type "range",data:=.fields #[.int lo t,.int hi u,.int 1 v] }).objs.size],_,_,H,rfl,
  I1.kept (t':=tk) λb o e=>Heap.get?_push_of_some _ e,uP _ lo (hi-lo).toNat,?_,λb hb=>?_,q⟩
 .have e1:lo+((0:Nat):Int)*1=lo:=by simp
  have e2:(((hi-lo).toNat:Nat):Int)-((0:Nat):Int)=Builtin.Range.rangeSize lo hi 1:=by rw[rangeSize_one];split<;>omega
  show IsRangeIter _ _ (lo+((0:Nat):Int)*1) ((((hi-lo).toNat:Nat):Int)-((0:Nat):Int)) 1;rw[e1,e2];exact Heap.get?_push_size _ rfl
 .have e:b=(s.heap.push { cls:=.type "range",data:=.fields #[.int lo t,.int hi u,.int 1 v] }).objs.size:=by simpa using hb
  subst e;exact I1.fpOk (Nat.le_refl _) (I1.hok.fresh (Nat.le_refl _))
def Jx(ta:TA):TI:=λσ H R=>ta σ H λvs H1=>∃j:Int,vs=[.int j]/\-(2 ^ 62)<=j/\j<2 ^ 62/\R (uJ 0 j.toNat) H1
def pz{a:Expr}{ta:TA}{p pos:Pos}(hg:Gl X "range")(hm:X.mg "range"=none)(ha:PA X [a] ta)(hs:starEach [a] X.env=[(false,eval a X.env)]:=by rfl):PI X tg (.Call (.Name "range" p) [a] [] pos) (Jx ta):=by
 intro pins s σ H R I h;refine Call_ (jN I hg hm boot_range (PyProof.Rows.callWith_type1 (cA (ha pos pins s σ H _ I h) λus s1 z9=>?_) hs rfl));obtain⟨vs,H1,I1,r1,q1⟩:=z9;obtain⟨j,e,q1,q2,q⟩:=q1;subst e;cases r1 with
 |cons r rr=>
  cases rr;obtain⟨t,rfl⟩:=r;exact call_range_1 (Aj I1 (by omega) (by omega) q1 q2 (by simpa using q))
noncomputable def KZ(wi:TI) (g:TG) (tb:TS):TS:=λD σ H=>wi σ H λJ H1=>∃W:Nat->Nat->St->Hp->Prop,(∃m,W 0 m σ H1)/\∀i m σ H,W i m σ H ->
 (J.stop i H/\D.nx σ H)∨(J.go i H/\∃N:St->Hp->Prop,(∀σ' H',N σ' H'->∃m',m' < m/\W (i+1) m' σ' H')/\∀x H',J.yld i H x H'->g x σ H' λσ2 H2=>tb { D with nx:=N,ct:=N,bk:=D.nx } σ2 H2)
def mV(fp:List Addr)(h:Heap):List (Addr×Obj):=fp.filterMap λb=>(h.get? b).map λo=>(b,o)
def gT{fp:List Addr}{h:Heap}{b:Addr}{o:Obj}(hb:b∈fp)(e:h.get? b=some o):(b,o)∈mV fp h:=List.mem_filterMap.mpr ⟨b,hb,by rw[e];rfl⟩
def yq{fp:List Addr}{h:Heap}{p:Addr×Obj}(hp:p∈mV fp h):p.1∈fp/\h.get? p.1=some p.2:=by
 obtain⟨b,hb,e⟩:=List.mem_filterMap.mp hp;cases q:h.get? b with
 |none=>rw[q]at e;cases e
 |some o=>
  rw[q]at e;have e':(b,o)=p:=Option.some.inj e;subst e';exact⟨hb,q⟩
def Inv.pinned{pins:List (Addr×Obj)}{σ:St}{H:Hp}{s:Shared}{fp:List Addr}(I:Inv X pins σ H s)(hf:∀b∈fp,lq X pins H b)(ho:∀b∈fp,∃o,s.heap.get? b=some o/\∀v,o.data≠.cell v):Inv X (pins++mV fp s.heap) σ H s :=
 I.pins_of λp hp=>(List.mem_append.mp hp).elim (λz=>I.pin p (List.mem_append_right _ z)) λz=>by
  obtain⟨hb,e⟩:=yq z;obtain⟨f0,f1,f2,_⟩:=hf p.1 hb;obtain⟨o,e',d⟩:=ho p.1 hb;rw[e]at e';cases e';exact⟨e,f0,f1,f2,d⟩
def Inv.unpinned{pins pl:List (Addr×Obj)}{σ:St}{H:Hp}{s:Shared}(I:Inv X (pins++pl) σ H s):Inv X pins σ H s:=I.pins_of λp hp=>I.pin p (List.mem_append_right _ (List.mem_append_left _ hp))
def vd{iter:Expr}{body:List Stmt}{wi:TI}{g:TG}{tb:TS}{pos:Pos}(hp:PassesOwn (model X.prog X.w) X.A X.env X.xe)(hc:X.calm=true)(hi:PI X tg iter wi)(hg:PG X tg g)(hb:uG X body tb)
  (hs:∀x,foldedSetIterable iter X.env x=pure x:=by intro _;rfl):PS X (.For tg iter body [] pos) (KZ wi g tb):=by
 intro pins s σ H D I h;refine wpAny_For (cA (hi pins s σ H _ I h) λv s1 h1=>cA h1 λitv s2 h2=>?_) hs;obtain⟨it,fp,tn,J,H2,e,I2,T,st2,f2,W,⟨m0,w0⟩,turn⟩:=h2;subst e;have stat:∀{H':Hp},(∀b∈fp,H' b=none)->∀b∈fp,lq X pins H' b:=λhn b hb=>⟨hn b hb,(f2 b hb).2⟩
 refine codeAny_forLoop_any (λn s'=>∃i σ' H',Inv X pins σ' H' s'/\tn i s'.heap/\(∀b∈fp,H' b=none)/\W i n σ' H') ?_ m0 ⟨0,σ,H2,I2,st2,λb hb=>(f2 b hb).1,w0⟩;rintro n s3 ⟨i,σ3,H3,I3,st3,fr3,w3⟩;rcases turn i n σ3 H3 w3 with⟨stop,qn⟩|⟨go,N,hN,step⟩
 .refine wpAny_passesOwn hp (cA (T.done X rfl rfl rfl hc i pins s3 σ3 H3 X.xe I3 (stat fr3) st3 stop) λr s4 ⟨hr,I4⟩=>?_)
  subst hr;exact wpAny_execs_nil ⟨σ3,H3,I4,qn⟩
 .refine wpAny_passesOwn hp (cA (T.item X rfl rfl rfl hc i pins s3 σ3 H3 X.xe I3 (stat fr3) st3 go) λr s4 ⟨u,hr,h4⟩=>?_)
  subst hr;refine wpAny_passesOwn hp (cA h4 λ_ s5 ⟨x,H5,I5,r5,y5,st5,fr5⟩=>?_);have I5':=I5.pinned (stat fr5) (T.obj _ _ st5);refine wpAny_passesOwn hp (cA (hg _ s5 σ3 H5 x u _ I5' r5 (step x H5 y5)) λ_ s6 ⟨σ6,H6,I6,q6⟩=>?_);refine wpAny_passesOwn hp (cA (hb _ s6 σ6 H6 _ I6 q6) λf s7 q7=>?_);have again:∀{σ7:St}{H7:Hp},Inv X (pins++mV fp s5.heap) σ7 H7 s7->N σ7 H7->∃m,m<n/\∃i σ' H',Inv X pins σ' H' s7/\tn i s7.heap/\(∀b∈fp,H' b=none)/\W i m σ' H':=λ{σ7 H7} I7 n7=>by
   obtain⟨m',hm,w7⟩:=hN σ7 H7 n7;refine⟨m',hm,i+1,σ7,H7,I7.unpinned,T.keep _ _ _ st5 λb hb o e=>(I7.pin (b,o) (List.mem_append_right _ (List.mem_append_right _ (gT hb e)))).1,λb hb=>?_,w7⟩;obtain⟨o,e,d⟩:=T.obj _ _ st5 b hb;exact(I7.pin (b,o) (List.mem_append_right _ (List.mem_append_right _ (gT hb e)))).2.1
  cases f with|next|cont=>obtain⟨σ7,H7,I7,n7⟩:=q7;exact again I7 n7|brk=>obtain⟨σ7,H7,I7,q7⟩:=q7;exact⟨σ7,H7,I7.unpinned,q7⟩|ret v=>obtain⟨x7,σ7,H7,I7,r7,q7⟩:=q7;exact⟨x7,σ7,H7,I7.unpinned,r7,q7⟩
end
def Bb{K:W.Frag}{a:Addr}{xs:al}{g:TG}{tb:TS}{D:fK}{σ:St}{H:Hp}(Pv:Nat->St->Hp->Prop)(h0:Pv 0 σ H)(hl:∀i σ H,i<=xs.length->Pv i σ H->eh K H a xs)
  (hs:∀i x σ H,xs[i]?=some x->Pv i σ H->g x σ H λσ2 H2=>tb { D with nx:=Pv (i+1),ct:=Pv (i+1),bk:=D.nx } σ2 H2)(hd:∀σ H,Pv xs.length σ H->D.nx σ H) :
  ∃W:Nat->Nat->St->Hp->Prop,(∃m,W 0 m σ H)/\∀i m σ H,W i m σ H ->
   ((Kc K a).stop i H/\D.nx σ H)∨((Kc K a).go i H/\∃N:St->Hp->Prop,(∀σ' H',N σ' H'->∃m',m' < m/\W (i+1) m' σ' H')/\∀x H',(Kc K a).yld i H x H'->g x σ H' λσ2 H2=>tb { D with nx:=N,ct:=N,bk:=D.nx } σ2 H2):=by
 refine⟨λi m σ H=>m=xs.length-i/\i<=xs.length/\Pv i σ H,⟨xs.length,by simp,Nat.zero_le _,h0⟩,?_⟩;rintro i m σ H ⟨rfl,hi,p⟩;have q:=hl i σ H hi p
 by_cases hlt:i<xs.length
 .refine .inr ⟨⟨xs,xs[i],q,by simp[hlt]⟩,Pv (i+1),λσ' H' p'=>⟨xs.length-(i+1),by omega,rfl,hlt,p'⟩,λx H' y=>?_⟩
  obtain⟨e,y⟩:=y;subst e;exact hs i x σ _ (y xs q) p
 .have e:i=xs.length:=by omega
  subst e;exact .inl ⟨⟨xs,q,Nat.le_refl _⟩,hd σ H p⟩
def yJ{lo:Int}{n:Nat}{g:TG}{tb:TS}{D:fK}{σ:St}{H:Hp}(Pv:Nat->St->Hp->Prop)(h0:Pv 0 σ H)
  (hs:∀i σ H,i<n->Pv i σ H->g (.int (lo+i)) σ H λσ2 H2=>tb { D with nx:=Pv (i+1),ct:=Pv (i+1),bk:=D.nx } σ2 H2)(hd:∀σ H,Pv n σ H->D.nx σ H) :
  ∃W:Nat->Nat->St->Hp->Prop,(∃m,W 0 m σ H)/\∀i m σ H,W i m σ H ->
   ((uJ lo n).stop i H/\D.nx σ H)∨((uJ lo n).go i H/\∃N:St->Hp->Prop,(∀σ' H',N σ' H'->∃m',m' < m/\W (i+1) m' σ' H')/\∀x H',(uJ lo n).yld i H x H'->g x σ H' λσ2 H2=>tb { D with nx:=N,ct:=N,bk:=D.nx } σ2 H2):=by
 refine⟨λi m σ H=>m=n-i/\i<=n/\Pv i σ H,⟨n,by simp,Nat.zero_le _,h0⟩,?_⟩;rintro i m σ H ⟨rfl,hi,p⟩
 by_cases hlt:i<n
 .refine .inr ⟨hlt,Pv (i+1),λσ' H' p'=>⟨n-(i+1),by omega,rfl,hlt,p'⟩,λx H' y=>?_⟩
  obtain⟨e,y⟩:=y;subst e y;exact hs i σ _ hlt p
 .have e:i=n:=by omega
  subst e;exact .inl ⟨Nat.le_refl _,hd σ H p⟩
abbrev R2:=V->V->Hp->VK->Prop
def fL(X:Cx)(f:Value->Value->Sem Value)(r:R2):Prop :=
 ∀(pins:List (Addr×Obj)) (s:Shared) (σ:St) (H:Hp) (x y:V) (v u:Value) (Q:VK),Inv X pins σ H s->bb x v->bb y u->r x y H Q ->
  wpAny (model X.prog X.w) X.A (f v u) (EP X pins σ Q) X.xe s
def Kv(X:Cx)(f:Value->Sem Value)(r:V->Hp->VK->Prop):Prop :=
 ∀(pins:List (Addr×Obj)) (s:Shared) (σ:St) (H:Hp) (x:V) (v:Value) (Q:VK),Inv X pins σ H s->bb x v->r x H Q ->
  wpAny (model X.prog X.w) X.A (f v) (EP X pins σ Q) X.xe s
def iX(X:Cx)(f:Value)(r:al->Hp->VK->Prop):Prop :=
 ∀(pins:List (Addr×Obj)) (s:Shared) (σ:St) (H:Hp) (xs:al) (us:List Value) (Q:VK),Inv X pins σ H s->bj xs us->r xs H Q ->
  wpAny (model X.prog X.w) X.A (call f us) (EP X pins σ Q) X.xe s
def Mk(X:Cx)(r:V->Hp->(Bool->Hp->Prop)->Prop):Prop :=
 ∀(pins:List (Addr×Obj)) (s:Shared) (σ:St) (H:Hp) (x:V) (v:Value) (Q:Bool->Hp->Prop),Inv X pins σ H s->bb x v->r x H Q ->
  wpAny (model X.prog X.w) X.A (truthy v) (TP X pins σ Q) X.xe s
def Ir(r:R2)(ta tb:TE):TE:=λσ H Q=>ta σ H λx H1=>tb σ H1 λy H2=>r x y H2 Q
def LX(r:V->Hp->VK->Prop)(ta:TE):TE:=λσ H Q=>ta σ H λx H1=>r x H1 Q
def rI(C:Int->Int->Prop)(g:Int->Int->V):R2:=λx y H Q=>∃i j,x=.int i/\y=.int j/\C i j/\Q (g i j) H
def CL(g:Int->Int->V):R2:=λx y H Q=>∃i j,x=.int i/\y=.int j/\Q (g i j) H
def rU(g:Int->V):V->Hp->VK->Prop:=λx H Q=>∃i,x=.int i/\Q (g i) H
section
variable {X:Cx}{a b c:Expr}{ta tb tc:TE}{pos:Pos}
def HS(ha:PE X a ta)(hb:PE X b tb){pins:List (Addr×Obj)}{s:Shared}{σ:St}{H:Hp}{R:V->V->Hp->Prop}(I:Inv X pins σ H s)
  (h:ta σ H λx H1=>tb σ H1 λy H2=>R x y H2){Q:Value->Shared->Prop}{f:Value->Value->Sem Value}
  (hf:∀v u s2 x y H2,Inv X pins σ H2 s2->bb x v->bb y u->R x y H2->wpAny (model X.prog X.w) X.A (f v u) Q X.xe s2) :
  wpAny (model X.prog X.w) X.A (eval a X.env) (λv sg=>wpAny (model X.prog X.w) X.A (eval b X.env) (λu si=>wpAny (model X.prog X.w) X.A (f v u) Q X.xe si) X.xe sg) X.xe s:=by
 refine cA (ha pins s σ H _ I h) λv s1 ⟨x,H1,I1,r1,q1⟩=>?_;refine cA (hb pins s1 σ H1 _ I1 q1) λu s2 ⟨y,H2,I2,r2,q2⟩=>?_;exact hf v u s2 x y H2 I2 r1 r2 q2
def Av{op:Operator}{r:R2}(ho:fL X (binaryOp op) r)(ha:PE X a ta)(hb:PE X b tb):PE X (.BinOp a op b pos) (Ir r ta tb):=by
 intro pins s σ H Q I h;exact wpAny_BinOp (HS ha hb I h λv u s2 x y H2 I2 rx ry q=>ho pins s2 σ H2 x y v u Q I2 rx ry q)
def Ja{op:UnaryOp}{r:V->Hp->VK->Prop}(ho:Kv X (unaryOp op) r)(ha:PE X a ta):PE X (.UnaryOp op a pos) (LX r ta):=by
 intro pins s σ H Q I h;exact UnaryOp_ (cA (ha pins s σ H _ I h) λv s1 ⟨x,H1,I1,r1,q1⟩=>ho pins s1 σ H1 x v Q I1 r1 q1)
def Km{f:Value->Value->Sem Value}{C:Int->Int->Prop}{g:Int->Int->Int}
  (rule:∀(i j:Int) (t u:Tok) (s:Shared) (Q:Value->Shared->Prop) (E:Value->Shared->Prop),C i j->Q (.int (g i j) s.toks) { s with toks:=s.toks+1 }->wpAny (model X.prog X.w) X.A (f (.int i t) (.int j u)) Q E s) :
  fL X f (rI C λi j=>.int (g i j)):=by
 intro pins s σ H x y v u Q I rx ry h;obtain⟨i,j,rfl,rfl,hc,q⟩:=h;obtain⟨t,rfl⟩:=rx;obtain⟨t',rfl⟩:=ry;exact rule i j t t' s _ _ hc ⟨.int (g i j),H,I.tok _,⟨_,rfl⟩,q⟩
def Jj{f:Value->Value->Sem Value}{g:Int->Int->Int}
  (rule:∀(i j:Int) (t u:Tok) (s:Shared) (Q:Value->Shared->Prop) (E:Value->Shared->Prop),Q (.int (g i j) s.toks) { s with toks:=s.toks+1 }->wpAny (model X.prog X.w) X.A (f (.int i t) (.int j u)) Q E s) :
  fL X f (CL λi j=>.int (g i j)):=by
 intro pins s σ H x y v u Q I rx ry h;obtain⟨i,j,rfl,rfl,q⟩:=h;obtain⟨t,rfl⟩:=rx;obtain⟨t',rfl⟩:=ry;exact rule i j t t' s _ _ ⟨.int (g i j),H,I.tok _,⟨_,rfl⟩,q⟩
def Gz{f:Value->Value->Sem Value}{g:Int->Int->Bool}
  (rule:∀(i j:Int) (t u:Tok) (s:Shared) (Q:Value->Shared->Prop) (E:Value->Shared->Prop),Q (.bool (g i j)) s->wpAny (model X.prog X.w) X.A (f (.int i t) (.int j u)) Q E s) :
  fL X f (CL λi j=>.bl (g i j)):=by
 intro pins s σ H x y v u Q I rx ry h;obtain⟨i,j,rfl,rfl,q⟩:=h;obtain⟨t,rfl⟩:=rx;obtain⟨t',rfl⟩:=ry;exact rule i j t t' s _ _ ⟨.bl (g i j),H,I,rfl,q⟩
def Lu(i j:Int):Prop:=0<=j/\j<=1000000/\i.natAbs<2 ^ 64
def Kh(i j:Int):Prop:=(-(2 ^ 64)<i/\i<2 ^ 64)∨(-(2 ^ 64)<j/\j<2 ^ 64)
def Kh.ok{i j:Int}(h:Kh i j):IntMulOk i j:=by
 rcases h with⟨h1,h2⟩|⟨h1,h2⟩
 .exact .of_left (intBits_le_64 h1 h2)
 .exact .of_right (intBits_le_64 h1 h2)
def Gy:fL X (binaryOp .Add) (CL λi j=>.int (i+j)):=Jj λ_ _ _ _ _ _ _ q=>add_int q
def Gu:fL X (binaryOp .Sub) (CL λi j=>.int (i-j)):=Jj λ_ _ _ _ _ _ _ q=>sub_int q
def Df:fL X (binaryOp .Mod) (rI (λ_ j=>j≠0) λi j=>.int (i.fmod j)):=Km λ_ _ _ _ _ _ _ hc q=>mod_int' hc q
def Gw:fL X (binaryOp .Pow) (rI Lu λi j=>.int (i ^ j.toNat)):=Km λ_ _ _ _ _ _ _ hc q=>pow_int_small hc.1 hc.2.1 hc.2.2 q
def LU{f:Value->Sem Value}{g:Int->Int}
  (rule:∀(i:Int) (t:Tok) (s:Shared) (Q:Value->Shared->Prop) (E:Value->Shared->Prop),Q (.int (g i) s.toks) { s with toks:=s.toks+1 }->wpAny (model X.prog X.w) X.A (f (.int i t)) Q E s) :
  Kv X f (rU λi=>.int (g i)):=by
 intro pins s σ H x v Q I rx h;obtain⟨i,rfl,q⟩:=h;obtain⟨t,rfl⟩:=rx;exact rule i t s _ _ ⟨.int (g i),H,I.tok _,⟨_,rfl⟩,q⟩
def FL:Kv X (unaryOp .USub) (rU λi=>.int (-i)):=LU λ_ _ _ _ _ q=>neg_int q
end
section
variable {X:Cx}{a b c:Expr}{ta tb tc:TE}{pos:Pos}
def vM{pins:List (Addr×Obj)}{σ:St}{H:Hp}{s:Shared}{Q:VK}{k k':Bool}(I:Inv X pins σ H s)(q:Q (.bl k) H)(e:k=k'):EP X pins σ Q (.bool k') s:=by
 subst e;exact⟨.bl k,H,I,rfl,q⟩
def wR:fL X (compareOp .LtE) (CL λi j=>.bl (decide (i<=j))):=Gz λ_ _ _ _ _ _ _ q=>le_int q
def mW:fL X (compareOp .Gt) (CL λi j=>.bl (decide (j<i))):=Gz λ_ _ _ _ _ _ _ q=>gt_int q
def AG:fL X (compareOp .GtE) (CL λi j=>.bl (decide (j<=i))):=Gz λ_ _ _ _ _ _ _ q=>ge_int q
def ym:fL X (compareOp .In) (λx y H Q=>∃i j,x=.str i/\y=.str j/\Q (.bl (!(Builtin.Str.occurrences j i 0 j.length 1).isEmpty)) H):=by
 intro pins s σ H x y v u Q I rx ry h;obtain⟨i,j,rfl,rfl,q⟩:=h;obtain⟨t,rfl⟩:=rx;obtain⟨t',rfl⟩:=ry;exact in_str (vM I q rfl)
def vm:fL X (compareOp .Is) (λx y H Q=>y=.non/\Q (.bl (decide (x=.non))) H):=by
 intro pins s σ H x y v u Q I rx ry h;obtain⟨rfl,q⟩:=h;cases ry;refine is_none_gen (vM I q ?_);cases x<;>first
  |(cases rx;rfl)
  |(obtain⟨t,rfl⟩:=rx;rfl)
def Dd:fL X (compareOp .IsNot) (λx y H Q=>y=.non/\Q (.bl (!decide (x=.non))) H):=by
 intro pins s σ H x y v u Q I rx ry h;obtain⟨rfl,q⟩:=h;cases ry;refine isnot_none_gen (vM I q ?_);cases x<;>first
  |(cases rx;rfl)
  |(obtain⟨t,rfl⟩:=rx;rfl)
def fL.or{f:Value->Value->Sem Value}{r r':R2}(h:fL X f r)(h':fL X f r'):fL X f (λx y H Q=>r x y H Q∨r' x y H Q):=by
 intro pins s σ H x y v u Q I rx ry q;rcases q with q|q
 .exact h pins s σ H x y v u Q I rx ry q
 .exact h' pins s σ H x y v u Q I rx ry q
def C7{op:CmpOp}{r:R2}(ho:fL X (compareOp op) r)(ha:PE X a ta)(hb:PE X b tb)(hm:behindInMarks op b=false):PE X (.Compare a [op] [b] pos) (Ir r ta tb):=by
 intro pins s σ H Q I h;exact wpAny_Compare1 (HS ha hb I h λv u s2 x y H2 I2 rx ry q=>ho pins s2 σ H2 x y v u Q I2 rx ry q) hm
def E5(t:TE):TT:=λσ H Q=>t σ H λx H'=>∃k,x=.bl k/\Q k H'
def CQ{op:CmpOp}{r:R2}(ho:fL X (compareOp op) r)(ha:PE X a ta)(hb:PE X b tb)(hm:behindInMarks op b=false):PT X (.Compare a [op] [b] pos) (E5 (Ir r ta tb)):=by
 intro pins s σ H Q I h;refine wpAny_isTrue_Compare1 (cA (ha pins s σ H _ I h) λv s1 ⟨x,H1,I1,r1,q1⟩=>cA (hb pins s1 σ H1 _ I1 q1) λu s2 ⟨y,H2,I2,r2,q2⟩ =>
  cA (ho pins s2 σ H2 x y v u _ I2 r1 r2 q2) λc s3 ⟨z,H3,I3,r3,k,e,q3⟩=>?_) hm
 subst e;cases r3;exact wpAny_truthy_bool ⟨H3,I3,q3⟩
def zS(r r':R2)(ta tb tc:TE):TE:=λσ H Q=>ta σ H λx H1=>tb σ H1 λy H2=>r x y H2 λz H3=>∃k,z=.bl k /\
 (if k=true then tc σ H3 λw' H4=>r' y w' H4 Q else Q (.bl false) H3)
def Ao{op op':CmpOp}{r r':R2}(ho:fL X (compareOp op) r)(ho':fL X (compareOp op') r')(ha:PE X a ta)(hb:PE X b tb)(hc:PE X c tc)
  (hm:lastMarks [op,op'] [b,c]=false:=by with_unfolding_all rfl):PT X (.Compare a [op,op'] [b,c] pos) (E5 (zS r r' ta tb tc)):=by
 intro pins s σ H Q I h;refine isTrue_chain (cA (ha pins s σ H _ I h) λv s1 ⟨x,H1,I1,r1,q1⟩=>test_link (cA (hb pins s1 σ H1 _ I1 q1) λu s2 ⟨y,H2,I2,r2,q2⟩ =>
  cA (ho pins s2 σ H2 x y v u _ I2 r1 r2 q2) λd s3 ⟨z,H3,I3,r3,k,e,q3⟩=>?_)) hm
 subst e;cases r3;refine wpAny_truthy_bool ?_;cases k with
 |false=>
  obtain⟨k',e',q'⟩:=q3;cases e';exact ite_ff ⟨H3,I3,q'⟩
 |true=>
  refine ite_tt (test_last (cA (hc pins s3 σ H3 _ I3 q3) λw' s4 ⟨z',H4,I4,r4,q4⟩=>cA (ho' pins s4 σ H4 y z' u w' _ I4 r2 r4 q4) λd' s5 z9=>?_));obtain⟨z2,H5,I5,r5,k2,e2,q5⟩:=z9;subst e2;cases r5;exact wpAny_truthy_bool ⟨H5,I5,q5⟩
noncomputable def Mj(K:W.Frag) (x:V) (H:Hp) (k:Bool):Prop :=
 match x with
 |.non=>k=false
 |.bl b=>k=b
 |.int i=>k=(i != 0)
 |.str y=>y.length<=sizeLine/\k=((y.length:Int) != 0)
 |.byt y=>y.size<=sizeLine/\k=((y.size:Int) != 0)
 |.ref p=>(∃xs,eh K H p xs/\k=!xs.isEmpty)∨(∃xs,ip K H p xs/\k=!xs.isEmpty)∨∃kvs,H p=some (.dK kvs)/\k=!kvs.isEmpty
 |_=>False
def GL{κ:Type}{kvs:List (κ×V)}{vs:List (κ×Value)}(r:KV kvs vs):(!vs.isEmpty)=!kvs.isEmpty:=by
 cases r<;>rfl
def GK{xs:al}{its:List Value}(r:bj xs its):(!its.toArray.isEmpty)=!xs.isEmpty:=by
 cases r<;>simp
def qP:(sizeLine:Nat)<2 ^ 63:=by rw[sizeLine_eq];decide
def vo:fL X (binaryOp .Add) (λx y H Q=>∃i j,x=.str i/\y=.str j/\i.length+j.length<=sizeLine/\Q (.str (i++j)) H):=by
 intro pins s σ H x y v u Q I rx ry h;obtain⟨i,j,rfl,rfl,hz,q⟩:=h;obtain⟨t,rfl⟩:=rx;obtain⟨t',rfl⟩:=ry;exact add_str (λt' tk=>⟨.str (i++j),H,I.tok _,⟨_,rfl⟩,q⟩) hz
def sq{x:V}{us:List Value}(r:bj [x] us):∃u,us=[u]/\bb x u:=by
 cases r with|cons r1 r2=>cases r2;exact⟨_,rfl,r1⟩
def iQ:iX X (.builtin "abs") (λxs H Q=>∃i,xs=[.int i]/\Q (.int (if i<0 then -i else i)) H):=by
 intro pins s σ H xs us Q I r h;obtain⟨i,rfl,q⟩:=h;obtain⟨u,rfl,t,rfl⟩:=sq r;exact call_abs_int λu tk=>⟨.int (if i<0 then -i else i),H,I.tok _,⟨_,rfl⟩,q⟩
def jr:iX X (.type "int") (λxs H Q=>(∃i,xs=[.int i]/\Q (.int i) H)∨∃k,xs=[.bl k]/\Q (.int (if k then 1 else 0)) H):=by
 intro pins s σ H xs us Q I r h;rcases h with⟨i,rfl,q⟩|⟨k,rfl,q⟩
 .obtain⟨u,rfl,t,rfl⟩:=sq r
  exact call_int_int ⟨.int i,H,I,⟨_,rfl⟩,q⟩
 .obtain⟨u,rfl,r1⟩:=sq r
  cases r1;exact call_int_bool ⟨.int (if k then 1 else 0),H,I.tok _,⟨_,rfl⟩,q⟩
def Ka(K:W.Frag)(x:V)(H:Hp)(n:Nat):Prop :=
 match x with
 |.str y=>y.length<=sizeLine/\n=y.length
 |.byt y=>y.size<=sizeLine/\n=y.size
 |.ref p=>(∃xs,eh K H p xs/\n=xs.length)∨∃xs,ip K H p xs/\n=xs.length
 |_=>False
def bg:iX X (.builtin "len") (λxs H Q=>∃x n,xs=[x]/\Ka X.K x H n/\Q (.int n) H):=by
 intro pins s σ H xs us Q I r h;obtain⟨x,n,rfl,e,q⟩:=h;obtain⟨u,rfl,rx⟩:=sq r;have hl:=qP;have hs:sizeLine=16777216:=sizeLine_eq;cases x with
 |str y=>
  obtain⟨t,rfl⟩:=rx;obtain⟨hy,e'⟩:y.length<=sizeLine/\n=y.length:=e;subst e';exact len_str (by omega) ⟨.int _,H,I.tok _,⟨_,rfl⟩,q⟩
 |byt y=>
  obtain⟨t,rfl⟩:=rx;obtain⟨hy,e'⟩:y.size<=sizeLine/\n=y.size:=e;subst e';exact W.len_bytes (by omega) ⟨.int _,H,I.tok _,⟨_,rfl⟩,q⟩
 |ref p=>
  cases rx;have e':(∃xs,eh X.K H p xs/\n=xs.length)∨∃xs,ip X.K H p xs/\n=xs.length:=e;rcases e' with⟨xs,hx,e'⟩|⟨xs,hx,e'⟩
  .subst e'
   obtain⟨its,r',pl,hz⟩:=I.list hx;have hlen:=r'.length;exact Calls.call_len_list pl.isList (by simp only[List.size_toArray];omega) ⟨.int xs.length,H,I.tok _,⟨_,by simp only[List.size_toArray];rw[hlen]⟩,q⟩
  .subst e'
   obtain⟨its,r',pl,hz⟩:=I.tuple hx;have hlen:=r'.length;exact len_tuple pl (by simp only[List.size_toArray];omega) ⟨.int xs.length,H,I.tok _,⟨_,by simp only[List.size_toArray];rw[hlen]⟩,q⟩
 |_=>exact(show False from e).elim
end
structure HW (h:Heap) (x dx C:Addr) (mA:Str->Option Value):Prop where
 obj:h.get? x=some (W.instObj C dx)
 ns:h.Ns1 dx mA
 ne:dx≠x
def pD{h:Heap}{dx:Addr}{mA:Str->Option Value}(n:h.Ns1 dx mA):∃od,h.get? dx=some od/\∀name,W.lookIn name od=some (mA name):=by
 obtain⟨o,es,ep,ho,hd,hk,_,hm⟩:=n;refine⟨o,ho,λname=>?_⟩;have e:=hm name;unfold nsFind findBy at e;rw[←Array.find?_toList]at e;unfold W.lookIn;rw[hd];dsimp only;split
 .rename_i y q
  rw[q]at e;exact congrArg some e
 .rename_i q
  rw[q]at e;have a:es.toList.any (·.refKey)=false:=by
   rw[List.any_eq_false];intro y hy;obtain⟨z,t,hkey⟩:=hk y (Array.mem_toList_iff.mp hy);simp[DictEntry.refKey,hkey]
  have a':¬es.toList.any (·.refKey)=true:=by rw[a];exact Bool.false_ne_true
  rw[if_neg a'];exact congrArg some e
def HW.look{h:Heap}{x dx C:Addr}{mA:Str->Option Value}(I:HW h x dx C mA):∃od,W.InstAt h x (W.instObj C dx) C (some od)/\∀name,W.lookIn name od=some (mA name) :=
 let ⟨od,ho,hl⟩:=pD I.ns
 ⟨od,⟨I.obj,rfl,rfl,ho⟩,hl⟩
def iB(f:Str)(v:V):List (Str×V)->List (Str×V)
 |[]=>[(f,v)]
 |(g,x)::r=>if g=f then(g,v)::r else(g,x)::iB f v r
theorem lB(f g:Str)(v:V):∀fs:List (Str×V),(iB f v fs).lookup g=if g=f then some v else fs.lookup g
 |[]=>by
  show List.lookup g [(f,v)]=_
  by_cases h:g=f
  .have hb:(g==f)=true:=beq_iff_eq.mpr h
   simp only[List.lookup,hb,if_pos h]
  .have hb:(g==f)=false:=beq_eq_false_iff_ne.mpr h
   simp only[List.lookup,hb,if_neg h]
 |(k,x)::r=>by
  have ih:=lB f g v r;rw[show iB f v ((k,x)::r)=(if k=f then(k,v)::r else(k,x)::iB f v r) from rfl]
  by_cases hk:k=f
  .rw[if_pos hk]
   by_cases h:g=k
   .have hb:(g==k)=true:=beq_iff_eq.mpr h
    simp only[List.lookup,hb,if_pos (h.trans hk)]
   .have hb:(g==k)=false:=beq_eq_false_iff_ne.mpr h
    simp only[List.lookup,hb,if_neg (λe:g=f=>h (e.trans hk.symm))]
  .rw[if_neg hk]
   by_cases h:g=k
   .have hb:(g==k)=true:=beq_iff_eq.mpr h
    simp only[List.lookup,hb,if_neg (λe:g=f=>hk (h.symm.trans e))]
   .have hb:(g==k)=false:=beq_eq_false_iff_ne.mpr h
    simp only[List.lookup,hb];exact ih
theorem kQ(f:Str)(v:V):∀fs:List (Str×V),f∈(iB f v fs).map (·.1)/\∀g,g∈fs.map (·.1)->g∈(iB f v fs).map (·.1)
 |[]=>⟨by simp[iB],λg h=>by simp at h⟩
 |(k,x)::r=>by
  obtain⟨i1,i2⟩:=kQ f v r;rw[show iB f v ((k,x)::r)=(if k=f then(k,v)::r else(k,x)::iB f v r) from rfl]
  by_cases hk:k=f
  .rw[if_pos hk]
   subst hk;exact⟨by simp,λg h=>by simpa using h⟩
  .rw[if_neg hk]
   refine⟨?_,λg h=>?_⟩
   .rw[List.map_cons]
    exact List.mem_cons_of_mem _ i1
   .rw[List.map_cons]at h ⊢
    rcases List.mem_cons.mp h with e|e
    .exact List.mem_cons.mpr (.inl e)
    .exact List.mem_cons_of_mem _ (i2 g e)
def jR.some_of{v:V}{o:Option Value}(r:jR (some v) o):∃u,o=some u/\bb v u:=by
 cases o with|none=>exact(show False from r).elim|some u=>exact⟨u,rfl,r⟩
section
variable {P:Program}{w:World}{H H':Hp}{h h':Heap}{a C dx:Addr}{fs fs':List (Str×V)}
def xh(hok:er P w H h)(e:H a=some (.ins C dx fs)):∃mA,HW h a dx C mA/\(∀f,jR (fs.lookup f) (mA f))/\PySem.Within mA (fs.map (·.1))/\fs.length<=1000/\H dx=some (.own a):=by
 obtain⟨d,z,ne,ob,mA,n,r,q⟩:=(show br P w H h a (.ins C dx fs) from hok a _ e)
 exact⟨mA,⟨ob,n,ne⟩,r,q,z,d⟩
end
structure KG (K:W.Frag) (C:Addr):Prop where
 pg:W.plainGet K C Str.empty=true
 hd:W.hasDictIn K C=true
 po:W.plainOver K C=true
 sa:W.findIn K (.ref C) "__setattr__"=some (some (.builtin "object.__setattr__"))
def KG.get{K:W.Frag}{C:Addr}(c:KG K C)(f:Str):W.plainGet K C f=true:=c.pg
def lp(K:W.Frag)(C:Addr)(f:Str):Prop:=W.findIn K (.ref C) f=some none
section
variable {X:Cx}{pins:List (Addr×Obj)}{σ:St}{H:Hp}{s:Shared}{A:Around}{E:Value->Shared->Prop}{Q:Value->Shared->Prop}{c:Value}{b:Bool}
inductive lY (K:W.Frag) (H:Hp):V->Value->Prop where
 |non:lY K H .non (.type "NoneType")
 |bl (x:Bool):lY K H (.bl x) (.type "bool")
 |int (i:Int):lY K H (.int i) (.type "int")
 |str (x:Str):lY K H (.str x) (.type "str")
 |flt (x:UInt64):lY K H (.flt x) (.type "float")
 |lst {a:Addr}{xs:al}(e:H a=some (.lst xs)):lY K H (.ref a) (.type "list")
 |frz {a:Addr}{o:Obj}{xs:al}(e:H a=some (.frz o (.lst xs))):lY K H (.ref a) (.type "list")
 |tup {a:Addr}{xs:al}(e:H a=some (.tup xs)):lY K H (.ref a) (.type "tuple")
 |dK {a:Addr}{kvs:List (dD×V)}(e:H a=some (.dK kvs)):lY K H (.ref a) (.type "dict")
 |dT {a:Addr}{kvs:List (List dD×V)}(e:H a=some (.dT kvs)):lY K H (.ref a) (.type "dict")
 |ins {a C dx:Addr}{fs:List (Str×V)}(e:H a=some (.ins C dx fs)) (cl:KG K C) (ha:W.findIn K (.ref C) "__class__"=some (some (.builtin "object.__class__")))
   (hn:W.specialIn K (.builtin "object.__class__") "__get__"=some (some (.builtin "getset_descriptor.__get__"))) (htk:W.takesIn K (.builtin "object.__class__")=some true)
   (hm:W.mroIn K C (.type "object")=some true):lY K H (.ref a) (.ref C)
def gB{x:V}{u t:Value}(I:Inv X pins σ H s)(rx:bb x u)(ty:lY X.K H x t)(e:W.kitOne X.K t c=some b)(h:∀tk,Q (.bool b) { s with toks:=tk }) :
  wpAny (model X.prog X.w) A (call (.builtin "isinstance") [u,c]) Q E s:=by
 cases ty with
 |non=>cases (show u=Value.none from rx);exact W.kia_one W.kitx_none I.kIn True.intro e (λz=>nomatch z) h|bl y=>cases (show u=Value.bool y from rx);exact W.kia_one W.kitx_bool I.kIn True.intro e (λz=>nomatch z) h|int i=>obtain⟨t,q⟩:=(show ∃t,u=Value.int i t from rx);cases q;exact W.kia_one W.kitx_int I.kIn True.intro e (λz=>nomatch z) h|str y=>obtain⟨t,q⟩:=(show ∃t,u=Value.str y t from rx);cases q;exact W.kia_one W.kitx_str I.kIn True.intro e (λz=>nomatch z) h|flt y=>obtain⟨t,q⟩:=(show ∃t,u=Value.float y t from rx);cases q;exact W.kia_one W.kitx_float I.kIn True.intro e (λz=>nomatch z) h
 |@lst a xs ea=>
  cases (show u=Value.ref a from rx);obtain⟨_,_,n,_,h1⟩:=(show br X.prog X.w H s.heap a (.lst xs) from I.hok a _ ea)
  exact W.kia_one W.kitx_list I.kIn ⟨_,h1,rfl⟩ e (λz=>nomatch z) h
 |@frz a ob xs ea=>
  cases (show u=Value.ref a from rx);obtain⟨_,_,_,n,_,h1⟩:=(show br X.prog X.w H s.heap a (.frz ob (.lst xs)) from I.hok a _ ea)
  exact W.kia_one W.kitx_list I.kIn ⟨_,h1,rfl⟩ e (λz=>nomatch z) h
 |@tup a xs ea=>
  cases (show u=Value.ref a from rx);obtain⟨_,_,_,p⟩:=(show br X.prog X.w H s.heap a (.tup xs) from I.hok a _ ea)
  obtain⟨o,h1,h2,_⟩:=p;exact W.kia_one W.kitx_tuple I.kIn ⟨o,h1,h2⟩ e (λz=>nomatch z) h
 |@dK a kvs ea=>
  cases (show u=Value.ref a from rx);obtain⟨_,_,vs,_,p⟩:=(show br X.prog X.w H s.heap a (.dK kvs) from I.hok a _ ea)
  obtain⟨o,es,ep,h1,h2,_⟩:=p;exact W.kia_one W.kitx_dict I.kIn ⟨o,h1,h2.1⟩ e (λz=>nomatch z) h
 |@dT a kvs ea=>
  cases (show u=Value.ref a from rx);obtain⟨_,_,xs,_,o,es,ep,h1,h2,_⟩:=(show br X.prog X.w H s.heap a (.dT kvs) from I.hok a _ ea)
  exact W.kia_one W.kitx_dict I.kIn ⟨o,h1,h2.1⟩ e (λz=>nomatch z) h
 |@ins a C dx fs ea cl ha hn htk hm=>
  cases (show u=Value.ref a from rx);obtain⟨mA,O,_⟩:=xh I.hok ea;obtain⟨od,J,_⟩:=O.look;exact W.kia_one (W.kitx_own (cl.get _) cl.hd ha hn htk hm) I.kIn J e (λz=>nomatch z) h
end
structure cL (k:Nat) (A:Around):Prop where
 hd:A.handled=none
 dp:A.depth+3*k+5<recursionLimit
 un:A.units+16*k+200<cLine
 gd:A.guards=some []
def cL.mono{j k:Nat}{A:Around}(r:cL k A)(h:j<=k):cL j A:=⟨r.hd,by have:=r.dp;omega,by have:=r.un;omega,r.gd⟩
def cL.deeper{k:Nat}{A:Around}(r:cL (k+1) A)(env:Env):cL k (A.deeper env) :=
 ⟨r.hd,by have:=r.dp;show A.depth+1+3*k+5<_;omega,by have:=r.un;show A.units+3+16*k+200<_;omega,r.gd⟩
def vD{A:Around}{C:Addr}{us:List Value}{kw:List (Str×Value)}:(A.under (.builtin "type.__call__" ⟨.ref C::us,kw⟩)).depth=A.depth+1:=by
 first|rfl|simp[Around.under,Code.weight,Code.isCreation,Code.isGuard,Code.isCaller,Code.frames,Code.isFrame,guardIds]
def vC{A:Around}{C:Addr}{us:List Value}{kw:List (Str×Value)}:(A.under (.builtin "type.__call__" ⟨.ref C::us,kw⟩)).units=A.units+1:=by
 first|rfl|simp[Around.under,Code.cUnits,Code.frames,Code.isFrame]
def cL.make{k:Nat}{A:Around}(r:cL (k+1) A)(C:Addr)(us:List Value)(kw:List (Str×Value)):cL k (A.under (.builtin "type.__call__" ⟨.ref C::us,kw⟩)) :=
 ⟨r.hd,by have:=r.dp;rw[vD];omega,by have:=r.un;rw[vC];omega,by have:=r.gd;simp[Around.under,Code.guards,Code.isGuard,guardIds,pushGuards,this]⟩
def cL.depth{k:Nat}{A:Around}(r:cL k A):A.depth<recursionLimit:=by have:=r.dp;omega
def cL.units{k:Nat}{A:Around}(r:cL k A):A.units+64<cLine:=by have:=r.un;omega
def KU:TA:=λ_ H Q=>Q [] H
def IA(ta:TE)(tr:TA):TA:=λσ H Q=>ta σ H λx H1=>tr σ H1 λxs H2=>Q (x::xs) H2
section
variable {X:Cx}{e:Expr}{es:List Expr}{te:TE}{t:TA}{pos:Pos}
def dQ:PA X [] KU:=λ_ _ _ _ H Q I h=>Calls.spliced_nil ⟨[],H,I,.nil,h⟩
def bP(ha:PE X e te)(hr:PA X es t)(hs:starEach (e::es) X.env=(false,eval e X.env)::starEach es X.env:=by rfl):PA X (e::es) (IA te t):=by
 intro pos pins s σ H Q I h;rw[hs];show wpAny _ _ (spliced ((false,eval e X.env)::backTo pos (starEach es X.env))) _ _ s;refine Calls.spliced_cons (cA (ha pins s σ H _ I h) λu s1 ⟨x,H1,I1,r1,q1⟩=>?_);exact cA (hr pos pins s1 σ H1 _ I1 q1) λus s2 ⟨xs,H2,I2,r2,q2⟩=>⟨x::xs,H2,I2,.cons r1 r2,q2⟩
def KN(t:TA):TE:=λσ H Q=>t σ H λxs H1=>xs.length<=sizeLine/\∀p,H1 p=none->Q (.ref p) (upd H1 p (.tup xs))
def KW(t:TA):TE:=λσ H Q=>t σ H λxs H1=>xs.length<=sizeLine/\∀p,H1 p=none->Q (.ref p) (upd H1 p (.lst xs))
def vi{x1}(h:PA X es t):PE X (.Tuple es x1 pos) (KN t):=by
 intro pins s σ H Q I hq;refine wpAny_Tuple_spliced (cA (h pos pins s σ H _ I hq) λus s1 ⟨xs,H1,I1,r,z,q⟩=>⟨by rw[←r.length];exact z,?_⟩);have hf:H1 s1.heap.objs.size=none:=I1.hok.fresh (Nat.le_refl _);refine⟨.ref s1.heap.objs.size,upd H1 s1.heap.objs.size (.tup xs),I1.laid (t':=s1.toks) (λb u e=>Heap.get?_push_of_some _ e) (Nat.le_refl _) ?_,rfl,q _ hf⟩;exact⟨z,us,r,⟨_,Heap.get?_push_size _ rfl,rfl,_,rfl⟩⟩
def Ax(h:PA X es t):PE X (.List es pos) (KW t):=by
 intro pins s σ H Q I hq;refine wpAny_List_spliced (cA (h pos pins s σ H _ I hq) λus s1 ⟨xs,H1,I1,r,z,q⟩=>⟨by rw[←r.length];exact z,?_⟩);have hf:H1 s1.heap.objs.size=none:=I1.hok.fresh (Nat.le_refl _);refine⟨.ref s1.heap.objs.size,upd H1 s1.heap.objs.size (.lst xs),I1.laid (t':=s1.toks) (λb u e=>Heap.get?_push_of_some _ e) (Nat.le_refl _) ?_,rfl,q _ hf⟩;exact⟨z,us,0,r,Heap.get?_push_size _ rfl⟩
end
abbrev Sp:=al->Hp->VK->XK->Prop
abbrev ql:=List Env->Hp->Shared->XK->Value->Shared->Prop
structure rK (P:Program) (w:World) (K:W.Frag) (mg:Str->Option Value) (base:Heap) (A:Around) (outer:List Env) (s:Shared) (H:Hp):Prop where
 frames:A.frames=some outer
 mod:Mod K mg base
 bs:∀b o,base.get? b=some o->s.heap.get? b=some o/\H b=none
 bsz:base.objs.size<=s.heap.objs.size
 funs:s.heap.FunFrames base outer
 frf:∀b∈eQ outer,H b=none
 hok:er P w H s.heap
 bare:AllBare s.gens
def CE(outer:List Env)(P:Program)(w:World)(H:Hp)(s:Shared)(Q:VK)(u:Value)(s':Shared):Prop :=
 ∃v H',s'.os=s.os/\AllBare s'.gens/\Un (eQ outer) [] H H' s.heap s'.heap/\er P w H' s'.heap/\bb v u/\Q v H'
def CR(CX:ql)(outer:List Env)(P:Program)(w:World)(H:Hp)(s:Shared)(Q:VK)(E:XK)(r:Result)(s':Shared):Prop :=
 match r with
 |.ok (.ret u)=>CE outer P w H s Q u s'
 |.ok _=>False
 |.error e=>CX outer H s E e s'
structure eP (P:Program) (w:World) (K:W.Frag) (mg:Str->Option Value) (base:Heap) (CX:ql) (k:Nat) (f:Addr) (fd:FuncData) (ps:List Str) (sp:Sp):Prop where
 len:∀vs H Q E,sp vs H Q E->vs.length=ps.length
 run:∀(A:Around) (outer:List Env) (s:Shared) (H:Hp) (args:Args) (us:List Value) (vs:al) (Q:VK) (E:XK),cL k A->rK P w K mg base A outer s H->BindsTo s fd args (ps.zip us)->bj vs us->sp vs H Q E ->
  codeAny (model P w) A (.call (.ref f) args) (CR CX outer P w H s Q E) s
def eP.mono{P:Program}{w:World}{K:W.Frag}{mg:Str->Option Value}{base:Heap}{CX:ql}{j k:Nat}{f:Addr}{fd:FuncData}{ps:List Str}{sp:Sp}(F:eP P w K mg base CX j f fd ps sp)(h:j<=k) :
  eP P w K mg base CX k f fd ps sp:=⟨F.len,λA outer s H args us vs Q E hr=>F.run A outer s H args us vs Q E (hr.mono h)⟩
def rK.make{P:Program}{w:World}{K:W.Frag}{mg:Str->Option Value}{base:Heap}{A:Around}{outer:List Env}{s:Shared}{H:Hp}(e:rK P w K mg base A outer s H)(C:Addr)(us:List Value)(kw:List (Str×Value)) :
  rK P w K mg base (A.under (.builtin "type.__call__" ⟨.ref C::us,kw⟩)) outer s H:=⟨by first|exact e.frames|(simpa[Around.under,Code.envs,Code.isFrame,pushEnvs] using e.frames),e.mod,e.bs,e.bsz,e.funs,e.frf,e.hok,e.bare⟩
section
variable {X:Cx}{pins:List (Addr×Obj)}{σ:St}{H:Hp}{s s':Shared}
def Inv.env0(I:Inv X pins σ H s):rK X.prog X.w X.K X.mg X.base X.A X.stack s H :=
 ⟨I.ok.frames,I.ok.mod,I.bs,Nat.le_trans I.ok.bsz I.sz,I.stack,I.stkFree,I.hok,I.bare⟩
def Inv.after{Q:VK}{u:Value}(I:Inv X pins σ H s)(h:CE X.stack X.prog X.w H s Q u s'):EP X pins σ Q u s':=by
 obtain⟨v,H',os,bare,un,hok,r,q⟩:=h;obtain⟨hh,g,d,t,os'⟩:=s';obtain rfl:os'=s.os:=os;exact⟨v,H',I.call (h':=hh) (g':=g) (d':=d) (t':=t) (ch:=[]) un hok bare (λb z=>absurd z (by simp)),r,q⟩
end
def IB(sp:Sp)(dvs:al)(E:XK)(t:TA):TE:=λσ H Q=>t σ H λvs H1=>sp (vs++dvs) H1 Q E
def iz(K:W.Frag)(fd:FuncData)(ps:List Str)(ds:List Value):Prop :=
 ∀(s:Shared) (us:List Value),K.In s.heap->(us++ds).length=ps.length->BindsTo s fd ⟨us,[]⟩ (ps.zip (us++ds))
def iz.all{K:W.Frag}{fd:FuncData}{ps:List Str}(h:∀us:List Value,us.length=ps.length->bindArgs fd ⟨us,[]⟩=pure (ps.zip us)):iz K fd ps []:=λs us _ hl=>by
 rw[List.append_nil]at hl ⊢;exact .of_eq (h us hl)
def ll(CX:ql)(X:Cx)(E:XK):Prop:=∀(pins:List (Addr×Obj)) (σ:St) (H:Hp) (s:Shared) (e:Value) (s':Shared),Inv X pins σ H s->CX X.stack H s E e s'->X.xe e s'
section
variable {X:Cx}{CX:ql}{k:Nat}{f C:Addr}{fd:FuncData}{ps:List Str}{sp:Sp}{dvs:al}{ds:List Value}{E:XK}{x m:Str}{p pos apos:Pos}{e o:Expr}{es:List Expr}{ta:TE}{t:TA}
def F4{pins:List (Addr×Obj)}{σ:St}{H:Hp}{s:Shared}{Q:VK}{us:List Value}{vs:al}(F:eP X.prog X.w X.K X.mg X.base CX k f fd ps sp)(hr:cL k X.A)(hb:iz X.K fd ps ds)(hd:bj dvs ds)(hx:ll CX X E)
  (I:Inv X pins σ H s)(r:bj vs us)(h:sp (vs++dvs) H Q E):wpAny (model X.prog X.w) X.A (call (.ref f) us) (EP X pins σ Q) X.xe s:=by
 have r2:bj (vs++dvs) (us++ds):=r.append hd;have hl:(us++ds).length=ps.length:=by rw[←r2.length];exact F.len _ _ _ _ h
 refine wpAny_call (codeAny_mono (F.run X.A X.stack s H ⟨us,[]⟩ (us++ds) (vs++dvs) Q E hr I.env0 (hb s us I.kIn hl) r2 h) λr s' hq=>?_);cases r with
 |error e=>exact hx pins σ H s e s' I hq
 |ok fl=>
  cases fl with|ret u=>exact I.after hq|next|brk|cont=>exact False.elim hq
def C8(F:eP X.prog X.w X.K X.mg X.base CX k f fd ps sp)(hr:cL k X.A)(hg:Gl X x)(hm:X.mg x=some (.ref f))(hk:W.keepIn X.K (.ref f)=true)(hb:iz X.K fd ps ds)(hd:bj dvs ds)(hx:ll CX X E)
  (ha:PA X (e::es) t)(hdb:(x==("__debug__":Str))=false:=by decide)(he:starEach (e::es) X.env=(false,eval e X.env)::starEach es X.env:=by rfl)(hpl:(backTo pos (starEach es X.env)).any (·.1)=false:=by rfl) :
  PE X (.Call (.Name x p) (e::es) [] pos) (IB sp dvs E t):=by
 intro pins s σ H Q I h;refine wpAny_Call_Name_kw (fN I hg hm ?_ hdb);refine W.callWith_K (h₀:=X.base) I.ok.mod.kin hk (cA (ha pos pins s σ H _ I h) λus s1 z9=>?_) he hpl;obtain⟨vs,H1,I1,r,q⟩:=z9;refine⟨I1.kIn,?_⟩;exact F4 F hr hb hd hx I1 r q
end
structure eD (N P:List Str) (sc:Scope):Prop where
 kind:sc.kind=.function
 co:sc.isCoroutine=false
 gen:sc.isGenerator=false
 nd:N.Nodup
 pre:N.take P.length=P
 par:∀x∈P,sc.names.lookup x=some .local ∨ sc.names.lookup x=some .cell
 nofree:∀y∈sc.names,y.2≠.free
theorem pZ{kindOf:Str->Option NameKind}{x:Str}:∀{binds:List (Str×Value)}{m:Str->Option Value},(∀v,(x,v)∉binds)->bindL kindOf binds m x=m x
 |[],_,_=>rfl
 |(n,v)::r,m,h=>by
  unfold bindL;rw[pZ λw hw=>h w (List.mem_cons_of_mem _ hw)];split
  .have:x≠n:=by rintro rfl;exact h v List.mem_cons_self
   simp[this]
  .rfl
theorem p7{kindOf:Str->Option NameKind}{x:Str}:∀{binds:List (Str×Value)}{m:Str->Option Value},(∀v,(x,v)∉binds)->bindC kindOf binds m x=m x
 |[],_,_=>rfl
 |(n,v)::r,m,h=>by
  unfold bindC;rw[p7 λw hw=>h w (List.mem_cons_of_mem _ hw)];split
  .rfl
  .have:x≠n:=by rintro rfl;exact h v List.mem_cons_self
   simp[this]
theorem p6{kindOf:Str->Option NameKind}{x:Str}{v:Value}:∀{P:List Str}{vs:List Value}{i:Nat}{m:Str->Option Value},P.Nodup->P[i]?=some x->vs[i]?=some v->kindOf x=some .local ->
  bindL kindOf (P.zip vs) m x=some v
 |[],_,_,_,_,h,_,_=>by simp at h
 |_::_,[],_,_,_,_,h,_=>by simp at h
 |p::P,w::vs,0,m,nd,h1,h2,hk=>by
  simp at h1 h2;subst h1;subst h2;show bindL kindOf ((p,w)::P.zip vs) m p=_;unfold bindL;rw[pZ λv hv=>(List.nodup_cons.mp nd).1 (List.of_mem_zip hv).1,if_pos hk];simp
 |p::P,w::vs,i+1,m,nd,h1,h2,hk=>by
  show bindL kindOf ((p,w)::P.zip vs) m x=_;unfold bindL;exact p6 (i:=i) (List.nodup_cons.mp nd).2 (by simpa using h1) (by simpa using h2) hk
theorem p8{kindOf:Str->Option NameKind}{x:Str}{v:Value}:∀{P:List Str}{vs:List Value}{i:Nat}{m:Str->Option Value},P.Nodup->P[i]?=some x->vs[i]?=some v->kindOf x≠some .local ->
  bindC kindOf (P.zip vs) m x=some v
 |[],_,_,_,_,h,_,_=>by simp at h
 |_::_,[],_,_,_,_,h,_=>by simp at h
 |p::P,w::vs,0,m,nd,h1,h2,hk=>by
  simp at h1 h2;subst h1;subst h2;show bindC kindOf ((p,w)::P.zip vs) m p=_;unfold bindC;rw[p7 λv hv=>(List.nodup_cons.mp nd).1 (List.of_mem_zip hv).1,if_neg hk];simp
 |p::P,w::vs,i+1,m,nd,h1,h2,hk=>by
  show bindC kindOf ((p,w)::P.zip vs) m x=_;unfold bindC;exact p8 (i:=i) (List.nodup_cons.mp nd).2 (by simpa using h1) (by simpa using h2) hk
def start(N:List Str)(vs:al):St:=vs.map some++List.replicate (N.length-vs.length) none
noncomputable def cf(CX:ql) (P:Program) (w:World) (K:W.Frag) (mg:Str->Option Value) (base:Heap) (N:List Str) (qual:Str) (scope:Scope) (f:Addr) (cd:Value) (A:Around) (outer:List Env) (s:Shared) (H:Hp) (E:XK):Cx where
 prog:=P
 w:=w
 K:=K
 mg:=mg
 base:=base
 A:=A.deeper (envOfC qual scope s.heap.objs.size f cd)
 N:=N
 sf:=s
 Ha:=H
 env:=envOfC qual scope s.heap.objs.size f cd
 outer:=outer
 stack:=envOfC qual scope s.heap.objs.size f cd::outer
 ex:=[]
 calm:=true
 fn:=λ_=>true
 pn:=[]
 xe:=λe s'=>wpAny (model P w) (A.deeper (envOfC qual scope s.heap.objs.size f cd)) (leaving (envOfC qual scope s.heap.objs.size f cd) e) (λ_ s''=>CX outer H s E e s'') (λe' s''=>CX outer H s E e' s'') s'
def ur{sc:Scope}{n:Nat}{x:Str}(h:sc.names.lookup x=some .cell):∃c,(cellsFrom n sc.names []).lookup x=some c:=by
 have q:=W.cellsFrom_some sc.names n [] (.inl h);exact Option.isSome_iff_exists.mp q
def yF{CX:ql}{P:Program}{w:World}{K:W.Frag}{mg:Str->Option Value}{base:Heap}{N ps:List Str}{qual:Str}{scope:Scope}{f:Addr}{cd:Value}{A:Around}{outer:List Env}{s s1:Shared}{H:Hp}{E:XK}{us:List Value}{vs:al}
  (S:eD N ps scope)(hd:A.handled=none)(e0:rK P w K mg base A outer s H)(hl:vs.length=ps.length)(r:bj vs us)
  (x:InCallC s s.heap.objs.size (bindL (envOfC qual scope s.heap.objs.size f cd).kindOf (ps.zip us) λ_=>none) (cellsFrom (s.heap.objs.size+1) scope.names []) (bindC (envOfC qual scope s.heap.objs.size f cd).kindOf (ps.zip us) λ_=>none) s1) :
  Inv (cf CX P w K mg base N qual scope f cd A outer s H E) [] (start N vs) H s1:=by
 have hpl:ps.length<=N.length:=by have:=congrArg List.length S.pre;rw[List.length_take]at this;omega
 obtain⟨h1,tk,rfl,hk⟩:=x.done;have noA:∀b:Addr,b∉(cf CX P w K mg base N qual scope f cd A outer s H E).ex:=λb z=>absurd (show b∈([]:List Addr) from z) (by simp);refine⟨⟨e0.mod,S.kind,rfl,rfl,Nat.le_refl _,λy z c h1 h2=>?_,λy hy=>?_,λy c _ h=>?_,λ_=>hd,Around.frames_deeper e0.frames,.inr ⟨rfl,rfl⟩,λb z=>absurd z (noA b),e0.bs,e0.bsz,λb _ _=>noA b,λb z=>absurd z (noA b),e0.funs,e0.frf⟩,
  rfl,e0.bare,Un.kept hk,⟨_,x.toInCall.ns,λi y v h1 h2 h3=>?_⟩,λy c h=>⟨_,x.cell y c h⟩,e0.hok.fresh (Nat.le_refl _),λy c h=>?_,λp hp=>absurd (show p∈([]:List (Addr×Obj)) from hp) (by simp),e0.hok.kept hk,?_⟩
 .exact name_of_addr x.apart (PySem.mem_of_lookup h1) (PySem.mem_of_lookup h2)
 .have hy:scope.names.lookup y=some .cell∨scope.names.lookup y=some .free:=hy
  rcases hy with hy|hy
  .exact ur hy
  .exact absurd rfl (S.nofree _ (PySem.mem_of_lookup hy))
 .exact Nat.le_of_lt (x.above y c (PySem.mem_of_lookup h))
 .have hi:i<vs.length:=by
   unfold start at h2
   by_cases hi:i<vs.length
   .exact hi
   .rw[List.getElem?_append_right (by simpa using hi)]at h2
    rw[List.getElem?_replicate]at h2;split at h2<;>cases h2
  have ha:vs[i]?=some v:=by
   unfold start at h2;rw[List.getElem?_append_left (by simpa using hi),List.getElem?_map]at h2;cases e:vs[i]? with|none=>rw[e]at h2;cases h2|some a=>rw[e]at h2;cases h2;rfl
  obtain⟨u,hu,rv⟩:=r.get ha;have hp:ps[i]?=some y:=by
   rw[←S.pre,List.getElem?_take_of_lt (by omega)];exact h1
  have ndP:ps.Nodup:=by rw[←S.pre];exact S.nd.sublist (List.take_sublist _ _)
  refine⟨u,rv,?_⟩;rcases S.par y (List.mem_of_getElem? hp) with k|k
  .exact .inl ⟨k,p6 ndP hp hu k⟩
  .obtain⟨c,e⟩:=ur (n:=s.heap.objs.size+1) k
   refine .inr ⟨.inl k,c,e,?_⟩;have q:=x.cell y c e;rw[p8 ndP hp hu (by show scope.names.lookup y≠_;rw[k];decide)]at q;exact q
 .exact e0.hok.fresh (Nat.le_of_lt (x.above y c (PySem.mem_of_lookup h)))
 .unfold start
  show _=N.length;rw[List.length_append,List.length_map,List.length_replicate];omega
def Fj{CX:ql}{P:Program}{w:World}{K:W.Frag}{mg:Str->Option Value}{base:Heap}{k:Nat}{f:Addr}{name qual:Str}{params:Arguments}{body:List Stmt}{scope:Scope}{dV kV doc pm cdv ct oc:Value}{an od:Option Addr}
  {osl:Array (Option Value)}{N ps:List Str}{sp:Sp}(lk:K.lookup f=some ⟨oc,od,.func (W.fnOf name qual params body scope dV kV doc pm an cdv ct),osl⟩) (hcd:W.codeIn K cdv qual=true) (S:eD N ps scope)
  (len:∀vs H Q E,sp vs H Q E->vs.length=ps.length)
  (hbody:∀(A:Around) (outer:List Env) (s:Shared) (H:Hp) (vs:al) (Q:VK) (E:XK),cL k (A.deeper (envOfC qual scope s.heap.objs.size f cdv))->sp vs H Q E ->
   ∃t,uG (cf CX P w K mg base N qual scope f cdv A outer s H E) body t/\t { nx:=λ_ H'=>Q .non H',rt:=Q } (start N vs) H) :
  eP P w K mg base CX (k+1) f (W.fnOf name qual params body scope dV kV doc pm an cdv ct) ps sp:=by
 refine⟨len,λA outer s H args us vs Q E hr e0 hb r hsp=>?_⟩;have hl:=len _ _ _ _ hsp;have KX:K.In s.heap:=e0.mod.kin.keeps λb o e=>(e0.bs b o e).1;have lim:s.heap.NoLimit:=e0.mod.nolimit.keeps λb o e=>(e0.bs b o e).1;have hkind:∀y∈ps.zip us,scope.names.lookup y.1=some .local ∨ (scope.names.lookup y.1=some .cell/\((cellsFrom (s.heap.objs.size+1) scope.names []).lookup y.1).isSome=true):=λ⟨n,v⟩ hy=>by
  rcases S.par n (List.of_mem_zip hy).1 with q|q
  .exact .inl q
  .exact .inr ⟨q,W.cellsFrom_some _ _ _ (.inl q)⟩
 refine codeAny_call_function hr.depth (KX _ _ lk) rfl S.co S.gen rfl (W.codeRec_of KX hcd) (hb _ _ _ _ ?_);refine wpAny_newFunctionEnv_cells S.kind hkind λenv he s1 x=>?_;subst he;refine⟨lim.keeps x.toInCall.keep,codeAny_func ?_⟩;obtain⟨t,ht,hq⟩:=hbody A outer s H vs Q E (hr.deeper _) hsp;have I:Inv (cf CX P w K mg base N qual scope f cdv A outer s H E) [] (start N vs) H s1:=yF S hr.hd e0 hl r x;refine wpAny_mono (ht [] s1 (start N vs) H _ I hq) (λfl s' hs=>?_) λe s' hs=>hs;have fin:∀{σ':St}{H':Hp}{v:V}{u:Value},Inv (cf CX P w K mg base N qual scope f cdv A outer s H E) [] σ' H' s'->bb v u->Q v H'->CE outer P w H s Q u s' :=
  λ{σ' H' v u} J rv q=>⟨v,H',J.os,J.bare,J.base,J.hok,rv,q⟩
 cases fl with
 |ret u=>
  obtain⟨v,σ',H',J,rv,q⟩:=hs;exact fin J rv q
 |next=>
  obtain⟨σ',H',J,q⟩:=hs;exact fin (v:=V.non) (u:=Value.none) J rfl q
 |brk=>
  obtain⟨_,_,_,q⟩:=hs;exact False.elim q
 |cont=>
  obtain⟨_,_,_,q⟩:=hs;exact False.elim q
section
variable {X:Cx}{x:Str}{p pos:Pos}{e:Expr}{es:List Expr}{t:TA}{id T:String}{r:al->Hp->VK->Prop}
def Ly(r:al->Hp->VK->Prop)(t:TA):TE:=λσ H Q=>t σ H λvs H1=>r vs H1 Q
def iI(hc:iX X (.builtin id) r)(hg:Gl X x)(hm:X.mg x=none)(hv:bootBuiltins x=some (.builtin id))(ha:PA X (e::es) t)(hn:x≠"__name__":=by decide)(hdb:(x==("__debug__":Str))=false:=by decide)
  (he:starEach (e::es) X.env=(false,eval e X.env)::starEach es X.env:=by rfl)(hpl:(backTo pos (starEach es X.env)).any (·.1)=false:=by rfl):PE X (.Call (.Name x p) (e::es) [] pos) (Ly r t):=by
 intro pins s σ H Q I h;refine wpAny_Call_Name_kw (jN I hg hm hv ?_ hn hdb);exact PyProof.Rows.callWith_builtin1 (cA (ha pos pins s σ H _ I h) λus s1 ⟨vs,H1,I1,r1,q1⟩=>hc pins s1 σ H1 vs us Q I1 r1 q1) he hpl
def yi(hc:iX X (.type T) r)(hg:Gl X x)(hm:X.mg x=none)(hv:bootBuiltins x=some (.type T))(ha:PA X (e::es) t)(hn:x≠"__name__":=by decide)(hdb:(x==("__debug__":Str))=false:=by decide)
  (he:starEach (e::es) X.env=(false,eval e X.env)::starEach es X.env:=by rfl)(hpl:(backTo pos (starEach es X.env)).any (·.1)=false:=by rfl):PE X (.Call (.Name x p) (e::es) [] pos) (Ly r t):=by
 intro pins s σ H Q I h;refine wpAny_Call_Name_kw (jN I hg hm hv ?_ hn hdb);exact PyProof.Rows.callWith_type1 (cA (ha pos pins s σ H _ I h) λus s1 ⟨vs,H1,I1,r1,q1⟩=>hc pins s1 σ H1 vs us Q I1 r1 q1) he hpl
end
end L2
namespace HT
open PySem PyProof.Rows
section
variable {prog:Program}{w:World}{A:Around}{E:Value->Shared->Prop}{s:Shared}
def cat_tup{t b:Addr}{vs ws:List Value}{Q:Value->Shared->Prop}(ht:IsTup s.heap t vs.toArray)(hb:IsTup s.heap b ws.toArray)(hv:vs≠[])
  (h1:ws=[]->Q (.ref t) s)(h2:ws≠[]->Q (.ref s.heap.objs.size) { s with heap:=s.heap.push { cls:=.type "tuple",data:=.seq (vs++ws).toArray } })
  (hsz:vs.length+ws.length<=sizeLine):wpAny (model prog w) A (binaryOp .Add (.ref t) (.ref b)) Q E s:=by
 obtain⟨⟨cls,dd,data,sl⟩,ho,hc,n,hd⟩:=id ht;obtain⟨⟨cls2,dd2,data2,sl2⟩,ho2,hc2,n2,hd2⟩:=id hb;simp only at hc hd hc2 hd2;subst hc hd hc2 hd2;have e:vs.toArray++ws.toArray=(vs++ws).toArray:=by simp
 by_cases hw:ws=[]
 .exact concat_meets ⟨_,ho,rfl⟩ ⟨_,ho2,rfl⟩ noFill_tuple_add seq_tuple_add PySem.F.slot_tuple_add PySem.F.entry_tuple_add (PySem.F.args_tuple_add_2 _ _)
   (tuple_addW1 t b vs.toArray ws.toArray n n2 dd dd2 sl sl2 (by simpa using hv) (by simp[hw])) ⟨ho,ho2,h1 hw⟩
 .refine concat_meets ⟨_,ho,rfl⟩ ⟨_,ho2,rfl⟩ noFill_tuple_add seq_tuple_add PySem.F.slot_tuple_add PySem.F.entry_tuple_add (PySem.F.args_tuple_add_2 _ _)
   (tuple_addW2 t b vs.toArray ws.toArray n n2 dd dd2 sl sl2 (by simpa using hv) (by simpa using hw) (by rw[List.size_toArray,List.size_toArray];exact hsz)) ⟨ho,ho2,?_⟩
  rw[e];exact h2 hw
def sIx(n d:Nat):Option Int->Nat
 |none=>d
 |some v=>if v<0 then(v+(n:Int)).toNat else min v.toNat n
def sIx_none(n d:Nat):sIx n d none=d:=rfl
def sIx_nat(n d k:Nat):sIx n d (some (k:Int))=min k n:=by
 show(if(k:Int)<0 then((k:Int)+(n:Int)).toNat else min (k:Int).toNat n)=min k n;rw[if_neg (by omega),Int.toNat_natCast]
def F3(n d:Nat)(hd:d<=n)(o:Option Int):sIx n d o<=n:=by
 cases o with
 |none=>exact hd
 |some v=>
  show(if v<0 then(v+(n:Int)).toNat else min v.toNat n)<=n
  by_cases hv:v<0
  .rw[if_pos hv];omega
  .rw[if_neg hv];exact Nat.min_le_right _ _
def xD(v:Int)(n d:Nat):(if v<0 then max (v+(n:Int)) 0 else min v (n:Int))=((sIx n d (some v):Nat):Int):=by
 show(if v<0 then max (v+(n:Int)) 0 else min v (n:Int))=(((if v<0 then(v+(n:Int)).toNat else min v.toNat n):Nat):Int)
 by_cases hv:v<0
 .simp only[if_pos hv];omega
 .simp only[if_neg hv];omega
def wb(lo hi:Option Int)(n:Nat):Builtin.Slice.sliceAdjust lo hi 1 (n:Int)=(((sIx n 0 lo:Nat):Int),((sIx n n hi:Nat):Int)):=by
 have h1:¬((1:Int)<0):=by omega
 unfold Builtin.Slice.sliceAdjust;simp only[h1,if_false];refine Prod.ext ?_ ?_
 .cases lo with
  |none=>rfl
  |some v=>exact xD v n 0
 .cases hi with
  |none=>rfl
  |some v=>exact xD v n n
def vh(i j:Nat):Builtin.Slice.slicePlaces (i:Int) (j:Int) 1=j-i:=by
 unfold Builtin.Slice.slicePlaces;have h1:(1:Int) > 0:=by omega
 simp only[h1,if_true,Int.ediv_one];split<;>omega
def mI{v:Value}{o:Option Int}{Q:Option Int->Shared->Prop}(p:IsPart v o)(h:Q o s):wpAny (model prog w) A (Builtin.Slice.slicePartIndex v) Q E s:=by
 cases p with|none=>exact slicePart_none h|int i t=>exact slicePart_int h
def kM{sl:Addr}{vl vu:Value}{lo hi:Option Int}{n:Nat}{Q:Int×Int×Nat->Shared->Prop}(hs:s.heap.IsSliceOf sl vl vu .none)(pl:IsPart vl lo)(pu:IsPart vu hi)
  (h:Q (((sIx n 0 lo:Nat):Int),1,sIx n n hi-sIx n 0 lo) s):wpAny (model prog w) A (Builtin.Slice.sliceApplied (.ref sl) (pure (n:Int))) Q E s:=by
 obtain⟨os,hos,hcs,hds⟩:=id hs;unfold Builtin.Slice.sliceApplied Builtin.Slice.sliceFields;refine wpAny_bind (wpAny_bind (wpAny_field hos hds (x:=vl) rfl (wpAny_bind (wpAny_field hos hds (x:=vu) rfl (wpAny_bind (wpAny_field hos hds (x:=.none) rfl (wpAny_pure ?_)))))));refine wpAny_bind (slicePart_none ?_);show wpAny _ _ (if((1:Int)==0)=true then _ else _) _ _ s;rw[if_neg (by decide)];refine wpAny_bind (mI pl (wpAny_bind (mI pu (wpAny_bind (wpAny_pure ?_)))));show wpAny _ _ (match Builtin.Slice.sliceAdjust lo hi 1 (n:Int) with|(lo,hi)=>pure (lo,(1:Int),Builtin.Slice.slicePlaces lo hi 1)) _ _ s;rw[wb lo hi n];show wpAny _ _ (pure (((sIx n 0 lo:Nat):Int),(1:Int),Builtin.Slice.slicePlaces ((sIx n 0 lo:Nat):Int) ((sIx n n hi:Nat):Int) 1)) _ _ s;rw[vh];exact wpAny_pure h
def Ar(xs:Array Value)(i k:Nat):((List.range k).filterMap λ(m:Nat)=>xs[((i:Int)+(m:Int)*1).toNat]?).toArray=((xs.toList.drop i).take k).toArray:=by
 have e:(λ(m:Nat)=>xs[((i:Int)+(m:Int)*1).toNat]?)=λm=>xs[i+m]?:=by
  funext m;have:((i:Int)+(m:Int)*1).toNat=i+m:=by omega
  rw[this]
 rw[e];have:=pick_run xs i k;rw[List.filterMap_map]at this;have e2:((λx=>xs[x]?)∘λx=>i+x)=λm=>xs[i+m]?:=rfl;rw[e2]at this;rw[this]
def getItem_tuple_cut{t sl:Addr}{items:Array Value}{vl vu:Value}{lo hi:Option Int}{Q:Value->Shared->Prop}(ht:IsTup s.heap t items)(hs:s.heap.IsSliceOf sl vl vu .none)(pl:IsPart vl lo)(pu:IsPart vu hi)
  (hw:¬(sIx items.size 0 lo=0/\sIx items.size items.size hi=items.size))
  (h:Q (.ref s.heap.objs.size) { s with heap:=s.heap.push { cls:=.type "tuple",data:=.seq ((items.toList.drop (sIx items.size 0 lo)).take (sIx items.size items.size hi-sIx items.size 0 lo)).toArray } })
  (hsz:items.size<=sizeLine):wpAny (model prog w) A (getItem (.ref t) (.ref sl)) Q E s:=by
 have htake:sizeOk (.seq ((items.toList.drop (sIx items.size 0 lo)).take (sIx items.size items.size hi-sIx items.size 0 lo)).toArray):=by
  show((items.toList.drop (sIx items.size 0 lo)).take (sIx items.size items.size hi-sIx items.size 0 lo)).toArray.size<=sizeLine;rw[List.size_toArray,List.length_take,List.length_drop,Array.length_toList];omega
 have hj:sIx items.size items.size hi<=items.size:=F3 _ _ (Nat.le_refl _) hi;obtain⟨os,hos,hcs,hds⟩:=id hs;have hTs:s.TypeIs (.ref sl) "slice":=⟨os,hos,hcs⟩
 unfold getItem
 try with_reducible refine wpAny_holding ?_
 first|refine wpAny_bind (wpAny_pure ?_)|skip
 refine wpAny_bind (wpAny_sequenceKey ht.typeIs (by decide) ?_);refine wpAny_bind (wpAny_callSpecial?_slot (name:=Str.ofString "__getitem__") ht.typeIs PyProof.Rows.slot_tuple_getitem
  (wpAny_call_entry PyProof.Rows.slot_tuple_getitem ht.typeIs entry_tuple_getitem ?_ (args_tuple_getitem _ _)))
 show wpAny _ _ (Builtin.Tuple.tupleItemsOf (.ref t) >>= _) _ _ s;refine wpAny_bind (tupleItemsOf_ ht ?_);refine wpAny_bind (wpAny_typeOf hTs ?_);rw[if_pos (by decide)];refine wpAny_bind (kM hs pl pu ?_);have hno:¬((((sIx items.size 0 lo:Nat):Int)==0&&(1:Int)==1&&(sIx items.size items.size hi-sIx items.size 0 lo)==items.size)=true):=by
  intro q;rw[Bool.and_eq_true,Bool.and_eq_true]at q;have q1:((sIx items.size 0 lo:Nat):Int)=0:=eq_of_beq q.1.1;have q2:sIx items.size items.size hi-sIx items.size 0 lo=items.size:=eq_of_beq q.2;exact hw ⟨by omega,by omega⟩
 show wpAny _ _ (if(((sIx items.size 0 lo:Nat):Int)==0&&(1:Int)==1&&(sIx items.size items.size hi-sIx items.size 0 lo)==items.size)=true then _ else _) _ _ s;rw[if_neg hno,Ar]
 first
  |exact wpAny_bind (m:=Builtin.Tuple.tupleExact _) (wpAny_newObj_type (wpAny_pure ⟨_,rfl,wpAny_pure h⟩) htake)
  |exact wpAny_bind (m:=Builtin.Tuple.tupleExact _) (wpAny_newObj_type (wpAny_bind (wpAny_pure (wpAny_pure ⟨_,rfl,wpAny_pure h⟩))) htake)
  |exact wpAny_bind (wpAny_bind (m:=Builtin.Tuple.tupleExact _) (wpAny_newObj_type (wpAny_pure (wpAny_pure ⟨_,rfl,wpAny_pure h⟩)) htake))
  |exact wpAny_bind (wpAny_bind (m:=Builtin.Tuple.tupleExact _) (wpAny_newObj_type (wpAny_pure ⟨_,rfl,wpAny_pure h⟩) htake))
end
end HT
namespace L2
open PySem PySem.Spec PyProof.Rows
abbrev TO:=St->Hp->(Option Int->Hp->Prop)->Prop
def PO(X:Cx)(e:Option Expr)(t:TO):Prop :=
 ∀(pins:List (Addr×Obj)) (s:Shared) (σ:St) (H:Hp) (Q:Option Int->Hp->Prop),Inv X pins σ H s->t σ H Q ->
  wpAny (model X.prog X.w) X.A (evalPart e X.env) (λu s'=>∃o H',Inv X pins σ H' s'/\IsPart u o/\Q o H') X.xe s
def CA:TO:=λ_ H Q=>Q none H
def Iq(t:TE):TO:=λσ H Q=>t σ H λx H1=>∃i,x=.int i/\Q (some i) H1
section
variable {X:Cx}{e:Expr}{te:TE}{lo hi:Option Expr}{tl th:TO}{pos p2:Pos}
def CW:PO X none CA:=by
 intro pins s σ H Q I h;rw[evalPart_none];exact wpAny_pure ⟨none,H,I,.none,h⟩
def CV(h:PE X e te):PO X (some e) (Iq te):=by
 intro pins s σ H Q I hw;rw[evalPart_some];refine cA (h pins s σ H _ I hw) λu s1 ⟨x,H1,I1,r1,q1⟩=>?_;obtain⟨i,rfl,q⟩:=q1;obtain⟨t,rfl⟩:=r1;exact⟨some i,H1,I1,.int i t,q⟩
noncomputable def B8(X:Cx) (r:V->Option Int->Option Int->Hp->VK->Prop):Prop :=
 ∀(pins:List (Addr×Obj)) (s:Shared) (σ:St) (H:Hp) (x:V) (v vl vu:Value) (lo hi:Option Int) (sl:Addr) (Q:VK),Inv X pins σ H s->bb x v->s.heap.IsSliceOf sl vl vu .none->IsPart vl lo->IsPart vu hi->r x lo hi H Q ->
  ∃T id,typeLookup (.type T) "__getitem__"=pure (some (.builtin id))/\s.TypeIs v T/\wpAny (model X.prog X.w) X.A (getItem v (.ref sl)) (EP X pins σ Q) X.xe s
def B8.or{r r':V->Option Int->Option Int->Hp->VK->Prop}(h:B8 X r)(h':B8 X r'):B8 X (λx lo hi H Q=>r x lo hi H Q∨r' x lo hi H Q):=by
 intro pins s σ H x v vl vu lo hi sl Q I rx hs pl pu q;rcases q with q|q
 .exact h pins s σ H x v vl vu lo hi sl Q I rx hs pl pu q
 .exact h' pins s σ H x v vl vu lo hi sl Q I rx hs pl pu q
def Lw(r:V->Option Int->Option Int->Hp->VK->Prop)(te:TE)(tl th:TO):TE:=λσ H Q=>te σ H λx H1=>tl σ H1 λl H2=>th σ H2 λu H3=>r x l u H3 Q
def Au{r:V->Option Int->Option Int->Hp->VK->Prop}(hr:B8 X r)(he:PE X e te)(hl:PO X lo tl)(hu:PO X hi th):PE X (.Subscript e (.Slice lo hi none p2) pos) (Lw r te tl th):=by
 intro pins s σ H Q I h;refine Subscript_ (cA (he pins s σ H _ I h) λv s1 ⟨x,H1,I1,r1,q1⟩=>?_);refine wpAny_Slice (cA (hl pins s1 σ H1 _ I1 q1) λvl s2 ⟨l,H2,I2,pl,q2⟩=>cA (hu pins s2 σ H2 _ I2 q2) λvu s3 ⟨u,H3,I3,pu,q3⟩=>?_);rw[evalPart_none];refine wpAny_pure ?_;have I4:Inv X pins σ H3 { s3 with heap:=s3.heap.push { cls:=.type "slice",data:=.fields #[vl,vu,.none] } }:=I3.kept (t':=s3.toks) λb ob q=>Heap.get?_push_of_some _ q;obtain⟨T,id,hT,ht,hg⟩:=hr pins { s3 with heap:=s3.heap.push { cls:=.type "slice",data:=.fields #[vl,vu,.none] } } σ H3 x v vl vu l u s3.heap.objs.size Q I4 r1 (Heap.IsSliceOf.new ..) pl pu q3;show wpAny (model X.prog X.w) X.A (subscriptTail e (.Slice lo hi none p2) v (.ref s3.heap.objs.size)) (EP X pins σ Q) X.xe { s3 with heap:=s3.heap.push { cls:=.type "slice",data:=.fields #[vl,vu,.none] } };exact tail_any (ops:=[.ref s3.heap.objs.size,v]) ht hT hg (by with_unfolding_all rfl)
def uo(xs:al)(lo hi:Option Int):al:=(xs.drop (HT.sIx xs.length 0 lo)).take (HT.sIx xs.length xs.length hi-HT.sIx xs.length 0 lo)
def lJ(xs:al)(lo hi:Option Int):(uo xs lo hi).length<=xs.length:=by
 unfold uo;rw[List.length_take,List.length_drop];omega
def K4(K:W.Frag):V->Option Int->Option Int->Hp->VK->Prop:=λx lo hi H Q=>∃a xs,x=.ref a/\ip K H a xs /\
 ¬(HT.sIx xs.length 0 lo=0/\HT.sIx xs.length xs.length hi=xs.length)/\∀p,H p=none->Q (.ref p) (upd H p (.tup (uo xs lo hi)))
def F1:B8 X (K4 X.K):=by
 intro pins s σ H x v vl vu lo hi sl Q I rx hs pl pu h;obtain⟨a,xs,rfl,hx,hw,q⟩:=h;cases rx;obtain⟨its,r,ht,hz⟩:=I.tuple hx;have hlen:its.toArray.size=xs.length:=by rw[List.size_toArray];exact r.length.symm
 refine⟨"tuple",_,PyProof.Rows.slot_tuple_getitem.lookup,ht.typeIs,?_⟩;refine HT.getItem_tuple_cut ht hs pl pu (by rw[hlen];exact hw) ?_ (by rw[hlen];exact hz);rw[hlen];refine⟨.ref s.heap.objs.size,_,I.laid (t':=s.toks) (o:=.tup (uo xs lo hi)) (λb ob q=>Heap.get?_push_of_some _ q) (Nat.le_refl _) ?_,rfl,q _ (I.hok.fresh (Nat.le_refl _))⟩;exact⟨Nat.le_trans (lJ xs lo hi) hz,_,(r.drop (HT.sIx xs.length 0 lo)).take (HT.sIx xs.length xs.length hi-HT.sIx xs.length 0 lo),IsTup.new _ _⟩
def IQ(K:W.Frag):R2:=λx y H Q=>∃a b xs ys,x=.ref a/\y=.ref b/\ip K H a xs/\ip K H b ys/\xs≠[]/\xs.length+ys.length<=sizeLine /\
 (ys=[]->Q (.ref a) H)/\(ys≠[]->∀p,H p=none->Q (.ref p) (upd H p (.tup (xs++ys))))
def bj.nil_iff{xs:al}{us:List Value}(r:bj xs us):us=[]↔xs=[]:=by
 cases r with|nil|cons _ _=>simp
def Dh:fL X (binaryOp .Add) (IQ X.K):=by
 intro pins s σ H x y v u Q I rx ry h;obtain⟨a,b,xs,ys,rfl,rfl,ha,hb,hx,hz,q1,q2⟩:=h;cases rx;cases ry;obtain⟨its,r1,p1,_⟩:=I.tuple ha;obtain⟨its2,r2,p2,_⟩:=I.tuple hb;refine HT.cat_tup p1 p2 (λz=>hx (r1.nil_iff.mp z)) (λz=>⟨.ref a,H,I,rfl,q1 (r2.nil_iff.mp z)⟩) (λz=>?_) (by rw[←r1.length,←r2.length];exact hz);refine⟨.ref s.heap.objs.size,_,I.laid (t':=s.toks) (o:=.tup (xs++ys)) (λb ob q=>Heap.get?_push_of_some _ q) (Nat.le_refl _) ?_,rfl,q2 (λw=>z (r2.nil_iff.mpr w)) _ (I.hok.fresh (Nat.le_refl _))⟩;exact⟨by rw[List.length_append];exact hz,_,r1.append r2,IsTup.new _ _⟩
end
def Dw(n:Nat)(i:Int):Option Nat:=if 0<=i then(if i<n then some i.toNat else none) else if -(n:Int)<=i then some (i+n).toNat else none
def atI{α:Type}(xs:List α)(i:Int):Option α:=(Dw xs.length i).bind λj=>xs[j]?
def Dv{n:Nat}{i:Int}{j:Nat}(h:Dw n i=some j):seqIndex? i n=some j/\j<n/\-(n:Int)<=i/\i<n:=by
 unfold Dw at h
 by_cases h0:0<=i
 .rw[if_pos h0]at h
  by_cases h1:i<n
  .rw[if_pos h1]at h
   have e:i.toNat=j:=Option.some.inj h;exact⟨by rw[seqIndex_of h0 h1,e],by omega,by omega,h1⟩
  .rw[if_neg h1]at h;cases h
 .rw[if_neg h0]at h
  by_cases h1:-(n:Int)<=i
  .rw[if_pos h1]at h
   have e:(i+n).toNat=j:=Option.some.inj h;exact⟨by rw[seqIndex_neg (by omega) h1,e],by omega,h1,by omega⟩
  .rw[if_neg h1]at h;cases h
def rF{α:Type}{xs:List α}{i:Int}{v:α}(h:atI xs i=some v):∃j,seqIndex? i xs.length=some j/\xs[j]?=some v/\j<xs.length/\-(xs.length:Int)<=i/\i<xs.length:=by
 unfold atI at h;cases e:Dw xs.length i with
 |none=>rw[e]at h;cases h
 |some j=>
  rw[e]at h;obtain⟨h1,h2,h3,h4⟩:=Dv e;exact⟨j,h1,h,h2,h3,h4⟩
def dE{α:Type}{xs:List α}{j:Nat}{v:α}(h:xs[j]?=some v):atI xs (j:Int)=some v:=by
 have hj:j<xs.length:=(List.getElem?_eq_some_iff.mp h).1;have e:Dw xs.length (j:Int)=some j:=by
  unfold Dw;rw[if_pos (by omega),if_pos (by omega)];simp
 unfold atI;rw[e];exact h
def kC(b:Expr):Prop:=∀o i,subscripted b false o i=operate [o,i] (getItem o i)
noncomputable def Ca(X:Cx) (r:R2):Prop :=
 ∀(value slice:Expr) (pins:List (Addr×Obj)) (s:Shared) (σ:St) (H:Hp) (x y:V) (v u:Value) (Q:VK),Inv X pins σ H s->bb x v->bb y u->r x y H Q ->
  subscripted slice false v u=operate [v,u] (getItem v u)->wpAny (model X.prog X.w) X.A (subscriptTail value slice v u) (EP X pins σ Q) X.xe s
noncomputable def Lq(X:Cx) (id:String) (r:V->al->Hp->VK->Prop):Prop :=
 ∀(pins:List (Addr×Obj)) (s:Shared) (σ:St) (H:Hp) (x:V) (xs:al) (v:Value) (us:List Value) (Q:VK),Inv X pins σ H s->bb x v->bj xs us->r x xs H Q ->
  wpAny (model X.prog X.w) X.A (call (.builtin id) (v::us)) (EP X pins σ Q) X.xe s
section
variable {X:Cx}{a b:Expr}{ta tb:TE}{pos:Pos}
def Ca.or{r r':R2}(h:Ca X r)(h':Ca X r'):Ca X (λx y H Q=>r x y H Q∨r' x y H Q):=by
 intro value slice pins s σ H x y v u Q I rx ry q hs;rcases q with q|q
 .exact h value slice pins s σ H x y v u Q I rx ry q hs
 .exact h' value slice pins s σ H x y v u Q I rx ry q hs
def Ay{r:R2}(hr:Ca X r)(ha:PE X a ta)(hb:PE X b tb)(hs:kC b):PE X (.Subscript a b pos) (Ir r ta tb):=by
 intro pins s σ H Q I h;exact Subscript_ (HS ha hb I h λv u s2 x y H2 I2 rx ry q=>hr a b pins s2 σ H2 x y v u Q I2 rx ry q (hs _ _))
def IL(K:W.Frag):R2:=λx y H Q=>∃p xs i v,x=.ref p/\y=.int i/\eh K H p xs/\atI xs i=some v/\Q v H
def IJ(K:W.Frag):R2:=λx y H Q=>∃p xs i v,x=.ref p/\y=.int i/\ip K H p xs/\atI xs i=some v/\Q v H
def IK:R2:=λx y H Q=>∃z i c,x=.str z/\y=.int i/\z.length<=sizeLine/\atI z.cps.toList i=some c/\Q (.str ⟨#[c]⟩) H
def Du:Ca X (IL X.K):=by
 intro value slice pins s σ H x y v u Q I rx ry h hs;obtain⟨p,xs,i,z,rfl,rfl,hq,he,q⟩:=h;cases rx;obtain⟨t,rfl⟩:=ry;obtain⟨its,r,pl,hz⟩:=I.list hq;obtain⟨j,h1,h2,h3,h4,h5⟩:=rF he;obtain⟨w,ew,rw'⟩:=r.get h2;have hl:=r.length;have hn:=qP;have fin:EP X pins σ Q w s:=⟨z,H,I,rw',q⟩
 by_cases h0:0<=i
 .have hj:i.toNat=j:=by
   rw[seqIndex_of h0 h5]at h1;exact Option.some.inj h1
  exact item_listR pl.isList h0 (by omega) (by rw[hj];simpa using ew) fin hs
 .have hj:(i+(its.toArray.size:Int)).toNat=j:=by
   rw[seqIndex_neg (by omega) h4]at h1;rw[List.size_toArray,←hl];exact Option.some.inj h1
  exact subscriptTail_builtinR (x:=w) pl.isList.typeIs slot_list_getitem.lookup
   (wpAny_getItem_list_neg (Q:=λr s'=>r=w/\EP X pins σ Q r s') pl.isList (by omega) (by rw[List.size_toArray]<;>omega) (by omega) (by rw[hj];simpa using ew) ⟨rfl,fin⟩) hs
def vH:Ca X (IJ X.K):=by
 intro value slice pins s σ H x y v u Q I rx ry h hs;obtain⟨p,xs,i,z,rfl,rfl,hq,he,q⟩:=h;cases rx;obtain⟨t,rfl⟩:=ry;obtain⟨its,r,pl,hz⟩:=I.tuple hq;obtain⟨j,h1,h2,h3,h4,h5⟩:=rF he;obtain⟨w,ew,rw'⟩:=r.get h2;have hl:=r.length;have hn:=qP;have fin:EP X pins σ Q w s:=⟨z,H,I,rw',q⟩
 exact subscriptTail_builtinR (x:=w) pl.typeIs slot_tuple_getitem.lookup
  (getItem_tuple (j:=j) (Q:=λr s'=>r=w/\EP X pins σ Q r s') pl (by omega) (by omega) (by rw[List.size_toArray,←hl];exact h1) (by simpa using ew) ⟨rfl,fin⟩) hs
def GI:Ca X IK:=by
 intro value slice pins s σ H x y v u Q I rx ry h hs;obtain⟨z,i,c,rfl,rfl,hz,he,q⟩:=h;obtain⟨t,rfl⟩:=rx;obtain⟨t',rfl⟩:=ry;obtain⟨j,h1,h2,h3,h4,h5⟩:=rF he;have hl:z.cps.toList.length=z.length:=by simp[Str.length]
 rw[hl]at h1 h4 h5;have hn:=qP;exact tail_any (typeIs_str s z t) slot_str_getitem.lookup (getItem_str (c:=c) (by
  have e1:decide (i < -(2 ^ 63:Int))=false:=decide_eq_false (by omega);have e2:decide (i≥2 ^ 63)=false:=decide_eq_false (by omega);rw[e1,e2,Bool.or_false]) (by rw[h1];simpa using h2) ⟨.str ⟨#[c]⟩,H,I.tok _,⟨_,rfl⟩,q⟩) hs
def LF(K:W.Frag):R2:=λx y H Q=>IL K x y H Q∨IJ K x y H Q∨IK x y H Q
def GJ:Ca X (LF X.K):=Du.or (vH.or GI)
def qA(lo hi:Option Int)(n:Nat):(sliceBounds lo hi none n).1=((HT.sIx n 0 lo:Nat):Int)/\(sliceBounds lo hi none n).2.1=((HT.sIx n n hi:Nat):Int)/\(sliceBounds lo hi none n).2.2=1:=by
 refine⟨?_,?_,rfl⟩
 .cases lo with
  |none=>simp[sliceBounds,HT.sIx]
  |some i=>
   simp only[sliceBounds,HT.sIx,Option.getD_none,show(1:Int) > 0 by decide,if_true]
   by_cases h:i<0
   .simp only[h,if_true]<;>omega
   .simp only[h,if_false]<;>omega
 .cases hi with
  |none=>simp[sliceBounds,HT.sIx]
  |some i=>
   simp only[sliceBounds,HT.sIx,Option.getD_none,show(1:Int) > 0 by decide,if_true]
   by_cases h:i<0
   .simp only[h,if_true]<;>omega
   .simp only[h,if_false]<;>omega
def oC(its:List Value)(lo hi:Option Int):slicePick its.toArray lo hi none=((its.drop (HT.sIx its.length 0 lo)).take (HT.sIx its.length its.length hi-HT.sIx its.length 0 lo)).toArray:=by
 obtain⟨h1,h2,h3⟩:=qA lo hi its.toArray.size;unfold slicePick;rw[h1,h2,h3];simp only[sliceRange_one,pick_run,List.size_toArray]<;>rfl
def K6(K:W.Frag):V->Option Int->Option Int->Hp->VK->Prop:=λx lo hi H Q=>∃a xs,x=.ref a/\eh K H a xs/\∀p,H p=none->Q (.ref p) (upd H p (.lst (uo xs lo hi)))
def CG:B8 X (K6 X.K):=by
 intro pins s σ H x v vl vu lo hi sl Q I rx hs pl pu h;obtain⟨a,xs,rfl,hx,q⟩:=h;cases rx;obtain⟨its,r,ht,hz⟩:=I.list hx;have hlen:=r.length;refine⟨"list",_,slot_list_getitem.lookup,ht.isList.typeIs,?_⟩;refine wpAny_getItem_list_slice ht.isList hs pl pu .none (by simp) ?_ (by rw[List.size_toArray]<;>omega);rw[oC,←hlen];refine⟨.ref s.heap.objs.size,_,I.laid (t':=s.toks) (o:=.lst (uo xs lo hi)) (λb ob q=>Heap.get?_push_of_some _ q) (Nat.le_refl _) ?_,rfl,q _ (I.hok.fresh (Nat.le_refl _))⟩;exact⟨Nat.le_trans (lJ xs lo hi) hz,_,0,(r.drop (HT.sIx xs.length 0 lo)).take (HT.sIx xs.length xs.length hi-HT.sIx xs.length 0 lo),Heap.get?_push_size _ rfl⟩
def qJ:fL X (compareOp .NotIn) (λx y H Q=>∃i j,x=.str i/\y=.str j/\Q (.bl (!(!(Builtin.Str.occurrences j i 0 j.length 1).isEmpty))) H):=by
 intro pins s σ H x y v u Q I rx ry h;obtain⟨i,j,rfl,rfl,q⟩:=h;obtain⟨t,rfl⟩:=rx;obtain⟨t',rfl⟩:=ry;exact notIn_str ⟨.bl _,H,I,rfl,q⟩
noncomputable def KH(K:W.Frag) (T:String) (x:V) (H:Hp):Prop:=match x with
 |.str _=>T="str"
 |.int _=>T="int"
 |.ref p=>(T="list"/\∃xs,eh K H p xs)∨(T="tuple"/\∃o,K.lookup p=some o/\o.cls=.type "tuple"/\o.dict=none) ∨
   (T="dict"/\((∃kvs,H p=some (.dK kvs))∨∃kvs,H p=some (.dT kvs)))∨(T="set"/\∃S n,H p=some (.set S n))
 |_=>False
def zC{pins:List (Addr×Obj)}{σ:St}{H:Hp}{s:Shared}{T:String}{x:V}{v:Value}(I:Inv X pins σ H s)(r:bb x v)(ty:KH X.K T x H) :
  s.TypeIs v T/\∀a,v=.ref a->∃ob,s.heap.get? a=some ob/\ob.dict=none:=by
 cases x with
 |str z=>
  obtain⟨t,rfl⟩:=r;cases (show T="str" from ty);exact⟨typeIs_str s z t,λ_ e=>nomatch e⟩
 |int i=>
  obtain⟨t,rfl⟩:=r;cases (show T="int" from ty);exact⟨typeIs_int s i t,λ_ e=>nomatch e⟩
 |ref p=>
  cases r;rcases ty with⟨rfl,xs,hq⟩|⟨rfl,o,hk,hc,hd⟩|⟨rfl,hk⟩|⟨rfl,S,n,hk⟩
  .obtain⟨its,_,pl,_⟩:=I.list hq
   refine⟨pl.isList.typeIs,λa e=>?_⟩;cases e;obtain⟨o,n,e,c,hd,_⟩:=pl;exact⟨o,e,hd⟩
  .refine⟨⟨o,I.kIn p o hk,hc⟩,λa e=>?_⟩
   cases e;exact⟨o,I.kIn _ o hk,hd⟩
  .have z:∃o,s.heap.get? p=some o/\o.ExactDict:=by
    rcases hk with⟨kvs,hk⟩|⟨kvs,hk⟩
    .obtain⟨_,_,_,_,o,_,_,e,ex,_⟩:=I.hok p _ hk
     exact⟨o,e,ex⟩
    .obtain⟨_,_,_,_,o,_,_,e,ex,_⟩:=I.hok p _ hk
     exact⟨o,e,ex⟩
   obtain⟨o,e,ex⟩:=z;refine⟨⟨o,e,ex.1⟩,λa e2=>?_⟩;cases e2;exact⟨o,e,ex.2.1⟩
  .obtain⟨o,_,_,_,e,ex,_⟩:=I.hok p _ hk
   refine⟨⟨o,e,ex.1⟩,λa e2=>?_⟩;cases e2;exact⟨o,e,ex.2.1⟩
 |_=>exact False.elim ty
def K1(K:W.Frag)(T:String)(r:V->al->Hp->VK->Prop)(to:TE):TE:=λσ H Q=>to σ H λx H1=>KH K T x H1/\r x [] H1 Q
def L5(K:W.Frag)(T:String)(r:V->al->Hp->VK->Prop)(to:TE)(t:TA):TE:=λσ H Q=>to σ H λx H1=>KH K T x H1/\t σ H1 λxs H2=>r x xs H2 Q
variable {o e:Expr}{es:List Expr}{to:TE}{t:TA}{name:Str}{apos cpos:Pos}{T id:String}{r:V->al->Hp->VK->Prop}
def Gq(pa:PlainAttrs T)(slot:Slot T name id)(hty:typeOf (.builtin id)=pure (.type "method_descriptor"))(hm:Lq X id r)(ho:PE X o to)
  (hbase:attributeBase o name X.env (eval o X.env)=eval o X.env:=by rfl)(hline:(apos.endLine==cpos.line)=true:=by rfl):PE X (.Call (.Attribute o name apos) [] [] cpos) (K1 X.K T r to):=by
 intro pins s σ H Q I h;refine wpAny_Call_method0_late hbase hline (cA (ho pins s σ H _ I h) λv s1 z9=>?_);obtain⟨x,H1,I1,r1,ty,q1⟩:=z9;obtain⟨h1,h2⟩:=zC I1 r1 ty;exact⟨T,id,pa,slot,hty,h1,h2,Calls.callWith_builtin rfl (PySem.evalArgs_none (hm pins s1 σ H1 x [] v [] Q I1 r1 .nil q1))⟩
def AB(pa:PlainAttrs T)(slot:Slot T name id)(hty:typeOf (.builtin id)=pure (.type "method_descriptor"))(hm:Lq X id r)(ho:PE X o to)(ha:PA X (e::es) t)
  (hbase:attributeBase o name X.env (eval o X.env)=eval o X.env:=by rfl)
  (hfew:((backTo cpos (starEach (e::es) X.env)).all (λx=>!x.1)&&(backToKw cpos (keywordEach [] X.env)).all (λx=>x.1.isSome)
  &&decide ((e::es).length+([]:List Keyword).length+(if([]:List Keyword).isEmpty then 0 else 1)<30))=true:=by rfl)
  (hline:(apos.endLine==cpos.line)=true:=by rfl) (hs:starEach (e::es) X.env=(false,eval e X.env)::starEach es X.env:=by rfl) (hplain:(backTo cpos (starEach es X.env)).any (·.1)=false:=by rfl) :
  PE X (.Call (.Attribute o name apos) (e::es) [] cpos) (L5 X.K T r to t):=by
 intro pins s σ H Q I h;refine wpAny_Call_method_late hbase hfew hline rfl (cA (ho pins s σ H _ I h) λv s1 ⟨x,H1,I1,r1,ty,q1⟩=>?_);obtain⟨h1,h2⟩:=zC I1 r1 ty;refine⟨T,id,pa,slot,hty,h1,h2,?_⟩;have hA:=ha cpos pins s1 σ H1 _ I1 q1;rw[hs]at hA ⊢;refine Calls.callWith_builtin (by show(false||(backTo cpos (starEach es X.env)).any (·.1))=false;rw[hplain]<;>rfl) (Calls.evalArgs_plain ?_);exact cA hA λus s2 ⟨vs,H2,I2,r2,q2⟩=>hm pins s2 σ H2 x vs v us Q I2 r1 r2 q2
end
noncomputable def LN(X:Cx) (id:String) (r:V->al->Hp->VK->Prop):Prop :=
 ∀(pins:List (Addr×Obj)) (s:Shared) (σ:St) (H:Hp) (x:V) (xs:al) (v:Value) (us:List Value) (Q:VK),Inv X pins σ H s->bb x v->bj xs us->r x xs H Q ->
  wpAny (model X.prog X.w) X.A (call (.builtin id) (v::us)) (EP X pins σ Q) X.xe s
theorem bj.one:∀{x:V}{us:List Value},bj [x] us->∃u,us=[u]/\bb x u
 |_,_,.cons r .nil=>⟨_,rfl,r⟩
theorem bj.zero:∀{us:List Value},bj [] us->us=[]
 |_,.nil=>rfl
theorem bj.rep{xs:al}{us:List Value}(h:bj xs us):∀k:Nat,bj (List.replicate k xs).flatten (List.replicate k us).flatten
 |0=>.nil
 |k+1=>by
  rw[List.replicate_succ,List.replicate_succ,List.flatten_cons,List.flatten_cons];exact bj.append h (bj.rep h k)
theorem pK(its:List Value):∀(k:Nat) (acc:List Value),
  List.foldl (λx1 x2=>x1++x2) acc.toArray (List.replicate k its.toArray)=(acc++(List.replicate k its).flatten).toArray
 |0,acc=>by simp
 |k+1,acc=>by
  have e:acc.toArray++its.toArray=(acc++its).toArray:=by simp
  have e2:(acc++its)++(List.replicate k its).flatten=acc++(List.replicate (k+1) its).flatten:=by
   rw[List.replicate_succ,List.flatten_cons,List.append_assoc]
  rw[←e2,←pK its k (acc++its),←e,List.replicate_succ,List.foldl_cons]
section
variable {X:Cx}{pins:List (Addr×Obj)}{σ:St}{H:Hp}{s:Shared}{l b:Addr}{xs ys zs:al}
def Inv.lset{its its':List Value}{n:Nat}{f:Array Value->Array Value}{t':Nat}(I:Inv X pins σ H s)(hH:H l=some (.lst xs))
  (e:s.heap.get? l=some { cls:=.type "list",data:=.seq its.toArray n })(hf:f its.toArray=its'.toArray)(hv:bj ys its')(hz:ys.length<=sizeLine) :
  Inv X pins σ (upd H l (.lst ys)) { s with heap:=s.heap.update l (Obj.mapSeq f),toks:=t' }:=by
 have q:=PySem.IsL.update e f;rw[hf]at q;refine I.write (x:=l) (e:=l) (by rw[hH];exact trivial) (.inl rfl) (λb' u hb hu=>(Heap.get?_update_other s.heap (Obj.mapSeq f) (Ne.symm hb)).trans hu) ⟨_,q⟩ ?_;exact⟨hz,its',_,hv,q⟩
def Inv.lnew{its:List Value}{t':Nat}(I:Inv X pins σ H s)(hv:bj ys its)(hz:ys.length<=sizeLine) :
  Inv X pins σ (upd H s.heap.objs.size (.lst ys)) { s with heap:=s.heap.push { cls:=.type "list",data:=.seq its.toArray },toks:=t' } :=
 I.laid (λ_ _ q=>Heap.get?_push_of_some _ q) (Nat.le_refl _) ⟨hz,its,0,hv,Heap.get?_push_size _ rfl⟩
def Inv.fresh(I:Inv X pins σ H s):H s.heap.objs.size=none:=I.hok.fresh (Nat.le_refl _)
def Inv.lstM(I:Inv X pins σ H s)(hH:H l=some (.lst xs)):xs.length<=sizeLine/\∃(its:List Value) (n:Nat),bj xs its/\xs.length=its.length/\s.heap.get? l=some { cls:=.type "list",data:=.seq its.toArray n }:=by
 obtain⟨z,its,n,r,e⟩:=I.hok l _ hH;exact⟨z,its,n,r,r.length,e⟩
def AI{n:Nat}(h:n<=sizeLine):Builtin.List.listTooLong n=false:=by
 unfold Builtin.List.listTooLong;exact decide_eq_false (by omega)
end
section
variable {X:Cx}
def CM:V->al->Hp->VK->Prop:=λx vs H Q=>∃l xs y,x=.ref l/\vs=[y]/\H l=some (.lst xs)/\xs.length<sizeLine/\Q .non (upd H l (.lst (xs++[y])))
def kO:LN X "list.append" CM:=by
 intro pins s σ H x vs v us Q I rx rv h;obtain⟨l,xs,y,rfl,rfl,hH,hz,q⟩:=h;cases rx;obtain⟨u,rfl,ru⟩:=rv.one;obtain⟨z,its,n,r,hl,e⟩:=I.lstM hH;refine call_meets F.slot_list_append ⟨_,e,rfl⟩ F.entry_list_append (F.args_list_append_2 _ _) (PySem.list_append l its.toArray n u (by rw[List.size_toArray];omega)) ⟨e,?_⟩;refine⟨.non,_,I.lset (its':=its++[u]) hH e (by simp) (r.append (.cons ru .nil)) ?_,rfl,q⟩;rw[List.length_append,List.length_singleton];omega
def F9:V->al->Hp->VK->Prop:=λx vs H Q=>∃l xs,x=.ref l/\vs=[]/\H l=some (.lst xs)/\Q .non (upd H l (.lst []))
def AO:LN X "list.clear" F9:=by
 intro pins s σ H x vs v us Q I rx rv h;obtain⟨l,xs,rfl,rfl,hH,q⟩:=h;cases rx;have hus:=rv.zero;subst hus;obtain⟨z,its,n,r,hl,e⟩:=I.lstM hH;refine call_meets F.slot_list_clear ⟨_,e,rfl⟩ F.entry_list_clear (F.args_list_clear_1 _) (AutoSeq1.list_clear_list_0 l its.toArray n (by rw[List.size_toArray];omega)) ⟨e,?_⟩;exact⟨.non,_,I.lset (its':=[]) (ys:=[]) hH e rfl .nil (Nat.zero_le _),rfl,q⟩
def K7:R2:=λx y H Q=>∃l k xs,x=.ref l/\y=.int k/\H l=some (.lst xs)/\-(2 ^ 63)<=k/\k<2 ^ 63/\xs.length*k.toNat<=sizeLine /\
 ∀p,H p=none->Q (.ref p) (upd H p (.lst (List.replicate k.toNat xs).flatten))
def Dr{α:Type}(xs:List α)(k:Nat):(List.replicate k xs).flatten.length=k*xs.length:=by
 induction k with|zero=>simp|succ k ih=>rw[List.replicate_succ,List.flatten_cons,List.length_append,ih,Nat.succ_mul,Nat.add_comm]
def Gv:fL X (binaryOp .Mult) K7:=by
 intro pins s σ H x y v u Q I rx ry h;obtain⟨l,k,xs,rfl,rfl,hH,h1,h2,hz,q⟩:=h;cases rx;obtain⟨t,rfl⟩:=ry;obtain⟨z,its,n,r,hl,e⟩:=I.lstM hH;have hlen:its.toArray.size*k.toNat<=sizeLine:=by rw[List.size_toArray,←hl];exact hz
 have hcap:¬its.toArray.size*k.toNat > (2 ^ 63-1) / 8:=by
  have:(sizeLine:Nat)<=(2 ^ 63-1) / 8:=by decide
  omega
 have hfit:¬(!Builtin.List.listFitsIndex k)=true:=by
  rw[fitsIndex_both h1 h2];exact Bool.false_ne_true
 have hlong:¬Builtin.List.listTooLong (its.toArray.size*k.toNat)=true:=by
  rw[AI hlen];exact Bool.false_ne_true
 have hnew:List.foldl (λx1 x2=>x1++x2) #[] (List.replicate (if its.toArray.isEmpty=true then 0 else k.toNat) its.toArray)=(List.replicate k.toNat its).flatten.toArray:=by
  have f0:∀m:Nat,List.foldl (λx1 x2=>x1++x2) #[] (List.replicate m its.toArray)=(List.replicate m its).flatten.toArray:=λm=>by
   have:=pK its m [];rw[List.nil_append]at this;exact this
  rw[f0];cases its with|nil=>simp|cons a r'=>rw[if_neg (by simp)]
 refine wpAny_binaryOp_repeat_ref (T:="list") (U:="int") (by decide) ⟨_,e,rfl⟩ (λs'=>typeIs_int s' k t) noFill_list_mul F.fills_int_mul F.slot_int_rmul repeat_list F.slot_int_index.lookup
  (call_meets F.slot_int_rmul (typeIs_int s k t) F.entry_int_rmul (F.args_int_rmul_2 _ _) (int___rmul___int_list k t l its.toArray n)
   ⟨e,rfl,⟨_,e,rfl⟩,call_meets F.slot_list_mul ⟨_,e,rfl⟩ F.entry_list_mul (F.args_list_mul_2 _ _) (AutoListH.list___mul___list_int_3 l its.toArray n k t hfit hcap hlong) ⟨e,?_⟩⟩)
 rw[hnew];exact⟨.ref _,_,I.lnew (t':=s.toks) (r.rep k.toNat) (by rw[Dr,Nat.mul_comm];exact hz),rfl,q _ I.fresh⟩
end
end L2
namespace Att
open PySem PySem.W PySem.Calls PyProof.Rows
def lV{P:Params}{h:Heap}:∀(ns:List Int) (vs:List Value),WellAll P h vs (ns.map WData.int)->IntsAre vs ns:=by
 intro ns
 induction ns with
 |nil=>
  intro vs w;rw[List.map_nil]at w;cases w;exact .nil
 |cons n ns ih=>
  intro vs w;rw[List.map_cons]at w;cases w with
  |cons a b=>
   cases a;exact .cons _ _ (ih _ b)
def x9{l:OpenLaw}{n:Nat}(hn:l.most=some n){P:Params}{h:Heap}{args:List WData}{vals:List Value}
  (hpre:l.row.toRowW.claim.pre args=true)(hwl:WellAll P h vals args) :
  ∃a vs ns,vals=[Value.ref a]/\args=[WData.list (ns.map WData.int)]/\h.get? a=some { cls:=.type "list",data:=.seq vs.toArray }/\IntsAre vs ns/\ns.length<=n:=by
 have hsh:WShape.hasAll [] args [.list .int]=true:=(pre_splitW hpre).1;have hc:l.pre.holds [] { args:=args }=true:=(pre_splitW hpre).2;obtain⟨d,r,rfl,h1,h2⟩:=hasAllW_cons hsh;obtain rfl:=hasAllW_nil h2;obtain⟨xs,rfl,h3⟩:=hasW_list h1;obtain⟨ns,rfl⟩:=items_int h3;have hlen:ns.length<=n:=by
  unfold OpenLaw.pre at hc;have h4:(WTm.not (.lt (.lit (.int (n:Int))) (.len (.arg 0)))).holds [] { args:=[.list (ns.map .int)] }=true:=by
   have h4:=(holds_andW hc).1;rw[hn]at h4;exact h4
  have h5:=condW_of h4 (w_not (w_lt w_lit (w_len_list (w_arg rfl))));rw[List.length_map]at h5;refine Nat.le_of_not_lt λq=>?_;have q':(n:Int)<((ns.length:Nat):Int):=by omega
  first
   |(rw[decide_eq_true q']at h5;exact absurd h5 (by decide))
   |(simp at h5;omega)
 cases hwl with
 |cons w1 w2=>
  cases w2;cases w1 with|list ho hall=>exact⟨_,_,ns,rfl,rfl,ho,lV ns _ hall,hlen⟩
def yd(l:OpenLaw)(args:List WData):l.row.toRowW.claim.post args (.bool true) args=true :=
 postW_of (r:=l.row.toRowW) (X:=(true==true))
  (show WShape.has [] (.bool true) .bool=true by first|rfl|decide|simp[WShape.has,WShape.arms,WShape.armsAll])
  (show(WTm.eq .res (.lit (.bool true))).value [] { args:=args,res:=some (.bool true),after:=args }=some (.bool (true==true)) from w_eq_bool (w_res rfl) w_lit) rfl
def attach_call{l:OpenLaw}{n:Nat}{q:Program}{loose:List Str}{XP:(Str->Option Value)->Heap->Prop}{YP:World->Heap->Prop}{d:DefRec}
  (hn:l.most=some n)(hdf:d.params.defaults=[])
  (call:∀(w:World) (sf sg:Shared) (mg mb:Str->Option Value) (fa:Addr) (o:Obj) (pm cd doc:Value) (a:Addr) (vs:List Value) (ns:List Int),
   Ground q loose [] XP w sf mg mb sg.heap->YP w sg.heap ->
   sg.heap.get? fa=some o->o.data=.func (docDef d.name d.params d.body d.scope pm cd doc)->sg.heap.CodeRec cd d.name->mg d.name=some (.ref fa) ->
   sg.heap.get? a=some { cls:=.type "list",data:=.seq vs.toArray }->IntsAre vs ns->ns.length<=n->sg.gens=#[] ->
   codeAny (model l.prog w) callerA (.call (.ref fa) ⟨[.ref a],[]⟩) (λr s'=>r=.ok (.ret (.bool true))/\OldK sg.heap s'.heap/\s'.os=sg.os/\AllBare s'.gens) sg) :
  WalkO q loose XP YP l.row.toRowW d [] (λf vs=>PySem.call f vs):=by
 intro w sf sg mg mb G Y fa o pm cd doc dV kV ho hd hcd hD hmg hg args vals as hpre hlay hrd hwl hlo;obtain rfl:dV=.none:=Dflts.none hD hdf;obtain rfl:kV=.none:=Dflts.noKw hD;obtain⟨a,vs,ns,rfl,rfl,hobj,hints,hlen⟩:=x9 hn hpre hwl;refine enter_call (codeAny_mono (call w sf sg mg mb fa o pm cd doc a vs ns G Y ho (fd_plain hd) hcd hmg hobj hints hlen hg) λr s' hq=>?_);obtain⟨rfl,h2,h3,h4⟩:=hq;exact⟨.inl ⟨.bool true,.bool true,[],rfl,λ_=>rfl,.bool true,yd l _,λ_=>⟨List.Pairwise.nil,λ_ hm=>(nomatch hm)⟩⟩,h2,h3,h4⟩
end Att
namespace L2
open PySem PySem.Spec PyProof.Rows
theorem pb:∀{vs:List Value}{ns:List Int},IntsAre vs ns->bj (ns.map V.int) vs
 |_,_,.nil=>.nil
 |_,_,.cons n t h=>.cons ⟨t,rfl⟩ (pb h)
def EW(H:Hp):Prop:=∀b,H b=none∨∃o xs,H b=some (.frz o (.lst xs))
def AS{P:Program}{w:World}{K:W.Frag}{mg mb:Str->Option Value}{CX:ql}{k:Nat}{fa a:Addr}{fd:FuncData}{x:Str}{sp:Sp}{sg:Shared}{vs:List Value}{ns:List Int}
  (KX:K.In sg.heap)(hns:sg.heap.Ns mainGlobals mg)(hb:sg.heap.Ns builtinsNs mb)(hbb:∀x:Str,x≠"__name__"->mb x=bootBuiltins x)(hlim:sg.heap.NoLimit)(hsm:∃mm,sg.heap.Ns sysModules mm)(hg:sg.gens=#[])
  (ha:sg.heap.get? a=some { cls:=.type "list",data:=.seq vs.toArray })(hi:IntsAre vs ns)(hl:ns.length<=sizeLine)(hr:cL k callerA)
  (F:∀base:Heap,K.In base->base.Ns mainGlobals mg->eP P w K mg base CX k fa fd [x] sp)(hbind:∀(s:Shared) (u:Value),BindsTo s fd ⟨[u],[]⟩ [(x,u)])
  (hsp:∀H:Hp,EW H->eh K H a (ns.map V.int)->sp [.ref a] H (λv _=>v=.bl true) λ_ _ _=>False)
  (hCX:∀H e s',CX [] H sg (λ_ _ _=>False) e s'->False) :
  codeAny (model P w) callerA (.call (.ref fa) ⟨[.ref a],[]⟩) (λr s'=>r=.ok (.ret (.bool true))/\OldK sg.heap s'.heap/\s'.os=sg.os/\AllBare s'.gens) sg:=by
 have rv:=pb hi;have lenV:=hi.length;have core:∀H:Hp,EW H->eh K H a (ns.map V.int)->er P w H sg.heap->(∀b,H b≠none->b=a)->(H a≠none->K.lookup a=none) ->
   codeAny (model P w) callerA (.call (.ref fa) ⟨[.ref a],[]⟩) (λr s'=>r=.ok (.ret (.bool true))/\OldK sg.heap s'.heap/\s'.os=sg.os/\AllBare s'.gens) sg:=by
  intro H hO hS hok hA hK;have base_of:∀{b:Addr}{o:Obj},sg.heap.get? b=some o->H b=none->(qT sg.heap H).get? b=some o:=λe n=>A7 e n;have noA:∀{b:Addr}{o:Obj}{es:Array DictEntry}{ep:Nat},sg.heap.get? b=some o->o.data=.dict es ep->H b=none:=λ{b o es ep} e d=>by
   cases q:H b with
   |none=>rfl
   |some u=>
    have e':b=a:=hA b (by rw[q];simp);subst e';rw[ha]at e;cases e;have d':Data.seq vs.toArray _=Data.dict es ep:=d;cases d'
  have nsK:∀{b:Addr}{m:Str->Option Value},sg.heap.Ns b m->(qT sg.heap H).Ns b m:=λ{b m} ⟨o,es,ep,e,d,r⟩=>⟨o,es,ep,base_of e (noA e d),d,r⟩
  have hKb:K.In (qT sg.heap H):=λb o e=>base_of (KX b o e) (by
   cases q:H b with
   |none=>rfl
   |some u=>
    have e':b=a:=hA b (by rw[q];simp);subst e';rw[hK (by rw[q];simp)]at e;cases e)
  have hM:Mod K mg (qT sg.heap H):=⟨hKb,nsK hns,⟨mb,nsK hb,hbb⟩,let ⟨mc,h1,h2⟩:=hlim;⟨mc,nsK h1,h2⟩,let ⟨mm,h1⟩:=hsm;⟨mm,nsK h1⟩⟩
  have e0:rK P w K mg (qT sg.heap H) callerA [] sg H:=⟨rfl,hM,λb o e=>Di e,Nat.le_of_eq (yH _ _),trivial,λb hb=>absurd (show b∈([]:List Addr) from hb) (by simp),hok,.of_eq hg⟩
  refine codeAny_mono ((F _ hKb (nsK hns)).run callerA [] sg H ⟨[.ref a],[]⟩ [.ref a] [.ref a] _ _ hr e0 (hbind sg (.ref a)) (.cons rfl .nil) (hsp H hO hS)) λr s' h=>?_;cases r with
  |error e=>exact(hCX H e s' h).elim
  |ok fl=>
   cases fl with
   |next|brk|cont=>exact False.elim h
   |ret u=>
    obtain⟨v,H',os,bare,un,hok',r',q⟩:=h;have q':v=.bl true:=q;subst q';obtain rfl:u=Value.bool true:=r';refine⟨rfl,OldK.of_keep λb o e=>?_,os,bare⟩;cases q:H b with
    |none=>exact un.keep b o e q (by intro z;exact absurd (show b∈([]:List Addr) from z) (by simp)) (by simp)
    |some u=>
     rcases hO b with z|⟨ob,xs,z⟩
     .rw[q]at z;cases z
     .have z2:=un.frzs b ob _ z
      obtain⟨e1,_⟩:=hok b _ z;obtain⟨e2,_⟩:=hok' b _ z2;rw[e]at e1;cases e1;exact e2
 cases hk:K.lookup a with
 |some o=>
  have e:=KX a o hk;rw[ha]at e;cases e;refine core (λ_=>none) (λ_=>.inl rfl) (.inr ⟨_,vs.toArray,_,hk,rfl,rfl,rfl,by rw[List.size_toArray,lenV];exact hl,by simpa using rv⟩) (λb u z=>by have z':(none:Option HO)=some u:=z;cases z') (λb z=>absurd rfl z) λz=>absurd rfl z
 |none=>
  refine core (λb=>if b=a then some (.frz { cls:=.type "list",data:=.seq vs.toArray } (.lst (ns.map V.int))) else none) (λb=>?_) (.inl (.inr ⟨{ cls:=.type "list",data:=.seq vs.toArray },if_pos rfl⟩)) (λb u z=>?_) (λb z=>?_) λ_=>hk
  .by_cases hb:b=a
   .exact .inr ⟨_,_,if_pos hb⟩
   .exact .inl (if_neg hb)
  .by_cases hb:b=a
   .have z':=(if_pos hb).symm.trans z
    cases z';subst hb;exact⟨ha,by rw[List.length_map];exact hl,vs,_,rv,ha⟩
   .have z':=(if_neg hb).symm.trans z
    cases z'
  .by_cases hb:b=a
   .exact hb
   .exact absurd (if_neg hb) z
abbrev KOf{K:W.Frag}{h:Heap}(_:K.In h):W.Frag:=K
def Cq{l:W.OpenLaw}{n k:Nat}{q:Program}{loose:List Str}{XP:(Str->Option Value)->Heap->Prop}{YP:World->Heap->Prop}{d:DefRec}{K:Params->W.Frag}{CX:World->ql}{sp:World->Sp}{x:Str}
  (hi:importsNone q=true)(hn:l.most=some n)(hn2:n<=sizeLine)(hdf:d.params.defaults=[])(hr:cL k callerA)
  (hY:∀(w:World) (h:Heap),YP w h->(K w.params).In h)
  (F:∀(w:World) (mg:Str->Option Value) (fa:Addr) (h:Heap),(K w.params).In h->h.Ns mainGlobals mg->mg d.name=some (.ref fa) ->
   ∃fd:FuncData,(∀(s:Shared) (u:Value),BindsTo s fd ⟨[u],[]⟩ [(x,u)]) /\
    ∀base:Heap,(K w.params).In base->base.Ns mainGlobals mg->eP l.prog w (K w.params) mg base (CX w) k fa fd [x] (sp w))
  (hsp:∀(w:World) (H:Hp) (a:Addr) (ns:List Int),ns.length<=n->EW H->eh (K w.params) H a (ns.map V.int)->sp w [.ref a] H (λv _=>v=.bl true) λ_ _ _=>False)
  (hCX:∀(w:World) (H:Hp) (s:Shared) (e:Value) (s':Shared),CX w [] H s (λ_ _ _=>False) e s'->False) :
  W.WalkO q loose XP YP l.row.toRowW d [] (λf vs=>PySem.call f vs):=by
 refine Att.attach_call hn hdf λw sf sg mg mb fa o pm cd doc a vs ns G Y ho hd hcd hmg hobj hints hlen hg=>?_;have KX:=hY w _ Y;obtain⟨fd,hb,hF⟩:=F w mg fa _ KX G.T.g hmg;exact AS KX G.T.g G.T.b G.T.builtins G.T.nolimit (let ⟨mm,h1,_⟩:=(G.T.seer hi).mods;⟨mm,h1⟩) hg hobj hints (Nat.le_trans hlen hn2) hr hF hb (λH hO hS=>hsp w H a ns hlen hO hS) λH e s'=>hCX w H sg e s'
def walk_ofK{l:W.OpenLaw}{n k:Nat}{q:Program}{loose:List Str}{XP:(Str->Option Value)->Heap->Prop}{YP:World->Heap->Prop}{d:DefRec}{K:Params->W.Frag}{CX:ql}{sp:W.Frag->Sp}{x:Str}
  (hi:importsNone q=true)(hn:l.most=some n)(hn2:n<=sizeLine)(hdf:d.params.defaults=[])(hr:cL k callerA)
  (hY:∀(w:World) (h:Heap),YP w h->(K w.params).In h)
  (F:∀(w:World) (mg:Str->Option Value) (fa:Addr) (h:Heap),(K w.params).In h->h.Ns mainGlobals mg->mg d.name=some (.ref fa) ->
   ∃fd:FuncData,(∀(s:Shared) (u:Value),BindsTo s fd ⟨[u],[]⟩ [(x,u)]) /\
    ∀base:Heap,(K w.params).In base->base.Ns mainGlobals mg->eP l.prog w (K w.params) mg base CX k fa fd [x] (sp (K w.params)))
  (hsp:∀(K:W.Frag) (H:Hp) (a:Addr) (ns:List Int),ns.length<=n->EW H->eh K H a (ns.map V.int)->sp K [.ref a] H (λv _=>v=.bl true) λ_ _ _=>False)
  (hCX:∀(H:Hp) (s:Shared) (e:Value) (s':Shared),CX [] H s (λ_ _ _=>False) e s'->False) :
  W.WalkO q loose XP YP l.row.toRowW d [] (λf vs=>PySem.call f vs) :=
 Cq (K:=K) (CX:=λ_=>CX) (sp:=λw=>sp (K w.params)) hi hn hn2 hdf hr hY F (λw H a ns h1 h2 h3=>hsp (K w.params) H a ns h1 h2 h3) λ_ H s e s'=>hCX H s e s'
def DC(s:Stmt)(j:Nat):Stmt:=match s with
 |.ClassDef _ _ _ body _ _ _ _ _ _ _=>body.getD j (.Pass ⟨0,0,0,0⟩)
 |_=>.Pass ⟨0,0,0,0⟩
def defArgs(s:Stmt):Arguments:=match s with
 |.FunctionDef _ a _ _ _ _ _ _ _ _=>a
 |_=>{ posonlyargs:=[],args:=[],vararg:=none,kwonlyargs:=[],kw_defaults:=[],kwarg:=none,defaults:=[] }
def defBody(s:Stmt):List Stmt:=match s with
 |.FunctionDef _ _ b _ _ _ _ _ _ _=>b
 |_=>[]
def defScope(s:Stmt):Scope:=match s with
 |.FunctionDef _ _ _ _ _ _ sc _ _ _=>sc
 |_=>{ kind:=.function,names:=[],isGenerator:=false,isCoroutine:=false }
abbrev CX0:ql:=λ_ _ _ _ _ _=>False
abbrev E0:XK:=λ_ _ _=>False
def Jd{X:Cx}:ll CX0 X E0:=λ_ _ _ _ _ _ _ h=>h.elim
structure B1 (K:W.Frag) (x qual:Str) (st:Stmt) (f:Addr) (fd:FuncData):Prop where
 ex:∃(oc:Value) (od:Option Addr) (kV doc pm:Value) (an:Option Addr) (cdv ct:Value) (osl:Array (Option Value)),
  fd=W.fnOf x qual (defArgs st) (defBody st) (defScope st) .none kV doc pm an cdv ct/\K.lookup f=some ⟨oc,od,.func fd,osl⟩/\W.codeIn K cdv qual=true
 kp:W.keepIn K (.ref f)=true
section
variable {P:Program}{w:World}{K:W.Frag}{mg:Str->Option Value}{base:Heap}
def B1.ok{x qual:Str}{st:Stmt}{f:Addr}{fd:FuncData}{N ps:List Str}{k:Nat}{sp:Sp}(F:B1 K x qual st f fd)(S:eD N ps (defScope st))(len:∀vs H Q E,sp vs H Q E->vs.length=ps.length)
  (hbody:∀(cdv:Value) (A:Around) (outer:List Env) (s:Shared) (H:Hp) (vs:al) (Q:VK) (E:XK),cL k (A.deeper (envOfC qual (defScope st) s.heap.objs.size f cdv))->sp vs H Q E ->
   ∃t,uG (cf CX0 P w K mg base N qual (defScope st) f cdv A outer s H E).nox (defBody st) t/\t { nx:=λ_ H'=>Q .non H',rt:=Q } (start N vs) H):eP P w K mg base CX0 (k+1) f fd ps sp:=by
 obtain⟨oc,od,kV,doc,pm,an,cdv,ct,osl,rfl,lk,hcd⟩:=F.ex;refine Fj lk hcd S len λA outer s H vs Q E hr hsp=>?_;obtain⟨t,h,q⟩:=hbody cdv A outer s H vs Q E hr hsp;exact⟨t,h.nox,q⟩
def B1.binds{x qual:Str}{st:Stmt}{f:Addr}{fd:FuncData}{ps:List Str}(F:B1 K x qual st f fd)
  (h:∀(kV doc pm:Value) (an:Option Addr) (cdv ct:Value) (us:List Value),us.length=ps.length->bindArgs (W.fnOf x qual (defArgs st) (defBody st) (defScope st) .none kV doc pm an cdv ct) ⟨us,[]⟩=pure (ps.zip us)):iz K fd ps []:=by
 obtain⟨oc,od,kV,doc,pm,an,cdv,ct,osl,rfl,lk,hcd⟩:=F.ex;exact .all (h kV doc pm an cdv ct)
def qV{x qual:Str}{st:Stmt}{f:Addr}{oc:Value}{od an:Option Addr}{osl:Array (Option Value)}{kV doc pm cdv ct:Value}(l:K.lookup f=some ⟨oc,od,.func (W.fnOf x qual (defArgs st) (defBody st) (defScope st) .none kV doc pm an cdv ct),osl⟩)
  (c:W.codeIn K cdv qual=true)(k:W.keepIn K (.ref f)=true):B1 K x qual st f (W.fnOf x qual (defArgs st) (defBody st) (defScope st) .none kV doc pm an cdv ct):=⟨⟨oc,od,kV,doc,pm,an,cdv,ct,osl,rfl,l,c⟩,k⟩
end
def aE(H H':Hp):Prop:=∀b o,H b=some o->H' b=some o
def aE.refl(H:Hp):aE H H:=λ_ _ h=>h
def aE.trans{H H1 H2:Hp}(a:aE H H1)(b:aE H1 H2):aE H H2:=λc o h=>b c o (a c o h)
def aE.free{H H':Hp}(e:aE H H'){l:Addr}(h:H' l=Option.none):H l=Option.none:=by
 cases q:H l with
 |none=>rfl
 |some o=>
  rw[e l o q]at h;cases h
end L2
namespace DL
open PySem PySem.Spec PySem.Calls PySem.W PyProof.Rows Builtin Builtin.ObjectAttr Builtin.Getset_descriptor
section
variable {prog:Program}{w:World}{A:Around}{E:Value->Shared->Prop}{h:Heap}{g:Array GenState}{d:Drawn}{t:Nat}{os:OsState}{a C:Addr}{o:Obj}{K:Frag}
structure o8 (K:Frag) (C:Addr):Prop where
 cls:findIn K (.ref C) "__class__"=some (some (.builtin "object.__class__"))
 ga:findIn K (.ref C) "__getattribute__"=some (some (.builtin "BaseException.__getattribute__"))
 gt:findIn K (.ref C) "__getattr__"=some none
 ob:mroIn K C (.type "object")=some true
 be:subIn K (.ref C) (.type "BaseException")=some true
def FI{R:Result->Shared->Prop}{tp:Value}(X:K.In h)(Z:o8 K C)(hx:h.get? a=some o)(hc:o.cls=.ref C)(hq:R (.ok (.ret (.ref C))) ⟨h,g,d,t,os⟩) :
  codeAny (model prog w) A (.call (.builtin "getset_descriptor.__get__") ⟨[.builtin "object.__class__",.ref a,tp],[]⟩) R ⟨h,g,d,t,os⟩:=by
 have L0:Looks (model prog w) h (typeOf (.ref a)) (.ref C):=hc▸(Looks.ld hx).andThen .now;have L1:=looks_mroIn (M:=model prog w) X Z.ob;refine codeAny_call_builtin KF.slot_gs.plain KF.entry_gs (KF.slot_gs.check _ _ _ _ _ _ _ _ KF.type_class (KF.args_gs _ _ _) ?_);unfold Builtin.«getset_descriptor.__get__» descrGet;rw[dga_obj];refine wpAny_bind (wpAny_pure ?_);unfold descrGetter descrCheckInstance descrNameAndClass isInstance;simp only[KF.owner_class]
 repeat lk
 refine⟨Code.quiet_builtin _ (by decide +kernel),codeAny_builtin KF.entry_class ?_⟩;unfold Builtin.«object.__class__» shownTypeOf
 repeat lk
 exact hq
def zA{M:Model}{nameV:Value}{Q:Unit->Shared->Prop}(X:K.In h)(Z:o8 K C)(hx:h.get? a=some o)(hc:o.cls=.ref C)(hq:Q () ⟨h,g,d,t,os⟩):wpAny M A (checkBuiltinCall "BaseException.__getattribute__" ⟨[.ref a,nameV],[]⟩) Q E ⟨h,g,d,t,os⟩:=by
 have hk:builtinKind "BaseException.__getattribute__"=some .slot:=by decide +kernel
 have hsplit:splitId "BaseException.__getattribute__"=some ("BaseException","__getattribute__"):=by decide +kernel
 have ha:=F.args_bexc_ga (.ref a) nameV;have LS:Looks M h (isSubtype (.ref C) (.type "BaseException")) true:=looks_subIn X Z.be;simp only[checkBuiltinCall,hk,hsplit];refine wpAny_bind ?_
 .unfold isInstance
  repeat (first|(with_reducible refine wpAny_loadPart_at hx ?_;rw[hc])|(with_reducible refine LS.at ?_)|wp_step)
  exact hq
def zy{tk:Tok}{Q:Fin->Shared->Prop}(X:K.In h)(Z:o8 K C)(hx:h.get? a=some o)(hc:o.cls=.ref C)(hq:Q (.done (.ret (.ref C))) ⟨h,g,d,t,os⟩) :
  wpAny (model prog w) A (Builtin.«object.__getattribute__» ⟨[.ref a,.str "__class__" tk],[]⟩) Q E ⟨h,g,d,t,os⟩:=by
 have hT5:(⟨h,g,d,t,os⟩:Shared).TypeIs (.builtin "object.__class__") "getset_descriptor":=F.typeOf_object_class;have f5:=F.typeOf_object_class;have f6:=F.slot_gs_get.lookup;have f7:=F.slot_gs_set.lookup;have LC:Looks (model prog w) h (typeLookup (.ref C) "__class__") (some (.builtin "object.__class__")):=looks_findIn X Z.cls
 repeat (any_goals (first|assumption|(with_reducible refine wpAny_loadPart_at hx ?_;rw[hc])|(with_reducible refine LC.at ?_)|wp_step))
 refine FI X Z hx hc ?_
 repeat (any_goals (first|assumption|wp_step))
def Cm{tk:Tok}{R:Result->Shared->Prop}(X:K.In h)(Z:o8 K C)(hx:h.get? a=some o)(hc:o.cls=.ref C)(hq:R (.ok (.ret (.ref C))) ⟨h,g,d,t,os⟩) :
  codeAny (model prog w) A (.call (.builtin "BaseException.__getattribute__") ⟨[.ref a,.str "__class__" tk],[]⟩) R ⟨h,g,d,t,os⟩ :=
 codeAny_call_builtin F.attr_ValueError.ga.plain F.entry_bexc_ga (zA X Z hx hc (zy X Z hx hc hq))
def Ih{tk:Tok}{Q:Value->Shared->Prop}(X:K.In h)(Z:o8 K C)(hx:h.get? a=some o)(hc:o.cls=.ref C)(hq:Q (.ref C) ⟨h,g,d,t,os⟩) :
  wpAny (model prog w) A (getAttrBy (.ref a) (.str "__class__" tk) false) Q E ⟨h,g,d,t,os⟩:=by
 have f3:=F.attr_ValueError.ga.bind (.ref a);have hx2:(Value.builtin "BaseException.__getattribute__"==Value.builtin "object.__getattribute__")=false:=by decide +kernel
 have hx1:(onTheHeap (Value.ref C)&&Value.builtin "BaseException.__getattribute__"==Value.builtin "object.__getattribute__")=false:=by rw[hx2];rfl
 have L1:Looks (model prog w) h (typeLookup (.ref C) "__getattribute__") (some (.builtin "BaseException.__getattribute__")):=looks_findIn X Z.ga;have L2:Looks (model prog w) h (typeLookup (.ref C) "__getattr__") none:=looks_findIn X Z.gt
 repeat (any_goals (first|assumption|(with_reducible refine wpAny_loadPart_at hx ?_;rw[hc])|(with_reducible refine L1.at ?_)|(with_reducible refine L2.at ?_)|wp_step))
 refine Cm X Z hx hc ?_
 repeat (any_goals (first|assumption|wp_step))
def Cn{Q:Option Value->Shared->Prop}(X:K.In h)(Z:o8 K C)(hx:h.get? a=some o)(hc:o.cls=.ref C)(hq:Q (some (.ref C)) ⟨h,g,d,t+1,os⟩):wpAny (model prog w) A (getAttr? (.ref a) "__class__") Q E ⟨h,g,d,t,os⟩:=by
 unfold getAttr? getAttrBy?
 repeat (any_goals (first|assumption|with_reducible apply Ih X Z hx hc|wp_step))
end
def wj(a C:Addr)(dc:Option Addr):Heap->Prop:=λh=>∃o vs,h.get? a=some o/\o.cls=.ref C/\o.data=.fields vs/\o.dict=dc
def j8{K:Frag}{a C:Addr}{dc:Option Addr}(Z:o8 K C)(hC:(clsIn K C).isSome=true):KitX K (.ref a) (.ref C) (wj a C dc) where
 ty:=λ_ _ _ ⟨o,_,h1,h2,_⟩=>h2▸(Looks.ld h1).andThen .now
 it:=λ_ _ X _=>by
  obtain⟨cd,hcD⟩:=Option.isSome_iff_exists.mp hC;unfold clsIn at hcD;split at hcD
  .rename_i c' d' cd' sl' ho
   intro A' Q' E' s' k q;unfold isType loadHead;exact wpAny_bind (wpAny_loadPart (k _ _ (X _ _ ho)) (wpAny_pure q))
  .cases hcD
 ne:=λh tp dd its n sl X htp=>by
  obtain⟨cd,hcD⟩:=Option.isSome_iff_exists.mp hC;refine Bool.eq_false_iff.mpr λq=>?_;have e:C=tp:=Value.ref.inj (beq_iff_eq.mp q);subst e;unfold clsIn at hcD;split at hcD
  .rename_i c' d' cd' sl' ho
   have z:=(X _ _ ho).symm.trans htp;cases z
  .cases hcD
 ca:=λ{_ _ _ _ _ s} X ⟨o,_,h1,h2,_⟩ k=>by
  obtain⟨h,g,d,t,os⟩:=s;exact Cn X Z h1 h2 k
def o8.isCls{K:Frag}{C:Addr}(Z:o8 K C):(clsIn K C).isSome=true:=by
 obtain⟨cd,a,b⟩:=Option.bind_eq_some_iff.mp Z.ob;rw[a];rfl
def eO:List String:=["NoneType","bool","int","str","tuple","list","dict"]
structure XC (K:Frag) (x:Str) (C:Addr):Prop where
 ns:nsIn K mainGlobals x=some (some (.ref C))
 ek:o8 K C
 bt:∀T∈eO,kitOne K (.ref C) (.type T)=some false
end DL
namespace DL
open PySem PySem.Spec PyProof.Rows L2
def fE(o:Obj)(f:Array Value->Array Value):(o.mapFields f).dict=o.dict:=by unfold Obj.mapFields;split<;>rfl
def iq(h:Heap)(e:Addr)(dc:Option Addr):Prop:=∃o,h.get? e=some o/\o.dict=dc/\(dc≠none->∃vs,o.data=.fields vs/\vs[2]?=some .none)
section
variable {M:Model}{A:Around}{E:Value->Shared->Prop}{s:Shared}{base:Heap}{env:PySem.Env}{outer l:List PySem.Env}{L e:Addr}{cls a0 fl:Value}{dc:Option Addr}{Q:Unit->Shared->Prop}
def t9{oe:Obj}{vs:Array Value}{head:Value}{b0:Bool}(hfr:A.frames=some (env::outer))(hl:s.heap.FunFrames base (env::outer))(hf:env.frame=some L)(he:s.heap.get? e=some oe)(kb:base.StaysIn s.heap)(hen:base.get? e=none)(hd:oe.data=.fields vs)(hz:1<vs.size)(h0:vs[0]?=some a0)(hx:oe.dict≠none->vs[2]?=some .none)
  (h:∀h',Heap.NotedW base (env::outer) e oe.cls a0 (rawInt L) s.heap h'->iq h' e oe.dict->Q () { s with heap:=h' }) :
  wpAny M A (do
   let a ←frameOf env
   let pl ←entryPlaceOf L b0
   let b ←EntryCells.newEntry head a .none (rawInt L) .none pl
   setField (.ref e) 1 b) Q E s:=by
 have nf:e∉(env::outer).filterMap (·.frame):=λhm=>by
  obtain⟨_,o,ho,q⟩:=hl.mem hm;rw[he]at ho;cases ho;exact q vs hd
 refine wpAny_bind (wpAny_frameOf_fun hfr hl hf λg ⟨_,same,slots⟩=>wpAny_bind (wpAny_entryPlaceOf λpl hpl=>?_));have ge:g.get? e=some oe:=(same e nf).trans he;have up:∀(N:Obj) (f:Obj->Obj) (b:Addr) (o:Obj),b≠e->g.get? b=some o->((g.push N).update e f).get? b=some o:=λN f b o hb q=>(Heap.get?_update_other _ _ (Ne.symm hb)).trans (Heap.get?_push_of_some _ q);have ne:∀b o,s.heap.get? b=some o->(∀vs,o.data≠.fields vs)->b≠e:=λb o q z c=>by subst c;rw[he]at q;cases q;exact z vs hd
 have kg:base.StaysIn g:=λb o q=>(same b λhm=>by rw[(hl.mem hm).1]at q;cases q).trans (kb b o q);unfold EntryCells.newEntry newFields;refine wpAny_bind (wpAny_newObj_type ?_ (hpl.sizeOk5 _ _ _ _ _));have d3:=Obj.data_mapFields hd (·.setIfInBounds 1 (Value.ref g.objs.size));have hTe:g.objs.size≠e:=Nat.ne_of_gt (Heap.lt_size ge);have at_e:∀N:Obj,((g.push N).update e (Obj.mapFields (·.setIfInBounds 1 (Value.ref g.objs.size)))).get? e=some (oe.mapFields (·.setIfInBounds 1 (Value.ref g.objs.size))):=λN=>Heap.get?_update_self _ (Heap.get?_push_of_some _ ge) (Obj.isFreed_of_fields d3);refine wpAny_setField (Heap.get?_push_of_some _ ge) hd hz (h _ ⟨λb o q=>up _ _ b o (λc=>by subst c;rw[hen]at q;cases q) (kg b o q),hl.of_keeps λb o q z=>?_,?_,λb o q z=>?_⟩ ⟨_,at_e _,fE _ _,λz=>⟨_,d3,by rw[Array.getElem?_setIfInBounds_ne (by decide)];exact hx z⟩⟩)
 .obtain⟨sl,x⟩:=slots b o q
  exact⟨_,up _ _ b _ (ne b o q z) x,rfl⟩
 .refine⟨_,_,g.objs.size,_,_,at_e _,⟨Obj.cls_mapFields _ _,?_⟩,d3,?_,kg.fresh,hTe,(Heap.get?_update_other _ _ (Ne.symm hTe)).trans (Heap.get?_push_size g rfl),rfl,?_⟩
  .rw[Array.getElem?_setIfInBounds_ne (by decide)];exact h0
  .simp[hz]
  .first|(simp;done)|(rcases hpl with rfl|⟨_,_,_,_,_,_,_,rfl⟩<;>simp)
 .obtain⟨sl,x⟩:=slots b o q
  exact⟨sl,up _ _ b _ (ne b o q z) x⟩
def tX{oe:Obj}{vs:Array Value}(hfr:A.frames=some (env::outer))(hl:s.heap.FunFrames base (env::outer))(hf:env.frame=some L)(he:s.heap.get? e=some oe)(kb:base.StaysIn s.heap)(hen:base.get? e=none)(hd:oe.data=.fields vs)(h1:vs[1]?=some .none)(h0:vs[0]?=some a0)(hx:oe.dict≠none->vs[2]?=some .none)
  (h:∀h',Heap.NotedW base (env::outer) e oe.cls a0 (rawInt L) s.heap h'->iq h' e oe.dict->Q () { s with heap:=h' }):wpAny M A (noteFrame (.ref e) env) Q E s:=by
 unfold noteFrame;simp only[hf];refine wpAny_bind (wpAny_field he hd h1 ?_);rw[if_neg (by decide)];exact t9 hfr hl hf he kb hen hd (Array.getElem?_eq_some_iff.mp h1).1 h0 hx h
def xm(hfr:A.frames=some (env::outer))(hl:s.heap.FunFrames base (env::outer))(hf:env.frame=some L)(ht:s.heap.TracedW base e cls a0)(hc:iq s.heap e dc)(kb:base.StaysIn s.heap)(hen:base.get? e=none)
  (h:∀h',Heap.NotedW base (env::outer) e cls a0 (rawInt L) s.heap h'->iq h' e dc->Q () { s with heap:=h' }):wpAny M A (noteFrame (.ref e) env) Q E s:=by
 obtain⟨oe,vs,T,oT,ts,he,⟨rfl,h0⟩,hd,h1,hnT,hTe,hT,dT,h3⟩:=ht;obtain⟨o',q,rfl,cx⟩:=hc;rw[he]at q;cases q;have hx:oe.dict≠none->vs[2]?=some .none:=λz=>by
  obtain⟨vs',d',g⟩:=cx z;rw[hd]at d';cases d';exact g
 have oth:∀(f:Obj->Obj) (b:Addr),b≠T->(s.heap.update T f).get? b=s.heap.get? b:=λf b hb=>Heap.get?_update_other _ _ (Ne.symm hb);have ne:∀b o,s.heap.get? b=some o->(∀vs,o.data≠.fields vs)->b≠T:=λb o q z c=>by subst c;rw[hT]at q;cases q;exact z ts dT
 unfold noteFrame;simp only[hf];refine wpAny_bind (wpAny_field he hd h1 ?_);rw[if_pos (by simp)];refine wpAny_bind (wpAny_field hT dT h3 ?_);rw[if_neg (by simp[rawInt])];refine wpAny_bind (wpAny_setField hT dT (Array.getElem?_eq_some_iff.mp h3).1 ?_);refine t9 hfr (hl.of_keeps λb o q z=>⟨o,(oth _ b (ne b o q z)).trans q,rfl⟩) hf ((oth _ e (Ne.symm hTe)).trans he) (λb o q=>(oth _ b λc=>by subst c;rw[hnT]at q;cases q).trans (kb b o q)) hen hd (Array.getElem?_eq_some_iff.mp h1).1 h0 hx λh' ⟨x1,x2,x3,x4⟩ x5=>h h' ⟨x1,x2,x3,λb o q z=>x4 b o ((oth _ b (ne b o q z)).trans q) z⟩ x5
def gC(kb:base.StaysIn s.heap)(hl:s.heap.FunFrames base l)(ht:s.heap.TracedAtW base e cls a0 fl)(hc:iq s.heap e dc)
  (h:∀h',base.StaysIn h'->h'.FunFrames base l->h'.TracedW base e cls a0->(∀b o,s.heap.get? b=some o->(∀vs,o.data≠.fields vs)->h'.get? b=some o)->iq h' e dc->Q () { s with heap:=h' }):wpAny M A (setFlight (.ref e) none) Q E s:=by
 obtain⟨oe,vs,T,oT,ts,he,hcl,hd,h1,hnT,hTe,hT,dT,h3⟩:=ht;have z3:3<ts.size:=(Array.getElem?_eq_some_iff.mp h3).1;have oth:∀(f:Obj->Obj) (b:Addr),b≠T->(s.heap.update T f).get? b=s.heap.get? b:=λf b hb=>Heap.get?_update_other _ _ (Ne.symm hb);have ne:∀b o,s.heap.get? b=some o->(∀vs,o.data≠.fields vs)->b≠T:=λb o q z c=>by subst c;rw[hT]at q;cases q;exact z ts dT
 unfold setFlight;refine wpAny_bind (wpAny_field he hd h1 ?_);rw[if_pos (by simp)];obtain⟨o',q',rfl,cx⟩:=hc;refine wpAny_setField hT dT z3 (h _ (λb o q=>(oth _ b λc=>by subst c;rw[hnT]at q;cases q).trans (kb b o q)) (hl.of_keeps λb o q z=>⟨o,(oth _ b (ne b o q z)).trans q,rfl⟩) ?_ (λb o q z=>(oth _ b (ne b o q z)).trans q) ⟨o',(oth _ e (Ne.symm hTe)).trans q',rfl,cx⟩);exact⟨oe,vs,T,_,_,(oth _ e (Ne.symm hTe)).trans he,hcl,hd,h1,hnT,hTe,Heap.get?_update_self _ hT (Obj.isFreed_of_fields (Obj.data_mapFields dT _)),Obj.data_mapFields dT _,by simp[z3]⟩
def J6(h:Heap)(e:Addr)(ox:Option Addr):Prop:=∃dc,iq h e dc/\(ox=none∨ox=dc)
def vN{oe:Obj}{vs:Array Value}(hfr:A.frames=some (env::outer))(hl:s.heap.FunFrames base (env::outer))(hf:env.frame=some L)(he:s.heap.get? e=some oe)(kb:base.StaysIn s.heap)(hen:base.get? e=none)(hd:oe.data=.fields vs)(h1:vs[1]?=some .none)(h0:vs[0]?=some a0)(hx:oe.dict≠none->vs[2]?=some .none)
  (h:∀h',Heap.FlyingW base outer e oe.cls a0 h'->s.heap.UpToSlots h'->iq h' e oe.dict->Q () { s with heap:=h' }):wpAny M A (leaving env (.ref e)) Q E s:=by
 unfold leaving;refine wpAny_bind (tX hfr hl hf he kb hen hd h1 h0 hx λg ⟨k1,k2,k3,k4⟩ dg=>?_);refine gC (s:={ s with heap:=g }) k1 k2 k3 dg λh' m1 ⟨_,_,m2⟩ m3 m4 dh=>h h' ⟨m1,hen,m2,m3⟩ (λb o q z=>?_) dh;obtain⟨sl,x⟩:=k4 b o q z;exact⟨sl,m4 b _ x z⟩
def yL(hfr:A.frames=some (env::outer))(hf:env.frame=some L)(hfl:Heap.FlyingW base (env::outer) e cls a0 s.heap)(hc:iq s.heap e dc)
  (h:∀h',Heap.FlyingW base outer e cls a0 h'->s.heap.UpToSlots h'->iq h' e dc->Q () { s with heap:=h' }):wpAny M A (leaving env (.ref e)) Q E s:=by
 obtain⟨f1,f2,f3,f4⟩:=hfl;unfold leaving;refine wpAny_bind (xm hfr f3 hf f4 hc f1 f2 λg ⟨k1,k2,k3,k4⟩ dg=>?_);refine gC (s:={ s with heap:=g }) k1 k2 k3 dg λh' m1 ⟨_,_,m2⟩ m3 m4 dh=>h h' ⟨m1,f2,m2,m3⟩ (λb o q z=>?_) dh;obtain⟨sl,x⟩:=k4 b o q z;exact⟨sl,m4 b _ x z⟩
def tY(hfr:A.frames=some (env::outer))(hf:env.frame=some L)(hfl:Heap.FlyingW base (env::outer) e cls a0 s.heap)(hc:iq s.heap e dc)
  (h:∀h',Heap.HeldW base (env::outer) e cls a0 L h'->s.heap.UpToSlots h'->iq h' e dc->Q () { s with heap:=h' }):wpAny M A (noteFrame (.ref e) env) Q E s:=by
 obtain⟨f1,f2,f3,f4⟩:=hfl;exact xm hfr f3 hf f4 hc f1 f2 λg ⟨k1,k2,k3,k4⟩ dg=>h g ⟨k1,f2,k2,k3⟩ k4 dg
def tZ(hh:Heap.HeldW base l e cls a0 L s.heap)(hc:iq s.heap e dc)(h:∀h',Heap.FlyingW base l e cls a0 h'->s.heap.UpToSlots h'->iq h' e dc->Q () { s with heap:=h' }):wpAny M A (setFlight (.ref e) none) Q E s:=by
 obtain⟨f1,f2,f3,f4⟩:=hh;exact gC f1 f3 f4 hc λh' k1 k2 k3 k4 k5=>h h' ⟨k1,f2,k2,k3⟩ (λb o q z=>⟨o.slots,k4 b o q z⟩) k5
def ua(hh:Heap.FlyingW base l e cls a0 s.heap)(hc:iq s.heap e dc)(h:∀h',Heap.FlyingW base l e cls a0 h'->s.heap.UpToSlots h'->iq h' e dc->Q () { s with heap:=h' }):wpAny M A (setFlight (.ref e) none) Q E s:=by
 obtain⟨f1,f2,f3,f4⟩:=hh;exact gC f1 f3 f4.at hc λh' k1 k2 k3 k4 k5=>h h' ⟨k1,f2,k2,k3⟩ (λb o q z=>⟨o.slots,k4 b o q z⟩) k5
end
def AH:Expr->Bool
 |.Starred _ _=>false
 |_=>true
def aI{e:Expr}{es:List Expr}{env:PySem.Env}(h:AH e=true):starEach (e::es) env=(false,eval e env)::starEach es env:=by
 cases e<;>first|(rw[starEach];intros;contradiction)|rw[starEach]|(cases h)
def cP{e:Expr}{env:PySem.Env}(h:AH e=true):starEach [e] env=[(false,eval e env)]:=by
 rw[aI h,starEach]
theorem bp{env:PySem.Env}{pos:Pos}:∀{es:List Expr},es.all AH=true->(backTo pos (starEach es env)).any (·.1)=false
 |[],_=>by rw[starEach];rfl
 |e::es,h=>by
  rw[List.all_cons,Bool.and_eq_true]at h;rw[aI h.1];have:=bp (env:=env) (pos:=pos) h.2;show(false||(backTo pos (starEach es env)).any (·.1))=false;rw[this];rfl
def nC{e:Expr}{env:PySem.Env}{pos:Pos}(h:AH e=true):((backTo pos (starEach [e] env)).all (λx=>!x.1)&&(backToKw pos (keywordEach [] env)).all (λx=>x.1.isSome)
  &&decide ([e].length+([]:List Keyword).length+(if([]:List Keyword).isEmpty then 0 else 1)<30))=true:=by
 rw[cP h,keywordEach];rfl
inductive Kd where
 |ins (c:Str) (ks:List Str)|dint (ks:List Int)|exf (c:Str) (ks:List Str)|pl
inductive D where
 |non|bl (b:Bool)|int (i:Int)|str (x:Str)|tup (xs:List D)|lst (xs:List D)|dic (ks:List Str) (xs:List D)|exc (x:Str)|ob (k:Kd) (xs:List D)
abbrev ac:=List D
structure Lp (K:W.Frag) (ks:List Str) (C:Addr):Prop where
 cls:KG K C
 no:∀f∈ks,lp K C f
 gc:W.findIn K (.ref C) "__class__"=some (some (.builtin "object.__class__"))
 gn:W.specialIn K (.builtin "object.__class__") "__get__"=some (some (.builtin "getset_descriptor.__get__"))
 tk:W.takesIn K (.builtin "object.__class__")=some true
 mo:W.mroIn K C (.type "object")=some true
 bt:∀T∈eO,W.kitOne K (.ref C) (.type T)=some false
noncomputable def BY(K:W.Frag) (H:Hp):Kd->Addr->al->Prop
 |.ins c ks,a,vs=>∃C dx,W.nsIn K mainGlobals c=some (some (.ref C))/\Lp K ks C/\H a=some (.ins C dx (ks.zip vs))/\ks.length=vs.length
 |.dint ks,a,vs=>∃kvs,Rd H a (.dK kvs)/\kvs=(ks.map Sum.inl).zip vs/\ks.length=vs.length
 |.exf c ks,a,vs=>∃C dx fs,XC K c C/\Rd H a (.ext (wj a C (some dx)))/\H dx=some (.xd fs)/\ks.length=vs.length/\∀(i:Nat) (f:Str) (v:V),ks[i]?=some f->vs[i]?=some v->fs.lookup f=some v
 |.pl,a,vs=>H a=some (.lst vs)
structure E2 where
 cls:Str
 flds:List (Str×D)
inductive ao (α:Type) where
 |ok (a:α)|exn (x:E2)|stuck
def ao.bind{α β:Type}(r:ao α)(f:α->ao β):ao β:=match r with
 |.ok a=>f a
 |.exn x=>.exn x
 |.stuck=>.stuck
mutual
def Rep(K:W.Frag)(H:Hp):D->V->Prop
 |.non,v=>v=.non
 |.bl b,v=>v=.bl b
 |.int i,v=>v=.int i
 |.str x,v=>v=.str x
 |.tup ds,v=>∃a vs,v=.ref a/\ip K H a vs/\Reps K H ds vs
 |.lst ds,v=>∃a vs,v=.ref a/\eh K H a vs/\Reps K H ds vs
 |.dic ks ds,v=>∃a kvs vs,v=.ref a/\Rd H a (.dK kvs)/\kvs=(ks.map Sum.inr).zip vs/\ks.length=vs.length/\Reps K H ds vs
 |.exc x,v=>∃a C dc,v=.ref a/\XC K x C/\Rd H a (.ext (wj a C dc))
 |.ob k ds,v=>∃a vs,v=.ref a/\BY K H k a vs/\Reps K H ds vs
def Reps(K:W.Frag)(H:Hp):ac->al->Prop
 |[],vs=>vs=[]
 |d::ds,vs=>∃v r,vs=v::r/\Rep K H d v/\Reps K H ds r
end
def aE.rd{H H':Hp}(e:aE H H'){a:Addr}{o:HO}(h:Rd H a o):Rd H' a o:=by
 rcases h with h|⟨o',h⟩
 .exact .inl (e _ _ h)
 .exact .inr ⟨o',e _ _ h⟩
def aE.sqT{K:W.Frag}{H H':Hp}(e:aE H H'){a:Addr}{xs:al}(h:ip K H a xs):ip K H' a xs:=by
 rcases h with h|h
 .exact .inl (aE.rd e h)
 .exact .inr h
def aE.sqL{K:W.Frag}{H H':Hp}(e:aE H H'){a:Addr}{xs:al}(h:eh K H a xs):eh K H' a xs:=by
 rcases h with h|h
 .exact .inl (aE.rd e h)
 .exact .inr h
theorem BY.mono{K:W.Frag}{H H':Hp}(e:aE H H'):∀{k:Kd}{a:Addr}{vs:al},BY K H k a vs->BY K H' k a vs
 |.ins c ks,a,vs,⟨C,dx,h0,h1,h2,h3⟩=>⟨C,dx,h0,h1,e _ _ h2,h3⟩
 |.dint ks,a,vs,⟨kvs,h1,h2,h3⟩=>⟨kvs,aE.rd e h1,h2,h3⟩
 |.exf c ks,a,vs,⟨C,dx,fs,h1,h2,h3,h4⟩=>⟨C,dx,fs,h1,aE.rd e h2,e _ _ h3,h4⟩
 |.pl,a,vs,h=>e _ _ h
mutual
theorem Rep.mono{K:W.Frag}{H H':Hp}(e:aE H H'):∀{d:D}{v:V},Rep K H d v->Rep K H' d v
 |.non,_,h=>by unfold Rep at h ⊢;exact h
 |.bl _,_,h=>by unfold Rep at h ⊢;exact h
 |.int _,_,h=>by unfold Rep at h ⊢;exact h
 |.str _,_,h=>by unfold Rep at h ⊢;exact h
 |.tup ds,_,h=>by
  unfold Rep at h ⊢;obtain⟨a,vs,e1,e2,e3⟩:=h;exact⟨a,vs,e1,aE.sqT e e2,Reps.mono e e3⟩
 |.lst ds,_,h=>by
  unfold Rep at h ⊢;obtain⟨a,vs,e1,e2,e3⟩:=h;exact⟨a,vs,e1,aE.sqL e e2,Reps.mono e e3⟩
 |.dic ks ds,_,h=>by
  unfold Rep at h ⊢;obtain⟨a,kvs,vs,e1,e2,e3,e4,e5⟩:=h;exact⟨a,kvs,vs,e1,aE.rd e e2,e3,e4,Reps.mono e e5⟩
 |.exc x,_,h=>by
  unfold Rep at h ⊢;obtain⟨a,C,dc,e1,e2,e3⟩:=h;exact⟨a,C,dc,e1,e2,aE.rd e e3⟩
 |.ob k ds,_,h=>by
  unfold Rep at h ⊢;obtain⟨a,vs,e1,e2,e3⟩:=h;exact⟨a,vs,e1,e2.mono e,Reps.mono e e3⟩
theorem Reps.mono{K:W.Frag}{H H':Hp}(e:aE H H'):∀{ds:ac}{vs:al},Reps K H ds vs->Reps K H' ds vs
 |[],_,h=>by unfold Reps at h ⊢;exact h
 |d::ds,_,h=>by
  unfold Reps at h ⊢;obtain⟨v,r,e1,e2,e3⟩:=h;exact⟨v,r,e1,Rep.mono e e2,Reps.mono e e3⟩
end
section
variable {K:W.Frag}{H:Hp}{v:V}{vs:al}{d:D}{ds:ac}
def aJ:Rep K H .non v↔v=.non:=by unfold Rep;exact Iff.rfl
def aF{b}:Rep K H (.bl b) v↔v=.bl b:=by unfold Rep;exact Iff.rfl
def ay{i}:Rep K H (.int i) v↔v=.int i:=by unfold Rep;exact Iff.rfl
def Rep.str_iff{x}:Rep K H (.str x) v↔v=.str x:=by unfold Rep;exact Iff.rfl
def aH:Rep K H (.tup ds) v↔∃a vs,v=.ref a/\ip K H a vs/\Reps K H ds vs:=by rw[Rep]
def aC:Rep K H (.lst ds) v↔∃a vs,v=.ref a/\eh K H a vs/\Reps K H ds vs:=by rw[Rep]
def dN{x}:Rep K H (.exc x) v↔∃a C dc,v=.ref a/\XC K x C/\Rd H a (.ext (wj a C dc)):=by rw[Rep]
def cb{k}:Rep K H (.ob k ds) v↔∃a vs,v=.ref a/\BY K H k a vs/\Reps K H ds vs:=by rw[Rep]
def Rep.exf_exc{c:Str}{ks:List Str}(h:Rep K H (.ob (.exf c ks) ds) v):Rep K H (.exc c) v:=by
 obtain⟨a,vs,e,⟨C,dx,fs,h1,h2,_⟩,_⟩:=cb.mp h;exact dN.mpr ⟨a,C,some dx,e,h1,h2⟩
def Reps.nil_iff:Reps K H [] vs↔vs=[]:=by unfold Reps;exact Iff.rfl
def aA:Reps K H (d::ds) vs↔∃v r,vs=v::r/\Rep K H d v/\Reps K H ds r:=by rw[Reps]
def Reps.nil:Reps K H [] []:=Reps.nil_iff.mpr rfl
def Reps.cons(h:Rep K H d v)(h':Reps K H ds vs):Reps K H (d::ds) (v::vs):=aA.mpr ⟨_,_,rfl,h,h'⟩
end
theorem Reps.length{K:W.Frag}{H:Hp}:∀{ds:ac}{vs:al},Reps K H ds vs->ds.length=vs.length
 |[],_,h=>by rw[Reps.nil_iff.mp h];rfl
 |d::ds,_,h=>by
  obtain⟨v,r,rfl,_,h⟩:=aA.mp h;simp[Reps.length h]
theorem Reps.get{K:W.Frag}{H:Hp}:∀{ds:ac}{vs:al}{i:Nat}{d:D},Reps K H ds vs->ds[i]?=some d->∃v,vs[i]?=some v/\Rep K H d v
 |[],_,_,_,h,e=>by simp at e
 |x::ds,_,0,d,h,e=>by
  obtain⟨v,r,rfl,h1,_⟩:=aA.mp h;simp at e;subst e;exact⟨v,rfl,h1⟩
 |x::ds,_,i+1,d,h,e=>by
  obtain⟨v,r,rfl,_,h2⟩:=aA.mp h;obtain⟨u,e1,e2⟩:=Reps.get (i:=i) h2 (by simpa using e);exact⟨u,by simpa using e1,e2⟩
theorem Reps.app{K:W.Frag}{H:Hp}:∀{ds es:ac}{vs us:al},Reps K H ds vs->Reps K H es us->Reps K H (ds++es) (vs++us)
 |[],_,_,_,h,h'=>by rw[Reps.nil_iff.mp h];exact h'
 |d::ds,_,_,_,h,h'=>by
  obtain⟨v,r,rfl,h1,h2⟩:=aA.mp h;exact Reps.cons h1 (Reps.app h2 h')
theorem Reps.take{K:W.Frag}{H:Hp}:∀{ds:ac}{vs:al}(n:Nat),Reps K H ds vs->Reps K H (ds.take n) (vs.take n)
 |_,_,0,_=>by simp;exact Reps.nil
 |[],_,n+1,h=>by rw[Reps.nil_iff.mp h];exact Reps.nil
 |d::ds,_,n+1,h=>by
  obtain⟨v,r,rfl,h1,h2⟩:=aA.mp h;exact Reps.cons h1 (Reps.take n h2)
theorem Reps.drop{K:W.Frag}{H:Hp}:∀{ds:ac}{vs:al}(n:Nat),Reps K H ds vs->Reps K H (ds.drop n) (vs.drop n)
 |_,_,0,h=>by simpa using h
 |[],_,n+1,h=>by rw[Reps.nil_iff.mp h];exact Reps.nil
 |d::ds,_,n+1,h=>by
  obtain⟨v,r,rfl,h1,h2⟩:=aA.mp h;exact Reps.drop n h2
theorem qj{K:W.Frag}{H:Hp}:∀(ns:List Int),Reps K H (ns.map D.int) (ns.map V.int)
 |[]=>Reps.nil
 |n::r=>Reps.cons (ay.mpr rfl) (qj r)
structure aZ (H Ha H' Ha':Hp):Prop where
 s:aE H H'
 z:aE Ha Ha'
 sub:aE Ha' H'
 nw:∀a,Ha' a≠none->Ha a=none->H a=none
def aZ.refl{H Ha:Hp}(h:aE Ha H):aZ H Ha H Ha:=⟨aE.refl _,aE.refl _,h,λa h1 h2=>absurd h2 h1⟩
theorem aZ.trans{H Ha H1 H01 H2 H02:Hp}(a:aZ H Ha H1 H01)(b:aZ H1 H01 H2 H02):aZ H Ha H2 H02 :=
 ⟨a.s.trans b.s,a.z.trans b.z,b.sub,λx h1 h2=>by
  cases q:H01 x with
  |none=>exact a.s.free (b.nw x h1 q)
  |some o=>exact a.nw x (by rw[q];simp) h2⟩
def aR{H Ha:Hp}{p:Addr}{o:HO}(hs:aE Ha H)(hp:H p=none):aZ H Ha (upd H p o) (upd Ha p o) :=
 ⟨same_new hp o,same_new (hs.free hp) o,λb u e=>by
  by_cases hb:b=p
  .subst hb;rw[aG]at e ⊢;exact e
  .rw[az hb]at e ⊢;exact hs _ _ e,λa h1 h2=>by
  by_cases hb:a=p
  .subst hb;exact hp
  .rw[az hb]at h1;exact absurd h2 h1⟩
where
 same_new {H:Hp}{p:Addr}(h:H p=none) (o:HO):aE H (upd H p o):=λb u q=>by rw[az (aO q h)];exact q
inductive Sl where
 |no|sh (d:D)|ow (d:D)|ox (j:Nat) (ds:ac)|pt (a:Addr)
abbrev Ev:=List Sl
abbrev am:=Ev->ao D
def et(K:W.Frag)(Ha:Hp)(σ:L2.St)(ρ:Ev):Prop:=∀(i:Nat) (d:D),ρ[i]?=some (.sh d)->∃v,σ[i]?=some (some v)/\Rep K Ha d v
def et.mono{K:W.Frag}{H H':Hp}{σ:L2.St}{ρ:Ev}(e:aE H H')(r:et K H σ ρ):et K H' σ ρ:=λi d h=>
 let ⟨v,h1,h2⟩:=r i d h
 ⟨v,h1,h2.mono e⟩
def rO(K:W.Frag)(H:Hp)(x:E2)(C:Value)(ox:Option Addr):Prop :=
 (∃c,C=.ref c/\XC K x.cls c)/\match ox with
  |none=>x.flds=[]
  |some a=>∃fs,H a=some (.xd fs)/\∀n d,x.flds.lookup n=some d->∃v,fs.lookup n=some v/\Rep K H d v
def post(K:W.Frag)(E:XK)(H Ha:Hp)(r:ao D)(Q:VK):Prop:=match r with
 |.ok d=>∀v H' Ha',aZ H Ha H' Ha'->Rep K Ha' d v->Q v H'
 |.exn x=>∀C ox H' Ha',aZ H Ha H' Ha'->rO K Ha' x C ox->E C ox H'
 |.stuck=>False
def pk(K:W.Frag)(E:XK)(H Ha:Hp)(r:ao (ac))(Q:al->Hp->Prop):Prop:=match r with
 |.ok ds=>∀vs H' Ha',aZ H Ha H' Ha'->Reps K Ha' ds vs->Q vs H'
 |.exn x=>∀C ox H' Ha',aZ H Ha H' Ha'->rO K Ha' x C ox->E C ox H'
 |.stuck=>False
def mQ(K:W.Frag)(E:XK)(H Ha:Hp)(r:ao D)(Q:Bool->Hp->Prop):Prop:=match r with
 |.ok (.bl b)=>∀H' Ha',aZ H Ha H' Ha'->Q b H'
 |.ok _=>False
 |.exn x=>∀C ox H' Ha',aZ H Ha H' Ha'->rO K Ha' x C ox->E C ox H'
 |.stuck=>False
section
variable {K:W.Frag}{E:XK}{H Ha H1 H01:Hp}
def post.grow{r:ao D}{Q:VK}(h:post K E H Ha r Q)(g:aZ H Ha H1 H01):post K E H1 H01 r Q:=by
 cases r with|ok d=>exact λv H' Ha' g'=>h v H' Ha' (g.trans g')|exn x=>exact λC ox H' Ha' g'=>h C ox H' Ha' (g.trans g')|stuck=>exact h
def pk.grow{r:ao (ac)}{Q:al->Hp->Prop}(h:pk K E H Ha r Q)(g:aZ H Ha H1 H01):pk K E H1 H01 r Q:=by
 cases r with|ok d=>exact λv H' Ha' g'=>h v H' Ha' (g.trans g')|exn x=>exact λC ox H' Ha' g'=>h C ox H' Ha' (g.trans g')|stuck=>exact h
def mQ.grow{r:ao D}{Q:Bool->Hp->Prop}(h:mQ K E H Ha r Q)(g:aZ H Ha H1 H01):mQ K E H1 H01 r Q:=by
 cases r with
 |ok d=>
  cases d with|bl b=>exact λH' Ha' g'=>h H' Ha' (g.trans g')| _=>exact h
 |exn x=>exact λC ox H' Ha' g'=>h C ox H' Ha' (g.trans g')
 |stuck=>exact h
end
def tD(K:W.Frag)(E:XK)(f:am):TE:=λσ H Q=>∃Ha ρ,aE Ha H/\et K Ha σ ρ/\post K E H Ha (f ρ) Q
def Lx(K:W.Frag)(E:XK)(f:Ev->ao (ac)):TA:=λσ H Q=>∃Ha ρ,aE Ha H/\et K Ha σ ρ/\pk K E H Ha (f ρ) Q
def Ia(K:W.Frag)(E:XK)(f:am):TT:=λσ H Q=>∃Ha ρ,aE Ha H/\et K Ha σ ρ/\mQ K E H Ha (f ρ) Q
structure DE (X:Cx) (E:XK) (e:Expr) (f:am):Prop where
 o:PE X e (tD X.K E f)
structure DA (X:Cx) (E:XK) (es:List Expr) (f:Ev->ao (ac)):Prop where
 o:PA X es (Lx X.K E f)
structure DT (X:Cx) (E:XK) (e:Expr) (f:am):Prop where
 o:PT X e (Ia X.K E f)
structure DW (X:Cx) (E:XK) (e:Expr) (f:am):Prop where
 o:PW X e (Ia X.K E f)
section
variable {X:Cx}{E:XK}{e a b:Expr}{es:List Expr}{f g:am}{fa:Ev->ao (ac)}{pos:Pos}
def aU{t t':TE}(h:PE X e t)(w:∀σ H Q,t' σ H Q->t σ H Q):PE X e t':=λpins s σ H Q I q=>h pins s σ H Q I (w σ H Q q)
def wQ{t t':TA}(h:PA X es t)(w:∀σ H Q,t' σ H Q->t σ H Q):PA X es t':=λpos pins s σ H Q I q=>h pos pins s σ H Q I (w σ H Q q)
def l5{t t':TT}(h:PT X e t)(w:∀σ H Q,t' σ H Q->t σ H Q):PT X e t':=λpins s σ H Q I q=>h pins s σ H Q I (w σ H Q q)
def wK{t t':TT}(h:PW X e t)(w:∀σ H Q,t' σ H Q->t σ H Q):PW X e t':=λwh pins s σ H Q I q=>h wh pins s σ H Q I (w σ H Q q)
def ae(i:Nat):am:=λρ=>match ρ[i]? with
 |some (.sh d)=>.ok d
 |_=>.stuck
def dC(d:D):am:=λ_=>.ok d
def HI{i:Nat}{x:Str}(hN:X.N[i]?=some x)(hv:zg X.env.scope x)(hd:(x==("__debug__":Str))=false:=by decide)(hcd:(x==("__classdict__":Str))=false:=by decide):DE X E (.Name x pos) (ae i):=by
 refine⟨?_⟩;refine aU (fX hN hv hd hcd) λσ H Q ⟨Ha,ρ,hs,hr,q⟩=>?_;unfold ae at q;cases e:ρ[i]? with
 |none=>rw[e]at q;exact q.elim
 |some s=>
  rw[e]at q;cases s with
  |sh d=>
   obtain⟨v,e1,e2⟩:=hr i d e;exact⟨v,e1,q v H Ha (aZ.refl hs) e2⟩
  |no|ow d|ox j ds|pt a=>exact q.elim
def ai{i j}:DE X E (.Constant (.int i) j pos) (dC (.int i)):=⟨aU vj λσ H Q ⟨Ha,ρ,hs,hr,q⟩=>q _ H Ha (aZ.refl hs) (ay.mpr rfl)⟩
def gH{i j}:DE X E (.Constant (.bool i) j pos) (dC (.bl i)):=⟨aU Jc λσ H Q ⟨Ha,ρ,hs,hr,q⟩=>q _ H Ha (aZ.refl hs) (aF.mpr rfl)⟩
def dW{j}:DE X E (.Constant .none j pos) (dC .non):=⟨aU Aw λσ H Q ⟨Ha,ρ,hs,hr,q⟩=>q _ H Ha (aZ.refl hs) (aJ.mpr rfl)⟩
def eM{x j}:DE X E (.Constant (.str x) j pos) (dC (.str x)):=⟨aU Gm λσ H Q ⟨Ha,ρ,hs,hr,q⟩=>q _ H Ha (aZ.refl hs) (Rep.str_iff.mpr rfl)⟩
def ED{x:Str}{v:V}{u:Value}{d:D}(hg:Gl X x)(hm:X.mg x=some u)(r:bb v u)(hr:∀H,Rep X.K H d v)(hd:(x==("__debug__":Str))=false:=by decide):DE X E (.Name x pos) (dC d) :=
 ⟨aU (qG hg hm r hd) λσ H Q ⟨Ha,ρ,hs,hr',q⟩=>q _ H Ha (aZ.refl hs) (hr Ha)⟩
def aa(f g:am)(op:D->D->ao D):am:=λρ=>(f ρ).bind λx=>(g ρ).bind λy=>op x y
def bc(f:am)(op:D->ao D):am:=λρ=>(f ρ).bind op
def uM(K:W.Frag)(E:XK)(r:R2)(op:D->D->ao D):Prop:=∀(x y:D) (v u:V) (H Ha:Hp) (Q:VK),aE Ha H->Rep K Ha x v->Rep K Ha y u->post K E H Ha (op x y) Q->r v u H Q
def gh{r:R2}{op:D->D->ao D}(ho:uM X.K E r op)(σ:L2.St)(H:Hp)(Q:VK)(h:tD X.K E (aa f g op) σ H Q):Ir r (tD X.K E f) (tD X.K E g) σ H Q:=by
 obtain⟨Ha,ρ,hs,hr,q⟩:=h;refine⟨Ha,ρ,hs,hr,?_⟩;unfold aa at q;cases e1:f ρ with
 |stuck|exn x=>rw[e1]at q;exact q
 |ok x=>
  rw[e1]at q;intro v H1 H01 g1 r1;refine⟨H01,ρ,g1.sub,hr.mono g1.z,?_⟩;replace q:post X.K E H Ha ((g ρ).bind λy=>op x y) Q:=q;replace q:=q.grow g1;cases e2:g ρ with
  |stuck|exn x=>rw[e2]at q;exact q
  |ok y=>
   rw[e2]at q;intro u H2 H02 g2 r2;exact ho x y v u H2 H02 Q g2.sub (r1.mono g2.z) r2 (post.grow (r:=op x y) q g2)
def pQ{op:Operator}{r:R2}{o:D->D->ao D}(h:fL X (binaryOp op) r)(ho:uM X.K E r o)(ha:DE X E a f)(hb:DE X E b g):DE X E (.BinOp a op b pos) (aa f g o) :=
 ⟨aU (Av h ha.o hb.o) (gh ho)⟩
def dX{op:CmpOp}{r:R2}{o:D->D->ao D}(h:fL X (compareOp op) r)(ho:uM X.K E r o)(ha:DE X E a f)(hb:DE X E b g)(hm:behindInMarks op b=false):DE X E (.Compare a [op] [b] pos) (aa f g o) :=
 ⟨aU (C7 h ha.o hb.o hm) (gh ho)⟩
def J1{r:R2}{o:D->D->ao D}(h:Ca X r)(ho:uM X.K E r o)(ha:DE X E a f)(hb:DE X E b g)(hs:kC b):DE X E (.Subscript a b pos) (aa f g o) :=
 ⟨aU (Ay h ha.o hb.o hs) (gh ho)⟩
def Mi(K:W.Frag)(E:XK)(r:V->Hp->VK->Prop)(op:D->ao D):Prop:=∀(x:D) (v:V) (H Ha:Hp) (Q:VK),aE Ha H->Rep K Ha x v->post K E H Ha (op x) Q->r v H Q
def JZ{op:UnaryOp}{r:V->Hp->VK->Prop}{o:D->ao D}(h:Kv X (unaryOp op) r)(ho:Mi X.K E r o)(ha:DE X E a f):DE X E (.UnaryOp op a pos) (bc f o):=by
 refine⟨?_⟩;refine aU (Ja h ha.o) λσ H Q z9=>?_;obtain⟨Ha,ρ,hs,hr,q⟩:=z9;refine⟨Ha,ρ,hs,hr,?_⟩
 unfold bc at q;cases e1:f ρ with
 |stuck|exn x=>rw[e1]at q;exact q
 |ok x=>
  rw[e1]at q;intro v H1 H01 g1 r1;exact ho x v H1 H01 Q g1.sub r1 (post.grow (r:=o x) q g1)
def ax:Ev->ao (ac):=λ_=>.ok []
def af(f:am)(fa:Ev->ao (ac)):Ev->ao (ac):=λρ=>(f ρ).bind λx=>(fa ρ).bind λxs=>.ok (x::xs)
def av:DA X E [] ax:=⟨wQ dQ λσ H Q ⟨Ha,ρ,hs,hr,q⟩=>q [] H Ha (aZ.refl hs) Reps.nil⟩
def ag(ha:DE X E e f)(hr:DA X E es fa)(hs:starEach (e::es) X.env=(false,eval e X.env)::starEach es X.env:=by exact aI rfl):DA X E (e::es) (af f fa):=by
 refine⟨?_⟩;refine wQ (bP ha.o hr.o hs) λσ H Q z9=>?_;obtain⟨Ha,ρ,hs,hr,q⟩:=z9;refine⟨Ha,ρ,hs,hr,?_⟩
 unfold af at q;cases e1:f ρ with
 |stuck|exn x=>rw[e1]at q;exact q
 |ok x=>
  rw[e1]at q;intro v H1 H01 g1 r1;refine⟨H01,ρ,g1.sub,hr.mono g1.z,?_⟩;replace q:pk X.K E H Ha ((fa ρ).bind λxs=>.ok (x::xs)) Q:=q;replace q:=q.grow g1;cases e2:fa ρ with
  |stuck|exn x=>rw[e2]at q;exact q
  |ok xs=>
   rw[e2]at q;intro us H2 H02 g2 r2;exact q (v::us) H2 H02 g2 (Reps.cons (r1.mono g2.z) r2)
def line:Nat:=1000000
def cO{n:Nat}(h:n<=line):n<=sizeLine:=Nat.le_trans h (by decide)
def aq(fa:Ev->ao (ac))(m:ac->ao D):am:=λρ=>(fa ρ).bind m
def dm:ac->ao D:=λds=>if ds.length<=line then .ok (.tup ds) else .stuck
def bG:ac->ao D:=λds=>if ds.length<=line then .ok (.lst ds) else .stuck
def jx{m:ac->ao D}{r:al->Hp->VK->Prop}(ho:∀(ds:ac) (vs:al) (H Ha:Hp) (Q:VK),aE Ha H->Reps X.K Ha ds vs->post X.K E H Ha (m ds) Q->r vs H Q)
  (σ:L2.St)(H:Hp)(Q:VK)(h:tD X.K E (aq fa m) σ H Q):Lx X.K E fa σ H λvs H1=>r vs H1 Q:=by
 obtain⟨Ha,ρ,hs,hr,q⟩:=h;refine⟨Ha,ρ,hs,hr,?_⟩;unfold aq at q;cases e1:fa ρ with
 |stuck|exn x=>rw[e1]at q;exact q
 |ok x=>
  rw[e1]at q;intro v H1 H01 g1 r1;exact ho x v H1 H01 Q g1.sub r1 (post.grow (r:=m x) q g1)
def cW{x1}(h:DA X E es fa):DE X E (.Tuple es x1 pos) (aq fa dm):=by
 refine⟨?_⟩;refine aU (vi h.o) (jx (r:=λxs H1 Q=>xs.length<=sizeLine/\∀p,H1 p=none->Q (.ref p) (upd H1 p (.tup xs))) λds vs H Ha Q hs hr q=>?_);unfold dm at q
 by_cases hl:ds.length<=line
 .rw[if_pos hl]at q
  refine⟨by rw[←hr.length];exact cO hl,λp hp=>q _ _ _ (aR hs hp) (aH.mpr ⟨p,vs,rfl,ip.of aG,hr.mono (aR hs hp).z⟩)⟩
 .rw[if_neg hl]at q;exact q.elim
def bY(h:DA X E es fa):DE X E (.List es pos) (aq fa bG):=by
 refine⟨?_⟩;refine aU (Ax h.o) (jx (r:=λxs H1 Q=>xs.length<=sizeLine/\∀p,H1 p=none->Q (.ref p) (upd H1 p (.lst xs))) λds vs H Ha Q hs hr q=>?_);unfold bG at q
 by_cases hl:ds.length<=line
 .rw[if_pos hl]at q
  refine⟨by rw[←hr.length];exact cO hl,λp hp=>q _ _ _ (aR hs hp) (aC.mpr ⟨p,vs,rfl,eh.of aG,hr.mono (aR hs hp).z⟩)⟩
 .rw[if_neg hl]at q;exact q.elim
def spD(K:W.Frag)(n:Nat)(m:ac->ao D):Sp:=λvs H Q E=>vs.length=n/\∃Ha ds,aE Ha H/\Reps K Ha ds vs/\post K E H Ha (m ds) Q
def EE{CX:ql}{k n:Nat}{fn:Addr}{fd:FuncData}{ps:List Str}{m:ac->ao D}{x:Str}{p:Pos}(F:eP X.prog X.w X.K X.mg X.base CX k fn fd ps (spD X.K n m))(hr:cL k X.A)(hg:Gl X x)(hm:X.mg x=some (.ref fn))
  (hk:W.keepIn X.K (.ref fn)=true)(hb:iz X.K fd ps [])(hx:ll CX X E)(ha:DA X E (e::es) fa)(hn:(e::es).length=n:=by rfl)(hl:∀ρ ds,fa ρ=.ok ds->ds.length=(e::es).length)
  (hdb:(x==("__debug__":Str))=false:=by decide)(he:starEach (e::es) X.env=(false,eval e X.env)::starEach es X.env:=by exact aI rfl)(hpl:(backTo pos (starEach es X.env)).any (·.1)=false:=by exact bp rfl) :
  DE X E (.Call (.Name x p) (e::es) [] pos) (aq fa m):=by
 refine⟨?_⟩;refine aU (C8 F hr hg hm hk hb .nil hx ha.o hdb he hpl) λσ H Q h=>?_;obtain⟨Ha,ρ,hs,hr,q⟩:=h;refine⟨Ha,ρ,hs,hr,?_⟩;unfold aq at q;cases e1:fa ρ with
 |stuck|exn x=>rw[e1]at q;exact q
 |ok ds=>
  rw[e1]at q;intro v H1 H01 g1 r1;refine⟨?_,H01,ds,g1.sub,by simpa using r1,post.grow (r:=m ds) q g1⟩;have:=r1.length;have:=hl ρ ds e1;simp only[List.append_nil];omega
def BS{ρ:Ev}{ds:ac}(h:ax ρ=.ok ds):ds.length=0:=by cases h;rfl
def jy{ρ:Ev}{ds:ac}{n:Nat}(hr:∀es,fa ρ=.ok es->es.length=n)(h:af f fa ρ=.ok ds):ds.length=n+1:=by
 unfold af at h;cases e1:f ρ with
 |stuck|exn x=>rw[e1]at h;cases h
 |ok x=>
  rw[e1]at h;replace h:((fa ρ).bind λxs=>ao.ok (x::xs))=.ok ds:=h;cases e2:fa ρ with
  |stuck|exn x=>rw[e2]at h;cases h
  |ok xs=>
   rw[e2]at h;cases h;simp[hr xs e2]
def oz(X:Cx)(E:XK)(r:al->Hp->VK->Prop)(m:ac->ao D):Prop:=∀(ds:ac) (vs:al) (H Ha:Hp) (Q:VK),aE Ha H->Reps X.K Ha ds vs->post X.K E H Ha (m ds) Q->r vs H Q
def aQ{id:String}{r:al->Hp->VK->Prop}{m:ac->ao D}{x:Str}{p:Pos}(hc:iX X (.builtin id) r)(hd:oz X E r m)(hg:Gl X x)(hm:X.mg x=none)(hv:bootBuiltins x=some (.builtin id))(ha:DA X E (e::es) fa)(hn:x≠"__name__":=by decide)(hdb:(x==("__debug__":Str))=false:=by decide)
  (he:starEach (e::es) X.env=(false,eval e X.env)::starEach es X.env:=by exact aI rfl)(hpl:(backTo pos (starEach es X.env)).any (·.1)=false:=by exact bp rfl):DE X E (.Call (.Name x p) (e::es) [] pos) (aq fa m) :=
 ⟨aU (iI hc hg hm hv ha.o hn hdb he hpl) (jx hd)⟩
def Bx(h:PT X e (tB (tD X.K E f))):DT X E e f:=by
 refine⟨?_⟩;refine l5 h λσ H Q z9=>?_;obtain⟨Ha,ρ,hs,hr,q⟩:=z9;refine⟨Ha,ρ,hs,hr,?_⟩
 cases e1:f ρ with
 |stuck|exn x=>rw[e1]at q;exact q
 |ok d=>
  rw[e1]at q;intro v H1 H01 g1 r1;cases d with|bl b=>rw[aF.mp r1];exact⟨b,rfl,q H1 H01 g1⟩| _=>exact q.elim
def cw(h:DE X E e f)(he:∀whole,isTrue e X.env whole=(do let v ←whole;standAt e.pos;holding [v] (truthy v)):=by intro _;rfl):DT X E e f:=Bx (Ge h.o he)
def bf{op:CmpOp}{r:R2}{o:D->D->ao D}(h:fL X (compareOp op) r)(ho:uM X.K E r o)(ha:DE X E a f)(hb:DE X E b g)(hm:behindInMarks op b=false):DT X E (.Compare a [op] [b] pos) (aa f g o):=by
 refine⟨?_⟩;refine l5 (CQ h ha.o hb.o hm) λσ H Q h=>?_;have w:tD X.K E (aa f g o) σ H λx H'=>∃k,x=.bl k/\Q k H':=by
  obtain⟨Ha,ρ,hs,hr,q⟩:=h;refine⟨Ha,ρ,hs,hr,?_⟩;cases e1:aa f g o ρ with
  |stuck|exn x=>rw[e1]at q;exact q
  |ok d=>
   rw[e1]at q;intro v H1 H01 g1 r1;cases d with|bl b=>rw[aF.mp r1];exact⟨b,rfl,q H1 H01 g1⟩| _=>exact q.elim
 exact gh ho σ H _ w
def bZ(f:am):am:=bc f λx=>match x with
 |.bl b=>.ok (.bl (!b))
 |_=>.stuck
def iC(f g:am):am:=λρ=>(f ρ).bind λx=>match x with
 |.bl true=>g ρ
 |.bl false=>.ok (.bl false)
 |_=>.stuck
def gM(f g:am):am:=λρ=>(f ρ).bind λx=>match x with
 |.bl true=>.ok (.bl true)
 |.bl false=>g ρ
 |_=>.stuck
def cy(ha:DT X E a f):DT X E (.UnaryOp .Not a pos) (bZ f):=by
 refine⟨?_⟩;refine l5 (Gf ha.o) λσ H Q z9=>?_;obtain⟨Ha,ρ,hs,hr,q⟩:=z9;refine⟨Ha,ρ,hs,hr,?_⟩
 unfold bZ bc at q;cases e1:f ρ with
 |stuck|exn x=>rw[e1]at q;exact q
 |ok d=>
  rw[e1]at q;cases d with|bl b=>exact q| _=>exact q.elim
def vX(ha:DE X E a f):DE X E (.UnaryOp .Not a pos) (bZ f):=by
 refine⟨?_⟩;refine aU (Gp ha.o) λσ H Q z9=>?_;obtain⟨Ha,ρ,hs,hr,q⟩:=z9;refine⟨Ha,ρ,hs,hr,?_⟩
 unfold bZ bc at q;cases e1:f ρ with
 |stuck|exn x=>rw[e1]at q;exact q
 |ok d=>
  rw[e1]at q;intro v H1 H01 g1 r1;cases d with|bl b=>rw[aF.mp r1];exact⟨b,rfl,q (.bl !b) H1 H01 g1 (aF.mpr rfl)⟩| _=>exact q.elim
variable {rest:List Expr}
def nM(ha:DT X E a f):DW X E (.BoolOp .And [a] pos) f:=⟨CO ha.o⟩
def bu(ha:DT X E a f):DW X E (.BoolOp .Or [a] pos) f:=⟨Ga ha.o⟩
def Bu(ha:DT X E a f)(hb:DW X E (.BoolOp .And (b::rest) pos) g):DW X E (.BoolOp .And (a::b::rest) pos) (iC f g):=by
 refine⟨?_⟩;refine wK (Gb ha.o hb.o) λσ H Q z9=>?_;obtain⟨Ha,ρ,hs,hr,q⟩:=z9;refine⟨Ha,ρ,hs,hr,?_⟩
 unfold iC at q;cases e1:f ρ with
 |stuck|exn x=>rw[e1]at q;exact q
 |ok d=>
  rw[e1]at q;cases d with
  |bl b=>
   cases b with|true=>exact λH1 H01 g1=>⟨H01,ρ,g1.sub,hr.mono g1.z,mQ.grow (r:=g ρ) q g1⟩|false=>exact λH1 H01 g1=>q H1 H01 g1
  |_=>exact q.elim
def dJ(ha:DT X E a f)(hb:DW X E (.BoolOp .Or (b::rest) pos) g):DW X E (.BoolOp .Or (a::b::rest) pos) (gM f g):=by
 refine⟨?_⟩;refine wK (IT ha.o hb.o) λσ H Q z9=>?_;obtain⟨Ha,ρ,hs,hr,q⟩:=z9;refine⟨Ha,ρ,hs,hr,?_⟩
 unfold gM at q;cases e1:f ρ with
 |stuck|exn x=>rw[e1]at q;exact q
 |ok d=>
  rw[e1]at q;cases d with
  |bl b=>
   cases b with|false=>exact λH1 H01 g1=>⟨H01,ρ,g1.sub,hr.mono g1.z,mQ.grow (r:=g ρ) q g1⟩|true=>exact λH1 H01 g1=>q H1 H01 g1
  |_=>exact q.elim
def DW.dt(h:DW X E e f):DT X E e f:=⟨PW.pt h.o⟩
def ia{op}(h:DE X E a f):DE X E (.BoolOp op [a] pos) f:=⟨Gn h.o⟩
def ic(ha:DE X E a f)(hb:DE X E (.BoolOp .And (b::rest) pos) g):DE X E (.BoolOp .And (a::b::rest) pos) (iC f g):=by
 refine⟨?_⟩;refine aU (Gr ha.o hb.o) λσ H Q z9=>?_;obtain⟨Ha,ρ,hs,hr,q⟩:=z9;refine⟨Ha,ρ,hs,hr,?_⟩
 unfold iC at q;cases e1:f ρ with
 |stuck|exn x=>rw[e1]at q;exact q
 |ok d=>
  rw[e1]at q;intro v H1 H01 g1 r1;cases d with
  |bl b=>
   rw[aF.mp r1];cases b with|true=>exact⟨true,rfl,H01,ρ,g1.sub,hr.mono g1.z,post.grow (r:=g ρ) q g1⟩|false=>exact⟨false,rfl,q (.bl false) H1 H01 g1 (aF.mpr rfl)⟩
  |_=>exact q.elim
def J0(ha:DE X E a f)(hb:DE X E (.BoolOp .Or (b::rest) pos) g):DE X E (.BoolOp .Or (a::b::rest) pos) (gM f g):=by
 refine⟨?_⟩;refine aU (Jb ha.o hb.o) λσ H Q z9=>?_;obtain⟨Ha,ρ,hs,hr,q⟩:=z9;refine⟨Ha,ρ,hs,hr,?_⟩
 unfold gM at q;cases e1:f ρ with
 |stuck|exn x=>rw[e1]at q;exact q
 |ok d=>
  rw[e1]at q;intro v H1 H01 g1 r1;cases d with
  |bl b=>
   rw[aF.mp r1];cases b with|false=>exact⟨false,rfl,H01,ρ,g1.sub,hr.mono g1.z,post.grow (r:=g ρ) q g1⟩|true=>exact⟨true,rfl,q (.bl true) H1 H01 g1 (aF.mpr rfl)⟩
  |_=>exact q.elim
end
def EV(K:W.Frag)(Ha H:Hp)(a:Addr)(d:D):Prop:=match d with
 |.lst ds=>∃vs,H a=some (.lst vs)/\Reps K Ha ds vs
 |.dic ks ds=>∃vs,H a=some (.dK ((ks.map Sum.inr).zip vs))/\ks.length=vs.length/\Reps K Ha ds vs
 |_=>False
def oK(j k:Nat):Bool:=if j=99 then decide (k<=1) else k==j
noncomputable def J7(K:W.Frag) (He Ha H:Hp) (a:Addr) (j:Nat) (ds:ac) (P:Nat->Addr):Prop:=∃vs,He a=none/\H a=some (.tup vs)/\ds.length=vs.length /\
 (∀k,oK j k=true->∃es us,He (P k)=none/\Ha (P k)=none/\ds[k]?=some (.lst es)/\vs[k]?=some (.ref (P k))/\H (P k)=some (.lst us)/\Reps K Ha es us) /\
 (∀k l,oK j k=true->oK j l=true->P k=P l->k=l)/\∀k d v,oK j k=false->ds[k]?=some d->vs[k]?=some v->Rep K Ha d v
noncomputable def OX(K:W.Frag) (He Ha:Hp) (σ:L2.St) (H:Hp) (ρ:Ev):Prop:=(∀(i j:Nat) (ds:ac),ρ[i]?=some (.ox j ds)->∃a P,σ[i]?=some (some (.ref a))/\J7 K He Ha H a j ds P/\(∀(k:Nat) (d:D) (l:Nat),oK j l=true->ρ[k]?=some (.ow d)->σ[k]?≠some (some (.ref (P l))))/\∀(k j':Nat) (ds':ac),ρ[k]?=some (.ox j' ds')->k=i)/\∀(i:Nat) (a:Addr),ρ[i]?=some (.pt a)->σ[i]?=some (some (.ref a))
def OX.upd{K:W.Frag}{He Ha Ha' H H':Hp}{σ σ':L2.St}{ρ ρ':Ev}(h:OX K He Ha σ H ρ)
  (hk:∀(j:Nat) (s:Sl),ρ'[j]?=some s->(ρ[j]?=some s/\σ'[j]?=σ[j]?)∨(∃d,s=.sh d)∨s=.no∨∃d q,s=.ow d/\σ'[j]?=some (some (.ref q))/\∀(i j:Nat) (ds:ac) (a:Addr) (P:Nat->Addr),ρ[i]?=some (.ox j ds)->σ[i]?=some (some (.ref a))->J7 K He Ha H a j ds P->∀l,oK j l=true->q≠P l)
  (hz:aE Ha Ha')(ht:∀a vs,He a=none->H a=some (.tup vs)->H' a=some (.tup vs))
  (hl:∀p us,He p=none->Ha p=none->H p=some (.lst us)->(∀(k:Nat) (d:D),ρ[k]?=some (.ow d)->σ[k]?≠some (some (.ref p)))->H' p=some (.lst us)/\Ha' p=none):OX K He Ha' σ' H' ρ':=by
 refine⟨λi j ds e=>?_,λi a e=>?_⟩
 rotate_left
 .rcases hk i _ e with h1|⟨d,h1⟩|h1|⟨d,q,h1,_⟩
  .rw[h1.2];exact h.2 i a h1.1
  .cases h1
  .cases h1
  .cases h1
 have old:ρ[i]?=some (.ox j ds)/\σ'[i]?=σ[i]?:=by
  rcases hk i _ e with h1|⟨d,h1⟩|h1|⟨d,q,h1,_⟩
  .exact h1
  .cases h1
  .cases h1
  .cases h1
 obtain⟨a,P,h1,h2,h3,h4⟩:=h.1 i j ds old.1;have h2':=h2;obtain⟨vs,r1,r2,r3,r4,r5,r6⟩:=h2;refine⟨a,P,old.2.trans h1,⟨vs,r1,ht a vs r1 r2,r3,λk ok=>?_,r5,λk d v hk e1 e2=>(r6 k d v hk e1 e2).mono hz⟩,λk d l ok ek z=>?_,λk j' ds' ek=>?_⟩
 .obtain⟨es,us,q1,q2,q3,q4,q5,q6⟩:=r4 k ok
  obtain⟨l1,l2⟩:=hl (P k) us q1 q2 q5 λm d em=>h3 m d k ok em;exact⟨es,us,q1,l2,q3,q4,l1,q6.mono hz⟩
 .rcases hk k _ ek with h1'|⟨d',h1'⟩|h1'|⟨d',q,h1',h2'',h3'⟩
  .exact h3 k d l ok h1'.1 (by rw[←h1'.2];exact z)
  .cases h1'
  .cases h1'
  .rw[h2'']at z
   cases z;exact h3' i j ds a P old.1 h1 h2' l ok rfl
 .rcases hk k _ ek with h1'|⟨d',h1'⟩|h1'|⟨d',q,h1',_⟩
  .exact h4 k j' ds' h1'.1
  .cases h1'
  .cases h1'
  .cases h1'
def OX.none{K:W.Frag}{He Ha H:Hp}{σ:L2.St}{ρ:Ev}(h:∀(i j:Nat) (ds:ac),ρ[i]?≠some (.ox j ds))(h':∀(i:Nat) (a:Addr),ρ[i]?=some (.pt a)->σ[i]?=some (some (.ref a))):OX K He Ha σ H ρ:=⟨λi j ds e=>absurd e (h i j ds),h'⟩
theorem wG{K:W.Frag}{H:Hp}:∀{ds:ac}{vs:al},ds.length=vs.length->(∀(k:Nat) (d:D) (v:V),ds[k]?=some d->vs[k]?=some v->Rep K H d v)->Reps K H ds vs
 |[],[],_,_=>Reps.nil
 |d::ds,v::vs,hl,h=>Reps.cons (h 0 d v rfl rfl) (wG (by simpa using hl) λk d' v' e1 e2=>h (k+1) d' v' e1 e2)
structure dw (K:W.Frag) (He H0e Ha:Hp) (σ:L2.St) (H:Hp) (ρ:Ev):Prop where
 g:aZ He H0e H Ha
 rd:et K Ha σ ρ
 ow:∀(i:Nat) (d:D),ρ[i]?=some (.ow d)->∃a,σ[i]?=some (some (.ref a))/\He a=none/\Ha a=none/\EV K Ha H a d
 ap:∀(i j:Nat) (d d':D),i≠j->ρ[i]?=some (.ow d)->ρ[j]?=some (.ow d')->σ[i]?≠σ[j]?
 ln:ρ.length=σ.length
 ex:OX K He Ha σ H ρ
inductive Fl where
 |nx (ρ:Ev)|rt (d:D)|bk (ρ:Ev)|ct (ρ:Ev)
abbrev bd:=Ev->ao Fl
noncomputable def bA(K:W.Frag) (E:XK) (He H0e Ha:Hp) (r:ao Fl) (D:fK):Prop:=match r with
 |.ok (.nx ρ)=>∀σ H Ha',aE Ha Ha'->dw K He H0e Ha' σ H ρ->D.nx σ H
 |.ok (.rt d)=>∀v H Ha',aZ He H0e H Ha'->Rep K Ha' d v->D.rt v H
 |.ok (.bk ρ)=>∀σ H Ha',aE Ha Ha'->dw K He H0e Ha' σ H ρ->D.bk σ H
 |.ok (.ct ρ)=>∀σ H Ha',aE Ha Ha'->dw K He H0e Ha' σ H ρ->D.ct σ H
 |.exn x=>∀C ox H Ha',aZ He H0e H Ha'->rO K Ha' x C ox->E C ox H
 |.stuck=>False
def bA.grow{K:W.Frag}{E:XK}{He H0e Ha Hb:Hp}{r:ao Fl}{D:fK}(h:bA K E He H0e Ha r D)(s:aE Ha Hb):bA K E He H0e Hb r D:=by
 cases r with
 |ok f=>
  cases f with|nx ρ=>exact λσ H Ha' s'=>h σ H Ha' (s.trans s')|rt d=>exact h|bk ρ=>exact λσ H Ha' s'=>h σ H Ha' (s.trans s')|ct ρ=>exact λσ H Ha' s'=>h σ H Ha' (s.trans s')
 |exn x=>exact h
 |stuck=>exact h
def tS(K:W.Frag)(E:XK)(He H0e:Hp)(g:bd):TS:=λD σ H=>∃Ha ρ,dw K He H0e Ha σ H ρ/\bA K E He H0e Ha (g ρ) D
structure DS (X:Cx) (E:XK) (He H0e:Hp) (st:Stmt) (g:bd):Prop where
 o:PS X st (tS X.K E He H0e g)
structure rP (X:Cx) (E:XK) (He H0e:Hp) (st:List Stmt) (g:bd):Prop where
 o:uG X st (tS X.K E He H0e g)
def iA(ρ:Ev):Ev:=ρ.map λs=>match s with
 |.ow d=>.sh d
 |.ox _ ds=>.sh (.tup ds)
 |x=>x
def frz(He Ha H:Hp):Hp:=λa=>match He a with
 |none=>H a
 |some _=>Ha a
section
variable {K:W.Frag}{E:XK}{He H0e Ha H H1:Hp}{σ:L2.St}{ρ:Ev}
def dw.same(h:dw K He H0e Ha σ H ρ)(s:aE H H1):dw K He H0e Ha σ H1 ρ :=
 ⟨⟨h.g.s.trans s,h.g.z,h.g.sub.trans s,h.g.nw⟩,h.rd,λi d e=>by
  obtain⟨a,h1,h2,h3,h4⟩:=h.ow i d e;refine⟨a,h1,h2,h3,?_⟩;cases d with
  |lst ds=>obtain⟨vs,h5,h6⟩:=h4;exact⟨vs,s _ _ h5,h6⟩|dic ks ds=>obtain⟨vs,h5,hl,h6⟩:=h4;exact⟨vs,s _ _ h5,hl,h6⟩
  |_=>exact h4,h.ap,h.ln,h.ex.upd (λj s' e=>.inl ⟨e,rfl⟩) (aE.refl _) (λa vs _ e=>s _ _ e) λp us _ h0 hp _=>⟨s _ _ hp,h0⟩⟩
def dw.grow{H01:Hp}(h:dw K He H0e Ha σ H ρ)(s:aZ H Ha H1 H01):dw K He H0e H01 σ H1 ρ :=
 ⟨h.g.trans s,h.rd.mono s.z,λi d e=>by
  obtain⟨a,h1,h2,h3,h4⟩:=h.ow i d e;have ha:H01 a=none:=by
   cases q:H01 a with
   |none=>rfl
   |some o=>
    have:=s.nw a (by rw[q];simp) h3;cases d with|lst ds|dic ks ds=>obtain⟨vs,h5,_⟩:=h4;rw[h5]at this;cases this| _=>exact h4.elim
  refine⟨a,h1,h2,ha,?_⟩;cases d with
  |lst ds=>obtain⟨vs,h5,h6⟩:=h4;exact⟨vs,s.s _ _ h5,h6.mono s.z⟩|dic ks ds=>obtain⟨vs,h5,hl,h6⟩:=h4;exact⟨vs,s.s _ _ h5,hl,h6.mono s.z⟩
  |_=>exact h4,h.ap,h.ln,h.ex.upd (λj s' e=>.inl ⟨e,rfl⟩) s.z (λa vs _ e=>s.s _ _ e) λp us _ h0 hp _=>⟨s.s _ _ hp,by
   cases q:H01 p with
   |none=>rfl
   |some o=>have:=s.nw p (by rw[q];simp) h0;rw[hp]at this;cases this⟩⟩
def dw.frz_sub(h:dw K He H0e Ha σ H ρ):aE Ha (frz He Ha H):=λb o e=>by
 unfold frz;cases q:He b with|none=>exact h.g.sub _ _ e|some _=>exact e
def dw.frz_le(h:dw K He H0e Ha σ H ρ):aE (frz He Ha H) H:=λb o e=>by
 unfold frz at e;cases q:He b with|none=>rw[q]at e;exact e|some _=>rw[q]at e;exact h.g.sub _ _ e
theorem dw.frz_grow(h:dw K He H0e Ha σ H ρ):aZ He H0e H (frz He Ha H) :=
 ⟨h.g.s,h.g.z.trans h.frz_sub,h.frz_le,λa h1 h2=>by
  cases q:He a with
  |none=>rfl
  |some o=>
   unfold frz at h1;rw[q]at h1;have:=h.g.nw a h1 h2;rw[q]at this;cases this⟩
def dw.looks(h:dw K He H0e Ha σ H ρ):et K (frz He Ha H) σ (iA ρ):=λi d e=>by
 unfold iA at e;rw[List.getElem?_map]at e;cases q:ρ[i]? with
 |none=>rw[q]at e;cases e
 |some s=>
  rw[q]at e;cases s with
  |no|pt a=>cases e
  |sh d'=>
   cases e;obtain⟨v,h1,h2⟩:=h.rd i d q;exact⟨v,h1,h2.mono h.frz_sub⟩
  |ow d'=>
   cases e;obtain⟨a,h1,h2,h3,h4⟩:=h.ow i d q;refine⟨_,h1,?_⟩;cases d with
   |lst ds=>
    obtain⟨vs,h5,h6⟩:=h4;exact aC.mpr ⟨a,vs,rfl,eh.of (by unfold frz;rw[h2];exact h5),h6.mono h.frz_sub⟩
   |dic ks ds=>
    obtain⟨vs,h5,hl,h6⟩:=h4;rw[Rep];exact⟨a,_,vs,rfl,.inl (by unfold frz;rw[h2];exact h5),rfl,hl,h6.mono h.frz_sub⟩
   |_=>exact h4.elim
  |ox j ds=>
   cases e;obtain⟨a,P,h1,⟨vs,r1,r2,r3,r4,r5,r6⟩,_⟩:=h.ex.1 i j ds q;refine⟨_,h1,aH.mpr ⟨a,vs,rfl,ip.of (by unfold frz;rw[r1];exact r2),wG r3 λk d v e1 e2=>?_⟩⟩;cases hk:oK j k with
   |true=>
    obtain⟨es,us,q1,q2,q3,q4,q5,q6⟩:=r4 k hk;rw[q3]at e1;cases e1;rw[q4]at e2;cases e2;exact aC.mpr ⟨P k,us,rfl,eh.of (by unfold frz;rw[q1];exact q5),q6.mono h.frz_sub⟩
   |false=>exact(r6 k d v hk e1 e2).mono h.frz_sub
def dw.put(h:dw K He H0e Ha σ H ρ){i:Nat}{d:D}{v:V}(r:Rep K Ha d v):dw K He H0e Ha (σ.set i (some v)) H (ρ.set i (.sh d)):=by
 have key:∀(j:Nat) (s:Sl),(ρ.set i (.sh d))[j]?=some s->(j=i/\s=.sh d/\i<σ.length)∨(j≠i/\ρ[j]?=some s):=λj s e=>by
  by_cases hj:i=j
  .subst hj
   rw[List.getElem?_set_self']at e;cases q:ρ[i]? with
   |none=>rw[q]at e;cases e
   |some s'=>
    rw[q]at e;cases e;refine .inl ⟨rfl,rfl,?_⟩;rw[←h.ln];exact(List.getElem?_eq_some_iff.mp q).1
  .rw[List.getElem?_set_ne hj]at e
   exact .inr ⟨λz=>hj z.symm,e⟩
 refine⟨h.g,λj d' e=>?_,λj d' e=>?_,λj k d1 d2 hn e1 e2=>?_,by simp[h.ln],h.ex.upd (λj s e=>?_) (aE.refl _) (λa vs _ e=>e) λp us _ h0 hp _=>⟨hp,h0⟩⟩
 rotate_left 3
 .rcases key j _ e with⟨rfl,e',hl⟩|⟨hj,e'⟩
  .exact .inr (.inl ⟨d,e'⟩)
  .exact .inl ⟨e',by rw[List.getElem?_set_ne (Ne.symm hj)]⟩
 .rcases key j _ e with⟨rfl,e',hl⟩|⟨hj,e'⟩
  .cases e'
   exact⟨v,by rw[List.getElem?_set_self hl],r⟩
  .obtain⟨v',h1,h2⟩:=h.rd j d' e'
   exact⟨v',by rw[List.getElem?_set_ne (Ne.symm hj)];exact h1,h2⟩
 .rcases key j _ e with⟨rfl,e',hl⟩|⟨hj,e'⟩
  .cases e'
  .obtain⟨a,h1,h2⟩:=h.ow j d' e'
   exact⟨a,by rw[List.getElem?_set_ne (Ne.symm hj)];exact h1,h2⟩
 .rcases key j _ e1 with⟨_,e',_⟩|⟨hj,e1'⟩
  .cases e'
  rcases key k _ e2 with⟨_,e',_⟩|⟨hk,e2'⟩
  .cases e'
  rw[List.getElem?_set_ne (Ne.symm hj),List.getElem?_set_ne (Ne.symm hk)];exact h.ap j k d1 d2 hn e1' e2'
def dw.putOwn(h:dw K He H0e Ha σ H ρ){i:Nat}{ds:ac}{vs:al}{p:Addr}(hp:∀(j:Nat) (a:Addr),σ[j]?=some (some (V.ref a))->a=p->∀d:D,ρ[j]?≠some (Sl.ow d))(he:He p=none)(h0:Ha p=none)(hv:H p=some (.lst vs))(r:Reps K Ha ds vs)(hx:∀(i j:Nat) (ds:ac) (a:Addr) (P:Nat->Addr),ρ[i]?=some (.ox j ds)->σ[i]?=some (some (.ref a))->J7 K He Ha H a j ds P->∀l,oK j l=true->p≠P l) :
  dw K He H0e Ha (σ.set i (some (.ref p))) H (ρ.set i (.ow (.lst ds))):=by
 have key:∀(j:Nat) (s:Sl),(ρ.set i (.ow (.lst ds)))[j]?=some s->(j=i/\s=.ow (.lst ds)/\i<σ.length)∨(j≠i/\ρ[j]?=some s):=λj s e=>by
  by_cases hj:i=j
  .subst hj
   rw[List.getElem?_set_self']at e;cases q:ρ[i]? with
   |none=>rw[q]at e;cases e
   |some s'=>
    rw[q]at e;cases e;refine .inl ⟨rfl,rfl,?_⟩;rw[←h.ln];exact(List.getElem?_eq_some_iff.mp q).1
  .rw[List.getElem?_set_ne hj]at e
   exact .inr ⟨λz=>hj z.symm,e⟩
 have other:∀(k:Nat) (d2:D),k≠i->ρ[k]?=some (.ow d2)->some (some (V.ref p))≠σ[k]?:=λk d2 hk e2 z=>by
  obtain⟨a,h1,_⟩:=h.ow k d2 e2;rw[h1]at z;cases z;exact hp k p h1 rfl d2 e2
 refine⟨h.g,λj d' e=>?_,λj d' e=>?_,λj k d1 d2 hn e1 e2=>?_,by simp[h.ln],h.ex.upd (λj s e=>?_) (aE.refl _) (λa vs _ e=>e) λp us _ h0 hp _=>⟨hp,h0⟩⟩
 rotate_left 3
 .rcases key j _ e with⟨rfl,e',hl⟩|⟨hj,e'⟩
  .exact .inr (.inr (.inr ⟨.lst ds,p,e',by rw[List.getElem?_set_self hl],hx⟩))
  .exact .inl ⟨e',by rw[List.getElem?_set_ne (Ne.symm hj)]⟩
 .rcases key j _ e with⟨rfl,e',hl⟩|⟨hj,e'⟩
  .cases e'
  .obtain⟨v',h1,h2⟩:=h.rd j d' e'
   exact⟨v',by rw[List.getElem?_set_ne (Ne.symm hj)];exact h1,h2⟩
 .rcases key j _ e with⟨rfl,e',hl⟩|⟨hj,e'⟩
  .cases e'
   exact⟨p,by rw[List.getElem?_set_self hl],he,h0,vs,hv,r⟩
  .obtain⟨a,h1,h2⟩:=h.ow j d' e'
   exact⟨a,by rw[List.getElem?_set_ne (Ne.symm hj)];exact h1,h2⟩
 .rcases key j _ e1 with⟨rfl,_,hl⟩|⟨hj,e1'⟩
  .rcases key k _ e2 with⟨rfl,_,_⟩|⟨hk,e2'⟩
   .exact absurd rfl hn
   .rw[List.getElem?_set_self hl,List.getElem?_set_ne (Ne.symm hk)]
    exact other k d2 hk e2'
  .rcases key k _ e2 with⟨rfl,_,hl⟩|⟨hk,e2'⟩
   .rw[List.getElem?_set_self hl,List.getElem?_set_ne (Ne.symm hj)]
    exact λz=>other j d1 hj e1' z.symm
   .rw[List.getElem?_set_ne (Ne.symm hj),List.getElem?_set_ne (Ne.symm hk)]
    exact h.ap j k d1 d2 hn e1' e2'
def dw.fresh_x{H01:Hp}{p:Addr}(h:dw K He H0e Ha σ H ρ)(s:aE H H1)(hp:H p=none):∀(i j:Nat) (ds:ac) (a:Addr) (P:Nat->Addr),ρ[i]?=some (.ox j ds)->σ[i]?=some (some (.ref a))->J7 K He H01 H1 a j ds P->∀l,oK j l=true->p≠P l:=λi j ds a P x1 x2 x3 l ol=>by
 obtain⟨a2,P2,y1,⟨vs2,_,z3,_,y4,_⟩,_⟩:=h.ex.1 i j ds x1;rw[x2]at y1;cases y1;obtain⟨vs1,_,z1,_,y5,_⟩:=x3;have:=s _ _ z3;rw[z1]at this;cases this;obtain⟨_,us2,_,_,_,z4,z5,_⟩:=y4 l ol;obtain⟨_,_,_,_,_,z2,_⟩:=y5 l ol;rw[z2]at z4;injection z4 with z4;injection z4 with z4;intro z;rw[←z4,←z,hp]at z5;cases z5
def dw.write(h:dw K He H0e Ha σ H ρ){i:Nat}{d:D}{p:Addr}{ds:ac}{vs:al}(e:ρ[i]?=some (.ow d))(es:σ[i]?=some (some (.ref p)))(r:Reps K Ha ds vs) :
  dw K He H0e Ha σ (upd H p (.lst vs)) (ρ.set i (.ow (.lst ds))):=by
 obtain⟨a,h1,h2,h3,h4⟩:=h.ow i d e;rw[h1]at es;cases es;have hil:i<ρ.length:=(List.getElem?_eq_some_iff.mp e).1;have key:∀(j:Nat) (s:Sl),(ρ.set i (.ow (.lst ds)))[j]?=some s->(j=i/\s=.ow (.lst ds))∨(j≠i/\ρ[j]?=some s):=λj s e=>by
  by_cases hj:i=j
  .subst hj
   rw[List.getElem?_set_self hil]at e;cases e;exact .inl ⟨rfl,rfl⟩
  .rw[List.getElem?_set_ne hj]at e
   exact .inr ⟨λz=>hj z.symm,e⟩
 refine⟨⟨λb o eb=>?_,h.g.z,λb o eb=>?_,h.g.nw⟩,λj d' e'=>?_,λj d' e'=>?_,λj k d1 d2 hn e1 e2=>?_,by simp[h.ln],h.ex.upd (λj s e'=>?_) (aE.refl _) (λb us _ eb=>?_) λq us _ q0 hq hd=>?_⟩
 rotate_left 5
 .rcases key j _ e' with⟨rfl,e''⟩|⟨hj,e''⟩
  .exact .inr (.inr (.inr ⟨.lst ds,p,e'',h1,λi' j' ds' a' P' x1 x2 x3 l ol=>by
    obtain⟨a2,P2,y1,y2,y3,_⟩:=h.ex.1 i' j' ds' x1;rw[x2]at y1;cases y1;have:P2 l=P' l:=by
     obtain⟨vs1,_,z1,_,y5,_⟩:=x3;obtain⟨vs2,_,z3,_,y4,_⟩:=y2;rw[z1]at z3;cases z3;obtain⟨_,_,_,_,_,z2,_⟩:=y5 l ol;obtain⟨_,_,_,_,_,z4,_⟩:=y4 l ol;rw[z2]at z4;injection z4 with z4;injection z4 with z4;exact z4.symm
    rw[←this];intro zz;rw[zz]at h1;exact y3 j d l ol e h1⟩))
  .exact .inl ⟨e'',rfl⟩
 .rw[az (by
   intro z;subst z;cases d with
   |lst ds'|dic ks ds'=>obtain⟨vs',h5,_⟩:=h4;rw[h5]at eb;cases eb
   |_=>exact h4)];exact eb
 .have hq':q≠p:=by
   intro z;subst z;exact hd i d e h1
  exact⟨by rw[az hq'];exact hq,q0⟩
 .rw[az (by intro z;subst z;rw[h2]at eb;cases eb)];exact h.g.s _ _ eb
 .rw[az (by intro z;subst z;rw[h3]at eb;cases eb)];exact h.g.sub _ _ eb
 .rcases key j _ e' with⟨rfl,e''⟩|⟨hj,e''⟩
  .cases e''
  .exact h.rd j d' e''
 .rcases key j _ e' with⟨rfl,e''⟩|⟨hj,e''⟩
  .cases e''
   exact⟨p,h1,h2,h3,vs,aG,r⟩
  .obtain⟨b,k1,k2,k3,k4⟩:=h.ow j d' e''
   refine⟨b,k1,k2,k3,?_⟩;have hb:b≠p:=by
    intro z;subst z;exact h.ap j i d' d hj e'' e (by rw[k1,h1])
   cases d' with
   |lst ds'=>
    obtain⟨vs',h5,h6⟩:=k4;exact⟨vs',by rw[az hb];exact h5,h6⟩
   |dic ks ds'=>
    obtain⟨vs',h5,hl,h6⟩:=k4;exact⟨vs',by rw[az hb];exact h5,hl,h6⟩
   |_=>exact k4.elim
 .rcases key j _ e1 with⟨rfl,e1'⟩|⟨hj,e1'⟩
  .rcases key k _ e2 with⟨rfl,_⟩|⟨hk,e2'⟩
   .exact absurd rfl hn
   .exact h.ap j k d d2 hn e e2'
  .rcases key k _ e2 with⟨rfl,_⟩|⟨hk,e2'⟩
   .exact h.ap j k d1 d hn e1' e
   .exact h.ap j k d1 d2 hn e1' e2'
end
mutual
def oQ:D->Bool
 |.lst _=>false
 |.dic _ _=>false
 |.exc _=>false
 |.ob _ _=>false
 |.tup ds=>flats ds
 |_=>true
def flats:ac->Bool
 |[]=>true
 |d::ds=>oQ d&&flats ds
end
mutual
theorem Rep.flat_to{K:W.Frag}{H H':Hp}(e:∀a vs,Rd H a (.tup vs)->Rd H' a (.tup vs)):∀{d:D}{v:V},oQ d=true->Rep K H d v->Rep K H' d v
 |.non,_,_,h=>by unfold Rep at h ⊢;exact h
 |.bl _,_,_,h=>by unfold Rep at h ⊢;exact h
 |.int _,_,_,h=>by unfold Rep at h ⊢;exact h
 |.str _,_,_,h=>by unfold Rep at h ⊢;exact h
 |.tup ds,_,f,h=>by
  unfold oQ at f;obtain⟨a,vs,e1,e2,e3⟩:=aH.mp h;refine aH.mpr ⟨a,vs,e1,?_,Reps.flat_to e f e3⟩;rcases e2 with e2|e2
  .exact .inl (e _ _ e2)
  .exact .inr e2
 |.lst ds,_,f,h=>by unfold oQ at f;cases f
 |.dic ks ds,_,f,h=>by unfold oQ at f;cases f
 |.exc x,_,f,h=>by unfold oQ at f;cases f
 |.ob k ds,_,f,h=>by unfold oQ at f;cases f
theorem Reps.flat_to{K:W.Frag}{H H':Hp}(e:∀a vs,Rd H a (.tup vs)->Rd H' a (.tup vs)):∀{ds:ac}{vs:al},flats ds=true->Reps K H ds vs->Reps K H' ds vs
 |[],_,_,h=>by unfold Reps at h ⊢;exact h
 |d::ds,_,f,h=>by
  unfold flats at f;rw[Bool.and_eq_true]at f;obtain⟨v,r,e1,e2,e3⟩:=aA.mp h;exact aA.mpr ⟨v,r,e1,Rep.flat_to e f.1 e2,Reps.flat_to e f.2 e3⟩
end
def kz(Ha J:Hp):Hp:=λa=>match Ha a with
 |some o=>some o
 |none=>match J a with
  |some (.tup vs)=>some (.tup vs)
  |some (.frz o (.tup vs))=>some (.frz o (.tup vs))
  |_=>none
section
variable {K:W.Frag}{E:XK}{He H0e Ha H H1 J:Hp}{σ:L2.St}{ρ:Ev}
def EO(h:aE Ha J):∀a o,kz Ha J a=some o->J a=some o:=λa o e=>by
 unfold kz at e;cases q:Ha a with
 |some u=>rw[q]at e;cases e;exact h _ _ q
 |none=>
  rw[q]at e;cases q2:J a with
  |none=>rw[q2]at e;cases e
  |some u=>
   rw[q2]at e;cases u with
   |tup vs=>cases e;rfl
   |frz o u'=>
    cases u' with|tup vs=>cases e;rfl| _=>cases e
   |_=>cases e
def EN(h:aE Ha J)(a:Addr)(vs:al)(e:Rd J a (.tup vs)):Rd (kz Ha J) a (.tup vs):=by
 rcases e with e|⟨o,e⟩
 .refine .inl ?_
  unfold kz;cases q:Ha a with|some u=>have:=h _ _ q;rw[e]at this;cases this;rfl|none=>rw[e]
 .refine .inr ⟨o,?_⟩
  unfold kz;cases q:Ha a with|some u=>have:=h _ _ q;rw[e]at this;cases this;rfl|none=>rw[e]
def dw.behind(h:dw K He H0e Ha σ H ρ)(g:aZ H (frz He Ha H) H1 J):dw K He H0e (kz Ha J) σ H1 ρ:=by
 have hJ:aE Ha J:=h.frz_sub.trans g.z;have le:=EO (Ha:=Ha) (J:=J) hJ;have z:aE Ha (kz Ha J):=λb o e=>by unfold kz;rw[e]
 refine⟨⟨h.g.s.trans g.s,h.g.z.trans z,λb o e=>g.sub _ _ (le b o e),λa h1 h2=>?_⟩,h.rd.mono z,λi d e=>?_,h.ap,h.ln,h.ex.upd (λj s e=>.inl ⟨e,rfl⟩) z (λa vs _ e=>g.s _ _ e) λp us hp h0 hl _=>⟨g.s _ _ hl,by
  have:frz He Ha H p=some (.lst us):=by unfold frz;rw[hp];exact hl
  have:=g.z _ _ this;unfold kz;rw[h0,this]⟩⟩
 .cases q:kz Ha J a with
  |none=>exact absurd q h1
  |some o=>
   have hj:=le a o q;exact(h.frz_grow.trans g).nw a (by rw[hj];simp) h2
 .obtain⟨a,k1,k2,k3,k4⟩:=h.ow i d e
  refine⟨a,k1,k2,?_,?_⟩
  .cases d with
   |lst ds=>
    obtain⟨vs,h5,_⟩:=k4;have:frz He Ha H a=some (.lst vs):=by unfold frz;rw[k2];exact h5
    have:=g.z _ _ this;unfold kz;rw[k3,this]
   |dic ks ds=>
    obtain⟨vs,h5,_⟩:=k4;have:frz He Ha H a=some (.dK ((ks.map Sum.inr).zip vs)):=by unfold frz;rw[k2];exact h5
    have:=g.z _ _ this;unfold kz;rw[k3,this]
   |_=>exact k4.elim
  .cases d with
   |lst ds=>obtain⟨vs,h5,h6⟩:=k4;exact⟨vs,g.s _ _ h5,h6.mono z⟩
   |dic ks ds=>obtain⟨vs,h5,hl,h6⟩:=k4;exact⟨vs,g.s _ _ h5,hl,h6.mono z⟩
   |_=>exact k4.elim
end
section
variable {X:Cx}{E:XK}{He H0e:Hp}{st:Stmt}{rest:List Stmt}{e a b:Expr}{es:List Expr}{f g:am}{fa:Ev->ao (ac)}{s t:bd}{pos:Pos}
def cD{t t':TS}(h:PS X st t)(w:∀D σ H,t' D σ H->t D σ H):PS X st t':=λpins s σ H D I q=>h pins s σ H D I (w D σ H q)
def gr{t t':TS}(h:uG X rest t)(w:∀D σ H,t' D σ H->t D σ H):uG X rest t':=λpins s σ H D I q=>h pins s σ H D I (w D σ H q)
def au:bd:=λρ=>.ok (.nx ρ)
def ar(s t:bd):bd:=λρ=>(s ρ).bind λr=>match r with
 |.nx ρ'=>t ρ'
 |r=>.ok r
def aw:rP X E He H0e [] au:=⟨gr wL λD σ H ⟨Ha,ρ,h,q⟩=>q σ H Ha (aE.refl _) h⟩
def ah(h1:DS X E He H0e st s)(h2:rP X E He H0e rest t):rP X E He H0e (st::rest) (ar s t):=by
 refine⟨?_⟩;refine gr (gu h1.o h2.o) λD σ H z9=>?_;obtain⟨Ha,ρ,h,q⟩:=z9;refine⟨Ha,ρ,h,?_⟩
 unfold ar at q;cases e1:s ρ with
 |stuck|exn x=>rw[e1]at q;exact q
 |ok r=>
  rw[e1]at q;cases r with|nx ρ'=>exact λσ' H' Ha' s' h'=>⟨Ha',ρ',h',bA.grow (r:=t ρ') q s'⟩|rt d|bk ρ'|ct ρ'=>exact q
def eI:bd:=λ_=>.stuck
def plain{K:W.Frag}{Ha H:Hp}{σ:L2.St}{ρ:Ev}{k:D->ao Fl}{D':fK}(h:dw K He H0e Ha σ H ρ){r:ao D}{Q:VK}
  (q:bA K E He H0e Ha (r.bind k) D')(hk:∀d v H' Ha',r=.ok d->aZ H Ha H' Ha'->Rep K Ha' d v->bA K E He H0e Ha' (k d) D'->Q v H'):post K E H Ha r Q:=by
 cases r with|stuck=>exact q|exn x=>exact λC ox H' Ha' g ex=>q C ox H' Ha' (h.g.trans g) ex|ok d=>exact λv H' Ha' g rp=>hk d v H' Ha' rfl g rp (bA.grow (r:=k d) q g.z)
def look{K:W.Frag}{Ha H:Hp}{σ:L2.St}{ρ:Ev}{k:D->ao Fl}{D':fK}(h:dw K He H0e Ha σ H ρ){r:ao D}{Q:VK}
  (q:bA K E He H0e Ha (r.bind k) D')(hk:∀d v H' J,r=.ok d->aZ H (frz He Ha H) H' J->Rep K J d v->bA K E He H0e Ha (k d) D'->Q v H'):post K E H (frz He Ha H) r Q:=by
 cases r with|stuck=>exact q|exn x=>exact λC ox H' Ha' g ex=>q C ox H' Ha' (h.frz_grow.trans g) ex|ok d=>exact λv H' J g rp=>hk d v H' J rfl g rp q
def Fg{K:W.Frag}{Ha H:Hp}{σ:L2.St}{ρ:Ev}{k:Bool->ao Fl}{D':fK}(h:dw K He H0e Ha σ H ρ){r:ao D}{Q:Bool->Hp->Prop}
  (q:bA K E He H0e Ha (r.bind λx=>match x with|.bl b=>k b|_=>.stuck) D')(hk:∀b H',aE H H'->bA K E He H0e Ha (k b) D'->Q b H'):mQ K E H (frz He Ha H) r Q:=by
 cases r with
 |stuck=>exact q|exn x=>exact λC ox H' Ha' g ex=>q C ox H' Ha' (h.frz_grow.trans g) ex
 |ok d=>
  cases d with|bl b=>exact λH' J g=>hk b H' g.s q| _=>exact q.elim
def aN(i:Nat)(f:am):bd:=λρ=>(f ρ).bind λd=>.ok (.nx (ρ.set i (.sh d)))
def wB(i:Nat)(f:am):bd:=λρ=>(f (iA ρ)).bind λd=>if oQ d=true then .ok (.nx (ρ.set i (.sh d))) else .stuck
def bx(f:am):bd:=λρ=>(f (iA ρ)).bind λd=>.ok (.rt d)
def jE(f:am):bd:=λρ=>(f (iA ρ)).bind λ_=>.ok (.nx ρ)
def dO(c:am)(s t:bd):bd:=λρ=>(c (iA ρ)).bind λx=>match x with
 |.bl b=>if b=true then s ρ else t ρ
 |_=>.stuck
def aM{i:Nat}{x:Str}{pos':Pos}(hN:X.N.Nodup)(hi:X.N[i]?=some x)(hx:zp X.env.scope x)(he:DE X E e f)(hs:swapsWith e (some (.Name x pos')) pos.line X.env=pure false:=by rfl)
  (hf:X.fn x=true∨X.env.scope.names.lookup x=some .local := by first|exact .inl rfl|exact .inr rfl|assumption):DS X E He H0e (.Assign [.Name x pos'] e pos) (aN i f):=by
 refine⟨?_⟩;refine cD (qE hN hi hx he.o hs hf) λD σ H z9=>?_;obtain⟨Ha,ρ,h,q⟩:=z9;refine⟨Ha,ρ,h.g.sub,h.rd,?_⟩
 refine plain h q λd v H' Ha' _ g rp q'=>?_;exact q' _ H' Ha' (aE.refl _) ((h.grow g).put rp)
def Ew{i:Nat}{x:Str}{pos':Pos}(hN:X.N.Nodup)(hi:X.N[i]?=some x)(hx:zp X.env.scope x)(he:DE X E e f)(hs:swapsWith e (some (.Name x pos')) pos.line X.env=pure false:=by rfl)
  (hf:X.fn x=true∨X.env.scope.names.lookup x=some .local := by first|exact .inl rfl|exact .inr rfl|assumption):DS X E He H0e (.Assign [.Name x pos'] e pos) (wB i f):=by
 refine⟨?_⟩;refine cD (qE hN hi hx he.o hs hf) λD σ H z9=>?_;obtain⟨Ha,ρ,h,q⟩:=z9;refine⟨frz He Ha H,iA ρ,h.frz_le,h.looks,?_⟩
 refine look h q λd v H' J _ g rp q'=>?_
 by_cases fl:oQ d=true
 .rw[if_pos fl]at q'
  have hJ:aE Ha J:=h.frz_sub.trans g.z;refine q' _ H' (kz Ha J) (λb o e=>by unfold kz;rw[e]) ((h.behind g).put (rp.flat_to (EN hJ) fl))
 .rw[if_neg fl]at q';exact q'.elim
def aX(he:DE X E e f):DS X E He H0e (.Return (some e) pos) (bx f):=by
 refine⟨?_⟩;refine cD (Gg he.o) λD σ H z9=>?_;obtain⟨Ha,ρ,h,q⟩:=z9;refine⟨frz He Ha H,iA ρ,h.frz_le,h.looks,?_⟩
 exact look h q λd v H' J _ g rp q'=>q' v H' J (h.frz_grow.trans g) rp
def me(he:DE X E e f)(hs:swapsWith e none pos.line X.env=pure false:=by rfl):DS X E He H0e (.Expr e pos) (jE f):=by
 refine⟨?_⟩;refine cD (jX he.o hs) λD σ H z9=>?_;obtain⟨Ha,ρ,h,q⟩:=z9;refine⟨frz He Ha H,iA ρ,h.frz_le,h.looks,?_⟩
 exact look h q λd v H' J _ g rp q'=>q' σ H' Ha (aE.refl _) (h.same g.s)
def bT{c:Expr}{fc:am}{sa sb:List Stmt}(hc:DT X E c fc)(ha:rP X E He H0e sa s)(hb:rP X E He H0e sb t):DS X E He H0e (.If c sa sb pos) (dO fc s t):=by
 refine⟨?_⟩;refine cD (IW hc.o ha.o hb.o) λD σ H z9=>?_;obtain⟨Ha,ρ,h,q⟩:=z9;refine⟨frz He Ha H,iA ρ,h.frz_le,h.looks,?_⟩
 refine Fg (k:=λb=>if b=true then s ρ else t ρ) h q λb H' hs q'=>?_;cases b with|true=>rw[if_pos rfl]at q' ⊢;exact⟨Ha,ρ,h.same hs,q'⟩|false=>rw[if_neg Bool.false_ne_true]at q' ⊢;exact⟨Ha,ρ,h.same hs,q'⟩
noncomputable def tF(K:W.Frag) (E:XK) (f:am):TE:=λσ H Q=>∃Ha ρ,aE Ha H/\et K Ha σ ρ/\match f ρ with
 |.ok (.lst ds)=>∀p vs H' Ha',aZ H Ha H' Ha'->H p=none->Ha' p=none->H' p=some (.lst vs)->Reps K Ha' ds vs->Q (.ref p) H'
 |.ok _=>False
 |.exn x=>∀C ox H' Ha',aZ H Ha H' Ha'->rO K Ha' x C ox->E C ox H'
 |.stuck=>False
structure DF (X:Cx) (E:XK) (e:Expr) (f:am):Prop where
 o:PE X e (tF X.K E f)
def uZ(i:Nat)(f:am):bd:=λρ=>(f ρ).bind λd=>match d with
 |.lst ds=>.ok (.nx (ρ.set i (.ow (.lst ds))))
 |_=>.stuck
def vV{i:Nat}{x:Str}{pos':Pos}(hN:X.N.Nodup)(hi:X.N[i]?=some x)(hx:zp X.env.scope x)(he:DF X E e f)(hs:swapsWith e (some (.Name x pos')) pos.line X.env=pure false:=by rfl)
  (hf:X.fn x=true∨X.env.scope.names.lookup x=some .local := by first|exact .inl rfl|exact .inr rfl|assumption):DS X E He H0e (.Assign [.Name x pos'] e pos) (uZ i f):=by
 refine⟨?_⟩;refine cD (qE hN hi hx he.o hs hf) λD σ H z9=>?_;obtain⟨Ha,ρ,h,q⟩:=z9;refine⟨Ha,ρ,h.g.sub,h.rd,?_⟩
 unfold uZ at q;cases e1:f ρ with
 |stuck=>rw[e1]at q;exact q|exn x=>rw[e1]at q;exact λC ox H' Ha' g ex=>q C ox H' Ha' (h.g.trans g) ex
 |ok d=>
  rw[e1]at q;cases d with
  |lst ds=>
   intro p vs H' Ha' g hp h0 hv rp;refine q _ H' Ha' g.z ((h.grow g).putOwn (λj a ej ea d ed=>?_) (h.g.s.free hp) h0 hv rp (h.fresh_x g.s hp));subst ea;obtain⟨a',k1,_,_,k4⟩:=h.ow j d ed;rw[ej]at k1;cases k1;cases d with|lst ds'|dic ks ds'=>obtain⟨vs',h5,_⟩:=k4;rw[hp]at h5;cases h5| _=>exact k4.elim
  |_=>exact q.elim
def nO(h:DA X E es fa):DF X E (.List es pos) (aq fa bG):=by
 refine⟨?_⟩;refine aU (Ax h.o) λσ H Q h=>?_;obtain⟨Ha,ρ,hs,hr,q⟩:=h;refine⟨Ha,ρ,hs,hr,?_⟩;unfold aq at q;cases e1:fa ρ with
 |stuck|exn x=>rw[e1]at q;exact q
 |ok ds=>
  rw[e1]at q;intro vs H1 H01 g1 r1;replace q:match bG ds with
   |.ok (.lst ds)=>∀p vs H' Ha',aZ H Ha H' Ha'->H p=none->Ha' p=none->H' p=some (.lst vs)->Reps X.K Ha' ds vs->Q (.ref p) H'
   |.ok _=>False
   |.exn x=>∀C ox H' Ha',aZ H Ha H' Ha'->rO X.K Ha' x C ox->E C ox H'
   |.stuck=>False:=q
  unfold bG at q
  by_cases hl:ds.length<=line
  .rw[if_pos hl]at q
   refine⟨by rw[←r1.length];exact cO hl,λp hp=>?_⟩;have h0:H01 p=none:=g1.sub.free hp;refine q p vs _ H01 (g1.trans ⟨λb o q=>by rw[az (aO q hp)];exact q,aE.refl _,λb o q=>?_,λa h1 h2=>absurd h2 h1⟩) (g1.s.free hp) h0 aG r1;rw[az (by intro z;subst z;rw[h0]at q;cases q)];exact g1.sub _ _ q
  .rw[if_neg hl]at q;exact q.elim
def AF(ρ:Ev)(i:Nat)(k:ac->ao Fl):ao Fl:=match ρ[i]? with
 |some (.ow (.lst ds))=>k ds
 |_=>.stuck
def eB(i:Nat)(f:am):bd:=λρ=>AF ρ i λds=>(f ρ).bind λd=>if ds.length<line then .ok (.nx (ρ.set i (.ow (.lst (ds++[d]))))) else .stuck
def AE{K:W.Frag}{Ha H:Hp}{σ:L2.St}{ρ:Ev}{i:Nat}{k:ac->ao Fl}{D':fK}(h:dw K He H0e Ha σ H ρ)(q:bA K E He H0e Ha (AF ρ i k) D') :
  ∃ds p vs,ρ[i]?=some (.ow (.lst ds))/\σ[i]?=some (some (.ref p))/\He p=none/\Ha p=none/\H p=some (.lst vs)/\Reps K Ha ds vs/\bA K E He H0e Ha (k ds) D':=by
 unfold AF at q;cases e:ρ[i]? with
 |none=>rw[e]at q;exact q.elim
 |some s=>
  rw[e]at q;cases s with
  |no|sh d|ox j ds|pt a=>exact q.elim
  |ow d=>
   cases d with
   |lst ds=>
    obtain⟨p,h1,h2,h3,vs,h4,h5⟩:=h.ow i _ e;exact⟨ds,p,vs,rfl,h1,h2,h3,h4,h5,q⟩
   |_=>exact q.elim
def jm{i:Nat}{x:Str}{p1 p2 p3:Pos}(hN:X.N[i]?=some x)(hv:zg X.env.scope x)(he:DE X E e f)
  (hd:(x==("__debug__":Str))=false:=by decide)(hcd:(x==("__classdict__":Str))=false:=by decide)
  (hbase:attributeBase (.Name x p1) "append" X.env (eval (.Name x p1) X.env)=eval (.Name x p1) X.env:=by rfl)
  (hfew:((backTo p3 (starEach [e] X.env)).all (λx=>!x.1)&&(backToKw p3 (keywordEach [] X.env)).all (λx=>x.1.isSome)
  &&decide ([e].length+([]:List Keyword).length+(if([]:List Keyword).isEmpty then 0 else 1)<30))=true:=by exact nC rfl)
  (hline:(p2.endLine==p3.line)=true:=by rfl) (hs:starEach [e] X.env=(false,eval e X.env)::starEach [] X.env:=by exact aI rfl) (hplain:(backTo p3 (starEach [] X.env)).any (·.1)=false:=by exact bp rfl)
  (hw:swapsWith (.Call (.Attribute (.Name x p1) "append" p2) [e] [] p3) none pos.line X.env=pure false:=by rfl) :
  DS X E He H0e (.Expr (.Call (.Attribute (.Name x p1) "append" p2) [e] [] p3) pos) (eB i f):=by
 refine⟨?_⟩;refine cD (jX (AB PySem.F.plainAttrs_list PySem.F.slot_list_append PySem.F.type_list_append kO (fX hN hv hd hcd) (bP he.o dQ hs) hbase hfew hline hs hplain) hw) λD σ H ⟨Ha,ρ,h,q⟩=>?_;obtain⟨ds,p,vs,e1,e2,e3,e4,e5,e6,q⟩:=AE h q;refine⟨.ref p,e2,.inl ⟨rfl,vs,eh.of e5⟩,?_⟩;refine⟨Ha,ρ,h.g.sub,h.rd,plain h q λd v H' Ha' _ g rp q'=>?_⟩
 by_cases hl:ds.length<line
 .rw[if_pos hl]at q'
  have e5':H' p=some (.lst vs):=g.s _ _ e5;refine⟨p,vs,v,rfl,rfl,e5',by rw[←e6.length];exact Nat.lt_of_lt_of_le hl (by decide),?_⟩;exact q' σ _ Ha' (aE.refl _) ((h.grow g).write e1 e2 ((e6.mono g.z).app (Reps.cons rp Reps.nil)))
 .rw[if_neg hl]at q';exact q'.elim
def putAt(ρ:Ev)(i:Nat)(ds:ac)(d:D)(j:D):ao Fl:=match j with
 |.int j=>match Dw ds.length j with
  |some n=>.ok (.nx (ρ.set i (.ow (.lst (ds.set n d)))))
  |none=>.stuck
 |_=>.stuck
noncomputable def bW(tg:Ev->D->ao Ev) (body:bd):ac->bd
 |[],ρ=>.ok (.nx ρ)
 |d::r,ρ=>(tg ρ d).bind λρ1=>(body ρ1).bind λx=>match x with
  |.nx ρ2=>bW tg body r ρ2
  |.ct ρ2=>bW tg body r ρ2
  |.bk ρ2=>.ok (.nx ρ2)
  |.rt d=>.ok (.rt d)
def tG(K:W.Frag)(He H0e:Hp)(tg:Ev->D->ao Ev):TG:=λv σ H Q=>∃Ha ρ d,dw K He H0e Ha σ H ρ/\Rep K Ha d v/\match tg ρ d with
  |.ok ρ'=>∀σ' H' Ha',aE Ha Ha'->dw K He H0e Ha' σ' H' ρ'->Q σ' H'
  |_=>False
structure DG (X:Cx) (E:XK) (He H0e:Hp) (target:Expr) (tg:Ev->D->ao Ev):Prop where
 o:PG X target (tG X.K He H0e tg)
def bV(i:Nat):Ev->D->ao Ev:=λρ d=>.ok (ρ.set i (.sh d))
def qF{tgt:Expr}{t t':TG}(h:PG X tgt t)(w:∀v σ H Q,t' v σ H Q->t v σ H Q):PG X tgt t':=λpins s σ H v u Q I r q=>h pins s σ H v u Q I r (w v σ H Q q)
def cE{i:Nat}{x:Str}(hN:X.N.Nodup)(hi:X.N[i]?=some x)(hx:zp X.env.scope x)(hf:X.fn x=true∨X.env.scope.names.lookup x=some .local := by first|exact .inl rfl|exact .inr rfl|assumption):DG X E He H0e (.Name x pos) (bV i) :=
 ⟨qF (wO hN hi hx hf) λv σ H Q ⟨Ha,ρ,d,h,rp,q⟩=>q _ H Ha (aE.refl _) (h.put rp)⟩
def fU(K:W.Frag)(E:XK)(He H0e Hb:Hp)(tg:Ev->D->ao Ev)(s:bd)(ds:ac)(D':fK)(i:Nat)(σ:L2.St)(H:Hp):Prop :=
 ∃Ha ρ,aE Hb Ha/\dw K He H0e Ha σ H ρ/\bA K E He H0e Ha (bW tg s (ds.drop i) ρ) D'
def fU.step{K:W.Frag}{Hb:Hp}{tg:Ev->D->ao Ev}{ds:ac}{D':fK}{i:Nat}{σ:L2.St}{H:Hp}{d:D}{v:V}(h:fU K E He H0e Hb tg s ds D' i σ H)(hd:ds[i]?=some d)(rv:Rep K Hb d v)
  (he:∀ρ,tg ρ d=.stuck∨∃ρ',tg ρ d=.ok ρ') :
  tG K He H0e tg v σ H λσ2 H2=>tS K E He H0e s { D' with nx:=fU K E He H0e Hb tg s ds D' (i+1),ct:=fU K E He H0e Hb tg s ds D' (i+1),bk:=D'.nx } σ2 H2:=by
 obtain⟨Ha,ρ,z,h,q⟩:=h;have hi:i<ds.length:=(List.getElem?_eq_some_iff.mp hd).1;have hdr:ds.drop i=d::ds.drop (i+1):=by
  rw[List.drop_eq_getElem_cons hi];rw[List.getElem?_eq_getElem hi]at hd;cases hd;rfl
 rw[hdr]at q;refine⟨Ha,ρ,d,h,rv.mono z,?_⟩;unfold bW at q;rcases he ρ with e1|⟨ρ1,e1⟩
 .rw[e1]at q;exact q.elim
 .rw[e1]at q ⊢
  intro σ' H' Ha' z' h';refine⟨Ha',ρ1,h',?_⟩;replace q:=bA.grow (r:=(s ρ1).bind λx=>match x with
   |.nx ρ2=>bW tg s (ds.drop (i+1)) ρ2
   |.ct ρ2=>bW tg s (ds.drop (i+1)) ρ2
   |.bk ρ2=>.ok (.nx ρ2)
   |.rt d=>.ok (.rt d)) q z'
  cases e2:s ρ1 with
  |stuck|exn x=>rw[e2]at q;exact q
  |ok r=>
   rw[e2]at q;cases r with|nx ρ2=>exact λσ3 H3 H03 z3 h3=>⟨H03,ρ2,(z.trans z').trans z3,h3,bA.grow (r:=bW tg s (ds.drop (i+1)) ρ2) q z3⟩|ct ρ2=>exact λσ3 H3 H03 z3 h3=>⟨H03,ρ2,(z.trans z').trans z3,h3,bA.grow (r:=bW tg s (ds.drop (i+1)) ρ2) q z3⟩|bk ρ2|rt d=>exact q
def fU.done{K:W.Frag}{Hb:Hp}{tg:Ev->D->ao Ev}{ds:ac}{D':fK}{σ:L2.St}{H:Hp}(h:fU K E He H0e Hb tg s ds D' ds.length σ H):D'.nx σ H:=by
 obtain⟨Ha,ρ,z,h,q⟩:=h;rw[List.drop_length]at q;unfold bW at q;exact q σ H Ha (aE.refl _) h
def uE(tg:Ev->D->ao Ev):Prop:=∀ρ d,tg ρ d=.stuck∨∃ρ',tg ρ d=.ok ρ'
def eY{i:Nat}:uE (bV i):=λρ d=>.inr ⟨_,rfl⟩
def oG(f:am)(tg:Ev->D->ao Ev)(s:bd):bd:=λρ=>(f ρ).bind λd=>match d with
 |.lst ds=>bW tg s ds ρ
 |_=>.stuck
def rf{tgt iter:Expr}{body:List Stmt}{tg:Ev->D->ao Ev}(hp:PassesOwn (model X.prog X.w) X.A X.env X.xe)(hc:X.calm=true)(hi:DE X E iter f)(hg:DG X E He H0e tgt tg)(ht:uE tg)(hb:rP X E He H0e body s)
  (hs:∀x,foldedSetIterable iter X.env x=pure x:=by intro _;rfl):DS X E He H0e (.For tgt iter body [] pos) (oG f tg s):=by
 refine⟨?_⟩;refine cD (vd hp hc (wN hi.o) hg.o hb.o hs) λD' σ H z9=>?_;obtain⟨Ha,ρ,h,q⟩:=z9;refine⟨Ha,ρ,h.g.sub,h.rd,?_⟩
 refine plain h q λd v H1 H01 _ g rp q1=>?_;cases d with
 |lst ds=>
  obtain⟨a,vs,rfl,hv,hr⟩:=aC.mp rp;refine⟨a,rfl,⟨vs,aE.sqL g.sub hv⟩,?_⟩;refine Bb (K:=X.K) (a:=a) (g:=tG X.K He H0e tg) (tb:=tS X.K E He H0e s) (D:=D') (xs:=vs) (fU X.K E He H0e H01 tg s ds D') ⟨H01,ρ,aE.refl _,h.grow g,q1⟩ ?_ ?_ ?_
  .rintro i σ' H' _ ⟨Ha',ρ',z,h',_⟩
   exact aE.sqL (z.trans h'.g.sub) hv
  .intro i x σ' H' hx hI
   have hil:i<ds.length:=by rw[hr.length];exact(List.getElem?_eq_some_iff.mp hx).1
   obtain⟨u,e1,e2⟩:=hr.get (List.getElem?_eq_getElem hil);rw[hx]at e1;cases e1;exact hI.step (List.getElem?_eq_getElem hil) e2 λρ=>ht ρ _
  .intro σ' H' hI
   rw[←hr.length]at hI;exact hI.done
 |_=>exact q1.elim
def intsFrom(lo:Int)(n:Nat):ac:=(List.range n).map λ(k:Nat)=>D.int (lo+(k:Int))
def pf(f:am)(tg:Ev->D->ao Ev)(s:bd):bd:=λρ=>(f (iA ρ)).bind λd=>match d with
 |.int j=>if -4611686018427387904<=j/\j<4611686018427387904 then bW tg s (intsFrom 0 j.toNat) ρ else .stuck
 |_=>.stuck
def qZ{tgt iter:Expr}{p pos2:Pos}{body:List Stmt}{tg:Ev->D->ao Ev}(hp:PassesOwn (model X.prog X.w) X.A X.env X.xe)(hc:X.calm=true)(hgl:Gl X "range")(hm:X.mg "range"=none)(hi:DE X E iter f)(hg:DG X E He H0e tgt tg)(ht:uE tg)(hb:rP X E He H0e body s)
  (hst:starEach [iter] X.env=[(false,eval iter X.env)]:=by exact cP rfl)(hs:∀x,foldedSetIterable (.Call (.Name "range" p) [iter] [] pos2) X.env x=pure x:=by intro _;rfl):DS X E He H0e (.For tgt (.Call (.Name "range" p) [iter] [] pos2) body [] pos) (pf f tg s):=by
 refine⟨?_⟩;refine cD (vd hp hc (pz hgl hm (bP hi.o dQ hst) hst) hg.o hb.o hs) λD' σ H ⟨Ha,ρ,h,q⟩=>?_;refine⟨frz He Ha H,iA ρ,h.frz_le,h.looks,look h q λd v H1 J _ g rp q1=>?_⟩;cases d with
 |int j=>
  rw[ay.mp rp];replace q1:bA X.K E He H0e Ha (if -4611686018427387904<=j/\j<4611686018427387904 then bW tg s (intsFrom 0 j.toNat) ρ else .stuck) D':=q1
  by_cases hj:-4611686018427387904<=j/\j<4611686018427387904
  .rw[if_pos hj]at q1
   refine⟨j,rfl,by omega,by omega,?_⟩;have hlen:(intsFrom 0 j.toNat).length=j.toNat:=by unfold intsFrom;simp
   refine yJ (lo:=0) (n:=j.toNat) (g:=tG X.K He H0e tg) (tb:=tS X.K E He H0e s) (D:=D') (fU X.K E He H0e Ha tg s (intsFrom 0 j.toNat) D') ⟨Ha,ρ,aE.refl _,h.same g.s,q1⟩ ?_ ?_
   .intro i σ' H' hlt hI
    refine hI.step (d:=.int (0+i)) ?_ (ay.mpr rfl) λρ=>ht ρ _;unfold intsFrom;simp[hlt]
   .intro σ' H' hI
    exact fU.done (ds:=intsFrom 0 j.toNat) (by rw[hlen];exact hI)
  .rw[if_neg hj]at q1;exact q1.elim
 |_=>exact q1.elim
noncomputable def bO(c:am) (s:bd):Nat->bd
 |0,_=>.stuck
 |n+1,ρ=>(c (iA ρ)).bind λx=>match x with
  |.bl b=>if b=true then(s ρ).bind λx=>match x with
    |.nx ρ2=>bO c s n ρ2
    |.ct ρ2=>bO c s n ρ2
    |.bk ρ2=>.ok (.nx ρ2)
    |.rt d=>.ok (.rt d)
   else .ok (.nx ρ)
  |_=>.stuck
def fW(fuel:Ev->Nat)(c:am)(s:bd):bd:=λρ=>bO c s (fuel ρ) ρ
def nN(fuel:Ev->Nat){c:Expr}{body:List Stmt}{fc:am}(hp:PassesOwn (model X.prog X.w) X.A X.env X.xe)(hc:DT X E c fc)(hb:rP X E He H0e body s):DS X E He H0e (.While c body [] pos) (fW fuel fc s):=by
 refine⟨?_⟩;refine cD (Ap hp hc.o hb.o) λD' σ H ⟨Ha,ρ,h,q⟩=>?_;refine⟨λm σ H=>∃Ha ρ,dw X.K He H0e Ha σ H ρ/\bA X.K E He H0e Ha (bO fc s m ρ) D',⟨fuel ρ,Ha,ρ,h,q⟩,?_⟩;rintro m σ1 H1 ⟨H01,ρ1,h1,q1⟩;cases m with
 |zero=>exact q1.elim
 |succ m=>
  refine⟨frz He H01 H1,iA ρ1,h1.frz_le,h1.looks,?_⟩;unfold bO at q1;refine Fg (k:=λb=>if b=true then(s ρ1).bind λx=>match x with
    |.nx ρ2=>bO fc s m ρ2
    |.ct ρ2=>bO fc s m ρ2
    |.bk ρ2=>.ok (.nx ρ2)
    |.rt d=>.ok (.rt d)
   else .ok (.nx ρ1)) h1 q1 λb H2 hs q2=>?_
  cases b with
  |false=>
   rw[if_neg Bool.false_ne_true]at q2 ⊢;exact q2 σ1 H2 H01 (aE.refl _) (h1.same hs)
  |true=>
   rw[if_pos rfl]at q2 ⊢;refine⟨λσ' H'=>∃m',m' < m+1/\∃Ha ρ,dw X.K He H0e Ha σ' H' ρ/\bA X.K E He H0e Ha (bO fc s m' ρ) D',λσ' H' z=>z,H01,ρ1,h1.same hs,?_⟩;cases e2:s ρ1 with
   |stuck|exn x=>rw[e2]at q2;exact q2
   |ok r=>
    rw[e2]at q2;cases r with|nx ρ2=>exact λσ3 H3 H03 z3 h3=>⟨m,Nat.lt_succ_self _,H03,ρ2,h3,bA.grow (r:=bO fc s m ρ2) q2 z3⟩|ct ρ2=>exact λσ3 H3 H03 z3 h3=>⟨m,Nat.lt_succ_self _,H03,ρ2,h3,bA.grow (r:=bO fc s m ρ2) q2 z3⟩|bk ρ2|rt d=>exact q2
end
def bH(n:Nat)(s:bd)(ds:ac):ao D:=(s (ds.map Sl.sh++List.replicate (n-ds.length) .no)).bind λr=>match r with
 |.nx _=>.ok .non
 |.rt d=>.ok d
 |_=>.stuck
def iG{K:W.Frag}{Ha:Hp}{N:List Str}{ds:ac}{vs:al}(h:Reps K Ha ds vs):et K Ha (start N vs) (ds.map Sl.sh++List.replicate (N.length-ds.length) .no):=by
 intro i d e;have hl:=h.length
 by_cases hi:i<ds.length
 .rw[List.getElem?_append_left (by simpa using hi),List.getElem?_map]at e
  cases q:ds[i]? with
  |none=>rw[q]at e;cases e
  |some d'=>
   rw[q]at e;cases e;obtain⟨v,h1,h2⟩:=h.get q;refine⟨v,?_,h2⟩;unfold L2.start;rw[List.getElem?_append_left (by simp;omega),List.getElem?_map,h1];rfl
 .rw[List.getElem?_append_right (by simpa using hi),List.getElem?_replicate]at e
  split at e<;>cases e
def kL{ds:ac}{n:Nat}(i j:Nat)(es:ac):(ds.map Sl.sh++List.replicate n Sl.no)[i]?≠some (.ox j es):=λe=>by
 have:=List.mem_of_getElem? e;rw[List.mem_append]at this;rcases this with h|h
 .obtain⟨_,_,h⟩:=List.mem_map.mp h;cases h
 .have:=List.eq_of_mem_replicate h;cases this
def jJ{ds:ac}{n:Nat}{σ:L2.St}(i:Nat)(a:Addr)(e:(ds.map Sl.sh++List.replicate n Sl.no)[i]?=some (.pt a)):σ[i]?=some (some (.ref a)):=by
 have:=List.mem_of_getElem? e;rw[List.mem_append]at this;rcases this with h|h
 .obtain⟨_,_,h⟩:=List.mem_map.mp h;cases h
 .have:=List.eq_of_mem_replicate h;cases this
def yK{P:Program}{w:World}{K:W.Frag}{mg:Str->Option Value}{base:Heap}{x qual:Str}{st:Stmt}{f:Addr}{fd:FuncData}{N ps:List Str}{k:Nat}{s:bd}(F:B1 K x qual st f fd)(S:eD N ps (defScope st))
  (hbody:∀(cdv:Value) (A:Around) (outer:List PySem.Env) (s0:Shared) (H Ha:Hp) (E:XK),cL k (A.deeper (envOfC qual (defScope st) s0.heap.objs.size f cdv)) ->
   rP (cf CX0 P w K mg base N qual (defScope st) f cdv A outer s0 H E).nox E H Ha (defBody st) s):eP P w K mg base CX0 (k+1) f fd ps (spD K ps.length (bH N.length s)):=by
 have hpl:ps.length<=N.length:=by have:=congrArg List.length S.pre;rw[List.length_take]at this;omega
 refine F.ok S (λvs H Q E h=>h.1) λcdv A outer s0 H vs Q E hr h=>?_;obtain⟨hn,Ha,ds,hs,hv,q⟩:=h;refine⟨_,(hbody cdv A outer s0 H Ha E hr).o,Ha,ds.map Sl.sh++List.replicate (N.length-ds.length) .no,?_,?_⟩
 .refine⟨aZ.refl hs,iG hv,λi d e=>?_,λi j d d' hij e=>?_,?_,OX.none kL jJ⟩
  .by_cases hi:i<ds.length
   .rw[List.getElem?_append_left (by simpa using hi),List.getElem?_map]at e
    cases q:ds[i]? with|none|some d'=>rw[q]at e;cases e
   .rw[List.getElem?_append_right (by simpa using hi),List.getElem?_replicate]at e
    split at e<;>cases e
  .by_cases hi:i<ds.length
   .rw[List.getElem?_append_left (by simpa using hi),List.getElem?_map]at e
    cases q:ds[i]? with|none|some d'=>rw[q]at e;cases e
   .rw[List.getElem?_append_right (by simpa using hi),List.getElem?_replicate]at e
    split at e<;>cases e
  .unfold L2.start
   have:=hv.length;simp only[List.length_append,List.length_map,List.length_replicate];omega
 .unfold bH at q
  cases e1:s (ds.map Sl.sh++List.replicate (N.length-ds.length) .no) with
  |stuck|exn x=>rw[e1]at q;exact q
  |ok r=>
   rw[e1]at q;cases r with|nx ρ'=>exact λσ' H' Ha' _ h'=>q .non H' Ha' h'.g (aJ.mpr rfl)|rt d=>exact λv H' Ha' g rp=>q v H' Ha' g rp|bk ρ'|ct ρ'=>exact q.elim
mutual
def cK:D->D->Bool
 |.non,.non=>true
 |.bl a,.bl b=>a==b
 |.bl a,.int b=>(if a then 1 else 0)==b
 |.int a,.bl b=>a==(if b then 1 else 0)
 |.int a,.int b=>a==b
 |.str a,.str b=>a==b
 |.tup xs,.tup ys=>eqDs xs ys
 |.lst xs,.lst ys=>eqDs xs ys
 |_,_=>false
def eqDs:ac->ac->Bool
 |[],[]=>true
 |x::xs,y::ys=>cK x y&&eqDs xs ys
 |_,_=>false
end
def aT:Nat->D->Bool
 |_,.non=>true
 |_,.bl _=>true
 |_,.int _=>true
 |_,.str _=>true
 |n+1,.tup ds=>ds.all (aT n)
 |n+1,.lst ds=>ds.all (aT n)
 |_,_=>false
def pL{ds:ac}(h:∀d∈ds,cK d d=true):eqDs ds ds=true:=by
 induction ds with
 |nil=>simp[eqDs]
 |cons d r ih=>
  unfold eqDs;rw[h d List.mem_cons_self,ih λx hx=>h x (List.mem_cons_of_mem _ hx)];rfl
theorem iO:∀(n:Nat) (d:D),aT n d=true->cK d d=true
 |_,.non,_=>by simp[cK]
 |_,.bl b,_=>by simp[cK]
 |_,.int b,_=>by simp[cK]
 |_,.str b,_=>by simp[cK]
 |n+1,.tup ds,h=>by
  unfold aT at h;unfold cK;exact pL λd hd=>iO n d (List.all_eq_true.mp h d hd)
 |n+1,.lst ds,h=>by
  unfold aT at h;unfold cK;exact pL λd hd=>iO n d (List.all_eq_true.mp h d hd)
 |0,.tup ds,h=>by unfold aT at h;cases h
 |0,.lst ds,h=>by unfold aT at h;cases h
 |0,.dic ks ds,h=>by unfold aT at h;cases h
 |n+1,.dic ks ds,h=>by unfold aT at h;cases h
 |0,.exc x,h=>by unfold aT at h;cases h
 |0,.ob k x,h=>by unfold aT at h;cases h
 |n+1,.ob k x,h=>by unfold aT at h;cases h
 |n+1,.exc x,h=>by unfold aT at h;cases h
def Et{xs ys:ac}:cK (.tup xs) (.tup ys)=eqDs xs ys:=by rw[cK]
def xw{xs ys:ac}:cK (.lst xs) (.lst ys)=eqDs xs ys:=by rw[cK]
theorem jP:∀(xs ys:ac),xs.length=ys.length->eqDs xs ys=(List.range xs.length).all λj=>cK (xs.getD j .non) (ys.getD j .non)
 |[],[],_=>by simp[eqDs]
 |x::xs,y::ys,h=>by
  have ih:=jP xs ys (by simpa using h);unfold eqDs;rw[ih,List.length_cons,List.range_succ_eq_map,List.all_cons,List.all_map];rfl
 |[],_::_,h=>by simp at h
 |_::_,[],h=>by simp at h
theorem nL:∀(xs ys:ac),xs.length≠ys.length->eqDs xs ys=false
 |[],[],h=>absurd rfl h
 |x::xs,y::ys,h=>by
  unfold eqDs;rw[nL xs ys (by simpa using h),Bool.and_false]
 |[],_::_,h=>by simp[eqDs]
 |_::_,[],h=>by simp[eqDs]
section
variable {X:Cx}{pins:List (Addr×Obj)}{σ:L2.St}{H:Hp}{s:Shared}
def aW(I:Inv X pins σ H s){ds:ac}{v:V}{u:Value}(r:Rep X.K H (.tup ds) v)(rv:bb v u):∃a vs its,v=.ref a/\u=.ref a/\ip X.K H a vs/\Reps X.K H ds vs/\bj vs its/\IsTup s.heap a its.toArray/\ds.length=its.length:=by
 obtain⟨a,vs,rfl,h1,h2⟩:=aH.mp r;obtain rfl:u=Value.ref a:=rv;obtain⟨its,h3,h4,_⟩:=I.tuple h1;exact⟨a,vs,its,rfl,rfl,h1,h2,h3,h4,h2.length.trans h3.length⟩
def aV(I:Inv X pins σ H s){ds:ac}{v:V}{u:Value}(r:Rep X.K H (.lst ds) v)(rv:bb v u):∃a vs its,v=.ref a/\u=.ref a/\eh X.K H a vs/\Reps X.K H ds vs/\bj vs its/\s.heap.IsList a its.toArray/\ds.length=its.length:=by
 obtain⟨a,vs,rfl,h1,h2⟩:=aC.mp r;obtain rfl:u=Value.ref a:=rv;obtain⟨its,h3,h4,_⟩:=I.list h1;exact⟨a,vs,its,rfl,rfl,h1,h2,h3,h4.isList,h2.length.trans h3.length⟩
theorem mK{n:Nat}(ih:∀(d d':D) (v:V),aT n d=true->aT n d'=true->Rep X.K H d v->Rep X.K H d' v->d=d'):∀(ds ds':ac) (vs:al),ds.all (aT n)=true->ds'.all (aT n)=true->Reps X.K H ds vs->Reps X.K H ds' vs->ds=ds'
 |[],ds',vs,_,_,h,h'=>by
  rw[Reps.nil_iff.mp h]at h';cases ds' with|nil=>rfl|cons d r=>obtain⟨_,_,e,_⟩:=aA.mp h';cases e
 |d::ds,ds',vs,a,a',h,h'=>by
  obtain⟨v,r,rfl,h1,h2⟩:=aA.mp h;cases ds' with
  |nil=>cases Reps.nil_iff.mp h'
  |cons d' ds'=>
   obtain⟨v',r',e,h1',h2'⟩:=aA.mp h';cases e;rw[List.all_cons,Bool.and_eq_true]at a a';rw[ih d d' v a.1 a'.1 h1 h1',mK ih ds ds' r a.2 a'.2 h2 h2']
def Rep.inj(I:Inv X pins σ H s):∀(n:Nat) (d d':D) (v:V),aT n d=true->aT n d'=true->Rep X.K H d v->Rep X.K H d' v->d=d':=by
 have atom:∀(n:Nat) (d d':D) (v:V),(∀ds,d≠.tup ds)->(∀ds,d≠.lst ds)->aT n d=true->aT n d'=true->Rep X.K H d v->Rep X.K H d' v->d=d':=by
  intro n d d' v n1 n2 s1 s2 h h';have nd:∀m ks ds,aT m (.dic ks ds)=true->False:=λm ks ds h=>by cases m<;>(unfold aT at h;cases h)
  have nx:∀m x,aT m (.exc x)=true->False:=λm x h=>by cases m<;>(unfold aT at h;cases h)
  have nb:∀m k x,aT m (.ob k x)=true->False:=λm k x h=>by cases m<;>(unfold aT at h;cases h)
  cases d with
  |tup ds=>exact absurd rfl (n1 ds)|lst ds=>exact absurd rfl (n2 ds)|dic ks ds=>exact(nd _ _ _ s1).elim|exc x=>exact(nx _ _ s1).elim|ob k x=>exact(nb _ _ _ s1).elim
  |non=>
   rw[aJ.mp h]at h';cases d' with|non=>rfl|bl b=>cases aF.mp h'|int b=>cases ay.mp h'|str b=>cases Rep.str_iff.mp h'|tup ds=>obtain⟨_,_,e,_⟩:=aH.mp h';cases e|lst ds=>obtain⟨_,_,e,_⟩:=aC.mp h';cases e|dic ks ds=>exact(nd _ _ _ s2).elim|exc x=>exact(nx _ _ s2).elim|ob k x=>exact(nb _ _ _ s2).elim
  |bl x=>
   rw[aF.mp h]at h';cases d' with|non=>cases aJ.mp h'|bl b=>cases aF.mp h';rfl|int b=>cases ay.mp h'|str b=>cases Rep.str_iff.mp h'|tup ds=>obtain⟨_,_,e,_⟩:=aH.mp h';cases e|lst ds=>obtain⟨_,_,e,_⟩:=aC.mp h';cases e|dic ks ds=>exact(nd _ _ _ s2).elim|exc x=>exact(nx _ _ s2).elim|ob k x=>exact(nb _ _ _ s2).elim
  |int x=>
   rw[ay.mp h]at h';cases d' with|non=>cases aJ.mp h'|bl b=>cases aF.mp h'|int b=>cases ay.mp h';rfl|str b=>cases Rep.str_iff.mp h'|tup ds=>obtain⟨_,_,e,_⟩:=aH.mp h';cases e|lst ds=>obtain⟨_,_,e,_⟩:=aC.mp h';cases e|dic ks ds=>exact(nd _ _ _ s2).elim|exc x=>exact(nx _ _ s2).elim|ob k x=>exact(nb _ _ _ s2).elim
  |str x=>
   rw[Rep.str_iff.mp h]at h';cases d' with|non=>cases aJ.mp h'|bl b=>cases aF.mp h'|int b=>cases ay.mp h'|str b=>cases Rep.str_iff.mp h';rfl|tup ds=>obtain⟨_,_,e,_⟩:=aH.mp h';cases e|lst ds=>obtain⟨_,_,e,_⟩:=aC.mp h';cases e|dic ks ds=>exact(nd _ _ _ s2).elim|exc x=>exact(nx _ _ s2).elim|ob k x=>exact(nb _ _ _ s2).elim
 intro n
 induction n with
 |zero=>
  intro d d' v s1 s2 h h';exact atom 0 d d' v (λds e=>by subst e;unfold aT at s1;cases s1) (λds e=>by subst e;unfold aT at s1;cases s1) s1 s2 h h'
 |succ n ih=>
  intro d d' v s1 s2 h h'
  by_cases t1:∃ds,d=.tup ds
  .obtain⟨ds,rfl⟩:=t1
   by_cases t2:∃ds',d'=.tup ds'
   .obtain⟨ds',rfl⟩:=t2
    obtain⟨a,vs,rfl,h1,h2⟩:=aH.mp h;obtain⟨a',vs',e,h1',h2'⟩:=aH.mp h';cases e;rw[I.tuple_inj h1' h1]at h2';unfold aT at s1 s2;rw[mK ih ds ds' vs s1 s2 h2 h2']
   .by_cases t3:∃ds',d'=.lst ds'
    .obtain⟨ds',rfl⟩:=t3
     obtain⟨a0,_,ev,_,_⟩:=aH.mp h;subst ev;obtain⟨a,vs,its,ea,_,h1,h2,h3,h4,_⟩:=aW I h rfl;cases ea;obtain⟨a',vs',its',e,_,h1',h2',h3',h4',_⟩:=aV I h' rfl;cases e;exact absurd rfl (SeqAt.ne_of_list_tuple h4' h4)
    .exact(atom (n+1) d' _ v (λds e=>t2 ⟨ds,e⟩) (λds e=>t3 ⟨ds,e⟩) s2 s1 h' h).symm
  .by_cases t1':∃ds,d=.lst ds
   .obtain⟨ds,rfl⟩:=t1'
    by_cases t2:∃ds',d'=.lst ds'
    .obtain⟨ds',rfl⟩:=t2
     obtain⟨a,vs,rfl,h1,h2⟩:=aC.mp h;obtain⟨a',vs',e,h1',h2'⟩:=aC.mp h';cases e;rw[I.list_inj h1' h1]at h2';unfold aT at s1 s2;rw[mK ih ds ds' vs s1 s2 h2 h2']
    .by_cases t3:∃ds',d'=.tup ds'
     .obtain⟨ds',rfl⟩:=t3
      obtain⟨a0,_,ev,_,_⟩:=aC.mp h;subst ev;obtain⟨a,vs,its,ea,_,h1,h2,h3,h4,_⟩:=aV I h rfl;cases ea;obtain⟨a',vs',its',e,_,h1',h2',h3',h4',_⟩:=aW I h' rfl;cases e;exact absurd rfl (SeqAt.ne_of_list_tuple h4 h4')
     .exact(atom (n+1) d' _ v (λds e=>t3 ⟨ds,e⟩) (λds e=>t2 ⟨ds,e⟩) s2 s1 h' h).symm
   .exact atom (n+1) d d' v (λds e=>t1 ⟨ds,e⟩) (λds e=>t1' ⟨ds,e⟩) s1 s2 h h'
def tK{n:Nat}{A:Around}{xs ys:ac}{vs us:al}{is js:List Value}
  (ih:∀(x y:D) (v u:V) (a b:Value),aT n x=true->aT n y=true->Rep X.K H x v->Rep X.K H y u->bb v a->bb u b->SeqAt.EqAt A.in1 s a b (cK x y))
  (sx:xs.all (aT n)=true)(sy:ys.all (aT n)=true)(rx:Reps X.K H xs vs)(ry:Reps X.K H ys us)(qx:bj vs is)(qy:bj us js) :
  ∀j (h1:j<is.toArray.size) (h2:j<js.toArray.size),SeqAt.EqAt A.in1 s is.toArray[j] js.toArray[j] (cK (xs.getD j .non) (ys.getD j .non)):=by
 intro j h1 h2;have lx:=rx.length;have ly:=ry.length;have kx:=qx.length;have ky:=qy.length;have h1':j<is.length:=by simpa using h1
 have h2':j<js.length:=by simpa using h2
 have hx:j<xs.length:=by omega
 have hy:j<ys.length:=by omega
 obtain⟨v,e1,r1⟩:=rx.get (List.getElem?_eq_getElem hx);obtain⟨u,e2,r2⟩:=ry.get (List.getElem?_eq_getElem hy);obtain⟨a,e3,r3⟩:=qx.get e1;obtain⟨b,e4,r4⟩:=qy.get e2;have ea:is.toArray[j]=a:=by
  rw[List.getElem?_eq_getElem h1']at e3;simpa using Option.some.inj e3
 have eb:js.toArray[j]=b:=by
  rw[List.getElem?_eq_getElem h2']at e4;simpa using Option.some.inj e4
 rw[ea,eb];have gx:xs.getD j .non=xs[j]:=by simp[List.getD,List.getElem?_eq_getElem hx]
 have gy:ys.getD j .non=ys[j]:=by simp[List.getD,List.getElem?_eq_getElem hy]
 rw[gx,gy];exact ih _ _ v u a b (List.all_eq_true.mp sx _ (List.getElem_mem hx)) (List.all_eq_true.mp sy _ (List.getElem_mem hy)) r1 r2 r3 r4
def sN(I:Inv X pins σ H s){A:Around}(hu:A.units<cLine){x y:D}{v u:V}{a b:Value}(rx:Rep X.K H x v)(ry:Rep X.K H y u)(qx:bb v a)(qy:bb u b)
  (n1:∀ds ds',¬(x=.lst ds/\y=.lst ds'))(n2:∀ds ds',¬(x=.tup ds/\y=.tup ds'))(d1:∀ks ds,x≠.dic ks ds)(d2:∀ks ds,y≠.dic ks ds)(x1:∀c,x≠.exc c)(x2:∀c,y≠.exc c)(o1:∀k c,x≠.ob k c)(o2:∀k c,y≠.ob k c) :
  SeqAt.RcAt A s a b (cK x y)/\SeqAt.EqAt A s a b (cK x y)/\SeqAt.RcNeAt A s a b (!(cK x y)):=by
 cases x with
 |non=>
  cases y with
  |non=>
   obtain rfl:=aJ.mp rx;obtain rfl:a=Value.none:=qx;obtain rfl:=aJ.mp ry;obtain rfl:b=Value.none:=qy;unfold cK;exact⟨SeqAt.RcAt.none_none ,SeqAt.EqAt.same _,SeqAt.RcNeAt.none_none ⟩
  |bl y=>
   obtain rfl:=aJ.mp rx;obtain rfl:a=Value.none:=qx;obtain rfl:=aF.mp ry;obtain rfl:b=Value.bool _:=qy;unfold cK;exact⟨SeqAt.RcAt.none_bool _,SeqAt.EqAt.none_bool _,SeqAt.RcNeAt.none_bool _⟩
  |int y=>
   obtain rfl:=aJ.mp rx;obtain rfl:a=Value.none:=qx;obtain rfl:=ay.mp ry;obtain⟨ty,rfl⟩:∃t,b=Value.int _ t:=qy;unfold cK;exact⟨SeqAt.RcAt.none_int _ _,SeqAt.EqAt.none_int _ _,SeqAt.RcNeAt.none_int _ _⟩
  |str y=>
   obtain rfl:=aJ.mp rx;obtain rfl:a=Value.none:=qx;obtain rfl:=Rep.str_iff.mp ry;obtain⟨ty,rfl⟩:∃t,b=Value.str _ t:=qy;unfold cK;exact⟨SeqAt.RcAt.none_str _ _,SeqAt.EqAt.none_str _ _,SeqAt.RcNeAt.none_str _ _⟩
  |lst y=>
   obtain rfl:=aJ.mp rx;obtain rfl:a=Value.none:=qx;obtain⟨ly,_,_,rfl,rfl,_,_,_,hy,_⟩:=aV I ry qy;unfold cK;exact⟨SeqAt.RcAt.none_list  hy hu,SeqAt.EqAt.none_list  hy hu,SeqAt.RcNeAt.none_list  hy hu⟩
  |tup y=>
   obtain rfl:=aJ.mp rx;obtain rfl:a=Value.none:=qx;obtain⟨ly,_,_,rfl,rfl,_,_,_,hy,_⟩:=aW I ry qy;unfold cK;exact⟨SeqAt.RcAt.none_tuple  hy hu,SeqAt.EqAt.none_tuple  hy hu,SeqAt.RcNeAt.none_tuple  hy hu⟩
  |dic ks ds=>exact absurd rfl (d2 ks ds)|exc c=>exact absurd rfl (x2 c)|ob k c=>exact absurd rfl (o2 k c)
 |bl x=>
  cases y with
  |non=>
   obtain rfl:=aF.mp rx;obtain rfl:a=Value.bool _:=qx;obtain rfl:=aJ.mp ry;obtain rfl:b=Value.none:=qy;unfold cK;exact⟨SeqAt.RcAt.bool_none _,SeqAt.EqAt.bool_none _,SeqAt.RcNeAt.bool_none _⟩
  |bl y=>
   obtain rfl:=aF.mp rx;obtain rfl:a=Value.bool _:=qx;obtain rfl:=aF.mp ry;obtain rfl:b=Value.bool _:=qy;unfold cK;exact⟨SeqAt.RcAt.bool_bool _ _,SeqAt.EqAt.bool_bool _ _,SeqAt.RcNeAt.bool_bool _ _⟩
  |int y=>
   obtain rfl:=aF.mp rx;obtain rfl:a=Value.bool _:=qx;obtain rfl:=ay.mp ry;obtain⟨ty,rfl⟩:∃t,b=Value.int _ t:=qy;unfold cK;exact⟨SeqAt.RcAt.bool_int _ _ _,SeqAt.EqAt.bool_int _ _ _,SeqAt.RcNeAt.bool_int _ _ _⟩
  |str y=>
   obtain rfl:=aF.mp rx;obtain rfl:a=Value.bool _:=qx;obtain rfl:=Rep.str_iff.mp ry;obtain⟨ty,rfl⟩:∃t,b=Value.str _ t:=qy;unfold cK;exact⟨SeqAt.RcAt.bool_str _ _ _,SeqAt.EqAt.bool_str _ _ _,SeqAt.RcNeAt.bool_str _ _ _⟩
  |lst y=>
   obtain rfl:=aF.mp rx;obtain rfl:a=Value.bool _:=qx;obtain⟨ly,_,_,rfl,rfl,_,_,_,hy,_⟩:=aV I ry qy;unfold cK;exact⟨SeqAt.RcAt.bool_list _ hy hu,SeqAt.EqAt.bool_list _ hy hu,SeqAt.RcNeAt.bool_list _ hy hu⟩
  |tup y=>
   obtain rfl:=aF.mp rx;obtain rfl:a=Value.bool _:=qx;obtain⟨ly,_,_,rfl,rfl,_,_,_,hy,_⟩:=aW I ry qy;unfold cK;exact⟨SeqAt.RcAt.bool_tuple _ hy hu,SeqAt.EqAt.bool_tuple _ hy hu,SeqAt.RcNeAt.bool_tuple _ hy hu⟩
  |dic ks ds=>exact absurd rfl (d2 ks ds)|exc c=>exact absurd rfl (x2 c)|ob k c=>exact absurd rfl (o2 k c)
 |int x=>
  cases y with
  |non=>
   obtain rfl:=ay.mp rx;obtain⟨tx,rfl⟩:∃t,a=Value.int _ t:=qx;obtain rfl:=aJ.mp ry;obtain rfl:b=Value.none:=qy;unfold cK;exact⟨SeqAt.RcAt.int_none _ _,SeqAt.EqAt.int_none _ _,SeqAt.RcNeAt.int_none _ _⟩
  |bl y=>
   obtain rfl:=ay.mp rx;obtain⟨tx,rfl⟩:∃t,a=Value.int _ t:=qx;obtain rfl:=aF.mp ry;obtain rfl:b=Value.bool _:=qy;unfold cK;exact⟨SeqAt.RcAt.int_bool _ _ _,SeqAt.EqAt.int_bool _ _ _,SeqAt.RcNeAt.int_bool _ _ _⟩
  |int y=>
   obtain rfl:=ay.mp rx;obtain⟨tx,rfl⟩:∃t,a=Value.int _ t:=qx;obtain rfl:=ay.mp ry;obtain⟨ty,rfl⟩:∃t,b=Value.int _ t:=qy;unfold cK;exact⟨SeqAt.RcAt.int_int _ _ _ _,SeqAt.EqAt.int_int _ _ _ _,SeqAt.RcNeAt.int_int _ _ _ _⟩
  |str y=>
   obtain rfl:=ay.mp rx;obtain⟨tx,rfl⟩:∃t,a=Value.int _ t:=qx;obtain rfl:=Rep.str_iff.mp ry;obtain⟨ty,rfl⟩:∃t,b=Value.str _ t:=qy;unfold cK;exact⟨SeqAt.RcAt.int_str _ _ _ _,SeqAt.EqAt.int_str _ _ _ _,SeqAt.RcNeAt.int_str _ _ _ _⟩
  |lst y=>
   obtain rfl:=ay.mp rx;obtain⟨tx,rfl⟩:∃t,a=Value.int _ t:=qx;obtain⟨ly,_,_,rfl,rfl,_,_,_,hy,_⟩:=aV I ry qy;unfold cK;exact⟨SeqAt.RcAt.int_list _ _ hy hu,SeqAt.EqAt.int_list _ _ hy hu,SeqAt.RcNeAt.int_list _ _ hy hu⟩
  |tup y=>
   obtain rfl:=ay.mp rx;obtain⟨tx,rfl⟩:∃t,a=Value.int _ t:=qx;obtain⟨ly,_,_,rfl,rfl,_,_,_,hy,_⟩:=aW I ry qy;unfold cK;exact⟨SeqAt.RcAt.int_tuple _ _ hy hu,SeqAt.EqAt.int_tuple _ _ hy hu,SeqAt.RcNeAt.int_tuple _ _ hy hu⟩
  |dic ks ds=>exact absurd rfl (d2 ks ds)|exc c=>exact absurd rfl (x2 c)|ob k c=>exact absurd rfl (o2 k c)
 |str x=>
  cases y with
  |non=>
   obtain rfl:=Rep.str_iff.mp rx;obtain⟨tx,rfl⟩:∃t,a=Value.str _ t:=qx;obtain rfl:=aJ.mp ry;obtain rfl:b=Value.none:=qy;unfold cK;exact⟨SeqAt.RcAt.str_none _ _,SeqAt.EqAt.str_none _ _,SeqAt.RcNeAt.str_none _ _⟩
  |bl y=>
   obtain rfl:=Rep.str_iff.mp rx;obtain⟨tx,rfl⟩:∃t,a=Value.str _ t:=qx;obtain rfl:=aF.mp ry;obtain rfl:b=Value.bool _:=qy;unfold cK;exact⟨SeqAt.RcAt.str_bool _ _ _,SeqAt.EqAt.str_bool _ _ _,SeqAt.RcNeAt.str_bool _ _ _⟩
  |int y=>
   obtain rfl:=Rep.str_iff.mp rx;obtain⟨tx,rfl⟩:∃t,a=Value.str _ t:=qx;obtain rfl:=ay.mp ry;obtain⟨ty,rfl⟩:∃t,b=Value.int _ t:=qy;unfold cK;exact⟨SeqAt.RcAt.str_int _ _ _ _,SeqAt.EqAt.str_int _ _ _ _,SeqAt.RcNeAt.str_int _ _ _ _⟩
  |str y=>
   obtain rfl:=Rep.str_iff.mp rx;obtain⟨tx,rfl⟩:∃t,a=Value.str _ t:=qx;obtain rfl:=Rep.str_iff.mp ry;obtain⟨ty,rfl⟩:∃t,b=Value.str _ t:=qy;unfold cK;exact⟨SeqAt.RcAt.str_str _ _ _ _,SeqAt.EqAt.str_str _ _ _ _,SeqAt.RcNeAt.str_str _ _ _ _⟩
  |lst y=>
   obtain rfl:=Rep.str_iff.mp rx;obtain⟨tx,rfl⟩:∃t,a=Value.str _ t:=qx;obtain⟨ly,_,_,rfl,rfl,_,_,_,hy,_⟩:=aV I ry qy;unfold cK;exact⟨SeqAt.RcAt.str_list _ _ hy hu,SeqAt.EqAt.str_list _ _ hy hu,SeqAt.RcNeAt.str_list _ _ hy hu⟩
  |tup y=>
   obtain rfl:=Rep.str_iff.mp rx;obtain⟨tx,rfl⟩:∃t,a=Value.str _ t:=qx;obtain⟨ly,_,_,rfl,rfl,_,_,_,hy,_⟩:=aW I ry qy;unfold cK;exact⟨SeqAt.RcAt.str_tuple _ _ hy hu,SeqAt.EqAt.str_tuple _ _ hy hu,SeqAt.RcNeAt.str_tuple _ _ hy hu⟩
  |dic ks ds=>exact absurd rfl (d2 ks ds)|exc c=>exact absurd rfl (x2 c)|ob k c=>exact absurd rfl (o2 k c)
 |lst x=>
  cases y with
  |non=>
   obtain⟨lx,_,_,rfl,rfl,_,_,_,hx,_⟩:=aV I rx qx;obtain rfl:=aJ.mp ry;obtain rfl:b=Value.none:=qy;unfold cK;exact⟨SeqAt.RcAt.list_none  hx hu,SeqAt.EqAt.list_none  hx hu,SeqAt.RcNeAt.list_none  hx hu⟩
  |bl y=>
   obtain⟨lx,_,_,rfl,rfl,_,_,_,hx,_⟩:=aV I rx qx;obtain rfl:=aF.mp ry;obtain rfl:b=Value.bool _:=qy;unfold cK;exact⟨SeqAt.RcAt.list_bool _ hx hu,SeqAt.EqAt.list_bool _ hx hu,SeqAt.RcNeAt.list_bool _ hx hu⟩
  |int y=>
   obtain⟨lx,_,_,rfl,rfl,_,_,_,hx,_⟩:=aV I rx qx;obtain rfl:=ay.mp ry;obtain⟨ty,rfl⟩:∃t,b=Value.int _ t:=qy;unfold cK;exact⟨SeqAt.RcAt.list_int _ _ hx hu,SeqAt.EqAt.list_int _ _ hx hu,SeqAt.RcNeAt.list_int _ _ hx hu⟩
  |str y=>
   obtain⟨lx,_,_,rfl,rfl,_,_,_,hx,_⟩:=aV I rx qx;obtain rfl:=Rep.str_iff.mp ry;obtain⟨ty,rfl⟩:∃t,b=Value.str _ t:=qy;unfold cK;exact⟨SeqAt.RcAt.list_str _ _ hx hu,SeqAt.EqAt.list_str _ _ hx hu,SeqAt.RcNeAt.list_str _ _ hx hu⟩
  |lst y=>
   exact absurd ⟨rfl,rfl⟩ (n1 x y)
  |tup y=>
   obtain⟨lx,_,_,rfl,rfl,_,_,_,hx,_⟩:=aV I rx qx;obtain⟨ly,_,_,rfl,rfl,_,_,_,hy,_⟩:=aW I ry qy;unfold cK;exact⟨SeqAt.RcAt.list_tuple  hx hy hu,SeqAt.EqAt.list_tuple  hx hy hu,SeqAt.RcNeAt.list_tuple  hx hy hu⟩
  |dic ks ds=>exact absurd rfl (d2 ks ds)|exc c=>exact absurd rfl (x2 c)|ob k c=>exact absurd rfl (o2 k c)
 |tup x=>
  cases y with
  |non=>
   obtain⟨lx,_,_,rfl,rfl,_,_,_,hx,_⟩:=aW I rx qx;obtain rfl:=aJ.mp ry;obtain rfl:b=Value.none:=qy;unfold cK;exact⟨SeqAt.RcAt.tuple_none  hx hu,SeqAt.EqAt.tuple_none  hx hu,SeqAt.RcNeAt.tuple_none  hx hu⟩
  |bl y=>
   obtain⟨lx,_,_,rfl,rfl,_,_,_,hx,_⟩:=aW I rx qx;obtain rfl:=aF.mp ry;obtain rfl:b=Value.bool _:=qy;unfold cK;exact⟨SeqAt.RcAt.tuple_bool _ hx hu,SeqAt.EqAt.tuple_bool _ hx hu,SeqAt.RcNeAt.tuple_bool _ hx hu⟩
  |int y=>
   obtain⟨lx,_,_,rfl,rfl,_,_,_,hx,_⟩:=aW I rx qx;obtain rfl:=ay.mp ry;obtain⟨ty,rfl⟩:∃t,b=Value.int _ t:=qy;unfold cK;exact⟨SeqAt.RcAt.tuple_int _ _ hx hu,SeqAt.EqAt.tuple_int _ _ hx hu,SeqAt.RcNeAt.tuple_int _ _ hx hu⟩
  |str y=>
   obtain⟨lx,_,_,rfl,rfl,_,_,_,hx,_⟩:=aW I rx qx;obtain rfl:=Rep.str_iff.mp ry;obtain⟨ty,rfl⟩:∃t,b=Value.str _ t:=qy;unfold cK;exact⟨SeqAt.RcAt.tuple_str _ _ hx hu,SeqAt.EqAt.tuple_str _ _ hx hu,SeqAt.RcNeAt.tuple_str _ _ hx hu⟩
  |lst y=>
   obtain⟨lx,_,_,rfl,rfl,_,_,_,hx,_⟩:=aW I rx qx;obtain⟨ly,_,_,rfl,rfl,_,_,_,hy,_⟩:=aV I ry qy;unfold cK;exact⟨SeqAt.RcAt.tuple_list  hx hy hu,SeqAt.EqAt.tuple_list  hx hy hu,SeqAt.RcNeAt.tuple_list  hx hy hu⟩
  |tup y=>
   exact absurd ⟨rfl,rfl⟩ (n2 x y)
  |dic ks ds=>exact absurd rfl (d2 ks ds)|exc c=>exact absurd rfl (x2 c)|ob k c=>exact absurd rfl (o2 k c)
 |dic ks ds=>exact absurd rfl (d1 ks ds)
 |exc c=>exact absurd rfl (x1 c)
 |ob k c=>exact absurd rfl (o1 k c)
def F8(I:Inv X pins σ H s):∀(n:Nat) (A:Around),A.units+n<cLine->∀(x y:D) (v u:V) (a b:Value),aT n x=true->aT n y=true->Rep X.K H x v->Rep X.K H y u->bb v a->bb u b ->
  SeqAt.RcAt A s a b (cK x y)/\SeqAt.EqAt A s a b (cK x y)/\SeqAt.RcNeAt A s a b (!(cK x y)):=by
 have nd:∀m ks ds,aT m (.dic ks ds)=true->False:=λm ks ds h=>by cases m<;>(unfold aT at h;cases h)
 have nx:∀m x,aT m (.exc x)=true->False:=λm x h=>by cases m<;>(unfold aT at h;cases h)
 have nb:∀m k x,aT m (.ob k x)=true->False:=λm k x h=>by cases m<;>(unfold aT at h;cases h)
 intro n
 induction n with
 |zero=>
  intro A hu x y v u a b sx sy rx ry qa qb;refine sN I (by omega) rx ry qa qb (λds ds' z=>?_) (λds ds' z=>?_) (λks ds z=>?_) (λks ds z=>?_) (λc z=>nx _ _ (z▸sx)) (λc z=>nx _ _ (z▸sy)) (λk c z=>nb _ _ _ (z▸sx)) (λk c z=>nb _ _ _ (z▸sy))
  .rw[z.1]at sx;unfold aT at sx;cases sx
  .rw[z.1]at sx;unfold aT at sx;cases sx
  .rw[z]at sx;exact nd _ _ _ sx
  .rw[z]at sy;exact nd _ _ _ sy
 |succ n ih=>
  intro A hu x y v u a b sx sy rx ry qa qb;have ih':∀(x y:D) (v u:V) (a b:Value),aT n x=true->aT n y=true->Rep X.K H x v->Rep X.K H y u->bb v a->bb u b->SeqAt.EqAt A.in1 s a b (cK x y) :=
   λx y v u a b s1 s2 r1 r2 q1 q2=>(ih A.in1 (by show A.units+1+n<cLine;omega) x y v u a b s1 s2 r1 r2 q1 q2).2.1
  by_cases t1:∃ds ds',x=.tup ds/\y=.tup ds'
  .obtain⟨xs,ys,rfl,rfl⟩:=t1
   obtain⟨l,vs,is,rfl,rfl,h1,h2,h3,h4,h5⟩:=aW I rx qa;obtain⟨m,us,js,rfl,rfl,k1,k2,k3,k4,k5⟩:=aW I ry qb;have hsx:=sx;have hsy:=sy;unfold aT at sx sy;have each:=tK (A:=A) ih' sx sy h2 k2 h3 k3;have eall:cK (.tup xs) (.tup ys)=((List.range (min is.toArray.size js.toArray.size)).all (λj=>cK (xs.getD j .non) (ys.getD j .non))&&is.toArray.size==js.toArray.size):=by
    rw[Et];simp only[List.size_toArray,←h5,←k5]
    by_cases hl:xs.length=ys.length
    .rw[jP xs ys hl,←hl,Nat.min_self,beq_self_eq_true,Bool.and_true]
    .rw[nL xs ys hl,beq_eq_false_iff_ne.mpr hl,Bool.and_false]
   refine⟨?_,?_,?_⟩
   .rw[eall];exact SeqAt.RcAt.tuples h4 k4 (by omega) each
   .by_cases hlm:l=m
    .subst hlm
     rw[Rep.inj I (n+1) _ _ _ hsx hsy rx ry,iO (n+1) _ hsy];exact SeqAt.EqAt.same _
    .refine SeqAt.EqAt.of_refs hlm ?_
     rw[eall];exact SeqAt.RcAt.tuples h4 k4 (by omega) each
   .rw[eall];exact SeqAt.RcNeAt.tuples h4 k4 (by omega) each
  .by_cases t2:∃ds ds',x=.lst ds/\y=.lst ds'
   .obtain⟨xs,ys,rfl,rfl⟩:=t2
    obtain⟨l,vs,is,rfl,rfl,h1,h2,h3,h4,h5⟩:=aV I rx qa;obtain⟨m,us,js,rfl,rfl,k1,k2,k3,k4,k5⟩:=aV I ry qb;have hsx:=sx;have hsy:=sy;unfold aT at sx sy;have each:=tK (A:=A) ih' sx sy h2 k2 h3 k3
    by_cases hl:xs.length=ys.length
    .have hsz:is.toArray.size=js.toArray.size:=by simp only[List.size_toArray];omega
     have eall:cK (.lst xs) (.lst ys)=(List.range is.toArray.size).all (λj=>cK (xs.getD j .non) (ys.getD j .non)):=by
      rw[xw];simp only[List.size_toArray,←h5];exact jP xs ys hl
     refine⟨?_,?_,?_⟩
     .rw[eall];exact SeqAt.RcAt.lists h4 k4 hsz (by omega) each
     .by_cases hlm:l=m
      .subst hlm
       rw[Rep.inj I (n+1) _ _ _ hsx hsy rx ry,iO (n+1) _ hsy];exact SeqAt.EqAt.same _
      .refine SeqAt.EqAt.of_refs hlm ?_
       rw[eall];exact SeqAt.RcAt.lists h4 k4 hsz (by omega) each
     .rw[eall];exact SeqAt.RcNeAt.lists h4 k4 hsz (by omega) each
    .have hsz:(is.toArray.size != js.toArray.size)=true:=by simp only[List.size_toArray,bne_iff_ne,ne_eq];omega
     have eall:cK (.lst xs) (.lst ys)=false:=by rw[xw];exact nL xs ys hl
     rw[eall];refine⟨SeqAt.RcAt.lists_lengths h4 k4 hsz (by omega),?_,SeqAt.RcNeAt.lists_lengths h4 k4 hsz (by omega)⟩;refine SeqAt.EqAt.of_refs (λe=>?_) (SeqAt.RcAt.lists_lengths h4 k4 hsz (by omega));subst e;have:=Rep.inj I (n+1) _ _ _ hsx hsy rx ry;cases this;exact hl rfl
   .exact sN I (by omega) rx ry qa qb (λds ds' z=>t2 ⟨ds,ds',z⟩) (λds ds' z=>t1 ⟨ds,ds',z⟩) (λks ds z=>by rw[z]at sx;exact nd _ _ _ sx) (λks ds z=>by rw[z]at sy;exact nd _ _ _ sy) (λc z=>nx _ _ (z▸sx)) (λc z=>nx _ _ (z▸sy)) (λk c z=>nb _ _ _ (z▸sx)) (λk c z=>nb _ _ _ (z▸sy))
end
section
variable {X:Cx}{E:XK}
def iD(x y:D):ao D:=if aT 40 x=true/\aT 40 y=true then .ok (.bl (cK x y)) else .stuck
def gI(x y:D):ao D:=if aT 40 x=true/\aT 40 y=true then .ok (.bl (!(cK x y))) else .stuck
def IM(K:W.Frag):R2:=λv u H Q=>∃x y,Rep K H x v/\Rep K H y u/\aT 40 x=true/\aT 40 y=true/\Q (.bl (cK x y)) H
def IH(K:W.Frag):R2:=λv u H Q=>∃x y,Rep K H x v/\Rep K H y u/\aT 40 x=true/\aT 40 y=true/\Q (.bl (!(cK x y))) H
def dF(hu:X.A.units+64<cLine):fL X (compareOp .Eq) (IM X.K):=by
 intro pins s σ H x y v u Q I rx ry h;obtain⟨d,d',h1,h2,s1,s2,q⟩:=h;exact(F8 I 40 X.A (by omega) d d' x y v u s1 s2 h1 h2 rx ry).1 _ _ _ _ ⟨.bl _,H,I,rfl,q⟩
def eJ(hu:X.A.units+64<cLine):fL X (compareOp .NotEq) (IH X.K):=by
 intro pins s σ H x y v u Q I rx ry h;obtain⟨d,d',h1,h2,s1,s2,q⟩:=h;exact(F8 I 40 X.A (by omega) d d' x y v u s1 s2 h1 h2 rx ry).2.2 _ _ _ _ ⟨.bl _,H,I,rfl,q⟩
def fz:uM X.K E (IM X.K) iD:=by
 intro x y v u H Ha Q hs r1 r2 q;unfold iD at q
 by_cases c:aT 40 x=true/\aT 40 y=true
 .rw[if_pos c]at q
  exact⟨x,y,r1.mono hs,r2.mono hs,c.1,c.2,q _ H Ha (aZ.refl hs) (aF.mpr rfl)⟩
 .rw[if_neg c]at q;exact q.elim
def iw:uM X.K E (IH X.K) gI:=by
 intro x y v u H Ha Q hs r1 r2 q;unfold gI at q
 by_cases c:aT 40 x=true/\aT 40 y=true
 .rw[if_pos c]at q
  exact⟨x,y,r1.mono hs,r2.mono hs,c.1,c.2,q _ H Ha (aZ.refl hs) (aF.mpr rfl)⟩
 .rw[if_neg c]at q;exact q.elim
open Classical in
noncomputable def jA(K:W.Frag) (H:Hp) (ds:ac) (x:D) (u:Value):Bool :=
 if h:∃d,d∈ds/\∃v,Rep K H d v/\bb v u then cK h.choose x else false
def xu{pins:List (Addr×Obj)}{σ:L2.St}{H:Hp}{s:Shared}(I:Inv X pins σ H s){ds:ac}{x d:D}{v:V}{u:Value}(sd:ds.all (aT 40)=true)(hd:d∈ds)(r:Rep X.K H d v)(q:bb v u):jA X.K H ds x u=cK d x:=by
 have h:∃d,d∈ds/\∃v,Rep X.K H d v/\bb v u:=⟨d,hd,v,r,q⟩
 unfold jA;rw[dif_pos h];obtain⟨h1,v',h2,h3⟩:=h.choose_spec;have e:v'=v:=h3.inj q;subst e;rw[Rep.inj I 40 _ _ _ (List.all_eq_true.mp sd _ h1) (List.all_eq_true.mp sd _ hd) h2 r]
def vc(K:W.Frag)(neg:Bool):R2:=λv u H Q=>∃x ds,Rep K H x v/\(Rep K H (.lst ds) u∨Rep K H (.tup ds) u)/\aT 40 x=true/\ds.all (aT 40)=true/\Q (.bl (if neg then !(ds.any λd=>cK d x) else ds.any λd=>cK d x)) H
theorem iT{pins:List (Addr×Obj)}{σ:L2.St}{H:Hp}{s:Shared}(I:Inv X pins σ H s){x:D}{es:ac}(se:es.all (aT 40)=true):∀{ds:ac}{vs:al}{us:List Value},(∀d∈ds,d∈es)->Reps X.K H ds vs->bj vs us->us.any (jA X.K H es x)=ds.any λd=>cK d x
 |[],_,_,_,h,q=>by
  rw[Reps.nil_iff.mp h]at q;cases q;rfl
 |d::ds,_,_,hm,h,q=>by
  obtain⟨v,r,rfl,h1,h2⟩:=aA.mp h;cases q with
  |cons q1 q2=>
   rw[List.any_cons,List.any_cons,xu I se (hm d List.mem_cons_self) h1 q1,iT I se (λx hx=>hm x (List.mem_cons_of_mem _ hx)) h2 q2]
theorem gG{pins:List (Addr×Obj)}{σ:L2.St}{H:Hp}{s:Shared}(I:Inv X pins σ H s)(hu:X.A.units+64<cLine){x:D}{v:V}{u:Value}(sx:aT 40 x=true)(rx:Rep X.K H x v)(qx:bb v u){es:ac}(se:es.all (aT 40)=true):∀{ds:ac}{vs:al}{us:List Value},(∀d∈ds,d∈es)->Reps X.K H ds vs->bj vs us->∀y∈us,SeqAt.EqAt X.A.in1 s y u (jA X.K H es x y)
 |[],_,_,_,h,q=>λy hy=>by
  rw[Reps.nil_iff.mp h]at q;cases q;cases hy
 |d::ds,_,_,hm,h,q=>λy hy=>by
  obtain⟨w,r,rfl,h1,h2⟩:=aA.mp h;cases q with
  |cons q1 q2=>
   rcases List.mem_cons.mp hy with rfl|hy
   .rw[xu I se (hm d List.mem_cons_self) h1 q1]
    exact(F8 I 40 X.A.in1 (by show X.A.units+1+40<cLine;omega) d x w v _ u (List.all_eq_true.mp se _ (hm d List.mem_cons_self)) sx h1 rx q1 qx).2.1
   .exact gG I hu sx rx qx se (λx hx=>hm x (List.mem_cons_of_mem _ hx)) h2 q2 y hy
def Gx(hu:X.A.units+64<cLine):fL X (compareOp .In) (vc X.K false):=by
 intro pins s σ H x y v u Q I rx ry h;obtain⟨d,ds,h1,h2,s1,s2,q⟩:=h;rcases h2 with h2|h2
 .obtain⟨a,vs,its,rfl,rfl,k1,k2,k3,k4,k5⟩:=aV I h2 ry
  refine SeqAt.in_listAt (jA X.K H ds d) k4 (λw hw=>gG I hu s1 h1 rx s2 (λ_ z=>z) k2 k3 w (by simpa using hw)) ⟨.bl _,H,I,rfl,?_⟩;rw[show its.toArray.any (jA X.K H ds d)=its.any (jA X.K H ds d) by simp,iT I s2 (λ_ z=>z) k2 k3];exact q
 .obtain⟨a,vs,its,rfl,rfl,k1,k2,k3,k4,k5⟩:=aW I h2 ry
  refine SeqAt.in_tupleAt (jA X.K H ds d) k4 (λw hw=>gG I hu s1 h1 rx s2 (λ_ z=>z) k2 k3 w (by simpa using hw)) ⟨.bl _,H,I,rfl,?_⟩;rw[show its.toArray.any (jA X.K H ds d)=its.any (jA X.K H ds d) by simp,iT I s2 (λ_ z=>z) k2 k3];exact q
def yk(hu:X.A.units+64<cLine):fL X (compareOp .NotIn) (vc X.K true):=by
 intro pins s σ H x y v u Q I rx ry h;obtain⟨d,ds,h1,h2,s1,s2,q⟩:=h;rcases h2 with h2|h2
 .obtain⟨a,vs,its,rfl,rfl,k1,k2,k3,k4,k5⟩:=aV I h2 ry
  refine SeqAt.notIn_listAt (jA X.K H ds d) k4 (λw hw=>gG I hu s1 h1 rx s2 (λ_ z=>z) k2 k3 w (by simpa using hw)) ⟨.bl _,H,I,rfl,?_⟩;rw[show its.toArray.any (jA X.K H ds d)=its.any (jA X.K H ds d) by simp,iT I s2 (λ_ z=>z) k2 k3];exact q
 .obtain⟨a,vs,its,rfl,rfl,k1,k2,k3,k4,k5⟩:=aW I h2 ry
  refine SeqAt.notIn_tupleAt (jA X.K H ds d) k4 (λw hw=>gG I hu s1 h1 rx s2 (λ_ z=>z) k2 k3 w (by simpa using hw)) ⟨.bl _,H,I,rfl,?_⟩;rw[show its.toArray.any (jA X.K H ds d)=its.any (jA X.K H ds d) by simp,iT I s2 (λ_ z=>z) k2 k3];exact q
def Kn(i j:Str):Bool:=!(Builtin.Str.occurrences j i 0 j.length 1).isEmpty
noncomputable def A4(x y:D):Option Bool:=match y with
 |.lst ds=>if aT 40 x=true/\ds.all (aT 40)=true then some (ds.any λd=>cK d x) else none
 |.tup ds=>if aT 40 x=true/\ds.all (aT 40)=true then some (ds.any λd=>cK d x) else none
 |.str j=>match x with
  |.str i=>some (Kn i j)
  |_=>none
 |_=>none
def oY(x y:D):ao D:=match A4 x y with
 |some b=>.ok (.bl b)
 |none=>.stuck
def dq(x y:D):ao D:=match A4 x y with
 |some b=>.ok (.bl (!b))
 |none=>.stuck
def Ak(neg:Bool):R2:=λx y H Q=>∃i j,x=.str i/\y=.str j/\Q (.bl (if neg then !(Kn i j) else Kn i j)) H
def pA(hu:X.A.units+64<cLine):fL X (compareOp .In) (λv u H Q=>vc X.K false v u H Q∨Ak false v u H Q):=fL.or (Gx hu) (by
 intro pins s σ H x y v u Q I rx ry h;obtain⟨i,j,rfl,rfl,q⟩:=h;exact ym pins s σ H _ _ v u Q I rx ry ⟨i,j,rfl,rfl,q⟩)
def jY(hu:X.A.units+64<cLine):fL X (compareOp .NotIn) (λv u H Q=>vc X.K true v u H Q∨Ak true v u H Q):=fL.or (yk hu) (by
 intro pins s σ H x y v u Q I rx ry h;obtain⟨i,j,rfl,rfl,q⟩:=h;exact qJ pins s σ H _ _ v u Q I rx ry ⟨i,j,rfl,rfl,q⟩)
def tj{neg:Bool}{x y:D}{v u:V}{H Ha:Hp}{Q:VK}(hs:aE Ha H)(r1:Rep X.K Ha x v)(r2:Rep X.K Ha y u)
  (q:post X.K E H Ha (match A4 x y with|some b=>.ok (.bl (if neg then !b else b))|none=>.stuck) Q):vc X.K neg v u H Q∨Ak neg v u H Q:=by
 cases y with
 |lst ds=>
  simp only[A4]at q
  by_cases c:aT 40 x=true/\ds.all (aT 40)=true
  .rw[if_pos c]at q
   exact .inl ⟨x,ds,r1.mono hs,.inl (r2.mono hs),c.1,c.2,q _ H Ha (aZ.refl hs) (aF.mpr rfl)⟩
  .rw[if_neg c]at q;exact q.elim
 |tup ds=>
  simp only[A4]at q
  by_cases c:aT 40 x=true/\ds.all (aT 40)=true
  .rw[if_pos c]at q
   exact .inl ⟨x,ds,r1.mono hs,.inr (r2.mono hs),c.1,c.2,q _ H Ha (aZ.refl hs) (aF.mpr rfl)⟩
  .rw[if_neg c]at q;exact q.elim
 |str j=>
  cases x with|str i=>exact .inr ⟨i,j,Rep.str_iff.mp r1,Rep.str_iff.mp r2,q _ H Ha (aZ.refl hs) (aF.mpr rfl)⟩| _=>exact q.elim
 |_=>exact q.elim
def pB:uM X.K E (λv u H Q=>vc X.K false v u H Q∨Ak false v u H Q) oY:=λx y v u H Ha Q hs r1 r2 q=>tj (neg:=false) (E:=E) hs r1 r2 (by
 unfold oY at q;cases e:A4 x y with
 |none=>rw[e]at q;exact q
 |some b=>rw[e]at q;exact q)
def j6:uM X.K E (λv u H Q=>vc X.K true v u H Q∨Ak true v u H Q) dq:=λx y v u H Ha Q hs r1 r2 q=>tj (neg:=true) (E:=E) hs r1 r2 (by
 unfold dq at q;cases e:A4 x y with
 |none=>rw[e]at q;exact q
 |some b=>rw[e]at q;exact q)
end
@[irreducible] def B9:Nat:=2 ^ 9000
@[irreducible] def uK:Nat:=2 ^ 13500
@[irreducible] def wo:Nat:=2 ^ 60000
theorem FC:B9=2 ^ 9000:=by unfold B9;rfl
def rM:uK=2 ^ 13500:=by unfold uK;rfl
def wm:wo=2 ^ 60000:=by unfold wo;rfl
def m6{n k:Nat}(h:n<2 ^ k)(hk:0<k):n.log2<k:=by
 by_cases h0:n=0
 .rw[h0]
  have:Nat.log2 0=0:=by decide
  omega
 .exact(Nat.log2_lt h0).mpr h
def Jm{x y:Int}(h:y.natAbs<B9):Builtin.divisionGoesByPylong x y=false:=by
 rw[FC]at h;exact PyProof.noPylong_of_log2 (m6 h (by omega))
def GA{x y:Int}(h:x.natAbs<uK):Builtin.divisionGoesByPylong x y=false:=by
 rw[rM]at h;have hx:x.natAbs.log2<13500:=m6 h (by omega);show(decide ((if y==0 then 0 else y.natAbs.log2 / 30+1) > 300)&&decide ((if x==0 then 0 else x.natAbs.log2 / 30+1) > (if y==0 then 0 else y.natAbs.log2 / 30+1)+150))=false;have k:(if x==0 then 0 else x.natAbs.log2 / 30+1)<=450:=by
  by_cases hx0:(x==0)=true
  .rw[if_pos hx0];omega
  .rw[if_neg hx0];omega
 by_cases c:(if y==0 then 0 else y.natAbs.log2 / 30+1) > 300
 .rw[Bool.and_eq_false_iff];right;exact decide_eq_false (by omega)
 .rw[Bool.and_eq_false_iff];left;exact decide_eq_false c
def fD(i j:Int):Bool:=decide (j≠0)&&(decide (j.natAbs<B9)||decide (i.natAbs<uK))
def dS(i j:Int):Bool:=decide (i.natAbs<wo)&&decide (j.natAbs<wo)
def fD.ok{i j:Int}(h:fD i j=true):j≠0/\Builtin.divisionGoesByPylong i j=false:=by
 unfold fD at h;rw[Bool.and_eq_true,Bool.or_eq_true]at h;refine⟨of_decide_eq_true h.1,?_⟩;rcases h.2 with h|h
 .exact Jm (of_decide_eq_true h)
 .exact GA (of_decide_eq_true h)
def dS.ok{i j:Int}(h:dS i j=true):IntMulOk i j:=by
 unfold dS at h;rw[Bool.and_eq_true]at h;have h1:=of_decide_eq_true h.1;have h2:=of_decide_eq_true h.2;rw[wm]at h1 h2;exact PyProof.Rows.mulOk_of_bits (m:=60000) (n:=60000) (PySem.intBits_le_iff.mpr h1) (PySem.intBits_le_iff.mpr h2) (by decide)
section
variable {X:Cx}{E:XK}{e a b c:Expr}{es:List Expr}{f g k:am}{fa:Ev->ao (ac)}{pos:Pos}
def bE{K:W.Frag}{H Ha:Hp}{d:D}{v:V}{Q:VK}(hs:aE Ha H)(q:post K E H Ha (.ok d) Q)(r:Rep K Ha d v):Q v H:=q v H Ha (aZ.refl hs) r
def tM(c:Int->Int->Bool)(g:Int->Int->D)(x y:D):ao D:=match x,y with
 |.int i,.int j=>if c i j=true then .ok (g i j) else .stuck
 |_,_=>.stuck
def vq{C:Int->Int->Prop}{c:Int->Int->Bool}{gv:Int->Int->V}{g:Int->Int->D}(hc:∀i j,c i j=true->C i j)(hg:∀K H i j,Rep K H (g i j) (gv i j)):uM X.K E (rI C gv) (tM c g):=by
 intro x y v u H Ha Q hs r1 r2 q;unfold tM at q;cases x with
 |int i=>
  cases y with
  |int j=>
   by_cases h:c i j=true
   .simp only[if_pos h]at q
    exact⟨i,j,ay.mp r1,ay.mp r2,hc i j h,bE hs q (hg _ _ i j)⟩
   .simp only[if_neg h]at q;exact q.elim
  |_=>exact q.elim
 |_=>exact q.elim
def dR{gv:Int->Int->V}{g:Int->Int->D}(hg:∀K H i j,Rep K H (g i j) (gv i j)):uM X.K E (CL gv) (tM (λ_ _=>true) g):=by
 intro x y v u H Ha Q hs r1 r2 q;unfold tM at q;cases x with
 |int i=>
  cases y with|int j=>simp only[if_pos]at q;exact⟨i,j,ay.mp r1,ay.mp r2,bE hs q (hg _ _ i j)⟩| _=>exact q.elim
 |_=>exact q.elim
def ri{K:W.Frag}{H:Hp}(n:Int):Rep K H (.int n) (.int n):=ay.mpr rfl
def rb{K:W.Frag}{H:Hp}(n:Bool):Rep K H (.bl n) (.bl n):=aF.mpr rfl
abbrev fM:=tM (λ_ _=>true) λi j=>.int (i-j)
abbrev k7:=tM fD λi j=>.int (i.fdiv j)
abbrev bR:=tM (λ_ j=>decide (j≠0)) λi j=>.int (i.fmod j)
abbrev yX:=tM (λi j=>decide (0<=j)&&decide (j<=1000000)&&decide (i.natAbs<18446744073709551616)) λi j=>.int (i ^ j.toNat)
abbrev Ll:=tM (λ_ _=>true) λi j=>.bl (decide (i<j))
abbrev Ic:=tM (λ_ _=>true) λi j=>.bl (decide (i<=j))
abbrev B6:=tM (λ_ _=>true) λi j=>.bl (decide (j<i))
abbrev Kr:=tM (λ_ _=>true) λi j=>.bl (decide (j<=i))
def De:fL X (binaryOp .Mult) (rI IntMulOk λi j=>.int (i*j)):=Km λ_ _ _ _ _ _ _ hc q=>mul_int q hc
def Dg:fL X (binaryOp .FloorDiv) (rI (λi j=>j≠0/\Builtin.divisionGoesByPylong i j=false) λi j=>.int (i.fdiv j)):=Km λ_ _ _ _ _ _ _ hc q=>floordiv_int hc.1 q (.inl hc.2)
def kY(ha:DE X E a f)(hb:DE X E b g):DE X E (.BinOp a .Sub b pos) (aa f g fM):=pQ Gu (dR λ_ _ _ _=>ri _) ha hb
def vY(ha:DE X E a f)(hb:DE X E b g):DE X E (.BinOp a .FloorDiv b pos) (aa f g k7):=pQ Dg (vq (λ_ _ h=>fD.ok h) λ_ _ _ _=>ri _) ha hb
def bQ(ha:DE X E a f)(hb:DE X E b g):DE X E (.BinOp a .Mod b pos) (aa f g bR):=pQ Df (vq (λ_ _ h=>of_decide_eq_true h) λ_ _ _ _=>ri _) ha hb
def vW(ha:DE X E a f)(hb:DE X E b g):DE X E (.BinOp a .Pow b pos) (aa f g yX):=pQ Gw (vq (λi j h=>by
 rw[Bool.and_eq_true,Bool.and_eq_true]at h;exact⟨of_decide_eq_true h.1.1,of_decide_eq_true h.1.2,of_decide_eq_true h.2⟩) λ_ _ _ _=>ri _) ha hb
def nm{op:CmpOp}{b:Expr}(h1:op≠.In:=by decide)(h2:op≠.NotIn:=by decide):behindInMarks op b=false:=AJ _ h1 h2
def ro(x:D):ao D:=match x with
 |.int i=>.ok (.int (-i))
 |_=>.stuck
def HJ(ha:DE X E a f):DE X E (.UnaryOp .USub a pos) (bc f ro):=JZ FL (by
 intro x v H Ha Q hs r q;cases x with
 |int i=>exact⟨i,ay.mp r,bE hs q (ri _)⟩
 |_=>exact q.elim) ha
def wU:fL X (binaryOp .Add) (λx y H Q=>∃l b xs zs,x=.ref l/\y=.ref b/\eh X.K H l xs/\eh X.K H b zs/\xs.length+zs.length<=sizeLine/\∀p,H p=none->Q (.ref p) (upd H p (.lst (xs++zs)))):=by
 intro pins s σ H x y v u Q I rx ry h;obtain⟨l,b,xs,zs,rfl,rfl,hH,hB,hz,q⟩:=h;cases rx;cases ry;obtain⟨its,r,pl,z⟩:=I.list hH;obtain⟨its2,r2,pl2,z2⟩:=I.list hB;obtain⟨⟨cls,dd,data,sl⟩,ho,hc,n,hd⟩:=pl.isList;obtain⟨⟨cls2,dd2,data2,sl2⟩,ho2,hc2,n2,hd2⟩:=pl2.isList;simp only at hc hd hc2 hd2;subst hc hd hc2 hd2;have e:its.toArray++its2.toArray=(its++its2).toArray:=by simp
 have l1:=r.length;have l2:=r2.length;refine concat_meets ⟨_,ho,rfl⟩ ⟨_,ho2,rfl⟩ noFill_list_add seq_list_add PySem.F.slot_list_add PySem.F.entry_list_add (PySem.F.args_list_add_2 _ _) (list_addW l b its.toArray its2.toArray n n2 dd dd2 sl sl2 (by simp only[List.size_toArray];omega)) ⟨ho,ho2,?_⟩;rw[e];exact⟨.ref _,_,I.lnew (t':=s.toks) (r.append r2) (by rw[List.length_append];omega),rfl,q _ I.fresh⟩
noncomputable def bo(x y:D):ao D:=match x,y with
 |.int i,.int j=>.ok (.int (i+j))
 |.str i,.str j=>if i.length+j.length<=line then .ok (.str (i++j)) else .stuck
 |.lst ds,.lst es=>if ds.length+es.length<=line then .ok (.lst (ds++es)) else .stuck
 |.tup ds,.tup es=>if ds.isEmpty=false/\ds.length+es.length<=line then .ok (.tup (ds++es)) else .stuck
 |_,_=>.stuck
def bz(ha:DE X E a f)(hb:DE X E b g):DE X E (.BinOp a .Add b pos) (aa f g bo):=pQ (fL.or Gy (fL.or vo (fL.or wU Dh))) (by
 intro x y v u H Ha Q hs r1 r2 q;unfold bo at q;cases x with
 |int i=>
  cases y with|int j=>exact .inl ⟨i,j,ay.mp r1,ay.mp r2,bE hs q (ri _)⟩| _=>exact q.elim
 |str i=>
  cases y with
  |str j=>
   by_cases h:i.length+j.length<=line
   .simp only[if_pos h]at q
    exact .inr (.inl ⟨i,j,Rep.str_iff.mp r1,Rep.str_iff.mp r2,cO h,bE hs q (Rep.str_iff.mpr rfl)⟩)
   .simp only[if_neg h]at q;exact q.elim
  |_=>exact q.elim
 |lst ds=>
  cases y with
  |lst es=>
   by_cases h:ds.length+es.length<=line
   .simp only[if_pos h]at q
    obtain⟨l,vs,rfl,h1,h2⟩:=aC.mp r1;obtain⟨m,us,rfl,k1,k2⟩:=aC.mp r2;refine .inr (.inr (.inl ⟨l,m,vs,us,rfl,rfl,aE.sqL hs h1,aE.sqL hs k1,by rw[←h2.length,←k2.length];exact cO h,λp hp=>?_⟩));exact q _ _ _ (aR hs hp) (aC.mpr ⟨p,_,rfl,eh.of aG,(h2.app k2).mono (aR hs hp).z⟩)
   .simp only[if_neg h]at q;exact q.elim
  |_=>exact q.elim
 |tup ds=>
  cases y with
  |tup es=>
   by_cases h:ds.isEmpty=false/\ds.length+es.length<=line
   .simp only[if_pos h]at q
    obtain⟨l,vs,rfl,h1,h2⟩:=aH.mp r1;obtain⟨m,us,rfl,k1,k2⟩:=aH.mp r2;refine .inr (.inr (.inr ⟨l,m,vs,us,rfl,rfl,aE.sqT hs h1,aE.sqT hs k1,λz=>?_,by rw[←h2.length,←k2.length];exact cO h.2,λz=>?_,λz p hp=>?_⟩))
    .have:=h2.length
     rw[z]at this;have e:ds=[]:=List.length_eq_zero_iff.mp this;rw[e]at h;exact absurd h.1 (by decide)
    .have:=k2.length
     rw[z]at this;have e:es=[]:=List.length_eq_zero_iff.mp this;rw[e,List.append_nil]at q;exact bE hs q r1
    .exact q _ _ _ (aR hs hp) (aH.mpr ⟨p,_,rfl,ip.of aG,(h2.app k2).mono (aR hs hp).z⟩)
   .simp only[if_neg h]at q;exact q.elim
  |_=>exact q.elim
 |_=>exact q.elim) ha hb
noncomputable def aD(x y:D):ao D:=match y with
 |.int i=>match x with
  |.lst ds=>match atI ds i with
   |some d=>.ok d
   |none=>.stuck
  |.tup ds=>match atI ds i with
   |some d=>.ok d
   |none=>.stuck
  |.str z=>if z.length<=line then match atI z.cps.toList i with
   |some c=>.ok (.str ⟨#[c]⟩)
   |none=>.stuck else .stuck
  |_=>.stuck
 |_=>.stuck
def Reps.atI{K:W.Frag}{H:Hp}{ds:ac}{vs:al}{i:Int}{d:D}(h:Reps K H ds vs)(e:atI ds i=some d):∃v,L2.atI vs i=some v/\Rep K H d v:=by
 unfold L2.atI at e ⊢;rw[←h.length];cases q:Dw ds.length i with
 |none=>rw[q]at e;cases e
 |some j=>
  rw[q]at e;exact h.get e
def Jk:uM X.K E (LF X.K) aD:=by
 intro x y v u H Ha Q hs r1 r2 q;unfold aD at q;cases y with
 |int i=>
  cases x with
  |lst ds=>
   obtain⟨l,vs,rfl,h1,h2⟩:=aC.mp r1;cases e:atI ds i with
   |none=>simp only[e]at q;exact q.elim
   |some d=>
    simp only[e]at q;obtain⟨w,e1,e2⟩:=h2.atI e;exact .inl ⟨l,vs,i,w,rfl,ay.mp r2,aE.sqL hs h1,e1,bE hs q e2⟩
  |tup ds=>
   obtain⟨l,vs,rfl,h1,h2⟩:=aH.mp r1;cases e:atI ds i with
   |none=>simp only[e]at q;exact q.elim
   |some d=>
    simp only[e]at q;obtain⟨w,e1,e2⟩:=h2.atI e;exact .inr (.inl ⟨l,vs,i,w,rfl,ay.mp r2,aE.sqT hs h1,e1,bE hs q e2⟩)
  |str z=>
   by_cases hz:z.length<=line
   .simp only[if_pos hz]at q
    cases e:atI z.cps.toList i with
    |none=>simp only[e]at q;exact q.elim
    |some c=>
     simp only[e]at q;exact .inr (.inr ⟨z,i,c,Rep.str_iff.mp r1,ay.mp r2,cO hz,e,bE hs q (Rep.str_iff.mpr rfl)⟩)
   .simp only[if_neg hz]at q;exact q.elim
  |_=>exact q.elim
 |_=>exact q.elim
def aj(ha:DE X E a f)(hb:DE X E b g)(hs:kC b:=by intro _ _;rfl):DE X E (.Subscript a b pos) (aa f g aD):=J1 GJ Jk ha hb hs
def dA:Ev->ao (Option Int):=λ_=>.ok none
def bM(f:am):Ev->ao (Option Int):=λρ=>(f ρ).bind λx=>match x with
 |.int i=>.ok (some i)
 |_=>.stuck
def K0(K:W.Frag)(E:XK)(f:Ev->ao (Option Int)):TO:=λσ H Q=>∃Ha ρ,aE Ha H/\et K Ha σ ρ/\match f ρ with
 |.ok o=>∀H' Ha',aZ H Ha H' Ha'->Q o H'
 |.exn x=>∀C ox H' Ha',aZ H Ha H' Ha'->rO K Ha' x C ox->E C ox H'
 |.stuck=>False
structure DO (X:Cx) (E:XK) (e:Option Expr) (f:Ev->ao (Option Int)):Prop where
 o:PO X e (K0 X.K E f)
def wM{eo:Option Expr}{t t':TO}(h:PO X eo t)(w:∀σ H Q,t' σ H Q->t σ H Q):PO X eo t':=λpins s σ H Q I q=>h pins s σ H Q I (w σ H Q q)
def eW:DO X E none dA:=⟨wM CW λσ H Q ⟨Ha,ρ,hs,hr,q⟩=>q H Ha (aZ.refl hs)⟩
def cp(ha:DE X E a f):DO X E (some a) (bM f):=by
 refine⟨?_⟩;refine wM (CV ha.o) λσ H Q z9=>?_;obtain⟨Ha,ρ,hs,hr,q⟩:=z9;refine⟨Ha,ρ,hs,hr,?_⟩
 unfold bM at q;cases e1:f ρ with
 |stuck|exn x=>rw[e1]at q;exact q
 |ok d=>
  rw[e1]at q;intro v H1 H01 g1 r1;cases d with|int i=>exact⟨i,ay.mp r1,q H1 H01 g1⟩| _=>exact q.elim
def fZ(xs:ac)(lo hi:Option Int):ac:=(xs.drop (HT.sIx xs.length 0 lo)).take (HT.sIx xs.length xs.length hi-HT.sIx xs.length 0 lo)
def Reps.cut{K:W.Frag}{H:Hp}{ds:ac}{vs:al}(h:Reps K H ds vs)(lo hi:Option Int):Reps K H (fZ ds lo hi) (uo vs lo hi):=by
 unfold fZ uo;rw[←h.length];exact(h.drop _).take _
def sH{r:V->Option Int->Option Int->Hp->VK->Prop}{lo hi:Ev->ao (Option Int)}{m:D->Option Int->Option Int->ao D}
  (ho:∀x v l h H Ha Q,aE Ha H->Rep X.K Ha x v->post X.K E H Ha (m x l h) Q->r v l h H Q)(σ:L2.St)(H:Hp)(Q:VK)
  (h:tD X.K E (λρ=>(f ρ).bind λx=>(lo ρ).bind λl=>(hi ρ).bind λh=>m x l h) σ H Q):Lw r (tD X.K E f) (K0 X.K E lo) (K0 X.K E hi) σ H Q:=by
 obtain⟨Ha,ρ,hs,hr,q⟩:=h;refine⟨Ha,ρ,hs,hr,?_⟩;replace q:post X.K E H Ha ((f ρ).bind λx=>(lo ρ).bind λl=>(hi ρ).bind λh=>m x l h) Q:=q;cases e1:f ρ with
 |stuck|exn x=>rw[e1]at q;exact q
 |ok x=>
  rw[e1]at q;intro v H1 H01 g1 r1;refine⟨H01,ρ,g1.sub,hr.mono g1.z,?_⟩;replace q:post X.K E H Ha ((lo ρ).bind λl=>(hi ρ).bind λh=>m x l h) Q:=q;replace q:=q.grow g1;cases e2:lo ρ with
  |stuck|exn x=>rw[e2]at q;exact q
  |ok l=>
   rw[e2]at q;intro H2 H02 g2;refine⟨H02,ρ,g2.sub,(hr.mono g1.z).mono g2.z,?_⟩;replace q:post X.K E H1 H01 ((hi ρ).bind λh=>m x l h) Q:=q;replace q:=q.grow g2;cases e3:hi ρ with
   |stuck|exn x=>rw[e3]at q;exact q
   |ok h=>
    rw[e3]at q;intro H3 H03 g3;exact ho x v l h H3 H03 Q g3.sub ((r1.mono g2.z).mono g3.z) (post.grow (r:=m x l h) q g3)
def m1(m:D->ao D)(ds:ac):ao D:=match ds with
 |[x]=>m x
 |_=>.stuck
def xF{r:al->Hp->VK->Prop}{m:D->ao D}(h:∀x v H Ha Q,aE Ha H->Rep X.K Ha x v->post X.K E H Ha (m x) Q->r [v] H Q):oz X E r (m1 m):=by
 intro ds vs H Ha Q hs hr q;unfold m1 at q
 match ds,hr,q with
 |[x],hr,q=>
  obtain⟨v,r',rfl,h1,h2⟩:=aA.mp hr;rw[Reps.nil_iff.mp h2];exact h x v H Ha Q hs h1 q
 |[],_,q=>exact q.elim
 |_::_::_,_,q=>exact q.elim
def rA(x:D):ao D:=match x with
 |.int i=>.ok (.int (if i<0 then -i else i))
 |_=>.stuck
def cN(x:D):ao D:=match x with
 |.lst ds=>.ok (.int ds.length)
 |.tup ds=>.ok (.int ds.length)
 |.str z=>if z.length<=line then .ok (.int z.length) else .stuck
 |_=>.stuck
def dH(x:D):ao D:=match x with
 |.int i=>.ok (.int i)
 |.bl b=>.ok (.int (if b then 1 else 0))
 |_=>.stuck
def nV:oz X E (λxs H Q=>∃i,xs=[.int i]/\Q (.int (if i<0 then -i else i)) H) (m1 rA):=xF λx v H Ha Q hs r q=>by
 cases x with|int i=>exact⟨i,by rw[ay.mp r],bE hs q (ri _)⟩| _=>exact q.elim
def bS:oz X E (λxs H Q=>∃x n,xs=[x]/\Ka X.K x H n/\Q (.int n) H) (m1 cN):=xF λx v H Ha Q hs r q=>by
 cases x with
 |lst ds=>
  obtain⟨p,vs,rfl,h1,h2⟩:=aC.mp r;refine⟨_,vs.length,rfl,.inl ⟨vs,aE.sqL hs h1,rfl⟩,?_⟩;rw[←h2.length];exact bE hs q (ri _)
 |tup ds=>
  obtain⟨p,vs,rfl,h1,h2⟩:=aH.mp r;refine⟨_,vs.length,rfl,.inr ⟨vs,aE.sqT hs h1,rfl⟩,?_⟩;rw[←h2.length];exact bE hs q (ri _)
 |str z=>
  unfold cN at q
  by_cases hz:z.length<=line
  .simp only[if_pos hz]at q
   rw[Rep.str_iff.mp r];exact⟨_,z.length,rfl,⟨cO hz,rfl⟩,bE hs q (ri _)⟩
  .simp only[if_neg hz]at q;exact q.elim
 |_=>exact q.elim
def rB:oz X E (λxs H Q=>(∃i,xs=[.int i]/\Q (.int i) H)∨∃k,xs=[.bl k]/\Q (.int (if k then 1 else 0)) H) (m1 dH):=xF λx v H Ha Q hs r q=>by
 cases x with|int i=>exact .inl ⟨i,by rw[ay.mp r],bE hs q (ri _)⟩|bl i=>exact .inr ⟨i,by rw[aF.mp r],bE hs q (ri _)⟩| _=>exact q.elim
def kh{T:String}{r:al->Hp->VK->Prop}{m:ac->ao D}{x:Str}{p:Pos}(hc:iX X (.type T) r)(hd:oz X E r m)(hg:Gl X x)(hm:X.mg x=none)(hv:bootBuiltins x=some (.type T))(ha:DA X E (e::es) fa)(hn:x≠"__name__":=by decide)(hdb:(x==("__debug__":Str))=false:=by decide)
  (he:starEach (e::es) X.env=(false,eval e X.env)::starEach es X.env:=by exact aI rfl)(hpl:(backTo pos (starEach es X.env)).any (·.1)=false:=by exact bp rfl):DE X E (.Call (.Name x p) (e::es) [] pos) (aq fa m) :=
 ⟨aU (yi hc hg hm hv ha.o hn hdb he hpl) (jx hd)⟩
def A2:D->Bool
 |.non=>true
 |_=>false
def oX(x y:D):ao D:=match y with
 |.non=>.ok (.bl (A2 x))
 |_=>.stuck
def xB(x y:D):ao D:=match y with
 |.non=>.ok (.bl (!(A2 x)))
 |_=>.stuck
def Rep.is_non{K:W.Frag}{H:Hp}{x:D}{v:V}(r:Rep K H x v):decide (v=.non)=A2 x:=by
 cases x with|non=>rw[aJ.mp r];rfl|bl b=>rw[aF.mp r];rfl|int b=>rw[ay.mp r];rfl|str b=>rw[Rep.str_iff.mp r];rfl|tup ds=>obtain⟨_,_,e,_⟩:=aH.mp r;rw[e];rfl|lst ds=>obtain⟨_,_,e,_⟩:=aC.mp r;rw[e];rfl|dic ks ds=>rw[Rep]at r;obtain⟨_,_,_,e,_⟩:=r;rw[e];rfl|exc x=>obtain⟨_,_,_,e,_⟩:=dN.mp r;rw[e];rfl|ob k x=>obtain⟨_,_,e,_⟩:=cb.mp r;rw[e];rfl
def vp:uM X.K E (λx y H Q=>y=.non/\Q (.bl (decide (x=.non))) H) oX:=by
 intro x y v u H Ha Q hs r1 r2 q;unfold oX at q;cases y with|non=>exact⟨aJ.mp r2,by rw[r1.is_non];exact bE hs q (rb _)⟩| _=>exact q.elim
def Dj:uM X.K E (λx y H Q=>y=.non/\Q (.bl (!decide (x=.non))) H) xB:=by
 intro x y v u H Ha Q hs r1 r2 q;unfold xB at q;cases y with
 |non=>
  refine⟨aJ.mp r2,?_⟩;rw[r1.is_non];exact bE hs q (rb _)
 |_=>exact q.elim
noncomputable def rN:D->String
 |.non=>"NoneType"
 |.bl _=>"bool"
 |.int _=>"int"
 |.str _=>"str"
 |.tup _=>"tuple"
 |.lst _=>"list"
 |.dic _ _=>"dict"
 |.exc _=>"<exc>"
 |.ob (.ins _ _) _=>"<exc>"
 |.ob (.dint _) _=>"dict"
 |.ob (.exf _ _) _=>"<exc>"
 |.ob .pl _=>"list"
def du(T:String)(x:D):ao D:=.ok (.bl (rN x==T||(rN x=="bool"&&T=="int")))
def iW(K:W.Frag)(T:String):Prop:=∀S,S∈["NoneType","bool","int","str","tuple","list","dict"]->W.kitOne K (.type S) (.type T)=some (S==T||(S=="bool"&&T=="int"))
def A0{pins:List (Addr×Obj)}{σ:L2.St}{H:Hp}{s:Shared}{A:Around}{Q:Value->Shared->Prop}{x:D}{v:V}{u:Value}{T:String}(I:Inv X pins σ H s)(r:Rep X.K H x v)(q:bb v u)(hk:iW X.K T)(hT:T∈eO)(h:∀tk,Q (.bool (rN x==T||(rN x=="bool"&&T=="int"))) { s with toks:=tk }) :
  wpAny (model X.prog X.w) A (call (.builtin "isinstance") [u,.type T]) Q X.xe s:=by
 cases x with
 |non=>rw[aJ.mp r]at q;exact gB I q .non (hk _ (by simp)) h|bl b=>rw[aF.mp r]at q;exact gB I q (.bl b) (hk _ (by simp)) h|int b=>rw[ay.mp r]at q;exact gB I q (.int b) (hk _ (by simp)) h|str b=>rw[Rep.str_iff.mp r]at q;exact gB I q (.str b) (hk _ (by simp)) h
 |tup ds=>
  obtain⟨a,vs,its,rfl,rfl,h1,h2,h3,h4,_⟩:=aW I r q;obtain⟨o,k1,k2,_⟩:=h4;exact W.kia_one W.kitx_tuple I.kIn ⟨o,k1,k2⟩ (hk _ (by simp)) (λz=>nomatch z) h
 |lst ds=>
  obtain⟨a,vs,its,rfl,rfl,h1,h2,h3,h4,_⟩:=aV I r q;obtain⟨o,k1,k2,_⟩:=h4;exact W.kia_one W.kitx_list I.kIn ⟨o,k1,k2⟩ (hk _ (by simp)) (λz=>nomatch z) h
 |dic ks ds=>
  rw[Rep]at r;obtain⟨a,kvs,vs,rfl,h1,h2,_⟩:=r;cases (show u=Value.ref a from q);obtain⟨_,_,vs',_,p⟩:=h1.ok I.hok;obtain⟨o,es,ep,k1,k2,_⟩:=p;exact W.kia_one W.kitx_dict I.kIn ⟨o,k1,k2.1⟩ (hk _ (by simp)) (λz=>nomatch z) h
 |exc x=>
  obtain⟨a,C,dc,rfl,hc,h1⟩:=dN.mp r;cases (show u=Value.ref a from q);obtain⟨p,_,_⟩:=h1.ok I.hok;have e:(rN (.exc x)==T||(rN (.exc x)=="bool"&&T=="int"))=false:=by
   have:∀T∈eO,(rN (.exc x)==T||(rN (.exc x)=="bool"&&T=="int"))=false:=by show ∀T∈eO,("<exc>"==T||("<exc>"=="bool"&&T=="int"))=false;decide
   exact this T hT
  rw[e]at h;exact W.kia_one (j8 hc.ek hc.ek.isCls) I.kIn p (hc.bt T hT) (λz=>nomatch z) h
 |ob k xs=>
  obtain⟨a,vs,rfl,h1,_⟩:=cb.mp r;cases (show u=Value.ref a from q);cases k with
  |exf c ks=>
   obtain⟨C,dx,fs,hc,h2,_⟩:=h1;obtain⟨p,_,_⟩:=h2.ok I.hok;have e:(rN (.ob (.exf c ks) xs)==T||(rN (.ob (.exf c ks) xs)=="bool"&&T=="int"))=false:=by
    have:∀T∈eO,("<exc>"==T||("<exc>"=="bool"&&T=="int"))=false:=by decide
    exact this T hT
   rw[e]at h;exact W.kia_one (j8 hc.ek hc.ek.isCls) I.kIn p (hc.bt T hT) (λz=>nomatch z) h
  |ins c ks=>
   obtain⟨C,dx,_,hc,h2,_⟩:=h1;obtain⟨mA,O,_⟩:=xh I.hok h2;obtain⟨od,O',_⟩:=O.look;have e:(rN (.ob (.ins c ks) xs)==T||(rN (.ob (.ins c ks) xs)=="bool"&&T=="int"))=false:=by
    have:∀T∈eO,(rN (.ob (.ins c ks) xs)==T||(rN (.ob (.ins c ks) xs)=="bool"&&T=="int"))=false:=by show ∀T∈eO,("<exc>"==T||("<exc>"=="bool"&&T=="int"))=false;decide
    exact this T hT
   rw[e]at h;exact W.kia_one (W.kitx_own (hc.cls.get _) hc.cls.hd hc.gc hc.gn hc.tk hc.mo) I.kIn O' (hc.bt T hT) (λz=>nomatch z) h
  |dint ks=>
   obtain⟨kvs,h2,_⟩:=h1;obtain⟨_,_,vs',_,p⟩:=h2.ok I.hok;obtain⟨o,es,ep,k1,k2,_⟩:=p;exact W.kia_one W.kitx_dict I.kIn ⟨o,k1,k2.1⟩ (hk _ (by simp)) (λz=>nomatch z) h
  |pl=>exact gB I (show bb (.ref a) (Value.ref a) from rfl) (.lst h1) (hk _ (by simp)) h
def bw{T:String}{x:Str}{p1 p2:Pos}(hk:iW X.K T)(hgi:Gl X "isinstance")(hmi:X.mg "isinstance"=none)(hg:Gl X x)(hm:X.mg x=none)(hv:bootBuiltins x=some (.type T))(ha:DE X E a f)
  (hn:x≠"__name__":=by decide)(hdb:(x==("__debug__":Str))=false:=by decide)(hT:T∈eO:=by decide)
  (he:starEach [a,.Name x p2] X.env=(false,eval a X.env)::starEach [.Name x p2] X.env:=by exact aI rfl)(he2:starEach [.Name x p2] X.env=(false,eval (.Name x p2) X.env)::starEach [] X.env:=by exact aI rfl)(hpl:(backTo pos (starEach [.Name x p2] X.env)).any (·.1)=false:=by exact bp rfl) :
  DE X E (.Call (.Name "isinstance" p1) [a,.Name x p2] [] pos) (bc f (du T)):=by
 refine⟨?_⟩;refine aU (iI (r:=λvs H Q=>∃d v,vs=[v,.ty T]/\Rep X.K H d v/\Q (.bl (rN d==T||(rN d=="bool"&&T=="int"))) H) ?_ hgi hmi PyProof.Rows.Boot.«isinstance» (bP ha.o (bP (qH (v:=.ty T) hg hm hv rfl hn hdb) dQ he2) he) (by decide) (by decide) he hpl) λσ H Q ⟨Ha,ρ,hs,hr,q⟩=>⟨Ha,ρ,hs,hr,?_⟩
 .intro pins s σ H xs us Q I r h
  obtain⟨d,v,rfl,h1,q⟩:=h;cases r with
  |cons r1 r2=>
   cases r2 with
   |cons r3 r4=>
    cases r4;rename_i u1 u2;obtain rfl:u2=Value.type T:=r3;exact A0 I h1 r1 hk hT λtk=>⟨.bl _,H,I.tok _,rfl,q⟩
 .unfold bc at q
  cases e1:f ρ with
  |stuck|exn x=>rw[e1]at q;exact q
  |ok d=>
   rw[e1]at q;intro v H1 H01 g1 r1;exact⟨d,v,rfl,r1.mono g1.sub,q _ H1 H01 g1 (rb _)⟩
end
theorem pO{prog:Program}{w:World}{A:Around}{E:Value->Shared->Prop}{it t:Addr}{items:Array Value}(hne:t≠it):∀(n i:Nat) (s:Shared) (Q:List Value->Shared->Prop),s.heap.IsListIter it t i->s.heap.IsList t items->i+n<=items.size ->
  (∀h',h'.IsListIter it t (i+n)->Heap.SameBut it s.heap h'->Q ((items.toList.drop i).take n) { s with heap:=h' })->wpAny (model prog w) A (draw (.ref it) n) Q E s
 |0,i,s,Q,hit,_,_,hQ=>by
  show wpAny _ _ (pure []) Q E s;exact wpAny_pure (by simpa using hQ s.heap hit (Heap.SameBut.refl ..))
 |n+1,i,s,Q,hit,ht,hle,hQ=>by
  have hlt:i<items.size:=by omega
  show wpAny _ _ (pyNext (.ref it) >>= _) Q E s;refine wpAny_bind (wpAny_pyNext_list_item hit ht (x:=items[i]) (by simp[hlt]) λh₁ hit₁ hs₁=>?_);have ht₁:h₁.IsList t items:=by
   obtain⟨o,k1,k2⟩:=ht;exact⟨o,(hs₁.2 t hne).trans k1,k2⟩
  refine wpAny_bind (wpAny_holding (pO hne n (i+1) _ _ hit₁ ht₁ (by omega) λhG hit₂ hs₂=>wpAny_pure ?_));have hd:items.toList.drop i=items[i]::items.toList.drop (i+1):=by simp[List.drop_eq_getElem_cons,hlt]
  have:=hQ hG (by rw[show i+(n+1)=i+1+n by omega];exact hit₂) (hs₁.trans hs₂);rw[hd,List.take_succ_cons]at this;exact this
def kI{prog:Program}{w:World}{A:Around}{E:Value->Shared->Prop}{s:Shared}{t:Addr}{items:Array Value}{Q:List Value->Shared->Prop}(hh:A.handled=none)(ht:s.heap.IsList t items)
  (hQ:∀h',Heap.ExtBut s.heap.objs.size s.heap h'->Q items.toList { s with heap:=h' }):wpAny (model prog w) A (unpackItems (.ref t) items.size none) Q E s:=by
 have hlt:t≠s.heap.objs.size:=by obtain⟨o,ho,_⟩:=ht;exact Nat.ne_of_lt (Heap.lt_size ho)
 unfold unpackItems;refine wpAny_bind ?_
 .unfold notIterableAtAll
  refine wpAny_bind (wpAny_specialOf ht.typeIs slot_list_iter.lookup ?_);refine wpAny_pure ?_;simp only[Bool.false_eq_true,if_false];refine wpAny_bind (wpAny_holding (wpAny_pyIter_list ht ?_));have ht0:(s.heap.push { cls:=.type "list_iterator",data:=.fields #[.ref t,.int 0 0] }).IsList t items:=by
   obtain⟨o,k1,k2⟩:=ht;exact⟨o,Heap.get?_push_of_some _ k1,k2⟩
  refine wpAny_bind (wpAny_holding (pO hlt items.size 0 _ _ ⟨_,Heap.get?_push_size _ rfl,rfl,rfl⟩ ht0 (by omega) λh₁ hit₁ hs₁=>?_));have hall:List.take items.size (List.drop 0 items.toList)=items.toList:=by
   rw[List.drop_zero];exact List.take_of_length_le (by simp)
  rw[hall];rw[if_neg (by simp)];have ht₁:h₁.IsList t items:=by
   obtain⟨o,k1,k2⟩:=ht0;exact⟨o,(hs₁.2 t hlt).trans k1,k2⟩
  refine wpAny_bind (wpAny_holding (wpAny_pyNext_list_end hh hit₁ ht₁ (by simp) λhG he₂=>?_));simp only[Option.isSome_none,Bool.false_eq_true,if_false];refine wpAny_pure (hQ hG λb o hb e=>he₂ b o hb (hs₁.extBut b o hb (Heap.get?_push_of_some _ e)))
def uX(σ:L2.St):bi->al->L2.St
 |i::is,v::vs=>uX (σ.set i (some v)) is vs
 |_,_=>σ
def dk(ρ:Ev):bi->ac->Ev
 |i::is,d::ds=>dk (ρ.set i (.sh d)) is ds
 |_,_=>ρ
theorem dw.putAll{K:W.Frag}{He H0e Ha H:Hp}:∀{is:bi}{ds:ac}{vs:al}{σ:L2.St}{ρ:Ev},dw K He H0e Ha σ H ρ->Reps K Ha ds vs->dw K He H0e Ha (uX σ is vs) H (dk ρ is ds)
 |[],_,_,_,_,h,_=>by unfold uX dk;exact h
 |_::_,[],_,_,_,h,r=>by rw[Reps.nil_iff.mp r];unfold uX dk;exact h
 |i::is,d::ds,_,_,_,h,r=>by
  obtain⟨v,vs,rfl,h1,h2⟩:=aA.mp r;unfold uX dk;exact dw.putAll (h.put h1) h2
section
variable {X:Cx}{E:XK}{He H0e:Hp}{e a b:Expr}{es:List Expr}{f g:am}{fa:Ev->ao (ac)}{pos:Pos}{is:bi}
def Io(is:bi):B7:=λvs σ H Q=>vs.length=is.length/\Q (uX σ is vs) H
def sV{t t':B7}(h:zo X es t)(w:∀vs σ H Q,t' vs σ H Q->t vs σ H Q):zo X es t':=λpins s σ H vs us Q I r q=>h pins s σ H vs us Q I r (w vs σ H Q q)
def jo:zo X [] (Io []):=sV C3 λvs σ H Q z9=>by
 obtain⟨h,q⟩:=z9;have e:vs=[]:=List.length_eq_zero_iff.mp h;subst e;exact⟨rfl,q⟩
def bX{i:Nat}{x:Str}{p:Pos}(hN:X.N.Nodup)(hi:X.N[i]?=some x)(hx:zp X.env.scope x)(h:zo X es (Io is))(hf:X.fn x=true∨X.env.scope.names.lookup x=some .local := by first|exact .inl rfl|exact .inr rfl|assumption)
  (hs:(assignEach (.Name x p::es) X.env).map (·.2)=assign (.Name x p) X.env::(assignEach es X.env).map (·.2):=by rfl):zo X (.Name x p::es) (Io (i::is)) :=
 sV (As (wO hN hi hx hf) h hs) λvs σ H Q z9=>by
  obtain⟨h,q⟩:=z9;cases vs with|nil=>simp at h|cons v vs=>exact⟨v,vs,rfl,by simpa using h,q⟩
def C4{k:Nat}{t:B7}{n:Nat}(hc:X.calm=true)(h:zo X es t)
  (hn:(assignEach es X.env).length=n:=by rfl)(hst:(assignEach es X.env).findIdx? (·.1)=none:=by rfl):PG X (.Tuple es k pos) (λv σ H Q=>∃a xs,v=.ref a/\eh X.K H a xs/\xs.length=n/\t xs σ H Q):=by
 intro pins s σ H v u Q I r hw;obtain⟨a,xs,e1,hq,hl,hw⟩:=hw;subst e1;cases r;obtain⟨its,rv,ht,hz⟩:=I.list hq;rw[assign_Tuple];refine wpAny_bind (wpAny_standAt ?_);unfold unpack;rw[hn,hst];have hsz:n=its.toArray.size:=by rw[List.size_toArray,←rv.length,hl]
 rw[hsz];refine wpAny_bind (wpAny_holding (kI (I.ok.hd hc) ht.isList λh' hx=>?_));have I1:Inv X pins σ H { s with heap:=h' }:=I.kept (t':=s.toks) λb o e=>hx b o (Nat.ne_of_lt (Heap.lt_size e)) e;exact h pins _ σ H xs _ Q I1 (by simpa using rv) hw
def IY{tgt:Expr}{t t':TG}(h:PG X tgt t)(h':PG X tgt t'):PG X tgt (λv σ H Q=>t v σ H Q∨t' v σ H Q):=λpins s σ H v u Q I r q=>q.elim (h pins s σ H v u Q I r) (h' pins s σ H v u Q I r)
def Gk{k:Nat}(hc:X.calm=true)(h:zo X es (Io is))(hn:(assignEach es X.env).length=is.length:=by rfl)(hst:(assignEach es X.env).findIdx? (·.1)=none:=by rfl) :
  PG X (.Tuple es k pos) (λv σ H Q=>∃a xs,v=.ref a/\(ip X.K H a xs∨eh X.K H a xs)/\xs.length=is.length/\Q (uX σ is xs) H) :=
 qF (IY (Gj hc h hn hst) (C4 hc h hn hst)) λv σ H Q ⟨a,xs,e,hq,hl,q⟩=>hq.elim (λz=>.inl ⟨a,xs,e,z,hl,hl,q⟩) λz=>.inr ⟨a,xs,e,z,hl,hl,q⟩
def i8(n:Nat)(d:D):Option (ac):=match d with
 |.tup ds=>if ds.length=n then some ds else none
 |.lst ds=>if ds.length=n then some ds else none
 |_=>none
def sW{K:W.Frag}{H:Hp}{n:Nat}{d:D}{ds:ac}{v:V}(h:i8 n d=some ds)(r:Rep K H d v):∃a vs,v=.ref a/\(ip K H a vs∨eh K H a vs)/\vs.length=n/\Reps K H ds vs:=by
 unfold i8 at h;cases d with
 |tup es=>
  by_cases c:es.length=n
  .simp only[if_pos c]at h;cases h
   obtain⟨a,vs,rfl,h1,h2⟩:=aH.mp r;exact⟨a,vs,rfl,.inl h1,by rw[←h2.length];exact c,h2⟩
  .simp only[if_neg c]at h;cases h
 |lst es=>
  by_cases c:es.length=n
  .simp only[if_pos c]at h;cases h
   obtain⟨a,vs,rfl,h1,h2⟩:=aC.mp r;exact⟨a,vs,rfl,.inr h1,by rw[←h2.length];exact c,h2⟩
  .simp only[if_neg c]at h;cases h
 |_=>cases h
def Ab{K:W.Frag}{H H':Hp}{a:Addr}{vs:al}(hs:aE H H')(h:ip K H a vs∨eh K H a vs):ip K H' a vs∨eh K H' a vs:=h.elim (λz=>.inl (aE.sqT hs z)) λz=>.inr (aE.sqL hs z)
def eV(is:bi):Ev->D->ao Ev:=λρ d=>match i8 is.length d with
 |some ds=>.ok (dk ρ is ds)
 |none=>.stuck
def kK:uE (eV is):=λρ d=>by
 unfold eV;cases i8 is.length d with|none=>exact .inl rfl|some ds=>exact .inr ⟨_,rfl⟩
def kX{k:Nat}(hc:X.calm=true)(h:zo X es (Io is))(hn:(assignEach es X.env).length=is.length:=by rfl)(hst:(assignEach es X.env).findIdx? (·.1)=none:=by rfl):DG X E He H0e (.Tuple es k pos) (eV is) :=
 ⟨qF (Gk hc h hn hst) λv σ H Q z9=>by
  obtain⟨Ha,ρ,d,h,rp,q⟩:=z9;unfold eV at q;cases e1:i8 is.length d with
  |none=>rw[e1]at q;exact q.elim
  |some ds=>
   rw[e1]at q;obtain⟨a,vs,rfl,k1,k2,k3⟩:=sW e1 rp;exact⟨a,vs,rfl,Ab h.g.sub k1,k2,q _ H Ha (aE.refl _) (h.putAll k3)⟩⟩
def oF(i j:Nat)(fa:Ev->ao (ac)):bd:=λρ=>(fa ρ).bind λds=>match ds with
 |[x,y]=>.ok (.nx ((ρ.set i (.sh x)).set j (.sh y)))
 |_=>.stuck
def HF{i j:Nat}{x y:Str}{px py pt pt2:Pos}{kt k2}(hc:X.calm=true)(hN:X.N.Nodup)(hi:X.N[i]?=some x)(hj:X.N[j]?=some y)(hij:i≠j)
  (hx:X.env.scope.names.lookup x=some .local)(hy:X.env.scope.names.lookup y=some .local)(ha:DA X E [a,b] fa)
  (hw:swappedStores [.Tuple [.Name x px,.Name y py] kt pt] (.Tuple [a,b] k2 pt2) X.env=pure (some [x,y]))
  (hs:swapsWithSole [.Tuple [.Name x px,.Name y py] kt pt] (.Tuple [a,b] k2 pt2) pos.line X.env=pure false:=by rfl) :
  DS X E He H0e (.Assign [.Tuple [.Name x px,.Name y py] kt pt] (.Tuple [a,b] k2 pt2) pos) (oF i j fa):=by
 refine⟨?_⟩;refine cD (Gh hc hN hi hj hij hx hy ha.o hw hs) λD σ H z9=>?_;obtain⟨Ha,ρ,h,q⟩:=z9;refine⟨Ha,ρ,h.g.sub,h.rd,?_⟩
 unfold oF at q;cases e1:fa ρ with
 |stuck=>rw[e1]at q;exact q|exn x=>rw[e1]at q;exact λC ox H' Ha' g ex=>q C ox H' Ha' (h.g.trans g) ex
 |ok ds=>
  rw[e1]at q;intro vs H1 H01 g1 r1
  match ds,r1,q with
  |[x,y],r1,q=>
   obtain⟨v,r',rfl,h1,h2⟩:=aA.mp r1;obtain⟨u,r'',rfl,h3,h4⟩:=aA.mp h2;rw[Reps.nil_iff.mp h4];exact⟨v,u,rfl,q _ H1 H01 g1.z (((h.grow g1).put h1).put h3)⟩
  |[],_,q=>exact q.elim
  |[_],_,q=>exact q.elim
  |_::_::_::_,_,q=>exact q.elim
end
def m7{K:W.Frag}:iW K "int":=by
 intro S hS;simp only[List.mem_cons,List.mem_nil_iff,or_false]at hS;rcases hS with rfl|rfl|rfl|rfl|rfl|rfl|rfl<;>first|rfl|decide +kernel
def lD{K:W.Frag}:iW K "bool":=by
 intro S hS;simp only[List.mem_cons,List.mem_nil_iff,or_false]at hS;rcases hS with rfl|rfl|rfl|rfl|rfl|rfl|rfl<;>first|rfl|decide +kernel
def fA{K:W.Frag}:iW K "str":=by
 intro S hS;simp only[List.mem_cons,List.mem_nil_iff,or_false]at hS;rcases hS with rfl|rfl|rfl|rfl|rfl|rfl|rfl<;>first|rfl|decide +kernel
def c8{K:W.Frag}:iW K "tuple":=by
 intro S hS;simp only[List.mem_cons,List.mem_nil_iff,or_false]at hS;rcases hS with rfl|rfl|rfl|rfl|rfl|rfl|rfl<;>first|rfl|decide +kernel
def eF{K:W.Frag}:iW K "list":=by
 intro S hS;simp only[List.mem_cons,List.mem_nil_iff,or_false]at hS;rcases hS with rfl|rfl|rfl|rfl|rfl|rfl|rfl<;>first|rfl|decide +kernel
section
variable {X:Cx}{E:XK}{He H0e:Hp}{e a b c:Expr}{f g h:am}{pos:Pos}
def dv(i:Nat){x:Str}(hN:X.N[i]?=some x:=by rfl)(hv:zg X.env.scope x:=by first|exact Or.inl rfl|exact Or.inr (Or.inl rfl)|exact Or.inr (Or.inr rfl))(hd:(x==("__debug__":Str))=false:=by decide)
  (hcd:(x==("__classdict__":Str))=false:=by decide):DE X E (.Name x pos) (ae i):=HI hN hv hd hcd
def rJ(K:W.Frag)(mg:Str->Option Value)(x:Str)(d:D):Prop:=∃v u,mg x=some u/\bb v u/\∀H,Rep K H d v
def aY{x:Str}{d:D}(k:rJ X.K X.mg x d)(hg:Gl X x)(hd:(x==("__debug__":Str))=false:=by decide):DE X E (.Name x pos) (dC d):=by
 obtain⟨v,u,h1,h2,h3⟩:=k;exact ED hg h1 h2 h3 hd
def cZ{K:W.Frag}{mg:Str->Option Value}{x:Str}{i:Int}{t:Tok}(h:mg x=some (.int i t)):rJ K mg x (.int i):=⟨.int i,_,h,⟨t,rfl⟩,λ_=>ri _⟩
def Dt{K:W.Frag}{mg:Str->Option Value}{x:Str}{i:Str}{t:Tok}(h:mg x=some (.str i t)):rJ K mg x (.str i):=⟨.str i,_,h,⟨t,rfl⟩,λ_=>Rep.str_iff.mpr rfl⟩
def Ds{K:W.Frag}{mg:Str->Option Value}{x:Str}{a:Addr}{od:Option Addr}{its:Array Value}{n:Nat}{sl:Array (Option Value)}{ds:ac}{vs:al}(h:mg x=some (.ref a))(l:K.lookup a=some ⟨.type "tuple",od,.seq its n,sl⟩)
  (hv:bj vs its.toList)(hz:its.size<=sizeLine)(hd:∀H,Reps K H ds vs):rJ K mg x (.tup ds):=⟨.ref a,_,h,rfl,λH=>aH.mpr ⟨a,vs,rfl,.inr ⟨_,its,n,l,rfl,rfl,hz,hv⟩,hd H⟩⟩
def ie(op op':D->D->ao D)(f g h:am):am:=λρ=>(f ρ).bind λx=>(g ρ).bind λy=>(op x y).bind λz=>match z with
 |.bl true=>(h ρ).bind λw=>op' y w
 |.bl false=>.ok (.bl false)
 |_=>.stuck
def uF(r:R2)(o:D->D->ao D):Prop:=∀(K:W.Frag) (x y:D) (v u:V) (H Ha:Hp) (Q:VK) (d:D),aE Ha H->Rep K Ha x v->Rep K Ha y u->o x y=.ok d->(∀w,Rep K Ha d w->Q w H)->r v u H Q
def i5{gv:Int->Int->V}{g:Int->Int->D}(hg:∀K H i j,Rep K H (g i j) (gv i j)):uF (CL gv) (tM (λ_ _=>true) g):=by
 intro K x y v u H Ha Q d hs r1 r2 e q;unfold tM at e;cases x with
 |int i=>
  cases y with|int j=>simp only[if_pos]at e;cases e;exact⟨i,j,ay.mp r1,ay.mp r2,q _ (hg _ _ i j)⟩| _=>cases e
 |_=>cases e
def uH(o:D->D->ao D):Prop:=∀x y,∀z,o x y≠.exn z
def uq{r r':R2}{o o':D->D->ao D}(p:uF r o)(p':uF r' o')(n:uH o)(n':uH o')(σ:L2.St)(H:Hp)(Q:VK)(q:tD X.K E (ie o o' f g h) σ H Q) :
  zS r r' (tD X.K E f) (tD X.K E g) (tD X.K E h) σ H Q:=by
 obtain⟨Ha,ρ,hs,hr,q⟩:=q;refine⟨Ha,ρ,hs,hr,?_⟩;unfold ie at q;cases e1:f ρ with
 |stuck|exn x=>rw[e1]at q;exact q
 |ok x=>
  rw[e1]at q;intro v H1 H01 g1 r1;refine⟨H01,ρ,g1.sub,hr.mono g1.z,?_⟩;replace q:=post.grow (r:=(g ρ).bind λy=>(o x y).bind λz=>match z with
   |.bl true=>(h ρ).bind λw=>o' y w
   |.bl false=>.ok (.bl false)
   |_=>.stuck) q g1
  cases e2:g ρ with
  |stuck|exn x=>rw[e2]at q;exact q
  |ok y=>
   rw[e2]at q;intro u H2 H02 g2 r2;replace q:=post.grow (r:=(o x y).bind λz=>match z with
    |.bl true=>(h ρ).bind λw=>o' y w
    |.bl false=>.ok (.bl false)
    |_=>.stuck) q g2
   cases e3:o x y with
   |stuck=>rw[e3]at q;exact q.elim|exn z=>exact absurd e3 (n x y z)
   |ok z=>
    rw[e3]at q;refine p X.K x y v u H2 H02 _ z g2.sub (r1.mono g2.z) r2 e3 λw rw'=>?_;cases z with
    |bl b=>
     rw[aF.mp rw'];refine⟨b,rfl,?_⟩;cases b with
     |false=>rw[if_neg Bool.false_ne_true];exact q _ H2 H02 (aZ.refl g2.sub) (rb _)
     |true=>
      rw[if_pos rfl];refine⟨H02,ρ,g2.sub,(hr.mono g1.z).mono g2.z,?_⟩;replace q:post X.K E H2 H02 ((h ρ).bind λw=>o' y w) Q:=q;cases e4:h ρ with
      |stuck|exn x=>rw[e4]at q;exact q
      |ok w2=>
       rw[e4]at q;intro v3 H3 H03 g3 r3;replace q:=post.grow (r:=o' y w2) q g3;cases e5:o' y w2 with
       |stuck=>rw[e5]at q;exact q.elim|exn z=>exact absurd e5 (n' y w2 z)
       |ok d=>
        rw[e5]at q;exact p' X.K y w2 u v3 H3 H03 Q d g3.sub (r2.mono g3.z) r3 e5 λw3 r5=>q w3 H3 H03 (aZ.refl g3.sub) r5
    |_=>exact q.elim
def ue{op op':CmpOp}{r r':R2}{o o':D->D->ao D}(ho:fL X (compareOp op) r)(ho':fL X (compareOp op') r')(p:uF r o)(p':uF r' o')(n:uH o)(n':uH o')(ha:DE X E a f)(hb:DE X E b g)(hc:DE X E c h)
  (hm:lastMarks [op,op'] [b,c]=false:=by with_unfolding_all rfl):DT X E (.Compare a [op,op'] [b,c] pos) (ie o o' f g h):=by
 refine⟨?_⟩;refine l5 (Ao ho ho' ha.o hb.o hc.o hm) λσ H Q q=>?_;have w:tD X.K E (ie o o' f g h) σ H λx H'=>∃k,x=.bl k/\Q k H':=by
  obtain⟨Ha,ρ,hs,hr,q⟩:=q;refine⟨Ha,ρ,hs,hr,?_⟩;cases e1:ie o o' f g h ρ with
  |stuck|exn x=>rw[e1]at q;exact q
  |ok d=>
   rw[e1]at q;intro v H1 H01 g1 r1;cases d with|bl b=>rw[aF.mp r1];exact⟨b,rfl,q H1 H01 g1⟩| _=>exact q.elim
 exact uq p p' n n' σ H _ w
def ja{c:Int->Int->Bool}{g:Int->Int->D}:uH (tM c g):=by
 intro x y z;unfold tM;cases x<;>cases y<;>simp<;>split<;>simp
end
def jd(i:Nat):Ev->Nat:=λρ=>match ρ[i]? with
 |some (.sh (.int j))=>j.natAbs+1
 |_=>0
section
variable {X:Cx}{E:XK}{a b:Expr}{f g:am}{pos:Pos}
def bK(x y:D):ao D:=match x,y with
 |.int i,.int j=>if dS i j=true then .ok (.int (i*j)) else .stuck
 |_,_=>.stuck
def ib(ha:DE X E a f)(hb:DE X E b g):DE X E (.BinOp a .Mult b pos) (aa f g bK):=pQ De (by
 intro x y v u H Ha Q hs r1 r2 q;unfold bK at q;cases x with
 |int i=>
  cases y with
  |int j=>
   by_cases h:dS i j=true
   .simp only[if_pos h]at q
    exact⟨i,j,ay.mp r1,ay.mp r2,dS.ok h,bE hs q (ri _)⟩
   .simp only[if_neg h]at q;exact q.elim
  |_=>exact q.elim
 |_=>exact q.elim) ha hb
end
def GP(K:W.Frag)(tg:Ev->D->ao Ev):TG:=λv σ H Q=>∃He H0e,tG K He H0e tg v σ H Q
theorem Reps.rep{K:W.Frag}{H:Hp}{ds:ac}{vs:al}(h:Reps K H ds vs):∀k:Nat,Reps K H (List.replicate k ds).flatten (List.replicate k vs).flatten
 |0=>by simp;exact Reps.nil
 |k+1=>by
  rw[List.replicate_succ,List.replicate_succ,List.flatten_cons,List.flatten_cons];exact h.app (Reps.rep h k)
section
variable {X:Cx}{E:XK}{a b:Expr}{f g:am}{pos:Pos}
def EG(x y:D):ao D:=match x,y with
 |.lst ds,.int k=>if ds.length*k.toNat<=line/\-9223372036854775808<=k/\k<9223372036854775808 then .ok (.lst (List.replicate k.toNat ds).flatten) else .stuck
 |_,_=>.stuck
def lT(f g:am):am:=λρ=>(f ρ).bind λx=>match x with
 |.lst ds=>(g ρ).bind λy=>EG (.lst ds) y
 |_=>.stuck
def rl(ha:DF X E a f)(hb:DE X E b g):DE X E (.BinOp a .Mult b pos) (lT f g):=by
 refine⟨?_⟩;refine aU (Av Gv ha.o hb.o) λσ H Q z9=>?_;obtain⟨Ha,ρ,hs,hr,q⟩:=z9;refine⟨Ha,ρ,hs,hr,?_⟩
 unfold lT at q;cases e1:f ρ with
 |stuck|exn x=>rw[e1]at q;exact q
 |ok x=>
  rw[e1]at q;cases x with
  |lst ds=>
   replace q:post X.K E H Ha ((g ρ).bind λy=>EG (.lst ds) y) Q:=q;intro p vs H1 H01 g1 hp h0 hv rp;refine⟨H01,ρ,g1.sub,hr.mono g1.z,?_⟩;replace q:=q.grow g1;cases e2:g ρ with
   |stuck|exn x=>rw[e2]at q;exact q
   |ok y=>
    rw[e2]at q;intro u H2 H02 g2 r2;replace q:=post.grow (r:=EG (.lst ds) y) q g2;cases y with
    |int k=>
     unfold EG at q
     by_cases c:ds.length*k.toNat<=line/\-9223372036854775808<=k/\k<9223372036854775808
     .simp only[if_pos c]at q
      refine⟨p,k,vs,rfl,ay.mp r2,g2.s _ _ hv,by omega,by omega,by rw[←rp.length];exact cO c.1,λn hn=>?_⟩;exact q _ _ _ (aR g2.sub hn) (aC.mpr ⟨n,_,rfl,eh.of aG,((rp.mono g2.z).rep _).mono (aR g2.sub hn).z⟩)
     .simp only[if_neg c]at q;exact q.elim
    |_=>exact q.elim
  |_=>exact q.elim
end
def fV:ac->Option (List Str)
 |[]=>some []
 |.str x::r=>(fV r).map (x::·)
 |_=>none
theorem sE{K:W.Frag}{H:Hp}:∀{ds:ac}{ys:List Str}{vs:al}{us:List Value},fV ds=some ys->Reps K H ds vs->bj vs us->StrsAre us ys
 |[],ys,vs,us,h,r,q=>by
  cases h;rw[Reps.nil_iff.mp r]at q;cases q;exact .nil
 |d::ds,ys,vs,us,h,r,q=>by
  obtain⟨v,r',rfl,h1,h2⟩:=aA.mp r;cases q with
  |cons q1 q2=>
   cases d with
   |str x=>
    unfold fV at h;cases e:fV ds with
    |none=>rw[e]at h;cases h
    |some zs=>
     rw[e]at h;cases h;rw[Rep.str_iff.mp h1]at q1;obtain⟨t,rfl⟩:=q1;exact .cons _ _ (sE e h2 q2)
   |_=>cases h
section
variable {X:Cx}{E:XK}{o e:Expr}{fo:am}{fa:Ev->ao (ac)}
def fO(z:Str)(ys:List Str):Bool:=decide (z.length<=16)&&decide ((ys.map (·.length)).sum+ys.length<=1048576)
def II(K:W.Frag):V->al->Hp->VK->Prop:=λx xs H Q=>∃z p ds ys,x=.str z/\xs=[.ref p]/\Rep K H (.lst ds) (.ref p)/\fV ds=some ys/\fO z ys=true/\Q (.str (Txt.join z ys)) H
def Dp:Lq X "str.join" (II X.K):=by
 intro pins s σ H x xs v us Q I rx rs h;obtain⟨z,p,ds,ys,rfl,rfl,hr,hy,hf,q⟩:=h;obtain⟨t,rfl⟩:=rx;obtain⟨u,rfl,ru⟩:=rs.one;obtain⟨a,vs,its,ea,rfl,h1,h2,h3,h4,_⟩:=aV I hr ru;unfold fO at hf;rw[Bool.and_eq_true]at hf;exact join_listW h4 (by simpa using sE hy h2 h3) (of_decide_eq_true hf.1) (of_decide_eq_true hf.2) λt' k=>⟨.str (Txt.join z ys),H,I.tok _,⟨_,rfl⟩,q⟩
def nh(z:Str)(xs:ac):ao D:=match xs with
 |[.lst ds]=>match fV ds with
  |some ys=>if fO z ys=true then .ok (.str (Txt.join z ys)) else .stuck
  |none=>.stuck
 |_=>.stuck
def uh(fo:am)(fa:Ev->ao (ac)):am:=λρ=>(fo ρ).bind λx=>match x with
 |.str z=>(fa ρ).bind λxs=>nh z xs
 |_=>.stuck
def EA{apos cpos:Pos}(ho:DE X E o fo)(ha:DA X E [e] fa)
  (hbase:attributeBase o "join" X.env (eval o X.env)=eval o X.env:=by rfl)
  (hfew:((backTo cpos (starEach [e] X.env)).all (λx=>!x.1)&&(backToKw cpos (keywordEach [] X.env)).all (λx=>x.1.isSome)
  &&decide ([e].length+([]:List Keyword).length+(if([]:List Keyword).isEmpty then 0 else 1)<30))=true:=by exact nC rfl)
  (hline:(apos.endLine==cpos.line)=true:=by rfl) (hs:starEach [e] X.env=(false,eval e X.env)::starEach [] X.env:=by exact aI rfl) (hplain:(backTo cpos (starEach [] X.env)).any (·.1)=false:=by exact bp rfl) :
  DE X E (.Call (.Attribute o "join" apos) [e] [] cpos) (uh fo fa):=by
 refine⟨?_⟩;refine aU (AB PySem.F.plainAttrs_str PySem.F.slot_str_join PySem.F.type_str_join Dp ho.o ha.o hbase hfew hline hs hplain) λσ H Q z9=>?_;obtain⟨Ha,ρ,hs,hr,q⟩:=z9;refine⟨Ha,ρ,hs,hr,?_⟩
 unfold uh at q;cases e1:fo ρ with
 |stuck|exn x=>rw[e1]at q;exact q
 |ok x=>
  rw[e1]at q;intro v H1 H01 g1 r1;cases x with
  |str z=>
   rw[Rep.str_iff.mp r1];refine⟨rfl,H01,ρ,g1.sub,hr.mono g1.z,?_⟩;replace q:=post.grow (r:=(fa ρ).bind λxs=>nh z xs) q g1;cases e2:fa ρ with
   |stuck|exn x=>rw[e2]at q;exact q
   |ok xs=>
    rw[e2]at q;intro us H2 H02 g2 r2;replace q:=post.grow (r:=nh z xs) q g2;unfold nh at q
    match xs,r2,q with
    |[.lst ds],r2,q=>
     obtain⟨w,r',rfl,k1,k2⟩:=aA.mp r2;rw[Reps.nil_iff.mp k2];obtain⟨p,vs,rfl,k3,k4⟩:=aC.mp k1;cases e3:fV ds with
     |none=>simp only[e3]at q;exact q.elim
     |some ys=>
      simp only[e3]at q
      by_cases c:fO z ys=true
      .rw[if_pos c]at q
       exact⟨z,p,ds,ys,rfl,rfl,k1.mono g2.sub,e3,c,bE g2.sub q (Rep.str_iff.mpr rfl)⟩
      .rw[if_neg c]at q;exact q.elim
    |[],_,q=>exact q.elim
    |d1::_::_,_,q=>cases d1<;>exact False.elim q
    |[.non],_,q=>exact q.elim
    |[.bl _],_,q=>exact q.elim
    |[.int _],_,q=>exact q.elim
    |[.str _],_,q=>exact q.elim
    |[.tup _],_,q=>exact q.elim
    |[.dic _ _],_,q=>exact q.elim
    |[.exc _],_,q=>exact q.elim
    |[.ob _ _],_,q=>exact q.elim
  |_=>exact q.elim
end
section
variable {X:Cx}{E:XK}{a:Expr}{f:am}{pos:Pos}
def K5:V->Option Int->Option Int->Hp->VK->Prop:=λx lo hi H Q=>∃z,x=.str z/\z.length<=sizeLine/\Q (.str (Txt.slice z lo hi)) H
def F2:B8 X K5:=by
 intro pins s σ H x v vl vu lo hi sl Q I rx hs pl pu h;obtain⟨z,rfl,hz,q⟩:=h;obtain⟨t,rfl⟩:=rx;have fin:∀t' k,EP X pins σ Q (.str (Txt.slice z lo hi) t') { s with toks:=k }:=λt' k=>⟨.str (Txt.slice z lo hi),H,I.tok _,⟨_,rfl⟩,q⟩
 refine⟨"str",_,PySem.F.slot_str_getitem.lookup,typeIs_str s z t,?_⟩;cases pl with
 |none=>
  cases pu with|none=>exact wpAny_getItem_str_slice (l:=none) (u:=none) (st:=none) hs rfl (post_val_or_str ⟨Nat.le_trans (Txt.slice_le z _ _) hz,fin⟩)|int j uj=>exact wpAny_getItem_str_slice (l:=none) (u:=some (j,uj)) (st:=none) hs rfl (post_val_or_str ⟨Nat.le_trans (Txt.slice_le z _ _) hz,fin⟩)
 |int i ui=>
  cases pu with|none=>exact wpAny_getItem_str_slice (l:=some (i,ui)) (u:=none) (st:=none) hs rfl (post_val_or_str ⟨Nat.le_trans (Txt.slice_le z _ _) hz,fin⟩)|int j uj=>exact wpAny_getItem_str_slice (l:=some (i,ui)) (u:=some (j,uj)) (st:=none) hs rfl (post_val_or_str ⟨Nat.le_trans (Txt.slice_le z _ _) hz,fin⟩)
noncomputable def mJ(x:D) (l h:Option Int):ao D:=match x with
 |.lst ds=>.ok (.lst (fZ ds l h))
 |.str z=>if z.length<=line then .ok (.str (Txt.slice z l h)) else .stuck
 |.tup ds=>if HT.sIx ds.length 0 l=0/\HT.sIx ds.length ds.length h=ds.length then .stuck else .ok (.tup (fZ ds l h))
 |_=>.stuck
def ez(f:am)(lo hi:Ev->ao (Option Int)):am:=λρ=>(f ρ).bind λx=>(lo ρ).bind λl=>(hi ρ).bind λh=>mJ x l h
def bU{lo hi:Option Expr}{p2:Pos}{fl fh:Ev->ao (Option Int)}(ha:DE X E a f)(hl:DO X E lo fl)(hh:DO X E hi fh):DE X E (.Subscript a (.Slice lo hi none p2) pos) (ez f fl fh) :=
 ⟨aU (Au (B8.or CG (B8.or F2 F1)) ha.o hl.o hh.o) (sH (m:=mJ) λx v l h H Ha Q hs r q=>by
  cases x with
  |lst ds=>
   obtain⟨p,vs,rfl,h1,h2⟩:=aC.mp r;exact .inl ⟨p,vs,rfl,aE.sqL hs h1,λn hn=>q _ _ _ (aR hs hn) (aC.mpr ⟨n,_,rfl,eh.of aG,(h2.cut l h).mono (aR hs hn).z⟩)⟩
  |str z=>
   unfold mJ at q
   by_cases c:z.length<=line
   .simp only[if_pos c]at q
    exact .inr (.inl ⟨z,Rep.str_iff.mp r,cO c,bE hs q (Rep.str_iff.mpr rfl)⟩)
   .simp only[if_neg c]at q;exact q.elim
  |tup ds=>
   unfold mJ at q
   by_cases c:HT.sIx ds.length 0 l=0/\HT.sIx ds.length ds.length h=ds.length
   .simp only[if_pos c]at q;exact q.elim
   .simp only[if_neg c]at q
    obtain⟨p,vs,rfl,h1,h2⟩:=aH.mp r;exact .inr (.inr ⟨p,vs,rfl,aE.sqT hs h1,by rw[←h2.length];exact c,λn hn=>q _ _ _ (aR hs hn) (aH.mpr ⟨n,_,rfl,ip.of aG,(h2.cut l h).mono (aR hs hn).z⟩)⟩)
  |_=>exact q.elim)⟩
end
def Lr(z:Str):It:=⟨λi _=>i<z.cps.size,λi H x H'=>H'=H/\∃c,z.cps[i]?=some c/\x=.str ⟨#[c]⟩,λi _=>z.cps.size<=i⟩
def uQ{P:Program}{w:World}{K:W.Frag}{tg:Expr}(z:Str)(t:Tok)(it:Addr):rH P w K tg (Lr z) [it] it (λi h=>h.IsStrIter it "str_ascii_iterator" z t i) where
 mem:=by simp
 obj:=λi h st b hb=>by
  have e:b=it:=by simpa using hb
  subst e;obtain⟨o,e,c,d⟩:=st;exact⟨o,e,λv z=>by rw[d]at z;cases z⟩
 keep:=λi h h' st k=>let ⟨o,ho,r⟩:=st;⟨o,k it (by simp) o ho,r⟩
 item:=by
  intro X hP hw hK hc i pins s σ H E I hf st hg;subst hP hw hK;have hg':i<z.cps.size:=hg;obtain⟨f0,f1,f2,f3,f4,f5⟩:=hf it (by simp);refine wpAny_pyNext_ascii_item st (c:=z.cps[i]) (by simp[hg']) λh' st' sb=>?_;have I1:Inv X pins σ H { s with heap:=h',toks:=s.toks+1 }:=I.turned (t':=s.toks+1) (λb o hb e=>(sb.2 b hb).trans e) f0 f1 f3 f4 f5;obtain⟨o,e,c,d⟩:=id st';exact⟨_,rfl,tT (s:={ s with heap:=h',toks:=s.toks+1 }) e c d (by decide) ⟨.str ⟨#[z.cps[i]]⟩,H,I1,⟨_,rfl⟩,⟨rfl,_,by simp[hg'],rfl⟩,st',λb hb=>(hf b hb).1⟩⟩
 done:=by
  intro X hP hw hK hc i pins s σ H E I hf st hg;subst hP hw hK;have hg':z.cps.size<=i:=hg;obtain⟨f0,f1,f2,f3,f4,f5⟩:=hf it (by simp);exact wpAny_pyNext_ascii_end (I.ok.hd hc) st (by simp[hg']) λh' eb=>⟨rfl,I.turned (t':=s.toks) (λb o hb e=>eb b o hb e) f0 f1 f3 f4 f5⟩
 self:=λ_ _ _ _ _ st h=>wpAny_pyIter_striter_ascii st h
def xS{P:Program}{w:World}{K:W.Frag}{tg:Expr}(z:Str)(t:Tok)(it:Addr):rH P w K tg (Lr z) [it] it (λi h=>h.IsStrIter it "str_iterator" z t i) where
 mem:=by simp
 obj:=λi h st b hb=>by
  have e:b=it:=by simpa using hb
  subst e;obtain⟨o,e,c,d⟩:=st;exact⟨o,e,λv z=>by rw[d]at z;cases z⟩
 keep:=λi h h' st k=>let ⟨o,ho,r⟩:=st;⟨o,k it (by simp) o ho,r⟩
 item:=by
  intro X hP hw hK hc i pins s σ H E I hf st hg;subst hP hw hK;have hg':i<z.cps.size:=hg;obtain⟨f0,f1,f2,f3,f4,f5⟩:=hf it (by simp);refine wpAny_pyNext_wide_item st (c:=z.cps[i]) (by simp[hg']) λh' st' sb=>?_;have I1:Inv X pins σ H { s with heap:=h',toks:=s.toks+1 }:=I.turned (t':=s.toks+1) (λb o hb e=>(sb.2 b hb).trans e) f0 f1 f3 f4 f5;obtain⟨o,e,c,d⟩:=id st';exact⟨_,rfl,tT (s:={ s with heap:=h',toks:=s.toks+1 }) e c d (by decide) ⟨.str ⟨#[z.cps[i]]⟩,H,I1,⟨_,rfl⟩,⟨rfl,_,by simp[hg'],rfl⟩,st',λb hb=>(hf b hb).1⟩⟩
 done:=by
  intro X hP hw hK hc i pins s σ H E I hf st hg;subst hP hw hK;have hg':z.cps.size<=i:=hg;obtain⟨f0,f1,f2,f3,f4,f5⟩:=hf it (by simp);exact wpAny_pyNext_wide_end (I.ok.hd hc) st (by simp[hg']) λh' eb=>⟨rfl,I.turned (t':=s.toks) (λb o hb e=>eb b o hb e) f0 f1 f3 f4 f5⟩
 self:=λ_ _ _ _ _ st h=>wpAny_pyIter_striter_wide st h
def Le(tl:TE):TI:=λσ H R=>tl σ H λx H1=>∃z,x=.str z/\R (Lr z) H1
def Gi{X:Cx}{tg l:Expr}{tl:TE}(hl:PE X l tl):PI X tg l (Le tl):=by
 intro pins s σ H R I h;refine cA (hl pins s σ H _ I h) λv s1 ⟨x,H1,I1,r1,q1⟩=>?_;obtain⟨z,rfl,q⟩:=q1;obtain⟨t,rfl⟩:=r1;have fpo:∀b∈[s1.heap.objs.size],lq X pins H1 b:=λb hb=>by
  have e:b=s1.heap.objs.size:=by simpa using hb
  subst e;exact I1.fpOk (Nat.le_refl _) (I1.hok.fresh (Nat.le_refl _))
 cases ha:z.cps.all (· < 128) with|false=>exact wpAny_pyIter_wide ha ⟨s1.heap.objs.size,[s1.heap.objs.size],_,_,H1,rfl,I1.kept (t':=s1.toks) λb o e=>Heap.get?_push_of_some _ e,xS z t _,⟨_,Heap.get?_push_size _ rfl,rfl,rfl⟩,fpo,q⟩|true=>exact wpAny_pyIter_ascii ha ⟨s1.heap.objs.size,[s1.heap.objs.size],_,_,H1,rfl,I1.kept (t':=s1.toks) λb o e=>Heap.get?_push_of_some _ e,uQ z t _,⟨_,Heap.get?_push_size _ rfl,rfl,rfl⟩,fpo,q⟩
def iH(z:Str):ac:=z.cps.toList.map λc=>.str ⟨#[c]⟩
def jK(z:Str):(iH z).length=z.cps.size:=by unfold iH;simp
section
variable {X:Cx}{E:XK}
def IS(K:W.Frag):al->Hp->VK->Prop:=λxs H Q=>∃(p:Addr) (bs:List Bool),xs=[.ref p]/\eh K H p (bs.map V.bl)/\Q (.bl (bs.all id)) H
theorem qg:∀bs:List Bool,(List.range bs.length).all (λi=>bs.getD i false)=bs.all id
 |[]=>rfl
 |b::r=>by
  rw[List.length_cons,List.range_succ_eq_map,List.all_cons,List.all_map,List.all_cons,←qg r];rfl
def uu(hc:X.calm=true):iX X (.builtin "all") (IS X.K):=by
 intro pins s σ H xs us Q I r h;obtain⟨p,bs,rfl,hq,q⟩:=h;obtain⟨u,rfl,rx⟩:=sq r;cases rx;obtain⟨its,rv,pl,hz⟩:=I.list hq;have hlen:=rv.length;rw[List.length_map]at hlen;have hne:p≠s.heap.objs.size:=Nat.ne_of_lt pl.lt;refine call_all_walk (wpAny_pyIter_list pl.isList ?_);have pl2:(s.heap.push { cls:=.type "list_iterator",data:=.fields #[.ref p,.int 0 0] }).IsList p its.toArray:=by
  obtain⟨o,k1,k2⟩:=pl.isList;exact⟨o,Heap.get?_push_of_some _ k1,k2⟩
 refine⟨s.heap.objs.size,_,_,_,_,_,λi=>bs.getD i false,rfl,Walks.list (A:=X.A.in1) (I.ok.hd hc) s.heap.objs.size p hne its.toArray,⟨⟨_,Heap.get?_push_size _ rfl,rfl,rfl⟩,pl2⟩,?_,λh' tk hk=>?_⟩
 .intro i v s' Q' E' hv hQ
  have hv':its[i]?=some v:=by simpa using hv
  have hi:i<its.length:=(List.getElem?_eq_some_iff.mp hv').1;obtain⟨w,e1,e2⟩:=rv.get (show(bs.map V.bl)[i]?=some (V.bl (bs.getD i false)) by
   rw[List.getElem?_map,List.getElem?_eq_getElem (by omega)];simp[List.getD,List.getElem?_eq_getElem (show i<bs.length by omega)])
  rw[hv']at e1;cases e1;obtain rfl:v=Value.bool _:=e2;exact wpAny_truthy_bool hQ
 .have hall:(List.range its.toArray.size).all (λi=>bs.getD i false)=bs.all id:=by
   rw[List.size_toArray,←hlen];exact qg bs
  rw[hall];exact⟨.bl _,H,I.kept (t':=tk) (λb o e=>hk b o (by simp only[List.mem_singleton];exact Nat.ne_of_lt (Heap.lt_size e)) (Heap.get?_push_of_some _ e)),rfl,q⟩
def eC:ac->Option (List Bool)
 |[]=>some []
 |.bl b::r=>(eC r).map (b::·)
 |_=>none
theorem pY{K:W.Frag}{H:Hp}:∀{ds:ac}{bs:List Bool}{vs:al},eC ds=some bs->Reps K H ds vs->vs=bs.map V.bl
 |[],bs,vs,h,r=>by cases h;exact Reps.nil_iff.mp r
 |d::ds,bs,vs,h,r=>by
  obtain⟨v,r',rfl,h1,h2⟩:=aA.mp r;cases d with
  |bl x=>
   unfold eC at h;cases e:eC ds with
   |none=>rw[e]at h;cases h
   |some zs=>
    rw[e]at h;cases h;rw[aF.mp h1,pY e h2];rfl
  |_=>cases h
def vZ(x:D):ao D:=match x with
 |.lst ds=>match eC ds with
  |some bs=>.ok (.bl (bs.all id))
  |none=>.stuck
 |_=>.stuck
def BM:oz X E (IS X.K) (m1 vZ):=xF λx v H Ha Q hs r q=>by
 cases x with
 |lst ds=>
  unfold vZ at q;obtain⟨p,vs,rfl,h1,h2⟩:=aC.mp r;cases e:eC ds with
  |none=>simp only[e]at q;exact q.elim
  |some bs=>
   simp only[e]at q;exact⟨p,bs,rfl,by rw[←pY e h2];exact aE.sqL hs h1,bE hs q (rb _)⟩
 |_=>exact q.elim
end
end DL
namespace L2
open PySem PySem.Spec PyProof.Rows
section
variable {κ:Type}[DecidableEq κ]
def lQ(kvs:List (κ×V))(k:κ):Option V:=(kvs.find? λkv=>decide (kv.1=k)).map (·.2)
def gq(kvs:List (κ×V))(k:κ)(v:V):List (κ×V) :=
 if(kvs.any λkv=>decide (kv.1=k))=true then kvs.map (λkv=>if kv.1=k then(kv.1,v) else kv) else kvs++[(k,v)]
def jT{p:κ×V}{r:List (κ×V)}{k:κ}(e:p.1=k):lQ (p::r) k=some p.2:=by simp[lQ,List.find?_cons,e]
def iF{p:κ×V}{r:List (κ×V)}{k:κ}(e:¬p.1=k):lQ (p::r) k=lQ r k:=by simp[lQ,List.find?_cons,e]
theorem sr(k:κ):∀kvs:List (κ×V),(kvs.any λkv=>decide (kv.1=k))=(lQ kvs k).isSome
 |[]=>rfl
 |p::r=>by
  rw[List.any_cons]
  by_cases e:p.1=k
  .simp only[jT e,decide_eq_true e,Bool.true_or,Option.isSome_some]
  .rw[iF e,decide_eq_false e,Bool.false_or];exact sr k r
def iN(kvs:List (κ×V))(k:κ)(v:V):(gq kvs k v).length<=kvs.length+1:=by
 unfold gq;split
 .rw[List.length_map];omega
 .rw[List.length_append,List.length_cons,List.length_nil];omega
def jR.isSome_eq{o:Option V}{u:Option Value}(r:jR o u):o.isSome=u.isSome:=by
 cases o with
 |none=>cases u with
  |none=>rfl
  |some _=>exact(show False from r).elim
 |some _=>cases u with
  |none=>exact(show False from r).elim
  |some _=>rfl
def jR.getD{o:Option V}{u:Option Value}{d:V}{d':Value}(r:jR o u)(rd:bb d d'):bb (o.getD d) (u.getD d'):=by
 cases o with
 |none=>cases u with
  |none=>exact rd
  |some _=>exact(show False from r).elim
 |some _=>cases u with
  |none=>exact(show False from r).elim
  |some _=>exact r
def KV.val{kvs:List (κ×V)}{vs:List (κ×Value)}(r:KV kvs vs)(k:κ):jR (lQ kvs k) (valueAt vs k):=by
 unfold KV at r
 induction r with
 |nil=>exact True.intro
 |@cons p q ps qs h t ih=>
  obtain⟨h1,h2⟩:=h
  by_cases e:p.1=k
  .have e':q.1=k:=h1.symm.trans e
   have b:valueAt (q::qs) k=some q.2:=by simp[valueAt,List.find?_cons,e']
   rw[jT e,b];exact h2
  .have e':¬q.1=k:=λz=>e (h1.trans z)
   have b:valueAt (q::qs) k=valueAt qs k:=by simp[valueAt,List.find?_cons,e']
   rw[iF e,b];exact ih
def KV.any{kvs:List (κ×V)}{vs:List (κ×Value)}(r:KV kvs vs)(k:κ):(kvs.any λkv=>decide (kv.1=k))=vs.any λkv=>decide (kv.1=k):=by
 unfold KV at r
 induction r with|nil=>rfl|cons h t ih=>rw[List.any_cons,List.any_cons,ih,h.1]
def KV.repl{kvs:List (κ×V)}{vs:List (κ×Value)}(r:KV kvs vs)(k:κ){y:V}{u:Value}(ry:bb y u) :
  KV (kvs.map λkv=>if kv.1=k then(kv.1,y) else kv) (vs.map λkv=>if kv.1=k then(kv.1,u) else kv):=by
 unfold KV at r ⊢
 induction r with
 |nil=>exact .nil
 |@cons p q ps qs h t ih=>
  rw[List.map_cons,List.map_cons];refine .cons ?_ ih;obtain⟨h1,h2⟩:=h
  by_cases e:p.1=k
  .rw[if_pos e,if_pos (h1.symm.trans e)];exact⟨h1,ry⟩
  .rw[if_neg e,if_neg (λz=>e (h1.trans z))];exact⟨h1,h2⟩
def KV.put{kvs:List (κ×V)}{vs:List (κ×Value)}(r:KV kvs vs)(k:κ){y:V}{u:Value}(ry:bb y u):KV (gq kvs k y) (stored vs k u):=by
 unfold gq stored;rw[r.any k]
 by_cases e:(vs.any λkv=>decide (kv.1=k))=true
 .rw[if_pos e,if_pos e];exact r.repl k ry
 .rw[if_neg e,if_neg e];exact Paired.snoc r ⟨rfl,ry⟩
def KV.length{kvs:List (κ×V)}{vs:List (κ×Value)}(r:KV kvs vs):kvs.length=vs.length:=Paired.length r
end
def pG{P:Program}{w:World}{k:dD}{u:Value}(r:bb (kV k) u):(cg P w).is k u=true:=by
 cases k with|inl i=>obtain⟨t,e⟩:=(show ∃t,u=Value.int i t from r);subst e;exact tH P w i t|inr x=>obtain⟨t,e⟩:=(show ∃t,u=Value.str x t from r);subst e;exact tE P w x t
theorem pI{P:Program}{w:World}:∀{ks:List dD}{us:List Value},bj (ks.map kV) us->ItemsAre (cg P w) ks us
 |[],_,r=>by rw[List.map_nil]at r;cases r;exact .nil
 |k::ks,_,r=>by
  rw[List.map_cons]at r;cases r with|cons h t=>exact .cons (pG h) (pI t)
abbrev KT(H:Hp):List (List dD×V)->List (List dD×Addr×Value)->Prop:=Paired λp q=>p.1=q.1/\H q.2.1=some (.tup (p.1.map kV))/\bb p.2 q.2.2
def KT.val{H:Hp}{kvs:List (List dD×V)}{xs:List (List dD×Addr×Value)}(r:KT H kvs xs)(k:List dD):jR (lQ kvs k) ((atKey xs k).map (·.2)):=by
 induction r with
 |nil=>exact True.intro
 |@cons p q ps qs h t ih=>
  obtain⟨h1,_,h2⟩:=h
  by_cases e:p.1=k
  .have e':q.1=k:=h1.symm.trans e
   have b:atKey (q::qs) k=some q.2:=by simp[atKey,List.find?_cons,e']
   rw[jT e,b];exact h2
  .have e':¬q.1=k:=λz=>e (h1.trans z)
   have b:atKey (q::qs) k=atKey qs k:=by simp[atKey,List.find?_cons,e']
   rw[iF e,b];exact ih
def KT.repl{H:Hp}{kvs:List (List dD×V)}{xs:List (List dD×Addr×Value)}(r:KT H kvs xs)(k:List dD){y:V}{u:Value}(ry:bb y u) :
  KT H (kvs.map λkv=>if kv.1=k then(kv.1,y) else kv) (xs.map (putAt k u)):=by
 induction r with
 |nil=>exact .nil
 |@cons p q ps qs h t ih=>
  rw[List.map_cons,List.map_cons];refine .cons ?_ ih;obtain⟨h1,h2,h3⟩:=h;unfold putAt
  by_cases e:p.1=k
  .rw[if_pos e,if_pos (h1.symm.trans e)];exact⟨h1,h2,ry⟩
  .rw[if_neg e,if_neg (λz=>e (h1.trans z))];exact⟨h1,h2,h3⟩
def KT.put{H:Hp}{kvs:List (List dD×V)}{xs:List (List dD×Addr×Value)}(r:KT H kvs xs)(k:List dD){b:Addr}{y:V}{u:Value}(hb:H b=some (.tup (k.map kV)))(ry:bb y u) :
  KT H (gq kvs k y) (storedH xs k b u):=by
 have e:(kvs.any λkv=>decide (kv.1=k))=(atKey xs k).isSome:=by
  rw[sr,(r.val k).isSome_eq,Option.isSome_map]
 unfold gq storedH;rw[e]
 by_cases q:(atKey xs k).isSome=true
 .rw[if_pos q,if_pos q];exact r.repl k ry
 .rw[if_neg q,if_neg q];exact Paired.snoc r ⟨rfl,hb,ry⟩
def KT.keeps{H H':Hp}{kvs:List (List dD×V)}{xs:List (List dD×Addr×Value)}(r:KT H kvs xs)(ht:∀b ys,H b=some (.tup ys)->H' b=some (.tup ys)):KT H' kvs xs :=
 iU r λ_ _ z=>⟨z.1,ht _ _ z.2.1,z.2.2⟩
section
variable {P:Program}{w:World}{H:Hp}{h:Heap}{a:Addr}
def Fc{u:HO}(ok:er P w H h)(e:Rd H a u):br P w H h a u:=e.ok ok
def pP{kvs:List (dD×V)}(ok:er P w H h)(e:Rd H a (.dK kvs)):kvs.length<=sizeLine/\(a==sysModules)=false/\∃vs,KV kvs vs/\h.DictOf (cg P w) a vs :=
 show br P w H h a (.dK kvs) from Fc ok e
def Fo{kvs:List (dD×V)}(ok:er P w H h)(e:H a=some (.dK kvs)):kvs.length<=sizeLine/\(a==sysModules)=false/\∃vs,KV kvs vs/\h.DictOf (cg P w) a vs:=pP ok (.inl e)
def ng{ks:List dD}(ok:er P w H h)(e:H a=some (.tup (ks.map kV))):(tupleKind (cg P w)).is h ks a:=by
 obtain⟨_,its,r,o,h1,h2,n,h3⟩:=(show br P w H h a (.tup (ks.map kV)) from ok a _ e)
 exact⟨o,its.toArray,n,h1,h2,h3,by simpa using pI r⟩
def pM{kvs:List (List dD×V)}(ok:er P w H h)(e:Rd H a (.dT kvs)):kvs.length<=sizeLine/\(a==sysModules)=false /\
  ∃xs,KT H kvs xs/\h.DictOfH (tupleKind (cg P w)) a xs:=by
 obtain⟨z,y,xs,r,o,es,ep,h1,h2,h3,h4,h5⟩:=(show br P w H h a (.dT kvs) from Fc ok e)
 refine⟨z,y,xs,r,o,es,ep,h1,h2,h3,h4,λx hx=>?_,h5⟩;have all:∀{l:List (List dD×V)}{m:List (List dD×Addr×Value)},KT H l m->∀x∈m,(tupleKind (cg P w)).is h x.1 x.2.1:=by
  intro l m q
  induction q with
  |nil=>intro x hx;exact nomatch hx
  |@cons p q ps qs hq t ih=>
   intro x hx;rcases List.mem_cons.mp hx with e|hx
   .subst e
    exact ng ok (by rw[←hq.1];exact hq.2.1)
   .exact ih x hx
 exact all r x hx
def JW{kvs:List (List dD×V)}(ok:er P w H h)(e:H a=some (.dT kvs)):kvs.length<=sizeLine/\(a==sysModules)=false /\
  ∃xs,KT H kvs xs/\h.DictOfH (tupleKind (cg P w)) a xs:=pM ok (.inl e)
end
def rL(H:Hp)(a:Addr)(y:V)(r:Option V):Prop :=
 (∃kvs k,Rd H a (.dK kvs)/\y=kV k/\r=lQ kvs k)∨∃kvs k b,Rd H a (.dT kvs)/\y=.ref b/\H b=some (.tup (k.map kV))/\r=lQ kvs k
noncomputable def zk(H:Hp) (a:Addr) (y v:V) (H':Hp):Prop :=
 (∃kvs k,H a=some (.dK kvs)/\y=kV k/\kvs.length<sizeLine/\H'=upd H a (.dK (gq kvs k v))) ∨
 ∃kvs k b,H a=some (.dT kvs)/\y=.ref b/\H b=some (.tup (k.map kV))/\kvs.length<sizeLine/\H'=upd H a (.dT (gq kvs k v))
theorem zk.k{H:Hp}{a:Addr}{kvs:List (dD×V)}{k:dD}{v:V}(e:H a=some (.dK kvs))(hl:kvs.length<sizeLine):zk H a (kV k) v (upd H a (.dK (gq kvs k v))):=.inl ⟨kvs,k,e,rfl,hl,rfl⟩
section
variable {X:Cx}{pins:List (Addr×Obj)}{σ:St}{H:Hp}{s:Shared}{a:Addr}{y v:V}{u r:Value}{o:Option V}{A:Around}{E:Value->Shared->Prop}
def Inv.big(I:Inv X pins σ H s):sysModules<s.heap.objs.size:=by
 have h:mainGlobals<s.heap.objs.size:=(I.mod.glob.keeps I.bk).lt;exact Nat.lt_trans (by decide) h
def yW{Q:Value->Shared->Prop}(hu:A.units+1<cLine)(I:Inv X pins σ H s)(g:rL H a y (some v))(ry:bb y u)(h:∀w' s',Inv X pins σ H s'->bb v w'->Q w' s') :
  wpAny (model X.prog X.w) A (getItem (.ref a) u) Q E s:=by
 rcases g with⟨kvs,k,e,ey,l⟩|⟨kvs,k,b,e,ey,eb,l⟩
 .subst ey
  obtain⟨z,hd,vs,rel,dd⟩:=pP I.hok e;obtain⟨w',hw,rw'⟩:=jR.some_of (v:=v) (o:=valueAt vs k) (by rw[l];exact rel.val k);exact wpAny_getItem_of (pG ry) dd.mapOf hw (h w' _ (I.tok _) rw')
 .subst ey
  cases (show u=Value.ref b from ry);obtain⟨z,hd,xs,rel,dd⟩:=pM I.hok e;obtain⟨w',hw,rw'⟩:=jR.some_of (v:=v) (o:=(atKey xs k).map (·.2)) (by rw[l];exact rel.val k);obtain⟨p,hp,hp2⟩:=Option.map_eq_some_iff.mp hw;refine wpAny_getItem_heap (tupleKind_room_in1 hu) (ng I.hok eb) dd hp ?_;rw[hp2];exact h w' _ (I.tok _) rw'
def EF{Q:Value->Shared->Prop}(hu:A.units+1<cLine)(I:Inv X pins σ H s)(g:rL H a y o)(ry:bb y u)(h:∀s',Inv X pins σ H s'->Q (.bool (!o.isSome)) s') :
  wpAny (model X.prog X.w) A (compareOp .NotIn u (.ref a)) Q E s:=by
 rcases g with⟨kvs,k,e,ey,l⟩|⟨kvs,k,b,e,ey,eb,l⟩
 .subst ey
  obtain⟨z,hd,vs,rel,dd⟩:=pP I.hok e;refine wpAny_notIn_of (pG ry) hd dd.mapOf ?_;rw[←(rel.val k).isSome_eq,←l];exact h _ (I.tok _)
 .subst ey
  cases (show u=Value.ref b from ry);obtain⟨z,hd,xs,rel,dd⟩:=pM I.hok e;refine wpAny_notIn_heap (tupleKind_room_in1 hu) (ng I.hok eb) hd dd ?_;have q:=(rel.val k).isSome_eq;rw[Option.isSome_map]at q;rw[←q,←l];exact h _ (I.tok _)
def rm{h':Heap}{t':Nat}{ob:HO}(I:Inv X pins σ H s)(mu:HY (H a))(hs:Heap.SameBut a s.heap h')(he:∃q,h'.get? a=some q)(new:br X.prog X.w (upd H a ob) h' a ob) :
  Inv X pins σ (upd H a ob) { s with heap:=h',toks:=t' } :=
 I.write (x:=a) (e:=a) mu (.inl rfl) (λb q hb z=>(hs.2 b hb).trans z) he new
def BA{P:Program}{w:World}{H':Hp}{h':Heap}{kvs:List (dD×V)}{vs:List (dD×Value)}(z:kvs.length<=sizeLine)(hd:(a==sysModules)=false)(rel:KV kvs vs)(dd:h'.DictOf (cg P w) a vs) :
  br P w H' h' a (.dK kvs):=⟨z,hd,vs,rel,dd⟩
def yV{H':Hp}{Q:Unit->Shared->Prop}(hu:A.units+1<cLine)(I:Inv X pins σ H s)(g:zk H a y v H')(ry:bb y u)(rv:bb v r)(h:∀s',Inv X pins σ H' s'->Q () s') :
  wpAny (model X.prog X.w) A (setItem (.ref a) u r) Q E s:=by
 rcases g with⟨kvs,k,e,ey,l,eH⟩|⟨kvs,k,b,e,ey,eb,l,eH⟩
 .subst ey eH
  obtain⟨z,hd,vs,rel,dd⟩:=Fo I.hok e;have hz:vs.length<=sizeLine:=by rw[←rel.length];exact z
  have hl:(gq kvs k v).length<=sizeLine:=by have:=iN kvs k v;omega
  refine wpAny_setItem_pairs (hsz:=hz) (pG ry) dd λh' dd' hs=>h _ ?_;have he:∃q,h'.get? a=some q:=let ⟨q,_,_,hq,_⟩:=dd';⟨q,hq⟩;exact rm I (by rw[e];exact True.intro) hs he (BA hl hd (rel.put k rv) dd')
 .subst ey eH
  cases (show u=Value.ref b from ry);obtain⟨z,hd,xs,rel,dd⟩:=JW I.hok e;have hz:xs.length<=sizeLine:=by rw[←Paired.length rel];exact z
  have hl:(gq kvs k v).length<=sizeLine:=by have:=iN kvs k v;omega
  refine wpAny_setItem_heap (hsz:=hz) (tupleKind_room_in1 hu) (ng I.hok eb) dd λh' dd' hs=>h _ ?_;obtain⟨q,es,ep,hq,h2,h3,h4,_,h5⟩:=dd';refine rm I (by rw[e];exact True.intro) hs ⟨q,hq⟩ ⟨hl,hd,_,(rel.put k eb rv).keeps λc ys ec=>?_,q,es,ep,hq,h2,h3,h4,h5⟩;rw[az (Jn ec e (λz=>nomatch z))];exact ec
end
def HX(i:Expr):Prop:=∀ov iv,subscripted i false ov iv=operate [ov,iv] (getItem ov iv)
def CC{prog:Program}{w:World}{A:Around}{E:Value->Shared->Prop}{s:Shared}{env:Env}{value slice:Expr}{pos:Pos}{T id:String}{Q:Value->Shared->Prop}
  (hl:typeLookup (.type T) "__getitem__"=pure (some (.builtin id)))(hs:HX slice)
  (h:wpAny (model prog w) A (eval value env) (λo sg=>wpAny (model prog w) A (eval slice env) (λi si=>si.TypeIs o T/\wpAny (model prog w) A (getItem o i) Q E si) E sg) E s) :
  wpAny (model prog w) A (eval (.Subscript value slice pos) env) Q E s:=by
 refine Subscript_ (wpAny_mono h (λo sg h₁=>wpAny_mono h₁ (λi si hG=>?_) λ_ _ x=>x) λ_ _ x=>x);obtain⟨hT,hG⟩:=hG;unfold subscriptTail;refine wpAny_bind ?_;rw[getitemInPython_of_ne hT.not_modules];refine wpAny_bind (wpAny_specialOf hT hl ?_);have fin:wpAny (model prog w) A (subscripted slice false o i) (λr sj=>wpAny (model prog w) A (letTemporaryGo value o r >>= λ_=>pure r) Q E sj) E si:=by
  rw[hs o i];exact wpAny_operating (wpAny_mono hG (λr sj hV=>wpAny_bind (wpAny_letTemporaryGo (wpAny_pure hV))) λ_ _ x=>x)
 first
  |exact wpAny_pure (wpAny_bind fin)
  |exact wpAny_bind (wpAny_pure (wpAny_bind fin))
  |exact wpAny_bind fin
def ug{X:Cx}{pins:List (Addr×Obj)}{σ:St}{H:Hp}{s:Shared}{a:Addr}{y:V}{o:Option V}(I:Inv X pins σ H s)(g:rL H a y o):s.TypeIs (.ref a) "dict":=by
 rcases g with⟨kvs,k,e,_,_⟩|⟨kvs,k,b,e,_,_,_⟩
 .obtain⟨_,_,vs,_,dd⟩:=pP I.hok e
  exact dd.typeIs
 .obtain⟨_,_,xs,_,dd⟩:=pM I.hok e
  exact dd.typeIs
def Iz(td ty:TE):TE:=λσ H Q=>td σ H λx H1=>ty σ H1 λy H2=>∃a v,x=.ref a/\rL H2 a y (some v)/\Q v H2
def IF(td ty tv:TE):TS:=λD σ H=>tv σ H λv H1=>td σ H1 λx H2=>ty σ H2 λy H3=>∃a H4,x=.ref a/\zk H3 a y v H4/\D.nx σ H4
section
variable {X:Cx}{o i e value:Expr}{pos pos' tpos:Pos}{td ty tv:TE}
def C6(hu:X.A.units+1<cLine)(ho:PE X o td)(hi:PE X i ty)(hs:HX i):PE X (.Subscript o i pos) (Iz td ty):=by
 intro pins s σ H Q I h;refine CC PySem.F.slot_dict_getitem.lookup hs (cA (ho pins s σ H _ I h) λu s1 ⟨x,H1,I1,rx,q1⟩=>cA (hi pins s1 σ H1 _ I1 q1) λiv s2 z9=>?_);obtain⟨y,H2,I2,ry,a,v,ex,g,q2⟩:=z9;subst ex;obtain rfl:u=Value.ref a:=rx;exact⟨ug I2 g,yW hu I2 g ry λw' s3 I3 rw'=>⟨v,H2,I3,rw',q2⟩⟩
def CS(hu:X.A.units+1<cLine)(ho:PE X o td)(hi:PE X i ty)(hv:PE X value tv)(hs:swapsWith value (some (.Subscript o i pos')) pos.line X.env=pure false) :
  PS X (.Assign [.Subscript o i pos'] value pos) (IF td ty tv):=by
 intro pins s σ H D I h;refine wpAny_Assign_Subscript (cA (hv pins s σ H _ I h) λr s1 ⟨v,H1,I1,rv,q1⟩=>cA (ho pins s1 σ H1 _ I1 q1) λu s2 ⟨x,H2,I2,rx,q2⟩=>cA (hi pins s2 σ H2 _ I2 q2) λiv s3 z9=>?_) hs;obtain⟨y,H3,I3,ry,a,H4,ex,g,q3⟩:=z9;subst ex;obtain rfl:u=Value.ref a:=rx;exact yV hu I3 g ry rv λs4 I4=>⟨σ,H4,I4,q3⟩
end
def uf{P:Program}{w:World}{H:Hp}(h:Heap)(hb:sysModules<h.objs.size):br P w H (h.push { cls:=.type "dict",data:=.dict #[] }) h.objs.size (.dK []) :=
 ⟨Nat.zero_le _,beq_eq_false_iff_ne.mpr (Ne.symm (Nat.ne_of_lt hb)),[],.nil,Heap.DictOf.new h⟩
def FZ:TE:=λ_ H Q=>∀p,H p=none->Q (.ref p) (upd H p (.dK []))
section
variable {X:Cx}{pos:Pos}
def Az:PE X (.Dict [] [] pos) FZ:=λpins s σ H Q I h=>
 wpAny_Dict_empty ⟨.ref s.heap.objs.size,_,I.laid (a:=s.heap.objs.size) (o:=.dK []) (t':=s.toks) (λ_ _ q=>Heap.get?_push_of_some _ q) (Nat.le_refl _) (uf s.heap I.big),rfl,h _ (I.hok.fresh (Nat.le_refl _))⟩
end
def uU:List (TE×TE)->St->Hp->(List (V×V)->Hp->Prop)->Prop
 |[],_,H,Q=>Q [] H
 |(tk,tv)::r,σ,H,Q=>tk σ H λx H1=>tv σ H1 λy H2=>uU r σ H2 λps H3=>Q ((x,y)::ps) H3
abbrev VV:List (V×V)->List (Value×Value)->Prop:=Paired λp q=>bb p.1 q.1/\bb p.2 q.2
noncomputable def Kx(X:Cx) (pos:Pos) (keys:List (Option Expr)) (values:List Expr) (trs:List (TE×TE)):Prop :=
 ∀(pins:List (Addr×Obj)) (s:Shared) (σ:St) (H:Hp) (Q:List (V×V)->Hp->Prop),Inv X pins σ H s->uU trs σ H Q ->
  wpAny (model X.prog X.w) X.A (evalPairs (pairTrees keys values X.env pos)) (λvs s'=>∃ps H',Inv X pins σ H' s'/\VV ps vs/\Q ps H') X.xe s
def CU{X:Cx}{pos:Pos}:Kx X pos [] [] []:=λpins s σ H Q I h=>pairTrees_nil_walk ⟨[],H,I,.nil,h⟩
def sU{X:Cx}{pos:Pos}{k v:Expr}{ks:List (Option Expr)}{vs:List Expr}{tk tv:TE}{trs:List (TE×TE)}(hk:PE X k tk)(hv:PE X v tv)(hr:Kx X pos ks vs trs) :
  Kx X pos (some k::ks) (v::vs) ((tk,tv)::trs):=λpins s σ H Q I h=>
 pairTrees_cons_walk (cA (hk pins s σ H _ I h) λu s1 ⟨x,H1,I1,rx,q1⟩=>cA (hv pins s1 σ H1 _ I1 q1) λw2 s2 ⟨y,H2,I2,ry,q2⟩ =>
  cA (hr pins s2 σ H2 _ I2 q2) λws s3 ⟨ps,H3,I3,rel,q3⟩=>⟨(x,y)::ps,H3,I3,.cons ⟨rx,ry⟩ rel,q3⟩)
def kP(kvs more:List (dD×V)):List (dD×V):=more.foldl (λacc kv=>gq acc kv.1 kv.2) kvs
def KV.merge:∀{more:List (dD×V)}{rs:List (dD×Value)}{kvs:List (dD×V)}{vs:List (dD×Value)},KV more rs->KV kvs vs->KV (kP kvs more) (merged vs rs):=by
 intro more rs kvs vs r;unfold KV at r
 induction r generalizing kvs vs with
 |nil=>intro q;exact q
 |@cons p q ps qs h t ih=>
  intro r0;have e:KV (gq kvs p.1 p.2) (stored vs q.1 q.2):=by
   have:=r0.put p.1 h.2;rw[←h.1];exact this
  exact ih e
theorem jF:∀(more kvs:List (dD×V)),(kP kvs more).length<=kvs.length+more.length
 |[],kvs=>by show kvs.length<=kvs.length+0;omega
 |p::r,kvs=>by
  have h1:=jF r (gq kvs p.1 p.2);have h2:=iN kvs p.1 p.2;show(kP (gq kvs p.1 p.2) r).length<=_;rw[List.length_cons];omega
theorem nW{P:Program}{w:World}:∀{kvs:List (dD×V)}{ws:List (Value×Value)},VV (kvs.map λkv=>(kV kv.1,kv.2)) ws->∃rs,Carries (cg P w) ws rs/\KV kvs rs
 |[],_,r=>by rw[List.map_nil]at r;cases r;exact⟨[],True.intro,.nil⟩
 |p::kvs,_,r=>by
  rw[List.map_cons]at r;cases r with
  |@cons a b as bs h t=>
   obtain⟨rs,c,q⟩:=nW (P:=P) (w:=w) t;obtain⟨b1,b2⟩:=b;exact⟨(p.1,b2)::rs,⟨pG h.1,rfl,c⟩,.cons ⟨rfl,h.2⟩ q⟩
def Iy(trs:List (TE×TE)):TE:=λσ H Q=>∀p,H p=none->uU trs σ (upd H p (.dK [])) λps H2=>H2 p=some (.dK [])/\∃kvs:List (dD×V),ps=kvs.map (λkv=>(kV kv.1,kv.2))/\kvs.length<=15/\Q (.ref p) (upd H2 p (.dK (kP [] kvs)))
def C5{X:Cx}{pos:Pos}{keys:List (Option Expr)}{values:List Expr}{trs:List (TE×TE)}(h:Kx X pos keys values trs)(hall:keys.all (·.isSome)=true)(hl:keys.length=values.length)(h0:keys≠[])
  (h15:keys.length<=15):PE X (.Dict keys values pos) (Iy trs):=by
 intro pins s σ H Q I q;have hn:=I.hok.fresh (Nat.le_refl s.heap.objs.size);have I1:=I.laid (a:=s.heap.objs.size) (o:=.dK []) (h':=s.heap.push { cls:=.type "dict",data:=.dict #[] }) (t':=s.toks) (λ_ _ q=>Heap.get?_push_of_some _ q) (Nat.le_refl _) (uf s.heap I.big);refine wpAny_Dict_walk (knd:=cg X.prog X.w) hall hl h0 h15 (cA (h pins _ σ _ _ I1 (q _ hn)) λws s2 ⟨ps,H2,I2,rel,e,kvs,ep,lk,q2⟩=>?_);subst ep;obtain⟨rs,c,rk⟩:=nW (P:=X.prog) (w:=X.w) rel;obtain⟨z,hd,vs0,r0,dd⟩:=Fo I2.hok e;cases r0;refine⟨rs,c,dd,λh' dd' hs=>⟨.ref s.heap.objs.size,_,?_,rfl,q2⟩⟩;have hz:(kP [] kvs).length<=sizeLine:=by
  have h1:=jF kvs [];rw[List.length_nil]at h1;rw[sizeLine_eq];omega
 have he:∃q,h'.get? s.heap.objs.size=some q:=let ⟨q,_,_,hq,_⟩:=dd';⟨q,hq⟩;exact rm I2 (by rw[e];exact True.intro) hs he (BA hz hd (rk.merge .nil) dd')
structure M2 (X:Cx) (o:Expr) (m:Str) (apos:Pos) (e f:Expr) (cpos:Pos):Prop where
 base:attributeBase o m X.env (eval o X.env)=eval o X.env
 few:((backTo cpos (starEach [e,f] X.env)).all (λx=>!x.1)&&(backToKw cpos (keywordEach [] X.env)).all (λx=>x.1.isSome)
 &&decide (([e,f]:List Expr).length+([]:List Keyword).length+(if([]:List Keyword).isEmpty then 0 else 1)<30))=true
 line:(apos.endLine==cpos.line)=true
 trees:backTo cpos (starEach [e,f] X.env)=[(false,eval e X.env),(false,eval f X.env)]
def LQ(H:Hp)(a:Addr):Prop:=(∃kvs,Rd H a (.dK kvs))∨∃kvs,Rd H a (.dT kvs)
def GN{X:Cx}{pins:List (Addr×Obj)}{σ:St}{H:Hp}{s:Shared}{a:Addr}(I:Inv X pins σ H s)(d:LQ H a) :
  s.TypeIs (.ref a) "dict"/\(∀b,Value.ref a=.ref b->∃ob,s.heap.get? b=some ob/\ob.dict=none)/\(a==sysModules)=false:=by
 rcases d with⟨kvs,e⟩|⟨kvs,e⟩
 .obtain⟨_,hd,vs,_,dd⟩:=pP I.hok e
  refine⟨dd.typeIs,λb q=>?_,hd⟩;cases q;obtain⟨ob,_,_,h1,h2,_⟩:=dd;exact⟨ob,h1,h2.2.1⟩
 .obtain⟨_,hd,xs,_,dd⟩:=pM I.hok e
  refine⟨dd.typeIs,λb q=>?_,hd⟩;cases q;obtain⟨ob,_,_,h1,h2,_⟩:=dd;exact⟨ob,h1,h2.2.1⟩
section
variable {X:Cx}{pins:List (Addr×Obj)}{σ:St}{H:Hp}{s:Shared}{a:Addr}{y d:V}{u r:Value}{o:Option V}{A:Around}{E:Value->Shared->Prop}
def HK{Q:Value->Shared->Prop}(hu:A.units+1<cLine)(I:Inv X pins σ H s)(g:rL H a y o)(ry:bb y u)(rd:bb d r)(h:∀w' s',Inv X pins σ H s'->bb (o.getD d) w'->Q w' s') :
  wpAny (model X.prog X.w) A (call (.builtin "dict.get") [.ref a,u,r]) Q E s:=by
 rcases g with⟨kvs,k,e,ey,l⟩|⟨kvs,k,b,e,ey,eb,l⟩
 .subst ey
  obtain⟨z,hd,vs,rel,dd⟩:=pP I.hok e;refine call_meetsIn PySem.F.slot_dict_get dd.typeIs PySem.F.entry_dict_get (PySem.F.args_dict_get_3 _ _ _) (meets_dict_get_default (cg X.prog X.w) a (pG ry) hd r) ⟨_,dd.mapOf,h _ _ (I.tok _) ?_⟩;rw[l];exact(rel.val k).getD rd
 .subst ey
  cases (show u=Value.ref b from ry);obtain⟨z,hd,xs,rel,dd⟩:=pM I.hok e;refine call_meetsIn PySem.F.slot_dict_get dd.typeIs PySem.F.entry_dict_get (PySem.F.args_dict_get_3 _ _ _) (meetsH_dict_get_default (tupleKind (cg X.prog X.w)) a b hd r) ⟨tupleKind_room_in1 hu,k,xs,ng I.hok eb,dd,h _ _ (I.tok _) ?_⟩;rw[l];exact(rel.val k).getD rd
end
def F0(td ty tx:TE):TE:=λσ H Q=>td σ H λx H1=>∃a,x=.ref a/\LQ H1 a/\ty σ H1 λy H2=>tx σ H2 λz H3=>∃o,rL H3 a y o/\Q (o.getD z) H3
section
variable {X:Cx}{o e f:Expr}{apos cpos:Pos}{td ty tx:TE}
def AA(hu:X.A.units+1<cLine)(ho:PE X o td)(he:PE X e ty)(hf:PE X f tx)(m:M2 X o "get" apos e f cpos):PE X (.Call (.Attribute o "get" apos) [e,f] [] cpos) (F0 td ty tx):=by
 intro pins s σ H Q I h;refine wpAny_Call_method m.base m.few m.line PySem.F.plainAttrs_dict PySem.F.slot_dict_get PySem.F.type_dict_get (cA (ho pins s σ H _ I h) λu s1 ⟨x,H1,I1,rx,a,ex,d,q1⟩=>?_);subst ex;obtain rfl:u=Value.ref a:=rx;obtain⟨t1,t2,_⟩:=GN I1 d;refine⟨t1,t2,?_⟩;rw[m.trees];refine Calls.callWith_builtin rfl (Calls.evalArgs_plain (Calls.spliced_cons (cA (he pins s1 σ H1 _ I1 q1) λiv s2 ⟨y,H2,I2,ry,q2⟩ =>
  Calls.spliced_cons (cA (hf pins s2 σ H2 _ I2 q2) λfv s3 ⟨z,H3,I3,rz,ov,g,q3⟩=>Calls.spliced_nil ?_))))
 exact HK hu I3 g ry rz λw' s4 I4 rw'=>⟨_,H3,I4,rw',q3⟩
end
end L2
namespace DL
open PySem PySem.Spec PyProof.Rows L2
section
variable {X:Cx}{E:XK}{e:Expr}{f:am}{pos p1:Pos}
def dOne(x:Str)(d:D):ao D:=.ok (.dic [x] [d])
end
def f9(cells:List (Str×Addr)):List (Str×NameKind)->List (Str×Addr)->List (Str×Addr)
 |[],acc=>acc
 |(n,k)::r,acc=>if(k==NameKind.free)=true then f9 cells r ((n,(cells.lookup n).getD 0)::acc) else f9 cells r acc
def o5{scope:Scope}{env:PySem.Env}(h:∀x∈scope.names,x.2=.free->∃c,env.cells.lookup x.1=some c):closureFor scope env=pure (f9 env.cells scope.names []):=by
 simp only[closureFor];have key:∀(names:List (Str×NameKind)) (acc:List (Str×Addr)),(∀x∈names,x.2=.free->∃c,env.cells.lookup x.1=some c) ->
   (forIn names acc λ(x:Str×NameKind) (z:List (Str×Addr))=>
      if(x.snd==NameKind.free)=true then do
       let y ←cellOf env x.fst
       pure (ForInStep.yield ((x.fst,y)::z))
      else(pure (ForInStep.yield z):Sem _))=pure (f9 env.cells names acc):=by
  intro names
  induction names with
  |nil=>intro acc _;rfl
  |cons x r ih=>
   intro acc hh;obtain⟨n,k⟩:=x;rw[List.forIn_cons]
   by_cases hk:(k==NameKind.free)=true
   .obtain⟨c,hc⟩:=hh (n,k) List.mem_cons_self (by simpa using hk)
    have hcell:cellOf env n=pure c:=by unfold cellOf;rw[show env.cells.lookup n=some c from hc]
    simp only[hk,if_true];rw[hcell];have:=ih ((n,c)::acc) (λy hy=>hh y (List.mem_cons_of_mem _ hy));rw[show f9 env.cells ((n,k)::r) acc=f9 env.cells r ((n,c)::acc) by
     show(if(k==NameKind.free)=true then _ else _)=_;rw[if_pos hk,show env.cells.lookup n=some c from hc];rfl]
    rw[←this];rfl
   .have:=ih acc (λy hy=>hh y (List.mem_cons_of_mem _ hy))
    rw[if_neg hk];rw[show f9 env.cells ((n,k)::r) acc=f9 env.cells r acc by
     show(if(k==NameKind.free)=true then _ else _)=_;rw[if_neg hk]]
    rw[←this];rfl
 rw[key _ _ h];rfl
theorem nS{cells:List (Str×Addr)}:∀{names:List (Str×NameKind)}{acc:List (Str×Addr)}{x:Str}{c:Addr},(∀y∈names,y.2=.free->∃c,cells.lookup y.1=some c) ->
  (f9 cells names acc).lookup x=some c->acc.lookup x=some c∨cells.lookup x=some c
 |[],acc,x,c,_,h=>.inl h
 |(n,k)::r,acc,x,c,hh,h=>by
  unfold f9 at h
  by_cases hk:(k==NameKind.free)=true
  .rw[if_pos hk]at h
   obtain⟨d,hd⟩:=hh (n,k) List.mem_cons_self (by simpa using hk);rcases nS (λy hy=>hh y (List.mem_cons_of_mem _ hy)) h with h|h
   .rw[List.lookup_cons]at h
    cases e:x==n with
    |true=>
     rw[e]at h;rw[show cells.lookup n=some d from hd]at h;cases h;rw[eq_of_beq e];exact .inr hd
    |false=>rw[e]at h;exact .inl h
   .exact .inr h
  .rw[if_neg hk]at h
   exact nS (λy hy=>hh y (List.mem_cons_of_mem _ hy)) h
theorem lC{α:Type}{x:Str}:∀{l:List (Str×α)},(∃v,(x,v)∈l)->∃v,l.lookup x=some v
 |[],⟨v,h⟩=>by cases h
 |(n,w)::r,⟨v,h⟩=>by
  rw[List.lookup_cons];cases e:x==n with
  |true=>exact⟨w,rfl⟩
  |false=>
   rcases List.mem_cons.mp h with h|h
   .cases h;simp at e
   .exact lC ⟨v,h⟩
theorem nU{cells:List (Str×Addr)}{x:Str}{c:Addr}:∀{names:List (Str×NameKind)}{acc:List (Str×Addr)},(x,c)∈acc->(x,c)∈f9 cells names acc
 |[],acc,h=>h
 |(n,k)::r,acc,h=>by
  unfold f9
  by_cases hk:(k==NameKind.free)=true
  .rw[if_pos hk];exact nU (List.mem_cons_of_mem _ h)
  .rw[if_neg hk];exact nU h
def nT{cells:List (Str×Addr)}{x:Str}:∀{names:List (Str×NameKind)}{acc:List (Str×Addr)},(x,NameKind.free)∈names->∃c,(f9 cells names acc).lookup x=some c:=by
 intro names
 induction names with
 |nil=>intro acc h;cases h
 |cons y r ih=>
  intro acc h;obtain⟨n,k⟩:=y;unfold f9;rcases List.mem_cons.mp h with h|h
  .cases h
   rw[if_pos (by rfl)];exact lC ⟨_,nU List.mem_cons_self⟩
  .by_cases hk:(k==NameKind.free)=true
   .rw[if_pos hk];exact ih h
   .rw[if_neg hk];exact ih h
noncomputable def dM(X:Cx) (N:List Str) (scope:Scope) (s:Shared) (H:Hp) (C:Addr) (fp:List Addr) (pn:List (Addr×Obj)):Cx :=
 { X with N:=N,sf:=s,Ha:=H,env:=compEnvC scope (f9 X.env.cells scope.names []) C X.env,outer:=X.stack,stack:=X.stack,ex:=fp,fn:=λ_=>false,pn:=pn,xe:=λ_ _=>False }
def kn(n:Nat)(fr:bi)(σ:L2.St):L2.St:=List.replicate n none++fr.map λ(i:Nat)=>(σ[i]?).getD none
noncomputable def B2(X:Cx) (N:List Str) (n:Nat) (fr:bi) (scope:Scope):Prop :=
 N.length=n+fr.length/\((N.drop n).zip fr).all (λp=>X.N[p.2]?==some p.1&&X.env.scope.names.lookup p.1==some .cell&&scope.names.lookup p.1==some .free&&(relabel scope X.env).names.lookup p.1==some .cell)=true
theorem B2.at{X:Cx}{N:List Str}{n:Nat}{fr:bi}{scope:Scope}(h:B2 X N n fr scope){k:Nat}{x:Str}{v:V}{σ:L2.St}(hx:N[k]?=some x)(hv:(kn n fr σ)[k]?=some (some v)) :
  ∃i:Nat,X.N[i]?=some x/\σ[i]?=some (some v)/\X.env.scope.names.lookup x=some .cell/\scope.names.lookup x=some .free/\(relabel scope X.env).names.lookup x=some .cell:=by
 unfold kn at hv
 by_cases hk:k<n
 .rw[List.getElem?_append_left (by simpa using hk),List.getElem?_replicate,if_pos hk]at hv
  cases hv
 .rw[List.getElem?_append_right (by simpa using hk),List.length_replicate,List.getElem?_map]at hv
  cases hi:fr[k-n]? with
  |none=>rw[hi]at hv;cases hv
  |some i=>
   rw[hi]at hv;have hz:((N.drop n).zip fr)[k-n]?=some (x,i):=by
    rw[List.getElem?_zip_eq_some];exact⟨by rw[List.getElem?_drop,show n+(k-n)=k by omega];exact hx,hi⟩
   have:=List.all_eq_true.mp h.2 _ (List.mem_of_getElem? hz);simp only[Bool.and_eq_true,beq_iff_eq]at this;refine⟨i,this.1.1.1,?_,this.1.1.2,this.1.2,this.2⟩;simp only[Option.map_some,Option.some.injEq]at hv;cases hs:σ[i]? with|none=>rw[hs]at hv;cases hv|some u=>rw[hs]at hv;exact congrArg some hv
noncomputable def J5(X:Cx) (ifs:List Expr) (t:TT):Prop :=
 ∀(pins:List (Addr×Obj)) (s:Shared) (σ:L2.St) (H:Hp) (Q:Bool->Hp->Prop),Inv X pins σ H s->t σ H Q ->
  wpAny (model X.prog X.w) X.A (forIn ifs true λc r=>if r=true then do let ok ←isTrue c X.env (eval c X.env);pure (ForInStep.yield ok) else pure (ForInStep.yield r)) (TP X pins σ Q) X.xe s
def KJ:TT:=λ_ H Q=>Q true H
def CZ{X:Cx}:J5 X [] KJ:=λ_ _ _ H _ I h=>wpAny_tests_nil ⟨H,I,h⟩
def CY{X:Cx}{c:Expr}{t:TT}(h:PT X c t):J5 X [c] t:=λpins s σ H Q I q=>wpAny_tests_one (h pins s σ H Q I q)
theorem nP{prog:Program}{w:World}{A:Around}{R:Result->Shared->Prop}{s:Shared}{elt target iter:Expr}{ifs:List Expr}{scope:Scope}{pos:Pos}{it acc:Value}{env:PySem.Env}(I:Nat->Shared->Prop)
  (turn:∀n s,I n s->wpAny (model prog w) A (pyNext it) (λr sg=>match r with
   |none=>R (.ok .next) sg
   |some v=>wpAny (model prog w) A (letOwnedTupleGo target it v) (λ_ sg'=>wpAny (model prog w) A (assign target env v) (λ_ si=>
     wpAny (model prog w) A (forIn ifs true λc r=>if r=true then do let ok ←isTrue c env (eval c env);pure (ForInStep.yield ok) else pure (ForInStep.yield r)) (λok sj=>
      if ok=true then wpAny (model prog w) A (eval elt env) (λx sk=>
       wpAny (model prog w) A (call (.builtin "list.append") [acc,x]) (λ_ so=>∃m,m<n/\I m so) (λ_ _=>False) sk) (λ_ _=>False) sj
      else ∃m,m<n/\I m sj) (λ_ _=>False) si) (λ_ _=>False) sg') (λ_ _=>False) sg) (λ_ _=>False) s)
  (n:Nat) (h:I n s) :
  codeAny (model prog w) A (.compLoop (.ListComp elt [⟨target,iter,ifs,0⟩] scope pos) 0 it acc env) R s:=by
 refine codeAny_loop rfl I (λn s hI=>?_) n h;show wpAny _ A ((compTurn (.ListComp elt [⟨target,iter,ifs,0⟩] scope pos) 0 it acc env).onRaise (λx=>do noteFrame x env;theTreesLotGoes x)) _ _ s;refine wpAny_noted ?_;rw[compTurn_list];refine wpAny_bind (wpAny_standAt (wpAny_bind (wpAny_mono (turn n s hI) (λr sg h₁=>?_) λ_ _ h'=>h'.elim)));cases r with
 |none=>exact wpAny_pure h₁
 |some v=>
  refine wpAny_bind (wpAny_mono h₁ (λ_ sg' h₁'=>?_) λ_ _ h'=>h'.elim);refine wpAny_bind (wpAny_mono h₁' (λ_ si hG=>wpAny_bind (wpAny_mono hG (λok sj hV=>?_) λ_ _ h'=>h'.elim)) λ_ _ h'=>h'.elim);cases ok with
  |false=>exact wpAny_pure ⟨rfl,hV⟩
  |true=>
   exact wpAny_bind (wpAny_bind (wpAny_mono hV (λx sk hW=>wpAny_bind (wpAny_mono hW (λ_ so h₅=>wpAny_pure (wpAny_pure ⟨rfl,h₅⟩)) λ_ _ h'=>h'.elim)) λ_ _ h'=>h'.elim))
noncomputable def uT(n:Nat) (fr:bi) (g:TG) (tt:TT) (te:TE) (J:It) (σ:L2.St) (H1:Hp) (Q:VK):Prop:=∀D,H1 D=none->∃W:Nat->Nat->al->L2.St->Hp->Prop,(∃m,W 0 m [] (kn n fr σ) (upd H1 D (.lst []))) /\
 ∀i m ys σ' H',W i m ys σ' H'->H' D=some (.lst ys)/\((J.stop i H'/\Q (.ref D) H')∨(J.go i H'/\ys.length<sizeLine/\∀x H2,J.yld i H' x H2->g x σ' H2 λσ3 H3=>tt σ3 H3 λb H4=>
  if b=true then te σ3 H4 λy H5=>H5 D=some (.lst ys)/\∃m',m' < m/\W (i+1) m' (ys++[y]) σ3 (upd H5 D (.lst (ys++[y])))
  else ∃m',m' < m/\W (i+1) m' ys σ3 H4))
def y0{X:Cx}{tg iter elt:Expr}{ifs:List Expr}{scope:Scope}{pos:Pos}{N:List Str}{n:Nat}{fr:bi}{g:TG}{tt:TT}{te:TE}(hc:X.calm=true)(hfr:B2 X N n fr scope)
  (hcell:∀x∈scope.names,x.2≠.cell)(hfree:∀x∈scope.names,x.2=.free->X.env.scope.names.lookup x.1=some .cell)(hkind:scope.kind=.function)
  (blk:∀s H C fp pn,PG (dM X N scope s H C fp pn) tg g/\J5 (dM X N scope s H C fp pn) ifs tt/\PE (dM X N scope s H C fp pn) elt te)
  {pins:List (Addr×Obj)}{σ:L2.St}{s2:Shared}{Q:VK}{itv:Value}{RR:Value->Addr->Result->Shared->Prop}
  (h2:Ky X pins σ tg (λJ H1=>uT n fr g tt te J σ H1 Q) itv s2)
  (fin:∀(Da C:Addr) (s6:Shared) (H5:Hp) (m:Str->Option Value),Inv X pins σ H5 s6->s6.heap.Ns C m->lq X pins H5 C->Q (.ref Da) H5->RR (.ref Da) C (.ok .next) s6) :
  wpAny (model X.prog X.w) X.A (newList []) (λacc sj=>wpAny (model X.prog X.w) X.A (newFunctionEnv scope X.env.globals (f9 X.env.cells scope.names []) [] X.env.qual none .none (some X.env)) (λcenv sk=>
   codeAny (model X.prog X.w) X.A (.compStart (.ListComp elt [⟨tg,iter,ifs,0⟩] scope pos) 0 itv acc { cenv with scope:=relabel scope X.env }) (RR acc cenv.locals) sk) X.xe sj) X.xe s2:=by
 obtain⟨it,fp,tn,J,H2,e,I2,T,st2,f2,q⟩:=h2;subst e;have hD:H2 s2.heap.objs.size=none:=I2.fresh;refine wpAny_newObj_type ?_;have I3:Inv X pins σ (upd H2 s2.heap.objs.size (.lst [])) { s2 with heap:=s2.heap.push { cls:=.type "list",data:=.seq ([]:List Value).toArray } }:=I2.lnew (t':=s2.toks) (its:=[]) .nil (Nat.zero_le _);obtain⟨W,⟨m0,w0⟩,turn⟩:=q s2.heap.objs.size hD;generalize hs3:({ s2 with heap:=s2.heap.push { cls:=.type "list",data:=.seq ([]:List Value).toArray } }:Shared)=s3 at I3 ⊢;have hs3h:s3.heap=s2.heap.push { cls:=.type "list",data:=.seq ([]:List Value).toArray }:=by rw[←hs3]
 have hDs:s2.heap.objs.size<s3.heap.objs.size:=by rw[hs3h,Heap.size_push];exact Nat.lt_succ_self _
 have fpl:∀b∈fp,b<s2.heap.objs.size:=λb hb=>by
  obtain⟨o,ho,_⟩:=T.obj _ _ st2 b hb;exact Heap.lt_size ho
 have kept3:∀b o,s2.heap.get? b=some o->s3.heap.get? b=some o:=λb o e=>by rw[hs3h];exact Heap.get?_push_of_some _ e
 have st3:tn 0 s3.heap:=T.keep _ _ _ st2 λb _ o e=>kept3 b o e;generalize hDa:s2.heap.objs.size=Da at *;generalize hH3:upd H2 Da (.lst [])=H3 at *;have fr3:∀b∈fp,H3 b=none:=λb hb=>by rw[←hH3,az (Nat.ne_of_lt (fpl b hb))];exact(f2 b hb).1
 have cls:∀x c,(f9 X.env.cells scope.names []).lookup x=some c->X.env.cells.lookup x=some c:=λx c e=>by
  rcases nS (λy hy hf=>I3.ok.has y.1 (.inl (hfree y hy hf))) e with e|e
  .cases e
  .exact e
 refine wpAny_newFunctionEnv hcell (by intro y hy;simp at hy) (λh4 ns4 sb4=>?_) hkind;have k4:∀b o,s3.heap.get? b=some o->h4.get? b=some o:=λb o e=>(sb4.2 b (Nat.ne_of_lt (Heap.lt_size e))).trans (Heap.get?_push_of_some _ e);generalize hC:s3.heap.objs.size=C at *;have hCn:H3 C=none:=I3.hok.fresh (by rw[hC];exact Nat.le_refl _);have ltC:∀b o,s3.heap.get? b=some o->b≠C:=λb o e=>by rw[←hC];exact Nat.ne_of_lt (Heap.lt_size e)
 have cellC:∀x c,X.env.cells.lookup x=some c->c≠C:=λx c e=>by
  obtain⟨v,o,ho,_⟩:=I3.cell x c e;exact ltC c o ho
 have fpC:∀b∈fp,b≠C:=λb hb=>by
  have:=fpl b hb;exact Nat.ne_of_lt (Nat.lt_trans this hDs)
 show codeAny (model X.prog X.w) X.A (.compStart (.ListComp elt [⟨tg,iter,ifs,0⟩] scope pos) 0 (.ref it) (.ref Da) (compEnvC scope (f9 X.env.cells scope.names []) C X.env)) _ _;generalize hs4:({ s3 with heap:=h4,toks:=s3.toks+([]:List (Str×Value)).length }:Shared)=s4;have hs4h:s4.heap=h4:=by rw[←hs4]
 have ok:(dM X N scope s3 H3 C fp (X.pn++pins)).Ok:=by
  refine⟨I3.ok.mod,hkind,I3.ok.glob,I3.ok.blt,Nat.le_of_eq hC,λx y c e1 e2=>I3.ok.inj x y c (cls x c e1) (cls y c e2),λx e=>?_,λx c e=>?_,λ_=>I3.ok.hd hc,I3.ok.frames,.inl rfl,λb hb=>⟨fpC b hb,λx c e=>(f2 b hb).2.2.2.2.1 x c (cls x c e)⟩,I3.bs,Nat.le_trans I3.ok.bsz I3.sz,λb o e hb=>?_,λb hb z=>?_,I3.stack,I3.stkFree⟩
  .have mm:∀k:NameKind,(relabel scope X.env).names.lookup x=some k->(k=.cell∨k=.free)->(x,NameKind.free)∈scope.names:=λk hk hk2=>by
    have hm:=PySem.mem_of_lookup hk;obtain⟨⟨n',k'⟩,hm1,hm2⟩:=List.mem_map.mp hm;dsimp only at hm2;split at hm2
    .rename_i hcnd
     cases hm2;simp only[Bool.and_eq_true,beq_iff_eq]at hcnd;rw[hcnd.1.1]at hm1;exact hm1
    .cases hm2
     rcases hk2 with rfl|rfl
     .exact absurd rfl (hcell _ hm1)
     .exact hm1
   rcases e with e|e
   .exact nT (mm _ e (.inl rfl))
   .exact nT (mm _ e (.inr rfl))
  .cases e
  .rcases(f2 b hb).2.2.2.1 with z|z
   .exact I3.ok.noex b o e z
   .exact absurd (Nat.lt_of_lt_of_le (Heap.lt_size e) (Nat.le_trans I3.ok.bsz z)) (Nat.lt_irrefl _)
  .rcases List.mem_cons.mp (I3.stkSub b z) with z|z
   .exact(f2 b hb).2.1 z
   .exact(f2 b hb).2.2.1 z
 have I4:Inv (dM X N scope s3 H3 C fp (X.pn++pins)) [] (kn n fr σ) H3 s4:=by
  refine⟨ok,by rw[←hs4];rfl,by rw[←hs4];exact I3.bare,by rw[hs4h];exact Un.kept k4,⟨_,by rw[hs4h];exact ns4,λi x v h1 h2 h3=>?_⟩,λx c e=>?_,hCn,λx c e=>I3.freeC x c (cls x c e),λp hp=>?_,by rw[hs4h];exact I3.hok.kept k4,?_⟩
  .obtain⟨j,j1,j2,j3,j4,j5⟩:=hfr.at h1 h2
   obtain⟨m,hn,hl⟩:=I3.loc;obtain⟨u,ru,l⟩:=hl j x v j1 j2 (.inr (.inl j3));refine⟨u,ru,.inr ⟨.inl j5,?_⟩⟩;rcases l with⟨z,_⟩|⟨_,c,z1,z2⟩
   .rw[show X.env.kindOf x=X.env.scope.names.lookup x from rfl,j3]at z;cases z
   .obtain⟨c',hc'⟩:=nT (cells:=X.env.cells) (names:=scope.names) (acc:=[]) (PySem.mem_of_lookup j4)
    have:=cls x c' hc';rw[z1]at this;cases this;obtain⟨oc,q1,q2⟩:=z2;exact⟨c,hc',oc,by rw[hs4h];exact k4 _ _ q1,q2⟩
  .obtain⟨v,oc,q1,q2⟩:=I3.cell x c (cls x c e)
   exact⟨v,oc,by rw[hs4h];exact k4 _ _ q1,q2⟩
  .rw[List.append_nil]at hp
   obtain⟨p1,p2,p3,p4,p5⟩:=I3.pin p hp;refine⟨by rw[hs4h];exact k4 _ _ p1,p2,ltC _ _ p1,λz=>?_,p5⟩;rcases List.mem_cons.mp (I3.stkSub _ z) with z|z
   .exact p3 z
   .exact p4 z
  .show(kn n fr σ).length=N.length
   unfold kn;rw[List.length_append,List.length_replicate,List.length_map,hfr.1]
 have st4:tn 0 s4.heap:=by rw[hs4h];exact T.keep _ _ _ st3 λb _ o e=>k4 b o e
 have stat:∀{H':Hp},(∀b∈fp,H' b=none)->∀b∈fp,lq (dM X N scope s3 H3 C fp (X.pn++pins)) [] H' b:=λhn b hb=>by
  refine⟨hn b hb,fpC b hb,λz=>?_,.inl hb,λx c e=>(f2 b hb).2.2.2.2.1 x c (cls x c e),λp hp=>?_⟩
  .rcases List.mem_cons.mp (I3.stkSub b z) with z|z
   .exact(f2 b hb).2.1 z
   .exact(f2 b hb).2.2.1 z
  .rw[List.append_nil]at hp
   exact(f2 b hb).2.2.2.2.2 p hp
 have loop:codeAny (model X.prog X.w) X.A (.compLoop (.ListComp elt [⟨tg,iter,ifs,0⟩] scope pos) 0 (.ref it) (.ref Da) (compEnvC scope (f9 X.env.cells scope.names []) C X.env)) (RR (.ref Da) C) s4:=by
  refine nP (λn s'=>∃i ys σ' H',Inv (dM X N scope s3 H3 C fp (X.pn++pins)) [] σ' H' s'/\tn i s'.heap/\(∀b∈fp,H' b=none)/\W i n ys σ' H') ?_ m0 ⟨0,[],_,H3,I4,st4,fr3,w0⟩;rintro k s5 ⟨i,ys,σ5,H5,I5,st5,fr5,w5⟩;obtain⟨hDl,ways⟩:=turn i k ys σ5 H5 w5;rcases ways with⟨stop,fin'⟩|⟨go,hz,step⟩
  .refine cA (T.done (dM X N scope s3 H3 C fp (X.pn++pins)) rfl rfl rfl hc i [] s5 σ5 H5 (λ_ _=>False) I5 (stat fr5) st5 stop) λr s6 ⟨hr,I6⟩=>?_
   subst hr;obtain⟨mm,nsm,_⟩:=I6.loc;have free6:H5 C=none:=I6.free;have hok:er X.prog X.w H5 s6.heap:=I6.hok;have un:Un (eQ X.stack) fp H3 H5 s3.heap s6.heap:=I6.base;have IX:Inv X pins σ H5 s6:=I3.call' (s':=s6) (ch:=fp) I6.os un hok I6.bare (λb hb=>⟨(f2 b hb).2.2.2.1,(f2 b hb).2.1,(f2 b hb).2.2.2.2.1,(f2 b hb).2.2.2.2.2⟩);have fC:lq X pins H5 C:=I3.fpOk (b:=C) (H':=H5) (by rw[hC];exact Nat.le_refl _) free6;exact fin Da C s6 H5 mm IX nsm fC fin'
  .refine cA (T.item (dM X N scope s3 H3 C fp (X.pn++pins)) rfl rfl rfl hc i [] s5 σ5 H5 (λ_ _=>False) I5 (stat fr5) st5 go) λr s6 ⟨u,hr,h6⟩=>?_
   subst hr;refine cA h6 λ_ s7 ⟨x,H7,I7,r7,y7,st7,fr7⟩=>?_;have I7':=I7.pinned (stat fr7) (T.obj _ _ st7);refine cA ((blk s3 H3 C fp (X.pn++pins)).1 _ s7 σ5 H7 x u _ I7' r7 (step x H7 y7)) λ_ s8 ⟨σ8,H8,I8,q8⟩=>?_;refine cA ((blk s3 H3 C fp (X.pn++pins)).2.1 _ s8 σ8 H8 _ I8 q8) λb s8b ⟨H8b,I8b,q8b⟩=>?_;have back:∀{σ':L2.St}{H':Hp}{s':Shared},L2.Inv (dM X N scope s3 H3 C fp (X.pn++pins)) (([]:List (Addr×Obj))++mV fp s7.heap) σ' H' s'->tn (i+1) s'.heap/\∀b∈fp,H' b=none:=λ{σ' H' s'} I'=>by
    refine⟨T.keep _ _ _ st7 λb hb o e=>(I'.pin (b,o) (List.mem_append_right _ (List.mem_append_right _ (gT hb e)))).1,λb hb=>?_⟩;obtain⟨o,e,d⟩:=T.obj _ _ st7 b hb;exact(I'.pin (b,o) (List.mem_append_right _ (List.mem_append_right _ (gT hb e)))).2.1
   cases b with
   |false=>
    rw[if_neg Bool.false_ne_true]at q8b ⊢;obtain⟨m',hm,w9⟩:=q8b;exact⟨m',hm,i+1,ys,σ8,_,I8b.unpinned,(back I8b).1,(back I8b).2,w9⟩
   |true=>
    rw[if_pos rfl]at q8b ⊢;refine cA ((blk s3 H3 C fp (X.pn++pins)).2.2 _ s8b σ8 H8b _ I8b q8b) λy s9 ⟨yv,H9,I9,r9,hD9,m',hm,w9⟩=>?_;refine cA (kO (X:=dM X N scope s3 H3 C fp (X.pn++pins)) _ s9 σ8 H9 (.ref Da) [yv] (.ref Da) [y] (λv H'=>H'=upd H9 Da (.lst (ys++[yv]))) I9 rfl (.cons r9 .nil) ⟨Da,ys,yv,rfl,rfl,hD9,hz,rfl⟩) λ_ s10 ⟨v10,H10,I10,_,e10⟩=>?_;subst e10;exact⟨m',hm,i+1,ys++[yv],σ8,_,I10.unpinned,(back I10).1,(back I10).2,w9⟩
 exact codeAny_compStart_list loop (T.self _ 0 _ _ _ st4 loop)
structure Fz (K:W.Frag) (ds:ac) (J:It) (Ha:Hp):Prop where
 go:∀(i:Nat) (H' Ha':Hp),aE Ha Ha'->aE Ha' H'->i<ds.length->J.go i H'
 yld:∀(i:Nat) (H' Ha':Hp) (x:V) (H2:Hp) (d:D),aE Ha Ha'->aE Ha' H'->ds[i]?=some d->J.yld i H' x H2->∃H₀2,aZ H' Ha' H2 H₀2/\Rep K H₀2 d x
 stop:∀(i:Nat) (H' Ha':Hp),aE Ha Ha'->aE Ha' H'->ds.length<=i->J.stop i H'
noncomputable def L4(K:W.Frag) (E:XK) (src:Ev->ao (ac)):TI:=λσ H R=>∃Ha ρ,aE Ha H/\et K Ha σ ρ/\match src ρ with
 |.ok ds=>∀J H' Ha',aZ H Ha H' Ha'->Fz K ds J Ha'->R J H'
 |.exn x=>∀C ox H' Ha',aZ H Ha H' Ha'->rO K Ha' x C ox->E C ox H'
 |.stuck=>False
structure DI (X:Cx) (E:XK) (tg iter:Expr) (src:Ev->ao (ac)):Prop where
 o:PI X tg iter (L4 X.K E src)
def i7{X:Cx}{tg iter:Expr}{t t':TI}(h:PI X tg iter t)(w:∀σ H R,t' σ H R->t σ H R):PI X tg iter t':=λpins s σ H R I q=>h pins s σ H R I (w σ H R q)
def lS(f:am):Ev->ao (ac):=λρ=>(f ρ).bind λd=>match d with
 |.lst ds=>.ok ds
 |_=>.stuck
def CD(f:am):Ev->ao (ac):=λρ=>(f ρ).bind λd=>match d with
 |.str z=>.ok (iH z)
 |_=>.stuck
def sG(f:am):Ev->ao (ac):=λρ=>(f ρ).bind λd=>match d with
 |.int j=>if -4611686018427387904<=j/\j<4611686018427387904 then .ok (intsFrom 0 j.toNat) else .stuck
 |_=>.stuck
section
variable {X:Cx}{E:XK}{tg e a b:Expr}{f g:am}
def gZ(h:DE X E e f):DI X E tg e (lS f):=by
 refine⟨i7 (wN h.o) λσ H R z9=>?_⟩;obtain⟨Ha,ρ,hs,hr,q⟩:=z9;refine⟨Ha,ρ,hs,hr,?_⟩;unfold lS at q;cases e1:f ρ with
 |stuck|exn x=>rw[e1]at q;exact q
 |ok d=>
  rw[e1]at q;intro v H1 H01 g1 r1;cases d with
  |lst ds=>
   obtain⟨p,vs,rfl,hv,hrv⟩:=aC.mp r1;refine⟨p,rfl,⟨vs,aE.sqL g1.sub hv⟩,q _ H1 H01 g1 ⟨λi H' Ha' s1 s2 hi=>?_,λi H' Ha' x H2 d s1 s2 hd hy=>?_,λi H' Ha' s1 s2 hi=>?_⟩⟩
   .exact⟨vs,vs[i]'(by rw[←hrv.length];exact hi),aE.sqL (s1.trans s2) hv,by simp⟩
   .obtain⟨rfl,hy⟩:=hy
    obtain⟨u,k1,k2⟩:=hrv.get hd;have:=hy vs (aE.sqL (s1.trans s2) hv);rw[k1]at this;cases this;exact⟨Ha',aZ.refl s2,k2.mono s1⟩
   .exact⟨vs,aE.sqL (s1.trans s2) hv,by rw[←hrv.length];exact hi⟩
  |_=>exact q.elim
def HH(h:DE X E e f):DI X E tg e (CD f):=by
 refine⟨i7 (Gi h.o) λσ H R z9=>?_⟩;obtain⟨Ha,ρ,hs,hr,q⟩:=z9;refine⟨Ha,ρ,hs,hr,?_⟩;unfold CD at q;cases e1:f ρ with
 |stuck|exn x=>rw[e1]at q;exact q
 |ok d=>
  rw[e1]at q;intro v H1 H01 g1 r1;cases d with
  |str z=>
   refine⟨z,Rep.str_iff.mp r1,q _ H1 H01 g1 ⟨λi H' Ha' s1 s2 hi=>?_,λi H' Ha' x H2 d s1 s2 hd hy=>?_,λi H' Ha' s1 s2 hi=>?_⟩⟩
   .rw[jK]at hi;exact hi
   .obtain⟨rfl,c,hc,rfl⟩:=hy
    have:d=.str ⟨#[c]⟩:=by
     unfold iH at hd;rw[List.getElem?_map]at hd;have h2:z.cps.toList[i]?=some c:=by simpa using hc
     rw[h2]at hd;cases hd;rfl
    subst this;exact⟨Ha',aZ.refl s2,Rep.str_iff.mpr rfl⟩
   .rw[jK]at hi;exact hi
  |_=>exact q.elim
def yE{K:W.Frag}{lo:Int}{n:Nat}{H:Hp}:Fz K (intsFrom lo n) (uJ lo n) H:=by
 have hl:(intsFrom lo n).length=n:=by unfold intsFrom;simp
 refine⟨λi H' Ha' _ _ hi=>?_,λi H' Ha' x H2 d s1 s2 hd hy=>?_,λi H' Ha' _ _ hi=>?_⟩
 .rw[hl]at hi;exact hi
 .obtain⟨rfl,rfl⟩:=hy
  have:d=.int (lo+i):=by
   unfold intsFrom at hd;rw[List.getElem?_map]at hd;cases e:(List.range n)[i]? with
   |none=>rw[e]at hd;cases hd
   |some k=>
    rw[e]at hd;have hk:k=i:=by
     obtain⟨h1,h2⟩:=List.getElem?_eq_some_iff.mp e;simpa using h2.symm
    subst hk;cases hd;rfl
  subst this;exact⟨Ha',aZ.refl s2,ay.mpr rfl⟩
 .rw[hl]at hi;exact hi
def yQ{p pos:Pos}(hg:Gl X "range")(hm:X.mg "range"=none)(h:DE X E a f)(hn:AH a=true:=by exact rfl):DI X E tg (.Call (.Name "range" p) [a] [] pos) (sG f):=by
 refine⟨i7 (pz hg hm (bP h.o dQ (cP hn)) (cP hn)) λσ H R z9=>?_⟩;obtain⟨Ha,ρ,hs,hr,q⟩:=z9;refine⟨Ha,ρ,hs,hr,?_⟩;unfold sG at q;cases e1:f ρ with
 |stuck|exn x=>rw[e1]at q;exact q
 |ok d=>
  rw[e1]at q;intro v H1 H01 g1 r1;cases d with
  |int j=>
   replace q:match (if -4611686018427387904<=j/\j<4611686018427387904 then ao.ok (intsFrom 0 j.toNat) else .stuck) with
    |.ok ds=>∀J H' Ha',aZ H Ha H' Ha'->Fz X.K ds J Ha'->R J H'
    |.exn x=>∀C ox H' Ha',aZ H Ha H' Ha'->rO X.K Ha' x C ox->E C ox H'
    |.stuck=>False:=q
   by_cases hj:-4611686018427387904<=j/\j<4611686018427387904
   .rw[if_pos hj]at q
    rw[ay.mp r1];exact⟨j,rfl,hj.1,hj.2,q _ H1 H01 g1 yE⟩
   .rw[if_neg hj]at q;exact q.elim
  |_=>exact q.elim
end
def jV(src:Ev->ao (ac))(tg:Ev->D->ao Ev)(s:bd):bd:=λρ=>(src ρ).bind λds=>bW tg s ds ρ
section
variable {X:Cx}{E:XK}{He H0e:Hp}{st:Stmt}{s:bd}{pos:Pos}
def uI{K:W.Frag}{Hb Ha:Hp}{tg:Ev->D->ao Ev}{ds:ac}{D':fK}{i:Nat}{σ:L2.St}{H:Hp}{d:D}{v:V}{ρ:Ev}(z:aE Hb Ha)(h:dw K He H0e Ha σ H ρ)(q:bA K E He H0e Ha (bW tg s (ds.drop i) ρ) D')(hd:ds[i]?=some d)(rv:Rep K Ha d v)
  (he:∀ρ,tg ρ d=.stuck∨∃ρ',tg ρ d=.ok ρ') :
  tG K He H0e tg v σ H λσ2 H2=>tS K E He H0e s { D' with nx:=fU K E He H0e Hb tg s ds D' (i+1),ct:=fU K E He H0e Hb tg s ds D' (i+1),bk:=D'.nx } σ2 H2:=by
 have hi:i<ds.length:=(List.getElem?_eq_some_iff.mp hd).1;have hdr:ds.drop i=d::ds.drop (i+1):=by
  rw[List.drop_eq_getElem_cons hi];rw[List.getElem?_eq_getElem hi]at hd;cases hd;rfl
 rw[hdr]at q;refine⟨Ha,ρ,d,h,rv,?_⟩;unfold bW at q;rcases he ρ with e1|⟨ρ1,e1⟩
 .rw[e1]at q;exact q.elim
 .rw[e1]at q ⊢
  intro σ' H' Ha' z' h';refine⟨Ha',ρ1,h',?_⟩;replace q:=bA.grow (r:=(s ρ1).bind λx=>match x with
   |.nx ρ2=>bW tg s (ds.drop (i+1)) ρ2
   |.ct ρ2=>bW tg s (ds.drop (i+1)) ρ2
   |.bk ρ2=>.ok (.nx ρ2)
   |.rt d=>.ok (.rt d)) q z'
  cases e2:s ρ1 with
  |stuck|exn x=>rw[e2]at q;exact q
  |ok r=>
   rw[e2]at q;cases r with|nx ρ2=>exact λσ3 H3 H03 z3 h3=>⟨H03,ρ2,(z.trans z').trans z3,h3,bA.grow (r:=bW tg s (ds.drop (i+1)) ρ2) q z3⟩|ct ρ2=>exact λσ3 H3 H03 z3 h3=>⟨H03,ρ2,(z.trans z').trans z3,h3,bA.grow (r:=bW tg s (ds.drop (i+1)) ρ2) q z3⟩|bk ρ2|rt d=>exact q
def xy{tgt iter:Expr}{body:List Stmt}{tg:Ev->D->ao Ev}{src:Ev->ao (ac)}(hp:PassesOwn (model X.prog X.w) X.A X.env X.xe)(hc:X.calm=true)(hi:DI X E tgt iter src)(hg:DG X E He H0e tgt tg)(ht:uE tg)(hb:rP X E He H0e body s)
  (hs:∀x,foldedSetIterable iter X.env x=pure x:=by intro _;rfl):DS X E He H0e (.For tgt iter body [] pos) (jV src tg s):=by
 refine⟨cD (vd hp hc hi.o hg.o hb.o hs) λD' σ H z9=>?_⟩;obtain⟨Ha,ρ,h,q⟩:=z9;refine⟨Ha,ρ,h.g.sub,h.rd,?_⟩;unfold jV at q;cases e1:src ρ with
 |stuck=>rw[e1]at q;exact q|exn x=>rw[e1]at q;exact λC ox H' Ha' g r=>q C ox H' Ha' (h.g.trans g) r
 |ok ds=>
  rw[e1]at q;intro J H1 H01 g it;have q1:bA X.K E He H0e H01 (bW tg s ds ρ) D':=bA.grow (r:=bW tg s ds ρ) q g.z;refine⟨λi m σ' H'=>m+i=ds.length/\fU X.K E He H0e H01 tg s ds D' i σ' H',⟨ds.length,rfl,H01,ρ,aE.refl _,h.grow g,q1⟩,?_⟩;rintro i m σ' H' ⟨hm,Ha',ρ',z,h',hq⟩
  by_cases hlt:i<ds.length
  .refine .inr ⟨it.go i H' Ha' z h'.g.sub hlt,λσ2 H2=>fU X.K E He H0e H01 tg s ds D' (i+1) σ2 H2,λσ2 H2 hl=>⟨m-1,by omega,by omega,hl⟩,λx H2 hy=>?_⟩
   obtain⟨H₀2,g2,rp⟩:=it.yld i H' Ha' x H2 ds[i] z h'.g.sub (List.getElem?_eq_getElem hlt) hy;exact uI (z.trans g2.z) (h'.grow g2) (bA.grow (r:=bW tg s (ds.drop i) ρ') hq g2.z) (List.getElem?_eq_getElem hlt) rp λρ=>ht ρ _
  .have e:i=ds.length:=by omega
   refine .inl ⟨it.stop i H' Ha' z h'.g.sub (by omega),?_⟩;subst e;exact fU.done ⟨Ha',ρ',z,h',hq⟩
end
def kD(f:am):Prop:=∀ρ d,f ρ=.ok d->∃ds,d=.lst ds
def sD{K:W.Frag}{E:XK}{f:am}(hf:kD f){σ:L2.St}{H:Hp}{Q:VK}(h:tD K E f σ H Q):tF K E f σ H Q:=by
 obtain⟨Ha,ρ,hs,hr,q⟩:=h;refine⟨Ha,ρ,hs,hr,?_⟩;cases e1:f ρ with
 |stuck|exn x=>rw[e1]at q;exact q
 |ok d=>
  obtain⟨ds,rfl⟩:=hf ρ d e1;rw[e1]at q;intro p vs H' Ha' g hp h0 hv rp;have n0:Ha p=none:=hs.free hp;refine q (.ref p) H' (upd Ha' p (.lst vs)) ⟨g.s,λb o e=>?_,λb o e=>?_,λb k1 k2=>?_⟩ (aC.mpr ⟨p,vs,rfl,eh.of aG,rp.mono λb o e=>?_⟩)
  .rw[az (by intro z;subst z;rw[n0]at e;cases e)];exact g.z _ _ e
  .by_cases hb:b=p
   .subst hb;rw[aG]at e;cases e;exact hv
   .rw[az hb]at e;exact g.sub _ _ e
  .by_cases hb:b=p
   .subst hb;exact hp
   .rw[az hb]at k1;exact g.nw b k1 k2
  .rw[az (by intro z;subst z;rw[h0]at e;cases e)];exact e
def BD{X:Cx}{E:XK}{e:Expr}{f:am}(hf:kD f)(h:DF X E e f):DE X E e f:=⟨aU h.o λσ H Q q=>sD hf q⟩
def cc(n:Nat)(fr:bi)(ρ:Ev):Ev:=List.replicate n .no++fr.map λ(i:Nat)=>match ρ[i]? with
 |some (.sh d)=>.sh d
 |_=>.no
noncomputable def bI(b:Ev) (tg:Ev->D->ao Ev) (tt fe:am):ac->ao (ac)
 |[]=>.ok []
 |d::r=>(tg b d).bind λρ1=>(tt ρ1).bind λt=>match t with
  |.bl true=>(fe ρ1).bind λx=>(bI b tg tt fe r).bind λxs=>.ok (x::xs)
  |.bl false=>bI b tg tt fe r
  |_=>.stuck
def cG(n:Nat)(fr:bi)(src:Ev->ao (ac))(tg:Ev->D->ao Ev)(tt fe:am):am:=λρ=>(src ρ).bind λds=>
 if ds.length<=line then match bI (cc n fr ρ) tg tt fe ds with
  |.ok es=>.ok (.lst es)
  |_=>.stuck
 else .stuck
def fb{n:Nat}{fr:bi}{src:Ev->ao (ac)}{tg:Ev->D->ao Ev}{tt fe:am}:kD (cG n fr src tg tt fe):=λρ d h=>by
 unfold cG at h;cases e1:src ρ with
 |stuck|exn x=>rw[e1]at h;cases h
 |ok ds=>
  rw[e1]at h;replace h:(if ds.length<=line then match bI (cc n fr ρ) tg tt fe ds with
   |.ok es=>ao.ok (D.lst es)
   |_=>.stuck else .stuck)=.ok d:=h
  split at h
  .split at h
   .cases h;exact⟨_,rfl⟩
   .cases h
  .cases h
def ij{b:Ev}{tg:Ev->D->ao Ev}{tt fe:am}{d:D}{r es:ac}(h:bI b tg tt fe (d::r)=.ok es) :
  ∃ρ1 t,tg b d=.ok ρ1/\tt ρ1=.ok (.bl t)/\((t=true/\∃x xs,fe ρ1=.ok x/\bI b tg tt fe r=.ok xs/\es=x::xs)∨(t=false/\bI b tg tt fe r=.ok es)):=by
 unfold bI at h;cases e1:tg b d with
 |stuck|exn z=>rw[e1]at h;cases h
 |ok ρ1=>
  rw[e1]at h;replace h:((tt ρ1).bind λt=>match t with
   |.bl true=>(fe ρ1).bind λx=>(bI b tg tt fe r).bind λxs=>ao.ok (x::xs)
   |.bl false=>bI b tg tt fe r
   |_=>.stuck)=.ok es:=h
  cases e2:tt ρ1 with
  |stuck|exn z=>rw[e2]at h;cases h
  |ok t=>
   rw[e2]at h;cases t with
   |bl t=>
    cases t with
    |true=>
     replace h:((fe ρ1).bind λx=>(bI b tg tt fe r).bind λxs=>ao.ok (x::xs))=.ok es:=h;cases e3:fe ρ1 with
     |stuck|exn z=>rw[e3]at h;cases h
     |ok x=>
      rw[e3]at h;replace h:((bI b tg tt fe r).bind λxs=>ao.ok (x::xs))=.ok es:=h;cases e4:bI b tg tt fe r with|stuck|exn z=>rw[e4]at h;cases h|ok xs=>rw[e4]at h;cases h;exact⟨ρ1,true,rfl,e2,.inl ⟨rfl,x,xs,e3,rfl,rfl⟩⟩
    |false=>exact⟨ρ1,false,rfl,e2,.inr ⟨rfl,h⟩⟩
   |_=>cases h
def gK{b:Ev}{tg:Ev->D->ao Ev}{tt fe:am}{d x:D}{r:ac}{ρ1:Ev}(h1:tg b d=.ok ρ1)(h2:tt ρ1=.ok (.bl true))(h3:fe ρ1=.ok x):bI b tg tt fe (d::r)=(bI b tg tt fe r).bind λxs=>.ok (x::xs):=by
 rw[bI,h1];simp only[ao.bind,h2,h3]
def nQ{b:Ev}{tg:Ev->D->ao Ev}{tt fe:am}{d:D}{r:ac}{ρ1:Ev}(h1:tg b d=.ok ρ1)(h2:tt ρ1=.ok (.bl false)):bI b tg tt fe (d::r)=bI b tg tt fe r:=by
 rw[bI,h1];simp only[ao.bind,h2]
theorem k9{b:Ev}{tg:Ev->D->ao Ev}{tt fe:am}:∀{r q es:ac},bI b tg tt fe (r++q)=.ok es->∃e1 e2,bI b tg tt fe r=.ok e1/\bI b tg tt fe q=.ok e2/\es=e1++e2
 |[],q,es,h=>⟨[],es,rfl,h,rfl⟩
 |d::r,q,es,h=>by
  obtain⟨ρ1,t,h1,h2,h3⟩:=ij h;rcases h3 with⟨rfl,x,xs,h3,h4,rfl⟩|⟨rfl,h4⟩
  .obtain⟨e1,e2,k1,k2,rfl⟩:=k9 h4
   refine⟨x::e1,e2,?_,k2,rfl⟩;rw[gK h1 h2 h3,k1];rfl
  .obtain⟨e1,e2,k1,k2,rfl⟩:=k9 h4
   refine⟨e1,e2,?_,k2,rfl⟩;rw[nQ h1 h2];exact k1
theorem ig{b:Ev}{tg:Ev->D->ao Ev}{tt fe:am}:∀{r q e1 e2:ac},bI b tg tt fe r=.ok e1->bI b tg tt fe q=.ok e2->bI b tg tt fe (r++q)=.ok (e1++e2)
 |[],q,e1,e2,h,h'=>by cases h;exact h'
 |d::r,q,e1,e2,h,h'=>by
  obtain⟨ρ1,t,h1,h2,h3⟩:=ij h;show bI b tg tt fe (d::(r++q))=_;rcases h3 with⟨rfl,x,xs,h3,h4,rfl⟩|⟨rfl,h4⟩
  .rw[gK h1 h2 h3,ig h4 h'];rfl
  .rw[nQ h1 h2];exact ig h4 h'
theorem nR{b:Ev}{tg:Ev->D->ao Ev}{tt fe:am}:∀{r es:ac},bI b tg tt fe r=.ok es->es.length<=r.length
 |[],es,h=>by cases h;exact Nat.le_refl _
 |d::r,es,h=>by
  obtain⟨ρ1,t,h1,h2,h3⟩:=ij h;rcases h3 with⟨rfl,x,xs,h3,h4,rfl⟩|⟨rfl,h4⟩
  .exact Nat.succ_le_succ (nR h4)
  .exact Nat.le_succ_of_le (nR h4)
def BW(n:Nat)(tg:Ev->D->ao Ev):Prop:=∀ρ d ρ',tg ρ d=.ok ρ'->ρ'.length=ρ.length/\∀(k:Nat),n<=k->ρ'[k]?=ρ[k]?
def dz{i n:Nat}(h:i<n):BW n (bV i):=λρ d ρ' e=>by
 cases e;exact⟨by simp,λk hk=>by rw[List.getElem?_set_ne (by omega)]⟩
theorem jU{n:Nat}:∀{is:bi}{ds:ac}{ρ:Ev},(is.all λi=>decide (i<n))=true->(dk ρ is ds).length=ρ.length/\∀(k:Nat),n<=k->(dk ρ is ds)[k]?=ρ[k]?
 |[],ds,ρ,_=>by unfold dk;exact⟨rfl,λ_ _=>rfl⟩
 |i::is,[],ρ,_=>by unfold dk;exact⟨rfl,λ_ _=>rfl⟩
 |i::is,d::ds,ρ,h=>by
  rw[List.all_cons,Bool.and_eq_true,decide_eq_true_eq]at h;unfold dk;obtain⟨h1,h2⟩:=jU (ds:=ds) (ρ:=ρ.set i (.sh d)) h.2;exact⟨by rw[h1];simp,λk hk=>by rw[h2 k hk,List.getElem?_set_ne (by omega)]⟩
def mD{n:Nat}{is:bi}(h:(is.all λi=>decide (i<n))=true):BW n (eV is):=λρ d ρ' e=>by
 unfold eV at e;cases hp:i8 is.length d with|none=>rw[hp]at e;cases e|some ds=>rw[hp]at e;cases e;exact jU h
def v9{K:W.Frag}{Ha:Hp}{σ:L2.St}{ρ:Ev}{n:Nat}{fr:bi}(h:et K Ha σ ρ):et K Ha (kn n fr σ) (cc n fr ρ):=λi d e=>by
 unfold cc at e;unfold kn
 by_cases hi:i<n
 .rw[List.getElem?_append_left (by simpa using hi),List.getElem?_replicate,if_pos hi]at e
  cases e
 .rw[List.getElem?_append_right (by simpa using hi),List.length_replicate,List.getElem?_map]at e ⊢
  cases hf:fr[i-n]? with
  |none=>rw[hf]at e;cases e
  |some j=>
   rw[hf]at e;simp only[Option.map_some,Option.some.injEq]at e ⊢;cases hj:ρ[j]? with
   |none=>rw[hj]at e;cases e
   |some s=>
    rw[hj]at e;cases s with
    |sh d'=>
     cases e;obtain⟨v,h1,h2⟩:=h j d hj;exact⟨v,by rw[h1];rfl,h2⟩
    |_=>cases e
def EM{n:Nat}{fr:bi}{ρ:Ev}{k:Nat}(h:k<n):(cc n fr ρ)[k]?=some .no:=by
 unfold cc;rw[List.getElem?_append_left (by simpa using h),List.getElem?_replicate,if_pos h]
def BO{n:Nat}{fr:bi}{ρ:Ev}(i j:Nat)(es:ac):(cc n fr ρ)[i]?≠some (.ox j es):=λe=>by
 unfold cc at e
 by_cases hj:i<n
 .rw[List.getElem?_append_left (by simpa using hj),List.getElem?_replicate,if_pos hj]at e;cases e
 .rw[List.getElem?_append_right (by simpa using hj),List.getElem?_map]at e
  cases hf:fr[i-(List.replicate n Sl.no).length]? with
  |none=>rw[hf]at e;cases e
  |some z=>
   rw[hf]at e;simp only[Option.map_some,Option.some.injEq]at e;split at e<;>cases e
def za{n:Nat}{fr:bi}{ρ:Ev}{σ:L2.St}(i:Nat)(a:Addr)(e:(cc n fr ρ)[i]?=some (.pt a)):σ[i]?=some (some (.ref a)):=by
 unfold cc at e
 by_cases hj:i<n
 .rw[List.getElem?_append_left (by simpa using hj),List.getElem?_replicate,if_pos hj]at e;cases e
 .rw[List.getElem?_append_right (by simpa using hj),List.getElem?_map]at e
  cases hf:fr[i-(List.replicate n Sl.no).length]? with
  |none=>rw[hf]at e;cases e
  |some z=>
   rw[hf]at e;simp only[Option.map_some,Option.some.injEq]at e;split at e<;>cases e
def uz{n:Nat}{fr:bi}{ρ:Ev}:(cc n fr ρ).length=n+fr.length:=by unfold cc;simp
def v8{K:W.Frag}{E:XK}{n:Nat}{fr:bi}{tg:Ev->D->ao Ev}{tt fe:am}{σ:L2.St}{ρ:Ev}{H Ha H1 H01:Hp}{ds es:ac}{J:It}{Q:VK}(hsame:aE Ha H)(g1:aZ H Ha H1 H01)(it:Fz K ds J H01)(hl:ds.length<=line)
  (e2:bI (cc n fr ρ) tg tt fe ds=.ok es)(hr:et K H01 σ ρ)(hok:BW n tg)
  (q:∀p vs H' Ha',aZ H Ha H' Ha'->H p=none->Ha' p=none->H' p=some (.lst vs)->Reps K Ha' es vs->Q (.ref p) H') :
  uT n fr (GP K tg) (Ia K E tt) (tD K E fe) J σ H1 Q:=by
 intro Da hDa;have h0D:H01 Da=none:=g1.sub.free hDa;refine⟨λi m ys σ' H'=>m=ds.length-i/\i<=ds.length/\σ'.length=n+fr.length/\∃Ha',aZ H1 H01 H' Ha'/\Ha' Da=none/\H' Da=some (.lst ys)/\et K Ha' σ' (cc n fr ρ)/\∃es1,bI (cc n fr ρ) tg tt fe (ds.take i)=.ok es1/\Reps K Ha' es1 ys,
  ⟨ds.length,by simp,Nat.zero_le _,by unfold kn;simp,H01,?_,h0D,aG,v9 hr,[],rfl,Reps.nil⟩,?_⟩
 .refine⟨λb o e=>by rw[az (aO e hDa)];exact e,aE.refl _,λb o e=>?_,λb k1 k2=>absurd k2 k1⟩
  rw[az (by intro z;subst z;rw[h0D]at e;cases e)];exact g1.sub _ _ e
 .rintro i m ys σ' H' ⟨rfl,hile,hsl,Ha',gg,hD0,hDl,hrd,es1,hes1,hys⟩
  refine⟨hDl,?_⟩
  by_cases hlt:i<ds.length
  .refine .inr ⟨it.go i H' Ha' gg.z gg.sub hlt,?_,?_⟩
   .rw[←hys.length]
    have:=nR hes1;rw[List.length_take]at this;have h2:line<sizeLine:=by decide
    omega
   .intro x H2 hy
    obtain⟨H₀2,g2,rp⟩:=it.yld i H' Ha' x H2 ds[i] gg.z gg.sub (List.getElem?_eq_getElem hlt) hy;have hsplit:ds=ds.take i++(ds[i]::ds.drop (i+1)):=by rw[←List.drop_eq_getElem_cons hlt,List.take_append_drop]
    rw[hsplit]at e2;obtain⟨a1,a2,k1,k2,k3⟩:=k9 e2;rw[hes1]at k1;cases k1;obtain⟨ρ1,t,t1,t2,t3⟩:=ij k2;have hn2:H₀2 Da=none:=by
     cases qq:H₀2 Da with|none=>rfl|some o=>have:=g2.nw Da (by rw[qq];simp) hD0;rw[hDl]at this;cases this
    have hD2:H2 Da=some (.lst ys):=g2.s _ _ hDl;refine⟨H2,H₀2,H₀2,cc n fr ρ,ds[i],⟨aZ.refl g2.sub,hrd.mono g2.z,λj d' e=>?_,λj k d1 d2 _ e=>?_,by rw[uz,hsl],OX.none BO za⟩,rp,?_⟩
    .unfold cc at e
     by_cases hj:j<n
     .rw[List.getElem?_append_left (by simpa using hj),List.getElem?_replicate,if_pos hj]at e;cases e
     .rw[List.getElem?_append_right (by simpa using hj),List.getElem?_map]at e
      cases hf:fr[j-(List.replicate n Sl.no).length]? with
      |none=>rw[hf]at e;cases e
      |some z=>
       rw[hf]at e;simp only[Option.map_some,Option.some.injEq]at e;split at e<;>cases e
    .unfold cc at e
     by_cases hj:j<n
     .rw[List.getElem?_append_left (by simpa using hj),List.getElem?_replicate,if_pos hj]at e;cases e
     .rw[List.getElem?_append_right (by simpa using hj),List.getElem?_map]at e
      cases hf:fr[j-(List.replicate n Sl.no).length]? with
      |none=>rw[hf]at e;cases e
      |some z=>
       rw[hf]at e;simp only[Option.map_some,Option.some.injEq]at e;split at e<;>cases e
    .rw[t1]
     intro σ3 H3 H03 z3 s3;have hrl:=hok _ _ _ t1;have hσ3:σ3.length=n+fr.length:=by rw[←s3.ln,hrl.1,uz]
     have back:∀{Hx:Hp},aE H03 Hx->et K Hx σ3 (cc n fr ρ):=λ{Hx} sx k d e=>by
      by_cases hk:k<n
      .rw[EM hk]at e;cases e
      .rw[←hrl.2 k (by omega)]at e
       obtain⟨v,h1,h2⟩:=s3.rd k d e;exact⟨v,h1,h2.mono sx⟩
     have n3:H03 Da=none:=by
      cases qq:H03 Da with|none=>rfl|some o=>have:=s3.g.nw Da (by rw[qq];simp) hn2;rw[hD2]at this;cases this
     have hD3:H3 Da=some (.lst ys):=s3.g.s _ _ hD2;refine⟨H03,ρ1,s3.g.sub,s3.rd,?_⟩;rw[t2];intro H4 H04 g4;have hD4:H4 Da=some (.lst ys):=g4.s _ _ hD3;have n4:H04 Da=none:=by
      cases qq:H04 Da with|none=>rfl|some o=>have:=g4.nw Da (by rw[qq];simp) n3;rw[hD3]at this;cases this
     have htake:ds.take (i+1)=ds.take i++[ds[i]]:=by rw[List.take_add_one,List.getElem?_eq_getElem hlt];rfl
     have g04:=(gg.trans g2).trans (s3.g.trans g4);rcases t3 with⟨rfl,y,xs,t3,t4,_⟩|⟨rfl,t4⟩
     .rw[if_pos rfl]
      refine⟨H04,ρ1,g4.sub,s3.rd.mono g4.z,?_⟩;rw[t3];intro yv H5 H05 g5 ry;have hD5:H5 Da=some (.lst ys):=g5.s _ _ hD4;have n5:H05 Da=none:=by
       cases qq:H05 Da with|none=>rfl|some o=>have:=g5.nw Da (by rw[qq];simp) n4;rw[hD4]at this;cases this
      have gall:=g04.trans g5;refine⟨hD5,ds.length-(i+1),by omega,rfl,hlt,hσ3,H05,⟨λb o e=>?_,gall.z,λb o e=>?_,gall.nw⟩,n5,aG,back (g4.z.trans g5.z),es1++[y],?_,?_⟩
      .rw[az (aO e hDa)];exact gall.s _ _ e
      .rw[az (by intro z;subst z;rw[n5]at e;cases e)];exact gall.sub _ _ e
      .rw[htake]
       refine ig hes1 ?_;rw[gK t1 t2 t3];rfl
      .exact(hys.mono ((g2.z.trans s3.g.z).trans (g4.z.trans g5.z))).app (Reps.cons ry Reps.nil)
     .rw[if_neg Bool.false_ne_true]
      refine⟨ds.length-(i+1),by omega,rfl,hlt,hσ3,H04,g04,n4,hD4,back g4.z,es1,?_,hys.mono ((g2.z.trans s3.g.z).trans g4.z)⟩;rw[htake];rw[show es1=es1++[] by simp];refine ig hes1 ?_;rw[nQ t1 t2];rfl
  .have hi2:i=ds.length:=by omega
   refine .inl ⟨it.stop i H' Ha' gg.z gg.sub (by omega),?_⟩;rw[hi2,List.take_length]at hes1;rw[e2]at hes1;cases hes1;exact q Da ys H' Ha' (g1.trans gg) (g1.s.free hDa) hD0 hDl hys
structure KC (X:Cx) (E:XK) (ifs:List Expr) (f:am):Prop where
 o:J5 X ifs (Ia X.K E f)
def mYes:am:=λ_=>.ok (.bl true)
def eX{X:Cx}{E:XK}:KC X E [] mYes:=⟨λpins s σ H Q I ⟨Ha,ρ,hs,hr,q⟩=>CZ pins s σ H Q I (q H Ha (aZ.refl hs))⟩
def mf{X:Cx}{E:XK}{c:Expr}{f:am}(h:DT X E c f):KC X E [c] f:=⟨CY h.o⟩
structure Kg (X:Cx) (E:XK) (e:Expr) (f:am):Prop where
 ev:PE X e (tF X.K E f)
 st:∀{i:Nat}{x:Str}{pos' spos:Pos},X.N.Nodup->X.N[i]?=some x->X.env.scope.names.lookup x=some .local -> swapsWith e (some (.Name x pos')) spos.line X.env=pure true->PS X (.Assign [.Name x pos'] e spos) (IC (tF X.K E f) (Ba i))
def Mb{X:Cx}{E:XK}{tgt iter elt:Expr}{ifs:List Expr}{scope:Scope}{pos:Pos}(N:List Str)(n:Nat)(fr:bi){src:Ev->ao (ac)}{tg:Ev->D->ao Ev}{tt fe:am}(hc:X.calm=true)(hi:DI X E tgt iter src)(hok:BW n tg)
  (blk:∀s H C fp pn,(∀He H0e,DG (dM X N scope s H C fp pn) E He H0e tgt tg)/\KC (dM X N scope s H C fp pn) E ifs tt/\DE (dM X N scope s H C fp pn) E elt fe)
  (hfr:B2 X N n fr scope)(hcell:∀x∈scope.names,x.2≠.cell)(hfree:∀x∈scope.names,x.2=.free->X.env.scope.names.lookup x.1=some .cell)(hkind:scope.kind=.function)(hnames:∀x∈scope.names,x.2=.local -> scope.names.lookup x.1=some .local)
  (hs:∀x,foldedSetIterable iter X.env x=pure x:=by intro _;rfl):Kg X E (.ListComp elt [⟨tgt,iter,ifs,0⟩] scope pos) (cG n fr src tg tt fe):=by
 have blk':∀s H C fp pn,PG (dM X N scope s H C fp pn) tgt (GP X.K tg)/\J5 (dM X N scope s H C fp pn) ifs (Ia X.K E tt)/\PE (dM X N scope s H C fp pn) elt (tD X.K E fe):=λs H C fp pn=>
  ⟨λpins s' σ' H' v u Q' I r ⟨He,H0e,q'⟩=>((blk s H C fp pn).1 He H0e).o pins s' σ' H' v u Q' I r q',(blk s H C fp pn).2.1.o,(blk s H C fp pn).2.2.o⟩
 have first:∀{pins:List (Addr×Obj)}{s:Shared}{σ:L2.St}{H:Hp}{Q:VK}{RR:Value->Addr->Result->Shared->Prop},L2.Inv X pins σ H s->tF X.K E (cG n fr src tg tt fe) σ H Q ->
   (∀(Da C:Addr) (s6:Shared) (H5:Hp) (m:Str->Option Value),L2.Inv X pins σ H5 s6->s6.heap.Ns C m->lq X pins H5 C->Q (.ref Da) H5->RR (.ref Da) C (.ok .next) s6) ->
   wpAny (model X.prog X.w) X.A (eval iter X.env) (λx sg=>wpAny (model X.prog X.w) X.A (pyIter x) (λit si=>wpAny (model X.prog X.w) X.A (newList []) (λacc sj=>
    wpAny (model X.prog X.w) X.A (newFunctionEnv scope X.env.globals (f9 X.env.cells scope.names []) [] X.env.qual none .none (some X.env)) (λcenv sk=>
     codeAny (model X.prog X.w) X.A (.compStart (.ListComp elt [⟨tgt,iter,ifs,0⟩] scope pos) 0 it acc { cenv with scope:=relabel scope X.env }) (RR acc cenv.locals) sk) X.xe sj) X.xe si) X.xe sg) X.xe s:=by
  intro pins s σ H Q RR I ⟨Ha,ρ,hsame,hr,q⟩ fin;refine cA (hi.o pins s σ H (λJ H1=>uT n fr (GP X.K tg) (Ia X.K E tt) (tD X.K E fe) J σ H1 Q) I ⟨Ha,ρ,hsame,hr,?_⟩) λv s1 h1=>cA h1 λitv s2 h2=>y0 (N:=N) hc hfr hcell hfree hkind blk' h2 fin;unfold cG at q;cases e1:src ρ with
  |stuck|exn x=>rw[e1]at q;exact q
  |ok ds=>
   rw[e1]at q;intro J H1 H01 g1 it;replace q:match (if ds.length<=line then match bI (cc n fr ρ) tg tt fe ds with
     |.ok es=>ao.ok (D.lst es)
     |_=>.stuck else .stuck) with
    |.ok (.lst ds)=>∀p vs H' Ha',aZ H Ha H' Ha'->H p=none->Ha' p=none->H' p=some (.lst vs)->Reps X.K Ha' ds vs->Q (.ref p) H'
    |.ok _=>False
    |.exn x=>∀C ox H' Ha',aZ H Ha H' Ha'->rO X.K Ha' x C ox->E C ox H'
    |.stuck=>False:=q
   by_cases hl:ds.length<=line
   .rw[if_pos hl]at q
    cases e2:bI (cc n fr ρ) tg tt fe ds with
    |stuck|exn x=>rw[e2]at q;exact q.elim
    |ok es=>
     rw[e2]at q;exact v8 hsame g1 it hl e2 (hr.mono g1.z) hok q
   .rw[if_neg hl]at q;exact q.elim
 have hcl:∀{pins:List (Addr×Obj)}{s:Shared}{σ:L2.St}{H:Hp},L2.Inv X pins σ H s->closureFor scope X.env=pure (f9 X.env.cells scope.names []):=λ{pins s σ H} I=>o5 λy hy hf=>I.ok.has y.1 (.inl (hfree y hy hf));refine⟨λpins s σ H Q I h=>?_,λ{i x pos' spos} hN hi' hx hsw pins s σ H D' I h=>?_⟩
 .rw[eval_ListComp]
  refine wpAny_comprehension_free (use:=none) rfl hs (hcl I) hkind hnames (first (RR:=λacc C=>compPost (model X.prog X.w) X.A X.xe none (EP X pins σ Q) acc C) I h λDa C s6 H5 m I6 ns fC q=>?_);refine⟨m,ns,λh' sb=>⟨.ref Da,H5,?_,rfl,q⟩⟩;exact I6.turned (t':=s6.toks) (it:=C) (λb o hb e=>(sb.2 b hb).trans e) fC.1 fC.2.1 fC.2.2.2.1 fC.2.2.2.2.1 fC.2.2.2.2.2
 .rw[exec_Assign_Name_used _ _ _ _ hsw]
  refine wpAny_bind (wpAny_standAt (wpAny_bind ?_));show wpAny _ X.A (do let _ ←comprehension (.ListComp elt [⟨tgt,iter,ifs,0⟩] scope pos) scope X.env _ (newList []) false (eval iter X.env) (some (assign (.Name x pos') X.env))) _ _ s;refine wpAny_bind (wpAny_mono (wpAny_comprehension_free (use:=some (assign (.Name x pos') X.env)) (Q:=λ_ s'=>SP X pins D' .next s') rfl hs (hcl I) hkind hnames
   (first (RR:=λacc C=>compPost (model X.prog X.w) X.A X.xe (some (assign (.Name x pos') X.env)) (λ_ s'=>SP X pins D' .next s') acc C) I h λDa C s6 H5 m I6 ns fC q=>?_)) (λ_ s' hq=>wpAny_pure (wpAny_pure hq)) λ_ _ e=>e)
  show wpAny _ X.A (assign (.Name x pos') X.env (.ref Da)) _ _ _;refine wpAny_assign_Name (pd (v:=.ref Da) I6 hN hi' (.inl hx) rfl (λs' I' z9=>?_) (.inr hx));obtain⟨a,sb,ha⟩:=z9;have hCa:C≠a:=by
   rcases ha with rfl|ha
   .exact fC.2.1
   .exact λz=>fC.2.2.2.2.1 x a ha z.symm
  refine⟨m,ns.sameBut sb hCa,λh' sb'=>⟨_,H5,?_,q⟩⟩;exact I'.turned (t':=s'.toks) (it:=C) (λb o hb e=>(sb'.2 b hb).trans e) fC.1 fC.2.1 fC.2.2.2.1 fC.2.2.2.2.1 fC.2.2.2.2.2
def JY{X:Cx}{E:XK}{e:Expr}{f:am}(h:Kg X E e f):DF X E e f:=⟨h.ev⟩
def lH{X:Cx}{E:XK}{e:Expr}{n:Nat}{fr:bi}{src:Ev->ao (ac)}{tg:Ev->D->ao Ev}{tt fe:am}(h:Kg X E e (cG n fr src tg tt fe)):DE X E e (cG n fr src tg tt fe):=BD fb (JY h)
section
variable {X:Cx}{E:XK}{He H0e:Hp}{e:Expr}{f:am}{s:bd}{pos:Pos}{st:Stmt}
def unown(i:Nat)(ρ:Ev):Ev:=match ρ[i]? with
 |some (.ow d)=>ρ.set i (.sh d)
 |_=>ρ
def CI(i:Nat)(s:bd):bd:=λρ=>s (unown i ρ)
def dw.unown{K:W.Frag}{Ha H:Hp}{σ:L2.St}{ρ:Ev}(h:dw K He H0e Ha σ H ρ)(i:Nat):∃Ha',aE Ha Ha'/\dw K He H0e Ha' σ H (DL.unown i ρ):=by
 unfold DL.unown;cases e:ρ[i]? with
 |none=>exact⟨Ha,aE.refl _,h⟩
 |some s=>
  cases s with
  |no|sh d|ox j ds|pt a=>exact⟨Ha,aE.refl _,h⟩
  |ow d=>
   obtain⟨a,k1,k2,k3,k4⟩:=h.ow i d e;obtain⟨o,h5,hrep⟩:∃o,H a=some o/\∀Hb,aE Ha Hb->Hb a=some o->Rep K Hb d (.ref a):=by
    cases d with
    |lst ds=>obtain⟨vs,h5,h6⟩:=k4;exact⟨_,h5,λHb z e=>aC.mpr ⟨a,vs,rfl,eh.of e,h6.mono z⟩⟩
    |dic ks ds=>obtain⟨vs,h5,hl,h6⟩:=k4;exact⟨_,h5,λHb z e=>by rw[Rep];exact⟨a,_,vs,rfl,.inl e,rfl,hl,h6.mono z⟩⟩
    |_=>exact k4.elim
   have z:aE Ha (upd Ha a o):=λb o' q=>by rw[az (by intro z;subst z;rw[k3]at q;cases q)];exact q
   have h':dw K He H0e (upd Ha a o) σ H (ρ.set i .no):=by
    have nset:∀(j:Nat) (s:Sl),(ρ.set i .no)[j]?=some s->s≠.no->j≠i/\ρ[j]?=some s:=λj s q hs=>by
     by_cases hj:i=j
     .subst hj
      rw[List.getElem?_set_self']at q;rw[e]at q;cases q;exact absurd rfl hs
     .rw[List.getElem?_set_ne hj]at q;exact⟨λz=>hj z.symm,q⟩
    refine⟨⟨h.g.s,h.g.z.trans z,λb o' q=>?_,λb q1 q2=>?_⟩,λj d' q=>?_,λj d' q=>?_,λj k d1 d2 hn q1 q2=>?_,by simp[h.ln],h.ex.upd (λj s q=>?_) z (λb us _ eb=>eb) λq us _ q0 hq hd=>?_⟩
    rotate_left 5
    .by_cases hs:s=.no
     .exact .inr (.inr (.inl hs))
     .exact .inl ⟨(nset j s q hs).2,rfl⟩
    .have hq':q≠a:=by
      intro zz;subst zz;exact hd i _ e k1
     exact⟨hq,by rw[az hq'];exact q0⟩
    .by_cases hb:b=a
     .subst hb;rw[aG]at q;cases q;exact h5
     .rw[az hb]at q;exact h.g.sub _ _ q
    .by_cases hb:b=a
     .subst hb;exact k2
     .rw[az hb]at q1;exact h.g.nw b q1 q2
    .obtain⟨hj,q⟩:=nset j _ q (λz=>nomatch z)
     obtain⟨v,q1,q2⟩:=h.rd j d' q;exact⟨v,q1,q2.mono z⟩
    .obtain⟨hj,q⟩:=nset j _ q (λz=>nomatch z)
     obtain⟨b,q1,q2,q3,q4⟩:=h.ow j d' q;have hb:b≠a:=by
      intro zz;subst zz;exact h.ap j i d' d hj q e (by rw[q1,k1])
     refine⟨b,q1,q2,by rw[az hb];exact q3,?_⟩;cases d' with|lst ds'=>obtain⟨vs',h7,h8⟩:=q4;exact⟨vs',h7,h8.mono z⟩|dic ks' ds'=>obtain⟨vs',h7,hl,h8⟩:=q4;exact⟨vs',h7,hl,h8.mono z⟩| _=>exact q4.elim
    .obtain⟨_,q1⟩:=nset j _ q1 (λz=>nomatch z)
     obtain⟨_,q2⟩:=nset k _ q2 (λz=>nomatch z);exact h.ap j k d1 d2 hn q1 q2
   refine⟨_,z,?_⟩;have hp:=h'.put (i:=i) (d:=d) (v:=.ref a) (hrep _ z aG);rw[List.set_set]at hp;have hσ:σ.set i (some (V.ref a))=σ:=by
    apply List.ext_getElem?;intro k
    by_cases hk:i=k
    .subst hk
     obtain⟨hil,_⟩:=List.getElem?_eq_some_iff.mp k1;rw[List.getElem?_set_self hil,k1]
    .rw[List.getElem?_set_ne hk]
   rw[hσ]at hp;exact hp
def By(i:Nat)(h:DS X E He H0e st s):DS X E He H0e st (CI i s):=⟨cD h.o λD' σ H z9=>by
 obtain⟨Ha,ρ,hr,q⟩:=z9;obtain⟨Ha',z,hr'⟩:=hr.unown i;exact⟨Ha',DL.unown i ρ,hr',bA.grow (r:=s (DL.unown i ρ)) q z⟩⟩
end
def kZ{X:Cx}{E:XK}{tgt iter elt:Expr}{ifs:List Expr}{scope:Scope}{pos:Pos}(N:List Str)(n:Nat)(fr:bi){src:Ev->ao (ac)}{tg:Ev->D->ao Ev}{tt fe:am}(hc:X.calm=true)(hi:DI X E tgt iter src)(hok:BW n tg)
  (blk:∀s H C fp pn,(∀He H0e,DG (dM X N scope s H C fp pn) E He H0e tgt tg)/\KC (dM X N scope s H C fp pn) E ifs tt/\DE (dM X N scope s H C fp pn) E elt fe)
  (hfr:B2 X N n fr scope)(hcell:(scope.names.all λx=>!(x.2==.cell))=true)(hfree:(scope.names.all λx=>!(x.2==.free)||(X.env.scope.names.lookup x.1==some .cell))=true)(hkind:scope.kind=.function)
  (hnames:(scope.names.all λx=>!(x.2==.local)||(scope.names.lookup x.1==some .local))=true)
  (hs:∀x,foldedSetIterable iter X.env x=pure x:=by intro _;rfl):Kg X E (.ListComp elt [⟨tgt,iter,ifs,0⟩] scope pos) (cG n fr src tg tt fe):=by
 refine Mb N n fr hc hi hok blk hfr (λx hx z=>?_) (λx hx z=>?_) hkind (λx hx z=>?_) hs
 .have:=List.all_eq_true.mp hcell x hx
  rw[z]at this;simp at this
 .have:=List.all_eq_true.mp hfree x hx
  rw[z]at this;simpa using this
 .have:=List.all_eq_true.mp hnames x hx
  rw[z]at this;simpa using this
def ke{X:Cx}{E:XK}{He H0e:Hp}{e:Expr}{f:am}{pos:Pos}{i:Nat}{x:Str}{pos':Pos}(hN:X.N.Nodup)(hi:X.N[i]?=some x)(hx:X.env.scope.names.lookup x=some .local)(hl:kD f)(he:Kg X E e f)(hs:swapsWith e (some (.Name x pos')) pos.line X.env=pure true:=by rfl):DS X E He H0e (.Assign [.Name x pos'] e pos) (aN i f):=by
 refine⟨cD (he.st hN hi hx hs) λD σ H ⟨Ha,ρ,h,q⟩=>?_⟩;refine sD hl ⟨Ha,ρ,h.g.sub,h.rd,?_⟩;refine plain h q λd v H' Ha' _ g rp q'=>?_;exact q' _ H' Ha' (aE.refl _) ((h.grow g).put rp)
end DL
namespace Com
open PySem L2 DL
def eg:bd :=
 (ar (fW (jd 1) (aa (ae 1) (dC (.int 0)) gI)
 (ar (oF 0 1 (af (ae 1) (af (aa (ae 0) (ae 1) bR) ax)))
 au))
 (ar (bx (aq (af (ae 0) ax) (m1 rA)))
 au))
def iM:ac->ao D:=bH 2 eg
def o7:bd :=
 (ar (aN 2 (aq (af (ae 0) (af (ae 1) ax)) iM))
 (ar (bx (aq (af (aa (ae 0) (ae 2) k7) (af (aa (ae 1) (ae 2) k7) ax)) dm))
 au))
def B5:ac->ao D:=bH 3 o7
def wa:bd :=
 (ar (bx (iC (bc (ae 0) (du "int")) (bZ (bc (ae 0) (du "bool")))))
 au)
def m_is_whole:ac->ao D:=bH 1 wa
noncomputable def da:bd :=
 (ar (aN 2 (aq (af (ae 0) ax) (m1 rA)))
 (ar (aN 3 (aq (af (ae 1) ax) (m1 rA)))
 (ar (fW (jd 3) (aa (ae 3) (dC (.int 0)) gI)
 (ar (aN 4 (aa (ae 2) (ae 3) bR))
 (ar (aN 2 (ae 3))
 (ar (aN 3 (ae 4))
 au))))
 (ar (bx (ae 2))
 au))))
def m_common_divisor:ac->ao D:=bH 5 da
noncomputable def ju:bd :=
 (ar (dO (gM (bZ (aq (af (ae 0) ax) m_is_whole)) (bZ (aq (af (ae 1) ax) m_is_whole)))
 (ar eI
 au)
 au)
 (ar (dO (aa (ae 1) (dC (.int 0)) iD)
 (ar eI
 au)
 au)
 (ar (aN 2 (aq (af (ae 0) (af (ae 1) ax)) m_common_divisor))
 (ar (dO (aa (ae 1) (dC (.int 0)) Ll)
 (ar (aN 2 (bc (ae 2) ro))
 au)
 au)
 (ar (bx (aq (af (aa (ae 0) (ae 2) k7) (af (aa (ae 1) (ae 2) k7) ax)) dm))
 au)))))
def m_ratio:ac->ao D:=bH 3 ju
noncomputable def b_plus:bd :=
 (ar (bx (aq (af (aa (aa (aa (ae 0) (dC (.int 0)) aD) (aa (ae 1) (dC (.int 1)) aD) bK) (aa (aa (ae 1) (dC (.int 0)) aD) (aa (ae 0) (dC (.int 1)) aD) bK) bo) (af (aa (aa (ae 0) (dC (.int 1)) aD) (aa (ae 1) (dC (.int 1)) aD) bK) ax)) m_ratio))
 au)
def m_plus:ac->ao D:=bH 2 b_plus
def qc:bd :=
 (ar (bx (aa (aa (aa (ae 0) (dC (.int 0)) aD) (aa (ae 1) (dC (.int 1)) aD) bK) (aa (aa (ae 1) (dC (.int 0)) aD) (aa (ae 0) (dC (.int 1)) aD) bK) Ll))
 au)
def m_is_less:ac->ao D:=bH 2 qc
def Fs{α β:Type}{a:α}{f:α->ao β}:(ao.ok a).bind f=f a:=rfl
def gO{s t:bd}{ρ ρ':Ev}(h:s ρ=.ok (.nx ρ')):ar s t ρ=t ρ':=by unfold ar;rw[h];rfl
def uY{s t:bd}{ρ:Ev}{d:D}(h:s ρ=.ok (.rt d)):ar s t ρ=.ok (.rt d):=by unfold ar;rw[h];rfl
def Aa{s:bd}{ρ ρ':Ev}(h:s ρ=.ok (.nx ρ')):ar s au ρ=.ok (.nx ρ'):=by unfold ar;rw[h];rfl
def z9{i:Nat}{f:am}{ρ:Ev}{d:D}(h:f ρ=.ok d):aN i f ρ=.ok (.nx (ρ.set i (.sh d))):=by unfold aN;rw[h];rfl
def u9{f:am}{ρ:Ev}{d:D}(h:f (iA ρ)=.ok d):bx f ρ=.ok (.rt d):=by unfold bx;rw[h];rfl
def GO{c:am}{s t:bd}{ρ:Ev}(h:c (iA ρ)=.ok (.bl false)):dO c s t ρ=t ρ:=by unfold dO;rw[h];rfl
def vy{i j:Int}:gI (.int i) (.int j)=.ok (.bl (!(i==j))):=by unfold gI;rw[if_pos ⟨rfl,rfl⟩,cK]
def Bs{i j:Int}:iD (.int i) (.int j)=.ok (.bl (i==j)):=by unfold iD;rw[if_pos ⟨rfl,rfl⟩,cK]
def kA{f:am}{fa:Ev->ao (ac)}{ρ:Ev}{x:D}{xs:ac}(h:f ρ=.ok x)(h':fa ρ=.ok xs):af f fa ρ=.ok (x::xs):=by unfold af;rw[h,Fs,h'];rfl
def n8{f g:am}{op:D->D->ao D}{ρ:Ev}{x y:D}(h:f ρ=.ok x)(h':g ρ=.ok y):aa f g op ρ=op x y:=by unfold aa;rw[h,Fs,h'];rfl
def uv{fa:Ev->ao (ac)}{m:ac->ao D}{ρ:Ev}{xs:ac}(h:fa ρ=.ok xs):aq fa m ρ=m xs:=by unfold aq;rw[h];rfl
def vA{a b:Int}(h:b≠0):bR (.int a) (.int b)=.ok (.int (a.fmod b)):=by
 show(if decide (b≠0)=true then ao.ok (D.int (a.fmod b)) else .stuck)=_;rw[if_pos (decide_eq_true h)]
def BB{a b:Int}(h:fD a b=true):k7 (.int a) (.int b)=.ok (.int (a.fdiv b)):=by
 show(if fD a b=true then ao.ok (D.int (a.fdiv b)) else .stuck)=_;rw[if_pos h]
def ny(a b:Int):Int.gcd b (a.fmod b)=Int.gcd a b:=by
 rw[Int.fmod_def,Int.gcd_sub_mul_left_right,Int.gcd_comm]
def xj{a b:Int}(h:b≠0):(a.fmod b).natAbs<b.natAbs:=by
 rcases Int.lt_or_gt_of_ne h with hb|hb
 .have h1:=Int.fmod_lt_of_pos (-a) (show 0 < -b by omega)
  have h2:=Int.fmod_nonneg_of_pos (-a) (show 0 < -b by omega);rw[Int.neg_fmod_neg]at h1 h2;omega
 .have h1:=Int.fmod_lt_of_pos a hb
  have h2:=Int.fmod_nonneg_of_pos a hb;omega
theorem kf:∀(n:Nat) (a b:Int),b.natAbs<n->∃g:Int,g.natAbs=Int.gcd a b /\
  bO (aa (ae 1) (dC (.int 0)) gI) (ar (oF 0 1 (af (ae 1) (af (aa (ae 0) (ae 1) bR) ax))) au) n [.sh (.int a),.sh (.int b)]=.ok (.nx [.sh (.int g),.sh (.int 0)])
 |0,a,b,h=>absurd h (Nat.not_lt_zero _)
 |n+1,a,b,h=>by
  unfold bO;have c:(aa (ae 1) (dC (.int 0)) gI) (iA [.sh (.int a),.sh (.int b)])=.ok (.bl (!(b==0))):=vy;rw[c]
  by_cases hb:b=0
  .subst hb
   exact⟨a,by simp,rfl⟩
  .have e:(!(b==0))=true:=by simp[hb]
   obtain⟨g,h1,h2⟩:=kf n b (a.fmod b) (by have:=xj (a:=a) hb;omega);refine⟨g,by rw[h1,ny],?_⟩;rw[←h2];rw[e];have st:(ar (oF 0 1 (af (ae 1) (af (aa (ae 0) (ae 1) bR) ax))) au) [.sh (.int a),.sh (.int b)]=.ok (.nx [.sh (.int b),.sh (.int (a.fmod b))]):=by
    refine Aa ?_;unfold oF;have:(af (ae 1) (af (aa (ae 0) (ae 1) bR) ax)) [.sh (.int a),.sh (.int b)]=.ok [.int b,.int (a.fmod b)]:=by
     exact kA rfl (kA (vA hb) rfl)
    rw[this];rfl
   show(ao.bind _ _)=_;rw[st];rfl
def HG(a b:Int):iM [.int a,.int b]=.ok (.int (Int.gcd a b)):=by
 obtain⟨g,h1,h2⟩:=kf (b.natAbs+1) a b (Nat.lt_succ_self _);have w:fW (jd 1) (aa (ae 1) (dC (.int 0)) gI) (ar (oF 0 1 (af (ae 1) (af (aa (ae 0) (ae 1) bR) ax))) au) [.sh (.int a),.sh (.int b)]=.ok (.nx [.sh (.int g),.sh (.int 0)]):=h2;have r:eg [.sh (.int a),.sh (.int b)]=.ok (.rt (.int (if g<0 then -g else g))):=by
  unfold eg;rw[gO w];exact uY (u9 rfl)
 show(eg [.sh (.int a),.sh (.int b)]).bind _=_;rw[r];show ao.ok (D.int (if g<0 then -g else g))=_
 congr 2
 rw[←h1];split<;>omega
theorem lL:∀(n:Nat) (x y:D) (a b:Int) (r:Sl),0<=a->0<=b->b.natAbs<n->∃r',
  bO (aa (ae 3) (dC (.int 0)) gI) (ar (aN 4 (aa (ae 2) (ae 3) bR)) (ar (aN 2 (ae 3)) (ar (aN 3 (ae 4)) au))) n [.sh x,.sh y,.sh (.int a),.sh (.int b),r]=.ok (.nx [.sh x,.sh y,.sh (.int (Int.gcd a b)),.sh (.int 0),r'])
 |0,_,_,a,b,_,_,_,h=>absurd h (Nat.not_lt_zero _)
 |n+1,x,y,a,b,r,ha,hb0,h=>by
  unfold bO;have c:∀r,(aa (ae 3) (dC (.int 0)) gI) (iA [.sh x,.sh y,.sh (.int a),.sh (.int b),r])=.ok (.bl (!(b==0))):=λr=>vy;rw[c]
  by_cases hb:b=0
  .subst hb
   refine⟨r,?_⟩;have e:((Int.gcd a 0:Nat):Int)=a:=by simp;omega
   rw[e];rfl
  .have e:(!(b==0))=true:=by simp[hb]
   have hp:0<b:=by omega
   obtain⟨r',h2⟩:=lL n x y b (a.fmod b) (.sh (.int (a.fmod b))) hb0 (Int.fmod_nonneg_of_pos a hp) (by have:=xj (a:=a) hb;omega);refine⟨r',?_⟩;rw[ny]at h2;rw[←h2,e];have st:(ar (aN 4 (aa (ae 2) (ae 3) bR)) (ar (aN 2 (ae 3)) (ar (aN 3 (ae 4)) au))) [.sh x,.sh y,.sh (.int a),.sh (.int b),r]=.ok (.nx [.sh x,.sh y,.sh (.int b),.sh (.int (a.fmod b)),.sh (.int (a.fmod b))]):=by
    have m:(aa (ae 2) (ae 3) bR) [.sh x,.sh y,.sh (.int a),.sh (.int b),r]=.ok (.int (a.fmod b)):=by
     exact vA hb
    rw[gO (z9 m)];rfl
   show(ao.bind _ _)=_;rw[st];rfl
def k8(a b:Int):m_common_divisor [.int a,.int b]=.ok (.int (Int.gcd a b)):=by
 have e:∀i:Int,(if i<0 then -i else i)=(i.natAbs:Int):=λi=>by split<;>omega
 obtain⟨r',h⟩:=lL ((b.natAbs:Int).natAbs+1) (.int a) (.int b) a.natAbs b.natAbs .no (Int.natCast_nonneg _) (Int.natCast_nonneg _) (Nat.lt_succ_self _);have hg:Int.gcd (a.natAbs:Int) (b.natAbs:Int)=Int.gcd a b:=by simp[Int.gcd]
 rw[hg]at h;have r:da [.sh (.int a),.sh (.int b),.no,.no,.no]=.ok (.rt (.int (Int.gcd a b))):=by
  unfold da;rw[gO (ρ':=[.sh (.int a),.sh (.int b),.sh (.int (a.natAbs:Int)),.no,.no]) (by rw[←e a];rfl)];rw[gO (ρ':=[.sh (.int a),.sh (.int b),.sh (.int (a.natAbs:Int)),.sh (.int (b.natAbs:Int)),.no]) (by rw[←e b];rfl)];have w:fW (jd 3) (aa (ae 3) (dC (.int 0)) gI) (ar (aN 4 (aa (ae 2) (ae 3) bR)) (ar (aN 2 (ae 3)) (ar (aN 3 (ae 4)) au))) [.sh (.int a),.sh (.int b),.sh (.int (a.natAbs:Int)),.sh (.int (b.natAbs:Int)),.no]=.ok (.nx [.sh (.int a),.sh (.int b),.sh (.int (Int.gcd a b)),.sh (.int 0),r']):=h;rw[gO w];exact uY (u9 rfl)
 show(da [.sh (.int a),.sh (.int b),.no,.no,.no]).bind _=_;rw[r];rfl
def vf:(2:Nat) ^ 64<=wo:=by rw[wm];exact Nat.pow_le_pow_right (by decide) (by decide)
def Dq{i:Int}(h:i.natAbs<18446744073709551616):i.natAbs<wo:=Nat.lt_of_lt_of_le h vf
def gz{i j:Int}(h:i.natAbs<18446744073709551616)(h':j.natAbs<18446744073709551616):dS i j=true:=by
 unfold dS;rw[Bool.and_eq_true];exact⟨decide_eq_true (Dq h),decide_eq_true (Dq h')⟩
def eK{i j:Int}(h:i.natAbs<wo)(h':j.natAbs<wo):dS i j=true:=by
 unfold dS;rw[Bool.and_eq_true];exact⟨decide_eq_true h,decide_eq_true h'⟩
def JX{i j:Int}(h0:j≠0)(h:j.natAbs<B9):fD i j=true:=by
 unfold fD;rw[Bool.and_eq_true,Bool.or_eq_true];exact⟨decide_eq_true h0,.inl (decide_eq_true h)⟩
def rg{i j:Int}(h0:j≠0)(h:i.natAbs<uK):fD i j=true:=by
 unfold fD;rw[Bool.and_eq_true,Bool.or_eq_true];exact⟨decide_eq_true h0,.inr (decide_eq_true h)⟩
def eL{ds:ac}{k:Nat}{d:D}(h:ds[k]?=some d):aD (.lst ds) (.int (k:Int))=.ok d:=by
 unfold aD;simp only[dE h]
def dj{a b:Int}(hb:0<b):0<=a.fmod b/\a.fmod b<b:=⟨Int.fmod_nonneg_of_pos a hb,Int.fmod_lt_of_pos a hb⟩
def yG{n k:Nat}(h:k<n):(DL.intsFrom 0 n).drop k=.int (k:Int)::(DL.intsFrom 0 n).drop (k+1):=by
 have hl:(DL.intsFrom 0 n).length=n:=by unfold DL.intsFrom;simp
 rw[List.drop_eq_getElem_cons (by rw[hl];exact h)]
 congr 1
 unfold DL.intsFrom;simp
def A3{n:Nat}:(DL.intsFrom 0 n).drop n=[]:=by
 have hl:(DL.intsFrom 0 n).length=n:=by unfold DL.intsFrom;simp
 exact List.drop_eq_nil_of_le (by omega)
def qX{tg:Ev->D->ao Ev}{s:bd}{d:D}{r:ac}{ρ ρ1 ρ2:Ev}(h1:tg ρ d=.ok ρ1)(h2:s ρ1=.ok (.nx ρ2)):bW tg s (d::r) ρ=bW tg s r ρ2:=by
 rw[bW,h1,Fs,h2,Fs]
def Js:D->Bool
 |.int _=>true
 |_=>false
def fP(d:D):m_is_whole [d]=.ok (.bl (Js d)):=by cases d<;>first|rfl|(rename_i k _;cases k<;>rfl)
def ka{a g:Int}(hg:0<g):a.fdiv g=a / g:=Int.fdiv_eq_ediv_of_nonneg a (by omega)
def qU{a b:Int}(h:b≠0):0<(Int.gcd a b:Int):=by
 have:=Int.gcd_pos_of_ne_zero_right a h;omega
def Ai{a b:Int}(hb:0<b)(h1:a.natAbs<uK)(h2:b.natAbs<uK):m_ratio [.int a,.int b]=.ok (.tup [.int (a / Int.gcd a b),.int (b / Int.gcd a b)]):=by
 have hg:=qU (a:=a) (b:=b) (by omega);have r:ju [.sh (.int a),.sh (.int b),.no]=.ok (.rt (.tup [.int (a / Int.gcd a b),.int (b / Int.gcd a b)])):=by
  unfold ju;rw[gO (ρ':=[.sh (.int a),.sh (.int b),.no]) (GO (t:=au) rfl)];rw[gO (ρ':=[.sh (.int a),.sh (.int b),.no]) (GO (t:=au) ((n8 (x:=.int b) (y:=.int 0) rfl rfl).trans (Bs.trans (by rw[beq_eq_false_iff_ne.mpr (by omega)]))))];rw[gO (ρ':=[.sh (.int a),.sh (.int b),.sh (.int (Int.gcd a b))]) (z9 ((uv (xs:=[.int a,.int b]) rfl).trans (k8 a b)))];rw[gO (ρ':=[.sh (.int a),.sh (.int b),.sh (.int (Int.gcd a b))]) (GO (t:=au) (by
   show ao.ok (D.bl (decide (b<0)))=_;rw[decide_eq_false (by omega)]))]
  refine uY (u9 ?_);refine(uv (xs:=[.int (a / Int.gcd a b),.int (b / Int.gcd a b)]) (kA ?_ (kA ?_ rfl))).trans rfl
  .rw[←ka hg]
   exact(n8 (x:=.int a) (y:=.int (Int.gcd a b)) rfl rfl).trans (BB (rg (by omega) h1))
  .rw[←ka hg]
   exact(n8 (x:=.int b) (y:=.int (Int.gcd a b)) rfl rfl).trans (BB (rg (by omega) h2))
 show(ju [.sh (.int a),.sh (.int b),.no]).bind _=_;rw[r];rfl
def Lh(p q:Int):D:=.tup [.int p,.int q]
end Com
open Com
namespace Com
open PySem L2 DL
abbrev gN:=Int×Int
def fr(x:gN):D:=Lh x.1 x.2
def zi:Nat:=1000000000000000000000000000000000000000000000000000000000000
def EZ:zi<=uK:=by rw[rM];exact Nat.le_trans (show zi<=2 ^ 200 by decide) (Nat.pow_le_pow_right (by decide) (by decide))
def xN:uK<=wo:=by rw[rM,wm];exact Nat.pow_le_pow_right (by decide) (by decide)
structure Low (x:gN):Prop where
 q1:1<=x.2
 g1:Int.gcd x.1 x.2=1
structure qk (x:gN):Prop extends Low x where
 pN:x.1.natAbs<zi
 qN:x.2.natAbs<zi
def zm(a b:Int):gN:=(a / Int.gcd a b,b / Int.gcd a b)
def wZ{a b:Int}(hb:0<b):Low (zm a b):=by
 have hg:=qU (a:=a) (b:=b) (by omega);refine⟨?_,Int.gcd_ediv_gcd_ediv_gcd (by omega)⟩;have:=Int.ediv_gcd_ne_zero_if_ne_zero_right a (show b≠0 by omega);have h2:0<=b / (Int.gcd a b:Int):=Int.ediv_nonneg (by omega) (by omega);show 1<=b / (Int.gcd a b:Int);omega
def w6{a b:Int}:(zm a b).1.natAbs<=a.natAbs:=Int.natAbs_ediv_le_natAbs _ _
def w4{a b:Int}:(zm a b).2.natAbs<=b.natAbs:=Int.natAbs_ediv_le_natAbs _ _
def mM{a b:Int}(hb:0<b)(h1:a.natAbs<uK)(h2:b.natAbs<uK):m_ratio [.int a,.int b]=.ok (fr (zm a b)):=Ai hb h1 h2
def Jq{a b:Int}(hb:0<b)(h1:a.natAbs<zi)(h2:b.natAbs<zi):qk (zm a b):=⟨wZ hb,Nat.lt_of_le_of_lt w6 h1,Nat.lt_of_le_of_lt w4 h2⟩
def flt(x y:gN):Bool:=decide (x.1*y.2<y.1*x.2)
def aK{α:Type}{a b:α}(h:a=b):a=b:=h
def Ac(t:bd)(r:Fl):ao Fl:=match r with
 |.nx ρ'=>t ρ'
 |r=>.ok r
def CH(i:Nat)(ρ:Ev)(d:D):ao Fl:=.ok (.nx (ρ.set i (.sh d)))
def IG(d:D):ao Fl:=.ok (.rt d)
def Fn(ρ:Ev)(_:D):ao Fl:=.ok (.nx ρ)
def Ld(s t:bd)(ρ:Ev)(x:D):ao Fl:=match x with
 |.bl b=>if b=true then s ρ else t ρ
 |_=>.stuck
def Ji(i:Nat)(ρ:Ev)(d:D):ao Fl:=match d with
 |.lst ds=>.ok (.nx (ρ.set i (.ow (.lst ds))))
 |_=>.stuck
def Jh(s:Option Sl)(k:ac->ao Fl):ao Fl:=match s with
 |some (.ow (.lst ds))=>k ds
 |_=>.stuck
def J4(i:Nat)(ρ:Ev)(ds:ac)(d:D):ao Fl:=if ds.length<line then .ok (.nx (ρ.set i (.ow (.lst (ds++[d]))))) else .stuck
def Je(i j:Nat)(ρ:Ev)(ds:ac):ao Fl:=match ds with
 |[x,y]=>.ok (.nx ((ρ.set i (.sh x)).set j (.sh y)))
 |_=>.stuck
def k2(g:am)(op:D->D->ao D)(ρ:Ev)(x:D):ao D:=(g ρ).bind (op x)
def v5(x:D)(xs:ac):ao (ac):=.ok (x::xs)
def Fq(fa:Ev->ao (ac))(ρ:Ev)(x:D):ao (ac):=(fa ρ).bind (v5 x)
def HU(g:am)(ρ:Ev)(x:D):ao D:=match x with
 |.bl true=>g ρ
 |.bl false=>.ok (.bl false)
 |_=>.stuck
def K9(g:am)(ρ:Ev)(x:D):ao D:=match x with
 |.bl true=>.ok (.bl true)
 |.bl false=>g ρ
 |_=>.stuck
def Jl(x:D):ao D:=match x with
 |.bl b=>.ok (.bl (!b))
 |_=>.stuck
def Ij(s:Option Sl):ao D:=match s with
 |some (.sh d)=>.ok d
 |_=>.stuck
def zY(s:Sl):Sl:=match s with
 |.ow d=>.sh d
 |.ox _ ds=>.sh (.tup ds)
 |x=>x
def oH(r:Fl):ao D:=match r with
 |.nx _=>.ok .non
 |.rt d=>.ok d
 |_=>.stuck
def LG(x:D):ao (Option Int):=match x with
 |.int i=>.ok (some i)
 |_=>.stuck
def x8(x:D)(l:Option Int)(h:Option Int):ao D:=mJ x l h
def K3(hi:Ev->ao (Option Int))(ρ:Ev)(x:D)(l:Option Int):ao D:=(hi ρ).bind (x8 x l)
def IE(lo hi:Ev->ao (Option Int))(ρ:Ev)(x:D):ao D:=(lo ρ).bind (K3 hi ρ x)
def JE(tg:Ev->D->ao Ev)(s:bd)(ρ:Ev)(d:D):ao Fl:=match d with
 |.lst ds=>bW tg s ds ρ
 |_=>.stuck
def EJ(op':D->D->ao D)(h:am)(ρ:Ev)(y z:D):ao D:=match z with
 |.bl true=>(h ρ).bind (op' y)
 |.bl false=>.ok (.bl false)
 |_=>.stuck
def HQ(op op':D->D->ao D)(h:am)(ρ:Ev)(x y:D):ao D:=(op x y).bind (EJ op' h ρ y)
def LM(op op':D->D->ao D)(g h:am)(ρ:Ev)(x:D):ao D:=(g ρ).bind (HQ op op' h ρ x)
section
variable {s t:bd}{f g h:am}{fa:Ev->ao (ac)}{ρ r:Ev}{i j:Nat}{d x y:D}{ds xs:ac}{op op':D->D->ao D}{a b:Int}
def nH{α β:Type}{a:α}{k:α->ao β}:(ao.ok a).bind k=k a:=aK rfl
def kS:ar s t ρ=(s ρ).bind (Ac t):=aK rfl
def D4:Ac t (.nx ρ)=t ρ:=aK rfl
def D3:Ac t (.rt d)=.ok (.rt d):=aK rfl
def Ec:au ρ=.ok (.nx ρ):=aK rfl
def kR:aN i f ρ=(f ρ).bind (CH i ρ):=aK rfl
def D2:CH i ρ d=.ok (.nx (ρ.set i (.sh d))):=aK rfl
def G5:bx f ρ=(f (iA ρ)).bind IG:=aK rfl
def D7:IG d=.ok (.rt d):=aK rfl
def Ep:jE f ρ=(f (iA ρ)).bind (Fn ρ):=aK rfl
def Bo:Fn ρ d=.ok (.nx ρ):=aK rfl
def JO:dO f s t ρ=(f (iA ρ)).bind (Ld s t ρ):=aK rfl
def Hq:Ld s t ρ (.bl true)=s ρ:=aK rfl
def Ho:Ld s t ρ (.bl false)=t ρ:=aK rfl
def G7:uZ i f ρ=(f ρ).bind (Ji i ρ):=aK rfl
def Ea:Ji i ρ (.lst ds)=.ok (.nx (ρ.set i (.ow (.lst ds)))):=aK rfl
def Hy:eB i f ρ=Jh ρ[i]? λds=>(f ρ).bind (J4 i ρ ds):=aK rfl
def D9{k:ac->ao Fl}:Jh (some (.ow (.lst ds))) k=k ds:=aK rfl
def gX(h:decide (ds.length<=999)=true):J4 i ρ ds d=.ok (.nx (ρ.set i (.ow (.lst (ds++[d]))))):=if_pos (Nat.lt_of_le_of_lt (of_decide_eq_true h) (by decide))
def Hr:CI i s ρ=s (unown i ρ):=aK rfl
def G6:oF i j fa ρ=(fa ρ).bind (Je i j ρ):=aK rfl
def D8:Je i j ρ [x,y]=.ok (.nx ((ρ.set i (.sh x)).set j (.sh y))):=aK rfl
def JU{o:D->ao D}:bc f o ρ=(f ρ).bind o:=aK rfl
def JT:aa f g op ρ=(f ρ).bind (k2 g op ρ):=aK rfl
def Hw:k2 g op ρ x=(g ρ).bind (op x):=aK rfl
def Br{m:ac->ao D}:aq fa m ρ=(fa ρ).bind m:=aK rfl
def Hi:ax ρ=.ok []:=aK rfl
def kd:af f fa ρ=(f ρ).bind (Fq fa ρ):=aK rfl
def nK:Fq fa ρ x=(fa ρ).bind (v5 x):=aK rfl
def Bp:v5 x xs=.ok (x::xs):=aK rfl
def Hz:iC f g ρ=(f ρ).bind (HU g ρ):=aK rfl
def Es:HU g ρ (.bl true)=g ρ:=aK rfl
def Er:HU g ρ (.bl false)=.ok (.bl false):=aK rfl
def JK:gM f g ρ=(f ρ).bind (K9 g ρ):=aK rfl
def Hd:K9 g ρ (.bl true)=.ok (.bl true):=aK rfl
def Hc:K9 g ρ (.bl false)=g ρ:=aK rfl
def Hh:bZ f ρ=(f ρ).bind Jl:=aK rfl
def Eb{c:Bool}:Jl (.bl c)=.ok (.bl (!c)):=aK rfl
def GV:ae i ρ=Ij ρ[i]?:=aK rfl
def DP:Ij (some (.sh d))=.ok d:=aK rfl
def Lj:dC d ρ=.ok d:=aK rfl
def D0:iA []=[]:=aK rfl
def G1{c:Sl}:iA (c::r)=zY c::iA r:=aK rfl
def DZ:zY (.ow d)=.sh d:=aK rfl
def DV:zY (.ox j ds)=.sh (.tup ds):=aK rfl
def DY:zY (.sh d)=.sh d:=aK rfl
def DX:zY .no=.no:=aK rfl
def kT{n:Nat}:bH n s ds=(s (ds.map Sl.sh++List.replicate (n-ds.length) .no)).bind oH:=aK rfl
def D6:oH (.rt d)=.ok d:=aK rfl
def D5:oH (.nx ρ)=.ok .non:=aK rfl
def JJ:bM f ρ=(f ρ).bind LG:=aK rfl
def G9:LG (.int a)=.ok (some a):=aK rfl
def JL:dA ρ=.ok none:=aK rfl
def JH{lo hi:Ev->ao (Option Int)}:ez f lo hi ρ=(f ρ).bind (IE lo hi ρ):=aK rfl
def G0{lo hi:Ev->ao (Option Int)}:IE lo hi ρ x=(lo ρ).bind (K3 hi ρ x):=aK rfl
def GZ{hi:Ev->ao (Option Int)}{l:Option Int}:K3 hi ρ x l=(hi ρ).bind (x8 x l):=aK rfl
def GY{l l':Option Int}:x8 (.lst ds) l l'=.ok (.lst (fZ ds l l')):=aK rfl
def Hs{tg:Ev->D->ao Ev}:oG f tg s ρ=(f ρ).bind (JE tg s ρ):=aK rfl
def Eo{tg:Ev->D->ao Ev}:JE tg s ρ (.lst ds)=bW tg s ds ρ:=aK rfl
def Bq:ie op op' f g h ρ=(f ρ).bind (LM op op' g h ρ):=aK rfl
def JP:LM op op' g h ρ x=(g ρ).bind (HQ op op' h ρ x):=aK rfl
def Hv:HQ op op' h ρ x y=(op x y).bind (EJ op' h ρ y):=aK rfl
def Hu:EJ op' h ρ y (.bl true)=(h ρ).bind (op' y):=aK rfl
def Ht:EJ op' h ρ y (.bl false)=.ok (.bl false):=aK rfl
def Hm{o:Int->Int->D}:tM (λ_ _=>true) o (.int a) (.int b)=.ok (o a b):=aK rfl
def HA:bo (.int a) (.int b)=.ok (.int (a+b)):=aK rfl
def gY{es:ac}(h:decide (ds.length+es.length<=1000)=true):bo (.lst ds) (.lst es)=.ok (.lst (ds++es)):=if_pos (Nat.le_trans (of_decide_eq_true h) (by decide))
def Hj:ro (.int a)=.ok (.int (-a)):=aK rfl
def JM{m:D->ao D}:m1 m [x]=m x:=aK rfl
def Ee:cN (.lst ds)=.ok (.int ds.length):=aK rfl
def Ed:cN (.tup ds)=.ok (.int ds.length):=aK rfl
def GX(h:decide (ds.length<=1000)=true):dm ds=.ok (.tup ds):=if_pos (Nat.le_trans (of_decide_eq_true h) (by decide))
def Hl(h:decide (ds.length<=1000)=true):bG ds=.ok (.lst ds):=if_pos (Nat.le_trans (of_decide_eq_true h) (by decide))
def nJ:du "bool" (.int a)=.ok (.bl false):=aK rfl
def oV:du "int" (.int a)=.ok (.bl true):=aK rfl
def oU:du "str" (.int a)=.ok (.bl false):=aK rfl
def oR{z:Str}:du "str" (.str z)=.ok (.bl true):=aK rfl
def lX:du "tuple" (.tup ds)=.ok (.bl true):=aK rfl
def nI:du "list" (.lst ds)=.ok (.bl true):=aK rfl
def vS:oX (.int a) .non=.ok (.bl false):=aK rfl
def vR{z:Str}:oX (.str z) .non=.ok (.bl false):=aK rfl
def vQ:oX (.tup ds) .non=.ok (.bl false):=aK rfl
def cu(h:dS a b=true):bK (.int a) (.int b)=.ok (.int (a*b)):=if_pos h
def Hk(h:(b==0)=false):bR (.int a) (.int b)=.ok (.int (a.fmod b)):=vA (λz=>by rw[z]at h;cases h)
def vT(h:fD a b=true):k7 (.int a) (.int b)=.ok (.int (a.fdiv b)):=if_pos h
def JI{is:bi}:dk ρ (i::is) (d::ds)=dk (ρ.set i (.sh d)) is ds:=aK rfl
def G4:dk ρ [] ds=ρ:=aK rfl
def Lv(i:Nat)(ρ:Ev)(s:Option Sl):Ev:=match s with
 |some (.ow d)=>ρ.set i (.sh d)
 |_=>ρ
def JG:unown i ρ=Lv i ρ ρ[i]?:=aK rfl
def GW:Lv i ρ (some (.ow d))=ρ.set i (.sh d):=aK rfl
def xr{x0:D}:aD (.lst (x0::xs)) (.int 0)=.ok x0:=by
 unfold aD;simp only[show atI (x0::xs) 0=some x0 from dE (j:=0) rfl]
def Ek{x0:D}:aD (.tup (x0::xs)) (.int 0)=.ok x0:=by
 unfold aD;simp only[show atI (x0::xs) 0=some x0 from dE (j:=0) rfl]
def xq{x0 x1:D}:aD (.lst (x0::x1::xs)) (.int 1)=.ok x1:=by
 unfold aD;simp only[show atI (x0::x1::xs) 1=some x1 from dE (j:=1) rfl]
def Ej{x0 x1:D}:aD (.tup (x0::x1::xs)) (.int 1)=.ok x1:=by
 unfold aD;simp only[show atI (x0::x1::xs) 1=some x1 from dE (j:=1) rfl]
def Em{x0 x1 x2:D}:aD (.lst (x0::x1::x2::xs)) (.int 2)=.ok x2:=by
 unfold aD;simp only[show atI (x0::x1::x2::xs) 2=some x2 from dE (j:=2) rfl]
def Ei{x0 x1 x2:D}:aD (.tup (x0::x1::x2::xs)) (.int 2)=.ok x2:=by
 unfold aD;simp only[show atI (x0::x1::x2::xs) 2=some x2 from dE (j:=2) rfl]
def Eh{x0 x1 x2 x3:D}:aD (.tup (x0::x1::x2::x3::xs)) (.int 3)=.ok x3:=by
 unfold aD;simp only[show atI (x0::x1::x2::x3::xs) 3=some x3 from dE (j:=3) rfl]
def Eg{x0 x1 x2 x3 x4:D}:aD (.tup (x0::x1::x2::x3::x4::xs)) (.int 4)=.ok x4:=by
 unfold aD;simp only[show atI (x0::x1::x2::x3::x4::xs) 4=some x4 from dE (j:=4) rfl]
def JS:((2:Nat):Int)=2:=aK rfl
def JR:((4:Nat):Int)=4:=aK rfl
def JQ:((5:Nat):Int)=5:=aK rfl
end
def Fh(fa:Ev->ao (ac))(ρ:Ev)(x:D):ao D:=match x with
 |.str z=>(fa ρ).bind (nh z)
 |_=>.stuck
def Ef{f:am}{fa:Ev->ao (ac)}{ρ:Ev}:uh f fa ρ=(f ρ).bind (Fh fa ρ):=aK rfl
def Bm{fa:Ev->ao (ac)}{ρ:Ev}{z:Str}:Fh fa ρ (.str z)=(fa ρ).bind (nh z):=aK rfl
end Com
def bJ{a b:Prop}(x:a)(y:b):a/\b:=⟨x,y⟩
def Kf:=(bJ (bJ (bJ (bJ (bJ (bJ @nH (bJ @kS @D4)) (bJ @D3 (bJ @Ec @kR))) (bJ (bJ @D2 (bJ @G5 @D7)) (bJ @Ep (bJ @Bo @JO)))) (bJ (bJ (bJ @Hq (bJ @Ho @G7)) (bJ @Ea (bJ @Hy @D9))) (bJ (bJ @Hr (bJ @G6 @D8)) (bJ (bJ @JU @JT) (bJ @Hw @Br))))) (bJ (bJ (bJ (bJ @Hi (bJ @kd @nK)) (bJ @Bp (bJ @Hz @Es))) (bJ (bJ @Er (bJ @JK @Hd)) (bJ @Hc (bJ @Hh @Eb)))) (bJ (bJ (bJ @GV (bJ @DP @Lj)) (bJ @D0 (bJ @G1 @DZ))) (bJ (bJ @DY (bJ @DX @kT)) (bJ (bJ @D6 @D5) (bJ @JJ @G9)))))) (bJ (bJ (bJ (bJ (bJ @JL (bJ @JH @G0)) (bJ @GZ (bJ @GY @Hs))) (bJ (bJ @Eo (bJ @Bq @JP)) (bJ @Hv (bJ @Hu @Ht)))) (bJ (bJ (bJ @Hm (bJ @HA @Hj)) (bJ @JM (bJ @Ee @Ed))) (bJ (bJ @Bs (bJ @vy @GX)) (bJ (bJ @Hl @gY) (bJ @gX @Hk))))) (bJ (bJ (bJ (bJ @JI (bJ @G4 @JG)) (bJ @GW (bJ @xr @xq))) (bJ (bJ @Em (bJ @Ek @Ej)) (bJ (bJ @Ei @Eh) (bJ @Eg @nJ)))) (bJ (bJ (bJ @oV (bJ @oU @oR)) (bJ @lX (bJ @nI @vS))) (bJ (bJ @vR (bJ @vQ @JS)) (bJ (bJ @JR @JQ) (bJ @Ef @Bm)))))))
local macro_rules|`(tactic|open_line with[$xs,*])=>`(tactic|simp only[Kf,List.map_cons,List.map_nil,List.length_cons,List.length_nil,List.replicate_succ,List.replicate_zero,List.nil_append,List.cons_append,List.getElem?_cons_zero,List.getElem?_cons_succ,List.set_cons_zero,List.set_cons_succ,Nat.sub_zero,Nat.reduceSub,Nat.reduceAdd,Nat.add_zero,Nat.zero_add,Bool.not_true,Bool.not_false,decide_true,decide_false,Nat.reduceLeDiff,Nat.reduceBEq,Int.reduceBEq,beq_self_eq_true,DL.dOne,DL.mYes,Int.reduceLT,Int.reduceLE,Int.reduceSub,Int.reduceAdd,Int.reduceMul,Int.reduceNeg,Int.reduceToNat,Bool.and_self,$[$xs:term],*])
namespace Com
open PySem L2 DL
noncomputable def gL:bd :=
 (ar (dO (gM (bZ (bc (ae 0) (du "str"))) (bZ (ie Ic Ic (dC (.int 1)) (aq (af (ae 0) ax) (m1 cN)) (dC (.int 8)))))
 (ar (bx (dC (.bl false)))
 au)
 au)
 (ar (bx (aq (af (cG 1 [] (CD (ae 0)) (bV 0) mYes (aa (ae 0) (dC (.str "abcdefghijklmnopqrstuvwxyz")) oY)) ax) (m1 vZ)))
 au))
def m_is_name:ac->ao D:=bH 1 gL
noncomputable def cX:bd :=
 (ar (dO (gM (bZ (bc (ae 0) (du "tuple"))) (aa (aq (af (ae 0) ax) (m1 cN)) (dC (.int 2)) gI))
 (ar (bx (dC (.bl false)))
 au)
 au)
 (ar (dO (gM (bZ (aq (af (aa (ae 0) (dC (.int 0)) aD) ax) m_is_whole)) (bZ (aq (af (aa (ae 0) (dC (.int 1)) aD) ax) m_is_whole)))
 (ar (bx (dC (.bl false)))
 au)
 au)
 (ar (bx (iC (aa (aa (ae 0) (dC (.int 1)) aD) (dC (.int 1)) Kr) (aa (aq (af (aa (ae 0) (dC (.int 0)) aD) (af (aa (ae 0) (dC (.int 1)) aD) ax)) m_common_divisor) (dC (.int 1)) iD)))
 au)))
def m_is_ratio:ac->ao D:=bH 1 cX
def Mh:Str:="abcdefghijklmnopqrstuvwxyz"
def nq(c:Nat):Bool:=Kn ⟨#[c]⟩ Mh
def nameB(z:Str):Bool:=decide (1<=z.length)&&(decide (z.length<=8)&&z.cps.toList.all nq)
def AN:D->Bool
 |.str z=>nameB z
 |_=>false
def GS:D->Bool
 |.str z=>decide (z.length<=line)
 |_=>true
theorem pS{b:Ev}{tg:Ev->D->ao Ev}{tt fe:am}{F:D->D}:∀{ds:ac},(∀d∈ds,∃ρ1,tg b d=.ok ρ1/\tt ρ1=.ok (.bl true)/\fe ρ1=.ok (F d))->bI b tg tt fe ds=.ok (ds.map F)
 |[],_=>rfl
 |d::r,h=>by
  obtain⟨ρ1,h1,h2,h3⟩:=h d List.mem_cons_self;rw[gK h1 h2 h3,pS (λe he=>h e (List.mem_cons_of_mem _ he))];rfl
theorem lN{α:Type}(F:α->Bool):∀(cs:List α),eC (cs.map λc=>D.bl (F c))=some (cs.map F)
 |[]=>rfl
 |c::r=>by
  show(eC (r.map λc=>D.bl (F c))).map (F c::·)=_;rw[lN F r];rfl
def vz{z:Str}(hz:z.length<=line):cG 1 [] (CD (ae 0)) (bV 0) mYes (aa (ae 0) (dC (.str "abcdefghijklmnopqrstuvwxyz")) oY) [.sh (.str z)]=.ok (.lst (z.cps.toList.map λc=>.bl (nq c))):=by
 have hl:(iH z).length<=line:=by rw[jK];exact hz
 unfold cG;show(if(iH z).length<=line then _ else _)=_;rw[if_pos hl];have:bI (cc 1 [] [.sh (.str z)]) (bV 0) mYes (aa (ae 0) (dC (.str "abcdefghijklmnopqrstuvwxyz")) oY) (iH z)=.ok (z.cps.toList.map λc=>D.bl (nq c)):=by
  unfold iH
  induction z.cps.toList with
  |nil=>rfl
  |cons c r ih=>
   rw[List.map_cons,gK (x:=.bl (nq c)) rfl rfl rfl,ih];rfl
 rw[this]
def nj{d:D}(h:GS d=true):m_is_name [d]=.ok (.bl (AN d)):=by
 cases d with
 |str z=>
  have hz:z.length<=line:=of_decide_eq_true h;have hlen:cN (.str z)=.ok (.int z.length):=if_pos hz;show bH 1 gL _=.ok (.bl (nameB z));unfold nameB
  by_cases h1:1<=z.length
  .by_cases h8:z.length<=8
   .have e1:decide ((1:Int)<=(z.length:Int))=true:=decide_eq_true (by omega)
    have e2:decide ((z.length:Int)<=8)=true:=decide_eq_true (by omega);open_line with[gL,hlen,e1,e2,vz hz,vZ,lN,decide_eq_true h1,decide_eq_true h8,Bool.true_and]
    simp[List.all_map,Function.comp_def]
   .have e1:decide ((1:Int)<=(z.length:Int))=true:=decide_eq_true (by omega)
    have e2:decide ((z.length:Int)<=8)=false:=decide_eq_false (by omega);open_line with[gL,hlen,e1,e2,decide_eq_true h1,decide_eq_false h8,Bool.false_and,Bool.and_false]
  .have e1:decide ((1:Int)<=(z.length:Int))=false:=decide_eq_false (by omega)
   open_line with[gL,hlen,e1,decide_eq_false h1,Bool.false_and]
 |ob k _=>cases k<;>rfl
 |_=>rfl
def mO:D->Bool
 |.tup [.int p,.int q]=>decide (1<=q)&&(Int.gcd p q==1)
 |_=>false
def HB{g:Nat}:((g:Int)==1)=(g==1):=by
 cases h:(g==1) with
 |true=>rw[eq_of_beq h];rfl
 |false=>
  have:g≠1:=λz=>by rw[z]at h;cases h
  exact beq_eq_false_iff_ne.mpr (by omega)
def FN{xs:ac}:(∃x y,xs=[x,y])∨xs.length≠2:=by
 match xs with
 |[]=>exact .inr (by decide)
 |[x]=>exact .inr (by simp)
 |[x,y]=>exact .inl ⟨x,y,rfl⟩
 |x::y::z::r=>exact .inr (by simp)
theorem Ah:∀{xs:ac},xs.length≠2->mO (.tup xs)=false
 |[],_=>rfl
 |[x],_=>by cases x<;>rfl
 |[x,y],h=>absurd rfl h
 |x::y::z::r,_=>by cases x<;>cases y<;>rfl
def vb{x y:D}:mO (.tup [x,y])=(Js x&&(Js y&&mO (.tup [x,y]))):=by
 cases x<;>cases y<;>rfl
def qR(d:D):m_is_ratio [d]=.ok (.bl (mO d)):=by
 cases d with
 |tup xs=>
  rcases FN (xs:=xs) with⟨x,y,rfl⟩|h
  .rw[vb]
   show bH 1 cX _=_;cases hx:Js x with
   |false=>open_line with[cX,fP,hx,Bool.false_and]
   |true=>
    cases hy:Js y with
    |false=>open_line with[cX,fP,hx,hy,Bool.false_and,Bool.true_and]
    |true=>
     cases x<;>first|(cases hx;done)|skip
     cases y<;>first|(cases hy;done)|skip
     rename_i p q;show _=ao.ok (D.bl (decide (1<=q)&&(Int.gcd p q==1)))
     by_cases hq:1<=q
     .open_line with[cX,fP,hx,hy,k8,Bool.true_and,decide_eq_true hq,HB]
     .open_line with[cX,fP,hx,hy,k8,Bool.true_and,decide_eq_false hq,Bool.false_and]
  .have e2:((xs.length:Int)==2)=false:=beq_eq_false_iff_ne.mpr (by omega)
   rw[Ah h];show bH 1 cX _=_;open_line with[cX,e2]
 |ob k _=>cases k<;>rfl
 |_=>rfl
def fR{α:Type}{F:α->D}{xs:List α}{lo hi:Option Int}:fZ (xs.map F) lo hi=((xs.drop (HT.sIx xs.length 0 lo)).take (HT.sIx xs.length xs.length hi-HT.sIx xs.length 0 lo)).map F:=by
 unfold fZ;rw[List.length_map,←List.map_drop,←List.map_take]
end Com
namespace DL
open PySem PySem.Spec PyProof.Rows L2
def br.there{P:Program}{w:World}{H:Hp}{h:Heap}{a:Addr}{o:HO}(x:br P w H h a o):∃u,h.get? a=some u:=by
 cases o with|lst xs=>obtain⟨_,_,_,_,e⟩:=x;exact⟨_,e⟩|tup xs=>obtain⟨_,_,_,ob,e,_⟩:=x;exact⟨_,e⟩|dK kvs|dT kvs=>obtain⟨_,_,_,_,o,_,_,e,_⟩:=x;exact⟨_,e⟩|set S n=>obtain⟨o,_,_,_,e,_⟩:=x;exact⟨_,e⟩|ins C dx fs=>obtain⟨_,_,_,e,_⟩:=x;exact⟨_,e⟩|own y=>obtain⟨_,e⟩:=x;exact⟨_,e⟩|xd fs=>obtain⟨_,⟨_,_,_,e,_⟩,_⟩:=x;exact⟨_,e⟩|rng lo hi=>obtain⟨_,_,_,e⟩:=x;exact⟨_,e⟩|frz ob u=>obtain⟨e,_⟩:=x;exact⟨_,e⟩|tbl ps|met f y=>exact⟨_,show h.get? a=some _ from x⟩|ext φ=>obtain⟨_,⟨_,e⟩,_⟩:=x;exact⟨_,e⟩
noncomputable def eR(P:Program) (w:World):ql:=λouter H s E e s'=>∃(ea C:Addr) (a0:Value) (B:Heap) (H':Hp),e=.ref ea/\s'.os=s.os/\AllBare s'.gens/\Un (eQ outer) [] H H' s.heap s'.heap/\er P w H' s'.heap/\H' ea=none /\
 Heap.FlyingW B outer ea (.ref C) a0 s'.heap/\(∀b,b∉eQ outer->(H' b≠none∨∃o,s.heap.get? b=some o)->∃o,B.get? b=some o)/\∃ox,J6 s'.heap ea ox/\E (.ref C) ox H'
def xi{l:List PySem.Env}:∀env∈l,∀a,env.frame=some a->a∈eQ l:=λenv he a hf=>List.mem_filterMap.mpr ⟨env,he,hf⟩
section
variable {P:Program}{w:World}{K:W.Frag}{mg:Str->Option Value}{base:Heap}{N:List Str}{qual:Str}{scope:Scope}{f:Addr}{cd:Value}{A:Around}{outer:List PySem.Env}{s0:Shared}{H0:Hp}{E:XK}
 {pins:List (Addr×Obj)}{σ:L2.St}{H:Hp}{s:Shared}
def eZ{B h h':Heap}(k:B.StaysIn h)(k':B.StaysIn h'){b:Addr}{o:Obj}(hb:∃u,B.get? b=some u)(e:h.get? b=some o):h'.get? b=some o:=by
 obtain⟨u,q⟩:=hb;have:=k b u q;rw[e]at this;cases this;exact k' b o q
def Bf{X:Cx}(hX:X=cf (eR P w) P w K mg base N qual scope f cd A outer s0 H0 E)(I:Inv X pins σ H s){s1:Shared}{H1:Hp}{ea C:Addr}{a0:Value}{B h':Heap}(os:s1.os=s.os)(bare:AllBare s1.gens)
  (un:Un (eQ X.stack) [] H H1 s.heap s1.heap)(hok:er P w H1 s1.heap)(hne:H1 ea=none)(hst:B.StaysIn s1.heap)(hfr:s1.heap.FunFrames B X.stack)
  (hB:∀b,b∉eQ X.stack->(H1 b≠none∨∃o,s.heap.get? b=some o)->∃o,B.get? b=some o)(fl:Heap.FlyingW B outer ea (.ref C) a0 h')(up:s1.heap.UpToSlots h')(hE:∃ox,J6 h' ea ox/\E (.ref C) ox H1) :
  eR P w outer H0 s0 E (.ref ea) { s1 with heap:=h' }:=by
 subst hX;have hL:(envOfC qual scope s0.heap.objs.size f cd).frame=some (envOfC qual scope s0.heap.objs.size f cd).locals:=rfl;have hstk:∀b,b∈eQ (envOfC qual scope s0.heap.objs.size f cd::outer)->b=(envOfC qual scope s0.heap.objs.size f cd).locals∨b∈eQ outer:=λb hb=>by
  unfold eQ at hb;rw[List.filterMap_cons,hL]at hb;exact List.mem_cons.mp hb
 have hsub:∀b,b∈eQ outer->b∈eQ (envOfC qual scope s0.heap.objs.size f cd::outer):=λb hb=>by
  unfold eQ;rw[List.filterMap_cons,hL];exact List.mem_cons_of_mem _ hb
 have old:∀b o,s0.heap.get? b=some o->b≠(envOfC qual scope s0.heap.objs.size f cd).locals:=λb o e=>Nat.ne_of_lt (Nat.lt_of_lt_of_le (Heap.lt_size e) I.ok.above);have nofr:∀b o,s0.heap.get? b=some o->b∉eQ outer->b∉eQ (envOfC qual scope s0.heap.objs.size f cd::outer):=λb o e hb hm=>(hstk b hm).elim (old b o e) hb;have thr:∀b o,s0.heap.get? b=some o->∃o',s.heap.get? b=some o':=λb o e=>I.base.there b o e (by intro z;exact nomatch z);have fst:∀b,b∈eQ outer->∀o,s1.heap.get? b=some o->∃sl,h'.get? b=some { o with slots:=sl }:=λb hb o e=>by
  obtain⟨_,o',ho',hd⟩:=hfr.mem (hsub b hb);rw[e]at ho';cases ho';exact up b o e hd
 have free1:∀b∈eQ (envOfC qual scope s0.heap.objs.size f cd::outer),H1 b=none:=λb hb=>by
  obtain⟨_,o,ho,_⟩:=I.stack.mem hb;exact un.free b o ho (I.stkFree b hb) (by simp)
 have B0:∀b o,s0.heap.get? b=some o->b∉eQ outer->∃u,B.get? b=some u:=λb o e hb=>hB b (nofr b o e hb) (.inr (thr b o e));refine⟨ea,C,a0,B,H1,rfl,os.trans I.os,bare,⟨λb o e n hb hx=>?_,λb o e n hb hx=>?_,λb o e n hx=>?_,λb o e hx=>?_,λb xs e=>un.tups b xs (I.base.tups b xs e),λb o u e=>un.frzs b o u (I.base.frzs b o u e),λb ps e=>?_⟩,λa o e=>?_,hne,fl,λb hb h=>?_,hE⟩
 .have e1:=I.base.keep b o e n hb (by intro z;exact nomatch z)
  have n1:=I.base.free b o e n (by intro z;exact nomatch z);have e2:=un.keep b o e1 n1 (nofr b o e hb) (by simp);exact eZ hst fl.1 (B0 b o e hb) e2
 .obtain⟨sl,e1⟩:=I.base.slot b o e n hb (by intro z;exact nomatch z)
  have n1:=I.base.free b o e n (by intro z;exact nomatch z);obtain⟨sl2,e2⟩:=un.any e1 n1 (by simp);obtain⟨sl3,e3⟩:=fst b hb _ e2;exact⟨sl3,e3⟩
 .obtain⟨o',e1⟩:=thr b o e
  exact un.free b o' e1 (I.base.free b o e n (by intro z;exact nomatch z)) (by simp)
 .obtain⟨o',e1⟩:=thr b o e
  obtain⟨o2,e2⟩:=un.there b o' e1 (by simp)
  by_cases hb:b∈eQ outer
  .obtain⟨sl,e3⟩:=fst b hb _ e2
   exact⟨_,e3⟩
  .exact⟨_,eZ hst fl.1 (B0 b o e hb) e2⟩
 .obtain⟨m1,e1⟩:=I.base.tbls b ps e
  obtain⟨m2,e2⟩:=un.tbls b _ e1;exact⟨m1++m2,by rw[e2,Array.append_assoc]⟩
 .refine(hok a o e).stay (λb u hb q=>?_) (λ_ q=>q) λ_ _ q=>q
  have hn:H1 b≠none:=by
   rcases hb with rfl|hb
   .rw[e];simp
   .rw[hb];simp
  exact eZ hst fl.1 (hB b (λhm=>hn (free1 b hm)) (.inl hn)) q
 .by_cases hm:b∈eQ (envOfC qual scope s0.heap.objs.size f cd::outer)
  .rcases hstk b hm with z|z
   .rcases h with h|⟨o,h⟩
    .exact absurd (free1 b hm) h
    .exact absurd z (old b o h)
   .exact absurd z hb
  .exact hB b hm (h.elim .inl λ⟨o,h⟩=>.inr (thr b o h))
def C9:ll (eR P w) (cf (eR P w) P w K mg base N qual scope f cd A outer s0 H0 E) E:=by
 intro pins σ H s e s' I h;obtain⟨ea,C,a0,B,H',rfl,os,bare,un,hok,hne,fl,hB,ox,⟨dc,hdc,hox⟩,hE⟩:=h;refine yL I.ok.frames rfl fl hdc λh' fl' up hd'=>?_;exact Bf rfl I os bare un hok hne fl.1 fl.2.2.1 hB fl' up ⟨ox,⟨dc,hd',hox⟩,hE⟩
end
def vK{P:Program}{w:World}{K:W.Frag}{mg:Str->Option Value}{base:Heap}{x qual:Str}{st:Stmt}{f:Addr}{fd:FuncData}{N ps:List Str}{k:Nat}{s:bd}(F:B1 K x qual st f fd)(S:eD N ps (defScope st))
  (hbody:∀(cdv:Value) (A:Around) (outer:List PySem.Env) (s0:Shared) (H Ha:Hp) (E:XK),cL k (A.deeper (envOfC qual (defScope st) s0.heap.objs.size f cdv)) ->
   rP (cf (eR P w) P w K mg base N qual (defScope st) f cdv A outer s0 H E) E H Ha (defBody st) s):eP P w K mg base (eR P w) (k+1) f fd ps (spD K ps.length (bH N.length s)):=by
 have hpl:ps.length<=N.length:=by have:=congrArg List.length S.pre;rw[List.length_take]at this;omega
 obtain⟨oc,od,kV,doc,pm,an,cdv,ct,osl,rfl,lk,hcd⟩:=F.ex;refine Fj lk hcd S (λvs H Q E h=>h.1) λA outer s0 H vs Q E hr h=>?_;obtain⟨hn,Ha,ds,hs,hv,q⟩:=h;refine⟨_,(hbody cdv A outer s0 H Ha E hr).o,Ha,ds.map Sl.sh++List.replicate (N.length-ds.length) .no,?_,?_⟩
 .refine⟨aZ.refl hs,iG hv,λi d e=>?_,λi j d d' hij e=>?_,?_,OX.none kL jJ⟩
  .by_cases hi:i<ds.length
   .rw[List.getElem?_append_left (by simpa using hi),List.getElem?_map]at e
    cases q:ds[i]? with|none|some d'=>rw[q]at e;cases e
   .rw[List.getElem?_append_right (by simpa using hi),List.getElem?_replicate]at e
    split at e<;>cases e
  .by_cases hi:i<ds.length
   .rw[List.getElem?_append_left (by simpa using hi),List.getElem?_map]at e
    cases q:ds[i]? with|none|some d'=>rw[q]at e;cases e
   .rw[List.getElem?_append_right (by simpa using hi),List.getElem?_replicate]at e
    split at e<;>cases e
  .unfold L2.start
   have:=hv.length;simp only[List.length_append,List.length_map,List.length_replicate];omega
 .unfold bH at q
  cases e1:s (ds.map Sl.sh++List.replicate (N.length-ds.length) .no) with
  |stuck|exn x=>rw[e1]at q;exact q
  |ok r=>
   rw[e1]at q;cases r with|nx ρ'=>exact λσ' H' Ha' _ h'=>q .non H' Ha' h'.g (aJ.mpr rfl)|rt d=>exact λv H' Ha' g rp=>q v H' Ha' g rp|bk ρ'|ct ρ'=>exact q.elim
structure ES (K:W.Frag) (x:Str) (C:Addr):Prop where
 xc:XC K x C
 ex:W.excIn K C [.type "ValueError",.type "Exception",.type "BaseException",.type "object"] "ValueError.__new__"=true
def ES.obj{K:W.Frag}{x:Str}{C:Addr}(c:ES K x C){h:Heap}(X:K.In h):∃bm N nm q bs hdct sn sub ab col dd k0 k1 k2 k3 k5 mN,h.get? C=some (excClassObj nm q C N bs bm hdct sn sub ab col dd k0 k1 k2 k3 k5 "ValueError.__new__")/\h.Ns N mN/\mN "__init__"=none /\
  OwnTail h [.type "ValueError",.type "Exception",.type "BaseException",.type "object"] bm:=by
 have q:=c.ex;unfold W.excIn at q;split at q
 .rename_i dd cd sl ho
  split at q
  .rename_i C' bm k0 k1 k2 k3 n k5 hm hs
   simp only[Bool.and_eq_true,beq_iff_eq,Bool.not_eq_true']at q;obtain⟨⟨⟨⟨⟨rfl,rfl⟩,hdel⟩,ht⟩,hok⟩,hni⟩:=q;obtain⟨nm,bs,mro,ns,qn,hd,sn,sub,ab,col,del⟩:=cd;dsimp only at hm hdel hok hni;subst hm hdel;have hsl:sl=#[k0,k1,k2,k3,some (.builtin "ValueError.__new__"),k5]:=by
    obtain⟨l⟩:=sl;simp only at hs;rw[hs]
   subst hsl;exact⟨bm,ns,nm,qn,bs,hd,sn,sub,ab,col,dd,k0,k1,k2,k3,k5,_,X _ _ ho,.of_isNs (W.isNs_of_in X hok),W.nsMap_none_of_in X hok hni,W.tail_of_in X ht⟩
  .cases q
 .cases q
def Ae(x:Str)(fa:Ev->ao (ac)):bd:=λρ=>(fa (iA ρ)).bind λds=>if ds.length<=line then .exn ⟨x,[]⟩ else .stuck
section
variable {P:Program}{w:World}{st:List PySem.Env}{H H':Hp}{h g g' B:Heap}
def Un.fly(un:Un (eQ st) [] H H' h g)(k:B.StaysIn g)(hfr:g.FunFrames B st)(hB:∀b,b∉eQ st->(H' b≠none∨∃o,h.get? b=some o)->∃o,B.get? b=some o)(k':B.StaysIn g')(up:g.UpToSlots g'):Un (eQ st) [] H H' h g':=by
 have fst:∀b,b∈eQ st->∀o,g.get? b=some o->∃sl,g'.get? b=some { o with slots:=sl }:=λb hb o e=>by
  obtain⟨_,o',ho',hd⟩:=hfr.mem hb;rw[e]at ho';cases ho';exact up b o e hd
 refine⟨λb o e n hb hx=>?_,λb o e n hb hx=>?_,un.free,λb o e hx=>?_,un.tups,un.frzs,un.tbls⟩
 .exact eZ k k' (hB b hb (.inr ⟨o,e⟩)) (un.keep b o e n hb hx)
 .obtain⟨sl,e1⟩:=un.slot b o e n hb hx
  obtain⟨sl2,e2⟩:=fst b hb _ e1;exact⟨sl2,e2⟩
 .obtain⟨o',e1⟩:=un.there b o e hx
  by_cases hb:b∈eQ st
  .obtain⟨sl,e2⟩:=fst b hb _ e1
   exact⟨_,e2⟩
  .exact⟨_,eZ k k' (hB b hb (.inr ⟨o,e⟩)) e1⟩
def er.fly(ok:er P w H' g)(hf:∀b∈eQ st,H' b=none)(k:B.StaysIn g)(hB:∀b,b∉eQ st->(H' b≠none∨∃o,h.get? b=some o)->∃o,B.get? b=some o)(k':B.StaysIn g'):er P w H' g':=λa o e=>by
 refine(ok a o e).stay (λb u hb q=>?_) (λ_ q=>q) λ_ _ q=>q;have hn:H' b≠none:=by
  rcases hb with rfl|hb
  .rw[e];simp
  .rw[hb];simp
 exact eZ k k' (hB b (λhm=>hn (hf b hm)) (.inl hn)) q
def er.ext(ok:er P w H g){a:Addr}{φ:Heap->Prop}(hn:H a=none)(p:φ g)(ht:∃o,g.get? a=some o)(hm:∀h1 h2:Heap,φ h1->(∀o,h1.get? a=some o->h2.get? a=some o)->φ h2):er P w (upd H a (.ext φ)) g:=λb u e=>by
 by_cases hb:b=a
 .subst hb;rw[aG]at e;cases e;exact⟨p,ht,hm⟩
 .rw[az hb]at e
  exact(ok b u e).stay (λc v _ q=>q) (λc q=>by rw[az (aO q hn)];exact q) λc xs q=>by rw[az (aO q hn)];exact q
def Un.ext{fs:List Addr}(un:Un fs [] H H' h g){a:Addr}{o:HO}(hn:H' a=none)(ha:h.get? a=none):Un fs [] H (upd H' a o) h g :=
 ⟨un.keep,un.slot,λb ob e n hx=>by rw[az (λz=>by subst z;rw[ha]at e;cases e)];exact un.free b ob e n hx,un.there,λb xs q=>by rw[az (aO (un.tups b xs q) hn)];exact un.tups b xs q,
  λb ob u q=>by rw[az (aO (un.frzs b ob u q) hn)];exact un.frzs b ob u q,λb ps q=>by
   obtain⟨m,e⟩:=un.tbls b ps q;exact⟨m,by rw[az (aO e hn)];exact e⟩⟩
def yN{a C:Addr}{dc:Option Addr}:∀h1 h2:Heap,wj a C dc h1->(∀o,h1.get? a=some o->h2.get? a=some o)->wj a C dc h2:=λh1 h2 ⟨o,vs,e,c,d⟩ k=>⟨o,vs,k o e,c,d⟩
end
def hand(X:Cx)(e:Addr):Cx:={ X with A:=X.A.mark (some (.ref e)),calm:=false,xe:=λ_ _=>False }
section
variable {X:Cx}{pins:List (Addr×Obj)}{σ:L2.St}{H:Hp}{s:Shared}{e:Addr}
def DD(ok:X.Ok):(hand X e).Ok :=
 ⟨ok.mod,ok.kind,ok.glob,ok.blt,ok.above,ok.inj,ok.has,ok.cab,λz=>Bool.noConfusion z,ok.frames,ok.stk,ok.exf,ok.bs,ok.bsz,ok.noex,ok.exfs,ok.funs,ok.frf⟩
def Inv.hand(I:Inv X pins σ H s):Inv (DL.hand X e) pins σ H s:=⟨DD I.ok,I.os,I.bare,I.base,I.loc,I.cell,I.free,I.freeC,I.pin,I.hok,I.len⟩
def eA(ok:X.Ok)(I:Inv (DL.hand X e) pins σ H s):Inv X pins σ H s:=⟨ok,I.os,I.bare,I.base,I.loc,I.cell,I.free,I.freeC,I.pin,I.hok,I.len⟩
def BZ{i:Nat}{x:Str}{m:Str->Option Value}{v:Option Value}{h':Heap}{t':Nat}(I:Inv X pins σ H s)(hN:X.N.Nodup)(hi:X.N[i]?=some x)
  (hm:∀(j:Nat) (y:Str) (v:V),X.N[j]?=some y->σ[j]?=some (some v)->zg X.env.scope y->∃u,bb v u/\J8 X.env s.heap m y u)(hn:h'.Ns X.env.locals (λy=>if y=x then v else m y))(hs:Heap.SameBut X.env.locals s.heap h') :
  Inv X pins (σ.set i none) H { s with heap:=h',toks:=t' }:=by
 have cne:=I.cne;obtain⟨m0,⟨oL,_,_,hoL,_⟩,_⟩:=id I.loc;have tracked:er X.prog X.w H h':=λb ob e=>by
  refine(I.hok b ob e).stay (λc w' hc q=>(hs.2 c ?_).trans q) (λ_ q=>q) λ_ _ q=>q;rintro rfl;have hfree:=I.free;rcases hc with rfl|hc
  .rw[hfree]at e;cases e
  .rw[hfree]at hc;cases hc
 refine⟨I.ok,I.os,I.bare,⟨λb o e n hb hx=>?_,λb o e n hb hx=>?_,I.base.free,λb o e hx=>?_,I.base.tups,I.base.frzs,I.base.tbls⟩,⟨_,hn,λj y v' e1 e2 e3=>?_⟩,λy c e=>?_,I.free,I.freeC,λp hp=>?_,tracked,by simpa using I.len⟩
 .exact(hs.2 b (Nat.ne_of_lt (Nat.lt_of_lt_of_le (Heap.lt_size e) I.ok.above))).trans (I.base.keep b o e n hb hx)
 .obtain⟨sl,e1⟩:=I.base.slot b o e n hb hx
  exact⟨sl,(hs.2 b (Nat.ne_of_lt (Nat.lt_of_lt_of_le (Heap.lt_size e) I.ok.above))).trans e1⟩
 .obtain⟨o',e1⟩:=I.base.there b o e hx
  exact⟨o',(hs.2 b (Nat.ne_of_lt (Nat.lt_of_lt_of_le (Heap.lt_size e) I.ok.above))).trans e1⟩
 .by_cases hj:j=i
  .subst hj
   have hiσ:j<σ.length:=by rw[I.len];exact(List.getElem?_eq_some_iff.mp hi).1
   rw[List.getElem?_set_self hiσ]at e2;cases e2
  .rw[List.getElem?_set_ne (Ne.symm hj)]at e2
   obtain⟨u',r',q⟩:=hm j y v' e1 e2 e3;refine⟨u',r',?_⟩;rcases q with⟨k,e⟩|⟨k,c,e,z⟩
   .refine .inl ⟨k,?_⟩
    have:y≠x:=λe=>hj (m5 hN e1 (e▸hi));simp[this,e]
   .exact .inr ⟨k,c,e,z.sameBut hs (cne y c e)⟩
 .obtain⟨w',z⟩:=I.cell y c e
  exact⟨w',z.sameBut hs (cne y c e)⟩
 .obtain⟨e,n,ne,nf,d⟩:=I.pin p hp
  exact⟨(hs.2 p.1 ne).trans e,n,ne,nf,d⟩
def HR{H1:Hp}{s1 s':Shared}{Ex:XK}{ev:Value}{c n:Str}{np hpos:Pos}{ba:Stmt}{suite:List Stmt}{rest:List ExceptHandler}{cv:Value}{ni:Nat}{D:fK}(hstk:X.stack=X.env::X.outer/\X.env.frame=some X.env.locals)(I:Inv X pins σ H1 s1)
  (h:eR X.prog X.w X.stack H1 s1 Ex ev s')(hg:Gl X c)(hm:X.mg c=some cv)(hx:∀C ox H',Ex (.ref C) ox H'->W.exmOne X.K (.ref C) cv=some true)
  (hN:X.N.Nodup)(hi:X.N[ni]?=some n)(hlo:X.env.scope.names.lookup n=some .local)
  (hs:∀ea C dc ox H' s2,Ex (.ref C) ox H'->(ox=none∨ox=dc)->H' ea=none->Inv (DL.hand X ea) pins (σ.set ni (some (.ref ea))) (upd H' ea (.ext (wj ea C dc))) s2 ->
   wpAny (model X.prog X.w) (X.A.mark (some (.ref ea))) (execs (ba::suite) X.env) (SP (DL.hand X ea) pins { nx:=λσ' H=>D.nx (σ'.set ni none) H,rt:=D.rt,bk:=λσ' H=>D.bk (σ'.set ni none) H,ct:=λσ' H=>D.ct (σ'.set ni none) H }) (λ_ _=>False) s2)
  (hdb:(c==("__debug__":Str))=false:=by decide) :
  wpAny (model X.prog X.w) X.A (noteFrame ev X.env) (λ_ si=>wpAny (model X.prog X.w) X.A (setFlight ev none) (λ_ sj=>
   wpAny (model X.prog X.w) X.A (handleBy ev X.env (.ExceptHandler (some (.Name c np)) (some n) (ba::suite) hpos::rest)) (SP X pins D) X.xe sj) X.xe si) X.xe s':=by
 obtain⟨ea,C,a0,B,H',rfl,os,bare,un,hok,hne,fl,hB,ox,⟨dc,hdc,hox⟩,hE⟩:=h;have hA:X.A.frames=some (X.env::X.outer):=by rw[←hstk.1];exact I.ok.frames
 have fl0:=fl;rw[hstk.1]at fl;have hf1:∀b∈eQ X.stack,H' b=none:=λb hb=>by
  obtain⟨_,o,ho,_⟩:=I.stack.mem hb;exact un.free b o ho (I.stkFree b hb) (by simp)
 have hnew:s1.heap.get? ea=none:=by
  cases q:s1.heap.get? ea with
  |none=>rfl
  |some o=>
   by_cases hb:ea∈eQ X.stack
   .obtain⟨_,o',ho',hd⟩:=fl0.2.2.1.mem hb
    obtain⟨oe,vs,he,_,hd',_⟩:=fl0.first
    rw[ho']at he;cases he;exact absurd hd' (hd vs)
   .obtain⟨u,hu⟩:=hB ea hb (.inr ⟨o,q⟩)
    rw[fl.2.1]at hu;cases hu
 have inv:∀g,B.StaysIn g->s'.heap.UpToSlots g->Inv X pins σ H' { s' with heap:=g }:=λg k up=>
  I.call' (ch:=[]) os (Un.fly un fl0.1 fl0.2.2.1 hB k up) (er.fly hok hf1 fl0.1 hB k) bare (λ_ z=>nomatch z)
 have invx:∀g,B.StaysIn g->s'.heap.UpToSlots g->wj ea C dc g->Inv X pins σ (upd H' ea (.ext (wj ea C dc))) { s' with heap:=g }:=λg k up p=>
  I.call' (ch:=[]) os (Un.ext (Un.fly un fl0.1 fl0.2.2.1 hB k up) hne hnew) (er.ext (er.fly hok hf1 fl0.1 hB k) hne p (let ⟨o,_,e,_⟩:=p;⟨o,e⟩) yN) bare (λ_ z=>nomatch z)
 refine tY hA hstk.2 fl hdc λh4 held4 up4 dc4=>?_;refine tZ held4 dc4 λh5 fl5 up5 dc5=>?_;have I5:Inv (DL.hand X ea) pins σ H' { s' with heap:=h5 }:=Inv.hand (inv h5 fl5.1 (up4.trans up5));refine wpAny_handleBy_cons (codeAny_handlers_test ?_) (by intro q;cases q);refine fN I5 hg hm ?_ hdb;obtain⟨ob,hob,hoc⟩:=fl5.there;have LT:W.Looks (model X.prog X.w) h5 (typeOf (.ref ea)) (.ref C):=hoc▸(W.Looks.ld hob).andThen .now;refine(W.exm_one I5.kIn LT (hx C ox H' hE)).here ?_;refine codeAny_handlers_suite_as ?_;refine ua fl5 dc5 λh6 fl6 up6 dc6=>?_;obtain⟨oe,vs,he,hc,hd,_⟩:=fl6.first
 have I6:Inv (DL.hand X ea) pins σ (upd H' ea (.ext (wj ea C dc))) { s' with heap:=h6 }:=Inv.hand (invx h6 fl6.1 ((up4.trans up5).trans up6) ⟨oe,vs,he,hc,hd,(by obtain⟨o6,e6,d6,_⟩:=dc6;rw[he]at e6;cases e6;exact d6)⟩);refine gk (X:=DL.hand X ea) (v:=.ref ea) I6 hN hi (.inl hlo) rfl (λs7 I7=>?_) (.inr hlo);refine wpAny_mono (hs ea C dc ox H' s7 hE hox hne I7) (λf s8 h8=>?_) λ_ _ z=>z.elim;have hcls:(X.env.scope.kind==.class||(X.env.scope.kind==.module&&X.env.locals != X.env.globals))=false:=by rw[I.ok.kind];rfl
 have fin:∀{σ':L2.St}{H2:Hp}{Q:Unit->Shared->Prop},Inv (DL.hand X ea) pins σ' H2 s8->(∀s9,Inv X pins (σ'.set ni none) H2 s9->Q () s9) ->
   wpAny (model X.prog X.w) X.A (do bindName X.env n .none;unbindBehindTheSuite X.env n hpos) Q X.xe s8:=λ{σ' H2 Q} J q=>by
  have J':=eA I.ok J;obtain⟨m,hn,hl⟩:=id J'.loc;exact wpAny_nameGoes_keeps hlo hn hcls λh' v hn' hs'=>q _ (BZ J' hN hi hl hn' hs')
 cases f with|next=>obtain⟨σ',H2,J,q⟩:=h8;exact fin J λs9 J9=>⟨_,H2,J9,q⟩|brk=>obtain⟨σ',H2,J,q⟩:=h8;exact fin J λs9 J9=>⟨_,H2,J9,q⟩|cont=>obtain⟨σ',H2,J,q⟩:=h8;exact fin J λs9 J9=>⟨_,H2,J9,q⟩|ret u=>obtain⟨v,σ',H2,J,r,q⟩:=h8;exact fin J λs9 J9=>⟨v,_,H2,J9,r,q⟩
end
def PA.nox{X:Cx}{es:List Expr}{t:TA}(h:PA X.nox es t):PA X es t:=λpos pins s σ H Q I hw=>
 wpAny_mono (h pos pins s σ H Q (I.wish _) hw) (λ_ _ ⟨v,H',I',r,q⟩=>⟨v,H',I'.unwish,r,q⟩) λ_ _ z=>False.elim z
section
variable {X:Cx}{pins:List (Addr×Obj)}{σ:L2.St}{H:Hp}{s:Shared}{CX:ql}{k:Nat}{f:Addr}{fd:FuncData}{ps:List Str}{sp:Sp}{Ex:XK}{x:Str}{p pos:Pos}{e:Expr}{es:List Expr}{t:TA}
def xE{Q:VK}{XE:Value->Shared->Prop}(F:eP X.prog X.w X.K X.mg X.base CX k f fd ps sp)(hr:cL k X.A)(hg:Gl X x)(hm:X.mg x=some (.ref f))(hk:W.keepIn X.K (.ref f)=true)(hb:iz X.K fd ps [])(ha:PA X.nox (e::es) t)
  (I:Inv X pins σ H s)(h:t σ H λvs H1=>sp vs H1 Q Ex)(hx:∀H1 s1 e s',Inv X pins σ H1 s1->CX X.stack H1 s1 Ex e s'->XE e s')
  (hdb:(x==("__debug__":Str))=false:=by decide)(he:starEach (e::es) X.env=(false,eval e X.env)::starEach es X.env:=by exact aI rfl)(hpl:(backTo pos (starEach es X.env)).any (·.1)=false:=by exact bp rfl) :
  wpAny (model X.prog X.w) X.A (eval (.Call (.Name x p) (e::es) [] pos) X.env) (EP X pins σ Q) XE s:=by
 refine wpAny_Call_Name_kw (fN I hg hm ?_ hdb);have ha':PA (X.wish XE) (e::es) t:=PA.nox (X:=X.wish XE) ha;refine W.callWith_K (h₀:=X.base) I.ok.mod.kin hk (cA (ha' pos pins s σ H _ (I.wish XE) h) λus s1 z9=>?_) he hpl;obtain⟨vs,H1,I1,r,q⟩:=z9;refine⟨I1.unwish.kIn,?_⟩;have I1:=I1.unwish;have hl:us.length=ps.length:=by rw[←r.length];exact F.len _ _ _ _ q
 have hb1:=hb s1 us I1.kIn (by simpa using hl);rw[List.append_nil]at hb1;refine wpAny_call (codeAny_mono (F.run X.A X.stack s1 H1 ⟨us,[]⟩ us vs Q Ex hr I1.env0 hb1 r q) λr s' hq=>?_);cases r with
 |error e=>exact hx H1 s1 e s' I1 hq
 |ok fl=>
  cases fl with|ret u=>exact I1.after hq|next|brk|cont=>exact False.elim hq
end
def uS(K:W.Frag)(He H0e Ha:Hp)(r:ao Fl)(D:fK):Prop:=match r with
 |.exn _=>True
 |r=>bA K E0 He H0e Ha r D
def KI(K:W.Frag)(He H0e Ha:Hp)(σ:L2.St)(ρ:Ev)(r:ao Fl):XK:=λC ox H'=>∃x Ha',r=.exn x/\aE Ha Ha'/\dw K He H0e Ha' σ H' ρ/\rO K Ha' x C ox
structure TB (X:Cx) (st:Stmt) (g:bd):Prop where
 o:∀(pins:List (Addr×Obj)) (s:Shared) (σ:L2.St) (H He H0e Ha:Hp) (ρ:Ev) (D:fK) (XE:Value->Shared->Prop),Inv X pins σ H s->dw X.K He H0e Ha σ H ρ->uS X.K He H0e Ha (g ρ) D ->
  (∀H1 s1 e s',Inv X pins σ H1 s1->eR X.prog X.w X.stack H1 s1 (KI X.K He H0e Ha σ ρ (g ρ)) e s'->XE e s')->wpAny (model X.prog X.w) X.A (exec st X.env) (SP X pins D) XE s
def sJ(i:Nat)(fa:Ev->ao (ac))(m:ac->ao D):bd:=λρ=>match fa ρ with
 |.ok ds=>(m ds).bind λd=>.ok (.nx (ρ.set i (.sh d)))
 |_=>.stuck
section
variable {X:Cx}{E:XK}{e:Expr}{es:List Expr}{fa:Ev->ao (ac)}{pos:Pos}
def FU{i:Nat}{y:Str}{pos':Pos}{k n:Nat}{fn:Addr}{fd:FuncData}{ps:List Str}{m:ac->ao D}{x:Str}{p cpos:Pos}(hN:X.N.Nodup)(hi:X.N[i]?=some y)(hy:zp X.env.scope y)
  (F:eP X.prog X.w X.K X.mg X.base (eR X.prog X.w) k fn fd ps (spD X.K n m))(hr:cL k X.A)(hg:Gl X x)(hm:X.mg x=some (.ref fn))
  (hk:W.keepIn X.K (.ref fn)=true)(hb:iz X.K fd ps [])(ha:DA X.nox E0 (e::es) fa)(hn:(e::es).length=n:=by rfl)(hl:∀ρ ds,fa ρ=.ok ds->ds.length=(e::es).length)
  (hdb:(x==("__debug__":Str))=false:=by decide)(he:starEach (e::es) X.env=(false,eval e X.env)::starEach es X.env:=by exact aI rfl)(hpl:(backTo cpos (starEach es X.env)).any (·.1)=false:=by exact bp rfl)
  (hs:swapsWith (.Call (.Name x p) (e::es) [] cpos) (some (.Name y pos')) pos.line X.env=pure false:=by rfl)
  (hf:X.fn y=true∨X.env.scope.names.lookup y=some .local := by first|exact .inl rfl|exact .inr rfl|assumption):TB X (.Assign [.Name y pos'] (.Call (.Name x p) (e::es) [] cpos) pos) (sJ i fa m):=by
 refine⟨λpins s σ H He H0e Ha ρ D XE I h q hx=>?_⟩;refine wpAny_Assign_Name (cA (xE (Q:=λv H1=>D.nx (σ.set i (some v)) H1) F hr hg hm hk hb ha.o I ?_ hx hdb he hpl) λv s1 ⟨y,H1,I1,r1,q1⟩=>?_) hs
 .refine⟨Ha,ρ,h.g.sub,h.rd,?_⟩
  unfold sJ at q ⊢;cases e1:fa ρ with
  |stuck=>rw[e1]at q;exact q|exn x=>rw[e1]at q;exact q.elim
  |ok ds=>
   rw[e1]at q;intro vs H1 H01 g1 r1;refine⟨?_,H01,ds,g1.sub,r1,?_⟩
   .have:=r1.length
    have:=hl ρ ds e1;omega
   .show post _ _ _ _ (m ds) _
    cases e2:m ds with
    |stuck=>simp only[e2]at q;exact q
    |exn x=>exact λC ox H' Ha' g ex=>⟨x,Ha',by simp only[e2];rfl,g1.z.trans g.z,h.grow (g1.trans g),ex⟩
    |ok d=>
     simp only[e2]at q;exact λv H' Ha' g rp=>q _ H' Ha' (g1.z.trans g.z) ((h.grow (g1.trans g)).put rp)
 .exact gk I1 hN hi hy r1 (λs2 I2=>⟨_,H1,I2,q1⟩) hf
def dw.drop{K:W.Frag}{He H0e Ha H:Hp}{σ:L2.St}{ρ:Ev}(h:dw K He H0e Ha σ H ρ){i:Nat}:dw K He H0e Ha (σ.set i none) H (ρ.set i .no):=by
 have key:∀(j:Nat) (s:Sl),(ρ.set i .no)[j]?=some s->s≠.no->j≠i/\ρ[j]?=some s:=λj s e hs=>by
  by_cases hj:i=j
  .subst hj
   rw[List.getElem?_set_self']at e;cases q:ρ[i]? with|none=>rw[q]at e;cases e|some s'=>rw[q]at e;cases e;exact absurd rfl hs
  .rw[List.getElem?_set_ne hj]at e
   exact⟨λz=>hj z.symm,e⟩
 refine⟨h.g,λj d' e=>?_,λj d' e=>?_,λj k d1 d2 hn e1 e2=>?_,by simp[h.ln],h.ex.upd (λj s e=>?_) (aE.refl _) (λa vs _ e=>e) λp us _ h0 hp _=>⟨hp,h0⟩⟩
 rotate_left 3
 .by_cases hs:s=.no
  .exact .inr (.inr (.inl hs))
  .obtain⟨hj,e'⟩:=key j s e hs
   exact .inl ⟨e',by rw[List.getElem?_set_ne (Ne.symm hj)]⟩
 .obtain⟨hj,e'⟩:=key j _ e (by simp)
  obtain⟨v',h1,h2⟩:=h.rd j d' e';exact⟨v',by rw[List.getElem?_set_ne (Ne.symm hj)];exact h1,h2⟩
 .obtain⟨hj,e'⟩:=key j _ e (by simp)
  obtain⟨a,h1,h2⟩:=h.ow j d' e';exact⟨a,by rw[List.getElem?_set_ne (Ne.symm hj)];exact h1,h2⟩
 .obtain⟨hj,e1'⟩:=key j _ e1 (by simp)
  obtain⟨hk,e2'⟩:=key k _ e2 (by simp);rw[List.getElem?_set_ne (Ne.symm hj),List.getElem?_set_ne (Ne.symm hk)];exact h.ap j k d1 d2 hn e1' e2'
def Dc(ni:Nat)(r:Fl):ao Fl:=match r with
 |.nx ρ=>.ok (.nx (ρ.set ni .no))
 |.rt d=>.ok (.rt d)
 |.bk ρ=>.ok (.bk (ρ.set ni .no))
 |.ct ρ=>.ok (.ct (ρ.set ni .no))
def yM(x:E2):D:=match x.flds with
 |[]=>.exc x.cls
 |f::fs=>if((f::fs).map (·.1)).Nodup then .ob (.exf x.cls ((f::fs).map (·.1))) ((f::fs).map (·.2)) else .exc x.cls
theorem pC{β:Type}:∀{l:List (Str×β)}{f:Str}{d:β},(l.map (·.1)).Nodup->(f,d)∈l->l.lookup f=some d
 |(g,e)::l,f,d,nd,h=>by
  rw[List.map_cons,List.nodup_cons]at nd;rcases List.mem_cons.mp h with h|h
  .cases h;rw[List.lookup_cons,beq_self_eq_true]
  .have:f≠g:=λz=>nd.1 (z▸List.mem_map.mpr ⟨(f,d),h,rfl⟩)
   rw[List.lookup_cons,beq_eq_false_iff_ne.mpr this];exact pC nd.2 h
theorem tV{K:W.Frag}{H:Hp}{fs:List (Str×V)}:∀(l:List (Str×D)),(∀n d,(n,d)∈l->∃v,fs.lookup n=some v/\Rep K H d v)->∃vs,Reps K H (l.map (·.2)) vs/\l.length=vs.length/\∀(i:Nat) (f:Str) (v:V),(l.map (·.1))[i]?=some f->vs[i]?=some v->fs.lookup f=some v
 |[],_=>⟨[],Reps.nil_iff.mpr rfl,rfl,λi f v e=>by simp at e⟩
 |(n,d)::l,h=>by
  obtain⟨v,h1,h2⟩:=h n d List.mem_cons_self;obtain⟨vs,h3,h4,h5⟩:=tV l λn d hm=>h n d (List.mem_cons_of_mem _ hm);refine⟨v::vs,aA.mpr ⟨v,vs,rfl,h2,h3⟩,by simp[h4],λi f w e1 e2=>?_⟩;cases i with|zero=>simp at e1 e2;rw[←e1,←e2];exact h1|succ i=>exact h5 i f w (by simpa using e1) (by simpa using e2)
def Bh{K:W.Frag}{H:Hp}{x:E2}{C ea:Addr}{ox dc:Option Addr}(xc:XC K x.cls C)(ex:rO K H x (.ref C) ox)(hox:ox=none∨ox=dc)(hne:H ea=none):Rep K (upd H ea (.ext (wj ea C dc))) (yM x) (.ref ea):=by
 have plain:Rep K (upd H ea (.ext (wj ea C dc))) (.exc x.cls) (.ref ea):=dN.mpr ⟨ea,C,dc,rfl,xc,.inl aG⟩;have sm:aE H (upd H ea (.ext (wj ea C dc))):=λb o q=>by rw[az (aO q hne)];exact q
 obtain⟨cls,flds⟩:=x;unfold yM;cases flds with
 |nil=>exact plain
 |cons f fs=>
  show Rep _ _ (if((f::fs).map (·.1)).Nodup then D.ob (.exf cls ((f::fs).map (·.1))) ((f::fs).map (·.2)) else .exc cls) _
  by_cases nd:((f::fs).map (·.1)).Nodup
  .rw[if_pos nd]
   obtain⟨_,hm⟩:=ex;cases ox with
   |none=>cases hm
   |some a=>
    obtain⟨gs,h1,h2⟩:=hm;have hdc:dc=some a:=by
     rcases hox with z|z
     .cases z
     .exact z.symm
    obtain⟨vs,k1,k2,k3⟩:=tV (K:=K) (H:=H) (fs:=gs) (f::fs) λn d hmm=>h2 n d (pC nd hmm);exact cb.mpr ⟨ea,vs,rfl,⟨C,a,gs,xc,hdc▸.inl aG,sm _ _ h1,by rw[List.length_map];exact k2,k3⟩,k1.mono sm⟩
  .rw[if_neg nd];exact plain
def yb(g:bd)(hit:Str->Bool)(ni:Nat)(sh:bd):bd:=λρ=>match g ρ with
 |.exn x=>if hit x.cls=true then(sh (ρ.set ni (.sh (yM x)))).bind (Dc ni) else .stuck
 |r=>r
def HE{He H0e:Hp}{st ba:Stmt}{suite:List Stmt}{g sh:bd}{hit:Str->Bool}{ni:Nat}{c n:Str}{np hpos:Pos}{cv:Value}(hstk:X.stack=X.env::X.outer/\X.env.frame=some X.env.locals)(hb:TB X st g)
  (hg:Gl X c)(hm:X.mg c=some cv)(hhit:∀x C,hit x=true->XC X.K x C->W.exmOne X.K (.ref C) cv=some true)(hN:X.N.Nodup)(hi:X.N[ni]?=some n)(hlo:X.env.scope.names.lookup n=some .local)
  (hh:∀ea,rP (DL.hand X ea) E He H0e (ba::suite) sh)(hdb:(c==("__debug__":Str))=false:=by decide) :
  DS X E He H0e (.Try [st] [.ExceptHandler (some (.Name c np)) (some n) (ba::suite) hpos] [] [] pos) (yb g hit ni sh):=by
 refine⟨?_⟩;intro pins s σ H D I ⟨Ha,ρ,h,q⟩;have hq:uS X.K He H0e Ha (g ρ) D:=by
  unfold yb at q;cases e1:g ρ with
  |exn x=>trivial|stuck=>rw[e1]at q;exact q
  |ok r=>rw[e1]at q;cases r<;>exact q
 refine wpAny_Try_except (wpAny_execs_cons (cA (hb.o pins s σ H He H0e Ha ρ D _ I h hq λH1 s1 e s' I1 hc=>?_) λf s1 hf=>?_))
 .have hit1:∀x,g ρ=.exn x->hit x.cls=true:=λx e1=>by
   unfold yb at q;rw[e1]at q
   by_cases z:hit x.cls=true
   .exact z
   .simp only[if_neg z]at q;exact q.elim
  refine HR hstk I1 hc hg hm (λC ox H' ⟨x,Ha',e1,_,_,⟨⟨c',ec,xc⟩,_⟩⟩=>?_) hN hi hlo (λea C dc ox H' s2 ⟨x,Ha',e1,sm,srx,⟨⟨c',ec,xc⟩,hm2⟩⟩ hox hne I2=>?_) hdb
  .cases ec;exact hhit _ _ (hit1 x e1) xc
  .cases ec
   refine(hh ea).o pins s2 _ _ _ I2 ⟨upd Ha' ea (.ext (wj ea C dc)),ρ.set ni (.sh (yM x)),(srx.grow (aR srx.g.sub hne)).put (Bh xc ⟨⟨C,rfl,xc⟩,hm2⟩ hox (srx.g.sub.free hne)),?_⟩;have sm2:aE Ha (upd Ha' ea (.ext (wj ea C dc))):=sm.trans (aR srx.g.sub hne).z;unfold yb at q;rw[e1]at q;simp only[if_pos (hit1 x e1)]at q;cases e2:sh (ρ.set ni (.sh (yM x))) with
   |stuck|exn z=>rw[e2]at q;exact q
   |ok r=>
    rw[e2]at q;cases r with|nx ρ'=>exact λσ' H2 H02 s2 h2=>q _ H2 H02 (sm2.trans s2) (dw.drop h2)|rt d=>exact q|bk ρ'=>exact λσ' H2 H02 s2 h2=>q _ H2 H02 (sm2.trans s2) (dw.drop h2)|ct ρ'=>exact λσ' H2 H02 s2 h2=>q _ H2 H02 (sm2.trans s2) (dw.drop h2)
 .cases f with
  |next=>exact wpAny_execs_nil (wpAny_execs_nil hf)
  |brk=>exact hf
  |cont=>exact hf
  |ret u=>exact hf
end
structure Fx (k:Nat) (A:Around):Prop where
 dp:A.depth+3*k+5<recursionLimit
 un:A.units+16*k+200<cLine
def cL.h{k:Nat}{A:Around}(r:cL k A):Fx k A:=⟨r.dp,r.un⟩
structure LR (P:Program) (w:World) (K:W.Frag) (mg:Str->Option Value) (base:Heap) (k:Nat) (f:Addr) (fd:FuncData) (ps:List Str) (sp:Sp):Prop where
 len:∀vs H Q E,sp vs H Q E->vs.length=ps.length
 run:∀(A:Around) (outer:List PySem.Env) (s:Shared) (H:Hp) (args:Args) (us:List Value) (vs:al) (Q:VK) (E:XK),Fx k A->rK P w K mg base A outer s H->BindsTo s fd args (ps.zip us)->bj vs us->sp vs H Q E ->
  codeAny (model P w) A (.call (.ref f) args) (CR CX0 outer P w H s Q E) s
def LR.ok{P:Program}{w:World}{K:W.Frag}{mg:Str->Option Value}{base:Heap}{k:Nat}{f:Addr}{fd:FuncData}{ps:List Str}{sp:Sp}(F:LR P w K mg base k f fd ps sp):eP P w K mg base CX0 k f fd ps sp :=
 ⟨F.len,λA outer s H args us vs Q E hr=>F.run A outer s H args us vs Q E (cL.h hr)⟩
def jB(tab:Str->Option Bool)(x:D):ao D:=match x with
 |.exc c=>(match tab c with
  |some b=>.ok (.bl b)
  |none=>.stuck)
 |.ob (.exf c _) _=>(match tab c with
  |some b=>.ok (.bl b)
  |none=>.stuck)
 |_=>.stuck
def qi(K:W.Frag)(tab:Str->Option Bool)(cv:Value):Prop:=∀c C b,tab c=some b->XC K c C->W.kitOne K (.ref C) cv=some b
def wg(K:W.Frag)(tab:Str->Option Bool)(cs:List Addr):Prop:=∀c C b,tab c=some b->XC K c C->W.kitAny K (.ref C) (cs.map Value.ref)=some b
section
variable {X:Cx}{E:XK}{e a:Expr}{es:List Expr}{f:am}{pos:Pos}{tab:Str->Option Bool}
def Dy{cV:V}{cv:Value}(hrel:∀u,bb cV u->u=cv)(ht:qi X.K tab cv):iX X (.builtin "isinstance") (λvs H Q=>∃c v b,vs=[v,cV]/\Rep X.K H (.exc c) v/\tab c=some b/\Q (.bl b) H):=by
 intro pins s σ H xs us Q I r h;obtain⟨c,v,b,rfl,h1,h2,q⟩:=h;cases r with
 |cons r1 r2=>
  cases r2 with
  |cons r3 r4=>
   cases r4;rename_i u1 u2;obtain rfl:=hrel _ r3;obtain⟨ad,C,dc,rfl,hc,hr⟩:=dN.mp h1;cases (show u1=Value.ref ad from r1);obtain⟨p,_,_⟩:=hr.ok I.hok;exact W.kia_one (j8 hc.ek hc.ek.isCls) I.kIn p (ht c C b h2 hc) (λz=>nomatch z) λtk=>⟨.bl b,H,I.tok _,rfl,q⟩
def A1{cV:V}{σ:L2.St}{H:Hp}{Q:VK}(h:tD X.K E (bc f (jB tab)) σ H Q):tD X.K E f σ H λv H1=>∃c v' b,[v,cV]=[v',cV]/\Rep X.K H1 (.exc c) v'/\tab c=some b/\Q (.bl b) H1:=by
 obtain⟨Ha,ρ,hs,hr,q⟩:=h;refine⟨Ha,ρ,hs,hr,?_⟩;unfold bc at q;cases e1:f ρ with
 |stuck|exn x=>rw[e1]at q;exact q
 |ok d=>
  rw[e1]at q;intro v H1 H01 g1 r1;have q:post X.K E H Ha (jB tab d) Q:=q;cases d with
  |exc c=>
   unfold jB at q;cases e2:tab c with|none=>simp only[e2]at q;exact q.elim|some b=>simp only[e2]at q;exact⟨c,v,b,rfl,r1.mono g1.sub,e2,q _ H1 H01 g1 (rb _)⟩
  |ob k ds=>
   cases k with
   |exf c ks=>
    replace r1:=r1.exf_exc;unfold jB at q;cases e2:tab c with|none=>simp only[e2]at q;exact q.elim|some b=>simp only[e2]at q;exact⟨c,v,b,rfl,r1.mono g1.sub,e2,q _ H1 H01 g1 (rb _)⟩
   |_=>exact q.elim
  |_=>exact q.elim
def BE{x:Str}{p1 p2:Pos}{cV:V}{cv:Value}(hrel:∀u,bb cV u->u=cv)(ht:qi X.K tab cv)(hc:PE X (.Name x p2) (tC cV))(hgi:Gl X "isinstance")(hmi:X.mg "isinstance"=none)(ha:DE X E a f)
  (he:starEach [a,.Name x p2] X.env=(false,eval a X.env)::starEach [.Name x p2] X.env:=by exact aI rfl)(he2:starEach [.Name x p2] X.env=(false,eval (.Name x p2) X.env)::starEach [] X.env:=by exact aI rfl)(hpl:(backTo pos (starEach [.Name x p2] X.env)).any (·.1)=false:=by exact bp rfl) :
  DE X E (.Call (.Name "isinstance" p1) [a,.Name x p2] [] pos) (bc f (jB tab)):=by
 refine⟨?_⟩;exact aU (iI (Dy hrel ht) hgi hmi PyProof.Rows.Boot.«isinstance» (bP ha.o (bP hc dQ he2) he) (by decide) (by decide) he hpl) λσ H Q h=>A1 h
def yS{x:Str}{p1 p2:Pos}{C:Addr}(hg:Gl X x)(hm:X.mg x=some (.ref C))(ht:qi X.K tab (.ref C))(hgi:Gl X "isinstance")(hmi:X.mg "isinstance"=none)(ha:DE X E a f)(hdb:(x==("__debug__":Str))=false:=by decide)
  (he:starEach [a,.Name x p2] X.env=(false,eval a X.env)::starEach [.Name x p2] X.env:=by exact aI rfl):DE X E (.Call (.Name "isinstance" p1) [a,.Name x p2] [] pos) (bc f (jB tab)) :=
 BE (cV:=.ref C) (λu h=>h) ht (qG hg hm rfl hdb) hgi hmi ha he
def yT{x:Str}{p1 p2:Pos}{T:String}(hg:Gl X x)(hm:X.mg x=none)(hv:bootBuiltins x=some (.type T))(ht:qi X.K tab (.type T))(hgi:Gl X "isinstance")(hmi:X.mg "isinstance"=none)(ha:DE X E a f)(hn:x≠"__name__":=by decide)(hdb:(x==("__debug__":Str))=false:=by decide)
  (he:starEach [a,.Name x p2] X.env=(false,eval a X.env)::starEach [.Name x p2] X.env:=by exact aI rfl):DE X E (.Call (.Name "isinstance" p1) [a,.Name x p2] [] pos) (bc f (jB tab)) :=
 BE (cV:=.ty T) (λu h=>h) ht (qH hg hm hv rfl hn hdb) hgi hmi ha he
structure CN (X:Cx) (es:List Expr) (cs:List Addr):Prop where
 o:PA X es (λσ H Q=>Q (cs.map V.ref) H)
def HP:CN X [] []:=⟨dQ⟩
def xC{x:Str}{p:Pos}{C:Addr}{cs:List Addr}(hg:Gl X x)(hm:X.mg x=some (.ref C))(h:CN X es cs)(hdb:(x==("__debug__":Str))=false:=by decide):CN X (.Name x p::es) (C::cs) :=
 ⟨bP (qG (v:=.ref C) hg hm rfl hdb) h.o (aI rfl)⟩
theorem o9:∀{cs:List Addr}{us:List Value},bj (cs.map V.ref) us->us=cs.map Value.ref
 |[],_,.nil=>rfl
 |c::cs,_,.cons r t=>by rw[o9 t];obtain rfl:_=Value.ref c:=r;rfl
def Dx{cs:List Addr}(ht:wg X.K tab cs):iX X (.builtin "isinstance") (λvs H Q=>∃c v b p,vs=[v,.ref p]/\H p=some (.tup (cs.map V.ref))/\Rep X.K H (.exc c) v/\tab c=some b/\Q (.bl b) H):=by
 intro pins s σ H xs us Q I r h;obtain⟨c,v,b,p,rfl,hp,h1,h2,q⟩:=h;cases r with
 |cons r1 r2=>
  cases r2 with
  |cons r3 r4=>
   cases r4;rename_i u1 u2;obtain rfl:u2=Value.ref p:=r3;obtain⟨ad,C,dc,rfl,hc,hr⟩:=dN.mp h1;cases (show u1=Value.ref ad from r1);obtain⟨pe,_,_⟩:=hr.ok I.hok;obtain⟨_,its,rv,ob,k1,k2,n,k3⟩:=I.hok p _ hp;obtain rfl:=o9 rv;obtain⟨oc,od,odt,osl⟩:=ob;cases k2;cases k3;exact W.kia_tup (j8 hc.ek hc.ek.isCls) I.kIn pe k1 (ht c C b h2 hc) (λz=>nomatch z) λtk=>⟨.bl b,H,I.tok _,rfl,q⟩
def EB{p1 p2:Pos}{k2}{cs:List Addr}(ht:wg X.K tab cs)(hc:CN X es cs)(hl:cs.length<=30)(hgi:Gl X "isinstance")(hmi:X.mg "isinstance"=none)(ha:DE X E a f)
  (he:starEach [a,.Tuple es k2 p2] X.env=(false,eval a X.env)::starEach [.Tuple es k2 p2] X.env:=by exact aI rfl)(he2:starEach [.Tuple es k2 p2] X.env=(false,eval (.Tuple es k2 p2) X.env)::starEach [] X.env:=by exact aI rfl)(hpl:(backTo pos (starEach [.Tuple es k2 p2] X.env)).any (·.1)=false:=by exact bp rfl) :
  DE X E (.Call (.Name "isinstance" p1) [a,.Tuple es k2 p2] [] pos) (bc f (jB tab)):=by
 refine⟨?_⟩;refine aU (iI (Dx ht) hgi hmi PyProof.Rows.Boot.«isinstance» (bP ha.o (bP (vi hc.o) dQ he2) he) (by decide) (by decide) he hpl) λσ H Q z9=>?_;obtain⟨Ha,ρ,hs,hr,q⟩:=z9;refine⟨Ha,ρ,hs,hr,?_⟩
 unfold bc at q;cases e1:f ρ with
 |stuck|exn x=>rw[e1]at q;exact q
 |ok d=>
  rw[e1]at q;intro v H1 H01 g1 r1;have q:post X.K E H Ha (jB tab d) Q:=q;cases d with
  |exc c=>
   unfold jB at q;cases e2:tab c with
   |none=>simp only[e2]at q;exact q.elim
   |some b=>
    simp only[e2]at q;refine⟨?_,λp hp=>?_⟩
    .rw[List.length_map];exact Nat.le_trans hl (by decide)
    .have ga:=aR (o:=.tup (cs.map V.ref)) g1.sub hp
     exact⟨c,v,b,p,rfl,aG,(r1.mono g1.sub).mono ga.s,e2,q _ _ _ (g1.trans ga) (rb _)⟩
  |ob k ds=>
   cases k with
   |exf c ks=>
    replace r1:=r1.exf_exc;unfold jB at q;cases e2:tab c with
    |none=>simp only[e2]at q;exact q.elim
    |some b=>
     simp only[e2]at q;refine⟨?_,λp hp=>?_⟩
     .rw[List.length_map];exact Nat.le_trans hl (by decide)
     .have ga:=aR (o:=.tup (cs.map V.ref)) g1.sub hp
      exact⟨c,v,b,p,rfl,aG,(r1.mono g1.sub).mono ga.s,e2,q _ _ _ (g1.trans ga) (rb _)⟩
   |_=>exact q.elim
  |_=>exact q.elim
end
end DL
namespace DL
open PySem PySem.Spec PyProof.Rows L2 PySem.W
structure jC (K:Frag) (x:Str) (C:Addr):Prop where
 ns:nsIn K mainGlobals x=some (some (.ref C))
 ty:typeIn K (.ref C)=some (.type "type")
 ob:mroIn K C (.type "object")=some true
 be:subIn K (.ref C) (.type "BaseException")=some true
def jC.isCls{K:Frag}{x:Str}{C:Addr}(Z:jC K x C):(clsIn K C).isSome=true:=by
 obtain⟨cd,a,b⟩:=Option.bind_eq_some_iff.mp Z.ob;rw[a];rfl
def jC.kitCls{K:Frag}{x:Str}{C:Addr}(Z:jC K x C){t:Value}:W.kitCls K t (.ref C)=subIn K t (.ref C):=by
 show(if((clsIn K C).isSome&&typeIn K (.ref C)==some (.type "type"))=true then subIn K t (.ref C) else none)=_;rw[Z.isCls,Z.ty];rfl
def jC.exm{K:Frag}{x:Str}{C:Addr}(Z:jC K x C){t:Value}{b:Bool}(h:subIn K t (.ref C)=some b):exmOne K t (.ref C)=some b:=by
 unfold exmOne;rw[Z.be,if_pos (by decide),Z.kitCls,h]
def jC.kit{K:Frag}{x:Str}{C R:Addr}(Z:jC K x C){b:Bool}(hR:subIn K (.ref R) (.ref R)=some true)(h:subIn K (.ref R) (.ref C)=some b):kitOne K (.ref R) (.ref C)=some b:=by
 unfold kitOne
 by_cases e:(Value.ref R==Value.ref C)=true
 .rw[if_pos e]
  cases (Value.ref.inj (beq_iff_eq.mp e));rw[←hR,h]
 .rw[if_neg e,Z.kitCls,h]
def qQ{K:Frag}{C:Addr}{T:String}{b:Bool}(hm:kitMeta T=true)(h:subIn K (.ref C) (.type T)=some b):kitOne K (.ref C) (.type T)=some b:=by
 unfold kitOne;rw[if_neg (by intro z;cases beq_iff_eq.mp z)];show(if kitMeta T=true then subIn K (.ref C) (.type T) else none)=_;rw[if_pos hm,h]
def vF{K:Frag}{t:Value}:kitAny K t []=some false:=rfl
def nc{K:Frag}{t c:Value}{r:List Value}{b:Bool}(h:kitOne K t c=some false)(h':kitAny K t r=some b):kitAny K t (c::r)=some b:=by unfold kitAny;rw[h];exact h'
def AU{K:Frag}{t c:Value}{r:List Value}(h:kitOne K t c=some true):kitAny K t (c::r)=some true:=by unfold kitAny;rw[h]
def lE:∀T∈eO,kitMeta T=true:=by decide +kernel
def m9:kitMeta "ValueError"=true:=by decide +kernel
structure xM (K:Frag) (x:Str) (C:Addr):Prop where
 i:jC K x C
 cls:findIn K (.ref C) "__class__"=some (some (.builtin "object.__class__"))
 ga:findIn K (.ref C) "__getattribute__"=some (some (.builtin "BaseException.__getattribute__"))
 gt:findIn K (.ref C) "__getattr__"=some none
 t1:subIn K (.ref C) (.type "NoneType")=some false
 t2:subIn K (.ref C) (.type "bool")=some false
 t3:subIn K (.ref C) (.type "int")=some false
 t4:subIn K (.ref C) (.type "str")=some false
 t5:subIn K (.ref C) (.type "tuple")=some false
 t6:subIn K (.ref C) (.type "list")=some false
 t7:subIn K (.ref C) (.type "dict")=some false
 ve:subIn K (.ref C) (.type "ValueError")=some true
 self:subIn K (.ref C) (.ref C)=some true
 ex:excIn K C [.type "ValueError",.type "Exception",.type "BaseException",.type "object"] "ValueError.__new__"=true
def xM.xcls{K:Frag}{x:Str}{C:Addr}(Z:xM K x C):ES K x C where
 xc:=⟨Z.i.ns,⟨Z.cls,Z.ga,Z.gt,Z.i.ob,Z.i.be⟩,λT hT=>by
  refine qQ (lE T hT) ?_;simp only[eO,List.mem_cons,List.not_mem_nil,or_false]at hT;rcases hT with rfl|rfl|rfl|rfl|rfl|rfl|rfl
  .exact Z.t1
  .exact Z.t2
  .exact Z.t3
  .exact Z.t4
  .exact Z.t5
  .exact Z.t6
  .exact Z.t7⟩
 ex:=Z.ex
def XC.inj{K:Frag}{x:Str}{C C':Addr}(a:XC K x C)(b:XC K x C'):C=C':=by
 have:=a.ns.symm.trans b.ns;simpa using this
def mE:List (Str×Bool)->Str->Option Bool
 |[],_=>none
 |(x,b)::r,c=>if x=c then some b else mE r c
theorem gj{K:Frag}{p:Str->Addr->Bool->Prop}:∀{l:List (Str×Bool)},(∀q∈l,∃C,XC K q.1 C/\p q.1 C q.2)->∀c C b,mE l c=some b->XC K c C->p c C b
 |[],_,c,C,b,h,_=>by cases h
 |(x,v)::r,H,c,C,b,h,xc=>by
  unfold mE at h
  by_cases e:x=c
  .subst e
   rw[if_pos rfl]at h;cases h;obtain⟨C',xc',q⟩:=H _ List.mem_cons_self;obtain rfl:=XC.inj xc xc';exact q
  .rw[if_neg e]at h
   exact gj (λq hq=>H q (List.mem_cons_of_mem _ hq)) c C b h xc
def j9(l:List (Str×Bool))(c:Str):Bool:=mE l c==some true
def tQ{K:Frag}{l:List (Str×Bool)}{cv:Value}(H:∀q∈l,∃C,XC K q.1 C/\exmOne K (.ref C) cv=some q.2):∀x C,j9 l x=true->XC K x C->exmOne K (.ref C) cv=some true:=λx C h xc=>
 gj (p:=λ_ C b=>exmOne K (.ref C) cv=some b) H x C true (by unfold j9 at h;exact beq_iff_eq.mp h) xc
end DL
namespace Com
open PySem L2 DL
section
variable {α β:Type}
def fB{x:E2}{f:α->ao β}:(ao.exn x:ao α).bind f=.exn x:=aK rfl
end
def FO(hit:Str->Bool)(ni:Nat)(sh:bd)(ρ:Ev)(r:ao Fl):ao Fl:=match r with
 |.exn x=>if hit x.cls=true then(sh (ρ.set ni (.sh (yM x)))).bind (Dc ni) else .stuck
 |r=>r
def Bi{g:bd}{hit:Str->Bool}{ni:Nat}{sh:bd}{ρ:Ev}:yb g hit ni sh ρ=FO hit ni sh ρ (g ρ):=aK rfl
def DR{hit:Str->Bool}{ni:Nat}{sh:bd}{ρ:Ev}{r:Fl}:FO hit ni sh ρ (.ok r)=.ok r:=aK rfl
def DQ{hit:Str->Bool}{ni:Nat}{sh:bd}{ρ:Ev}{c:Str}(h:hit c=true):FO hit ni sh ρ (.exn ⟨c,[]⟩)=(sh (ρ.set ni (.sh (.exc c)))).bind (Dc ni):=if_pos h
def G8{ni:Nat}{ρ:Ev}:Dc ni (.nx ρ)=.ok (.nx (ρ.set ni .no)):=aK rfl
def Fb(i:Nat)(m:ac->ao D)(ρ:Ev)(r:ao (ac)):ao Fl:=match r with
 |.ok ds=>(m ds).bind (CH i ρ)
 |_=>.stuck
def xo{i:Nat}{fa:Ev->ao (ac)}{m:ac->ao D}{ρ:Ev}:sJ i fa m ρ=Fb i m ρ (fa ρ):=aK rfl
def ub{i:Nat}{m:ac->ao D}{ρ:Ev}{ds:ac}:Fb i m ρ (.ok ds)=(m ds).bind (CH i ρ):=aK rfl
def vP{tab:Str->Option Bool}{c:Str}{b:Bool}(h:tab c=some b):jB tab (.exc c)=.ok (.bl b):=by unfold jB;simp only[h]
end Com
namespace DL
open PySem PySem.Spec PyProof.Rows L2
def E1(lo st:Int)(n:Nat):It:=⟨λi _=>i<n,λi H x H'=>H'=H/\x=.int (lo+i*st),λi _=>n<=i⟩
def sv{P:Program}{w:World}{K:W.Frag}{tg:Expr}(it:Addr)(lo sp:Int)(n:Nat):rH P w K tg (E1 lo sp n) [it] it (λi h=>IsRangeIter h it (lo+(i:Nat)*sp) ((n:Int)-(i:Nat)) sp) where
 mem:=by simp
 obj:=λi h st b hb=>by
  have e:b=it:=by simpa using hb
  subst e;exact⟨_,st,λv z=>by
   have z':Data.fields _=Data.cell v:=z;cases z'⟩
 keep:=λi h h' st k=>k it (by simp) _ st
 item:=by
  intro X hP hw hK hc i pins s σ H E I hf st hg;subst hP hw hK;obtain⟨f0,f1,f2,f3,f4,f5⟩:=hf it (by simp);have W:=Walks.range (prog:=X.prog) (w:=X.w) (I.ok.hd hc) it lo sp n;refine W.item i s _ _ hg st λv h' tk hv st' kk=>?_;obtain⟨t,rfl⟩:=hv;have I1:Inv X pins σ H { s with heap:=h',toks:=tk }:=I.turned (λb o hb e=>kk b o (by simpa using hb) e) f0 f1 f3 f4 f5;exact⟨_,rfl,tT (s:={ s with heap:=h',toks:=tk }) (n:="range_iterator") st' rfl rfl (by decide) ⟨.int (lo+i*sp),H,I1,⟨t,rfl⟩,⟨rfl,rfl⟩,st',λb hb=>(hf b hb).1⟩⟩
 done:=by
  intro X hP hw hK hc i pins s σ H E I hf st hg;subst hP hw hK;obtain⟨f0,f1,f2,f3,f4,f5⟩:=hf it (by simp);exact wpAny_pyNext_range_end (I.ok.hd hc) st (by have:n<=i:=hg;omega) λh' eb=>⟨rfl,I.turned (t':=s.toks) (λb o hb e=>eb b o hb e) f0 f1 f3 f4 f5⟩
 self:=λ_ _ _ _ _ st h=>wpAny_pyIter_rangeiter st h
def n2(lo hi sp:Int):Nat:=if lo<hi then((hi-lo-1) / sp+1).toNat else 0
def E8{lo hi sp:Int}(h:1<=sp):Builtin.Range.rangeSize lo hi sp=(n2 lo hi sp:Int):=by
 unfold Builtin.Range.rangeSize n2;rw[if_pos (show sp > 0 by omega)];split
 .have:0<=(hi-lo-1) / sp:=Int.ediv_nonneg (by omega) (by omega)
  omega
 .rfl
def xY{a b sp:Int}(ha:0<=a)(ha':a<=1000000)(hb:0<=b)(hb':b<=1000000)(hs:1<=sp)(hs':sp<=1000000):Builtin.Range.small a b sp=true:=by
 have hx:0<sp:=by omega
 have e1:(n2 a b sp:Int)<=1000000/\0<=(n2 a b sp:Int):=by
  refine⟨?_,by omega⟩;unfold n2;split
  .have h1:0<=(b-a-1) / sp:=Int.ediv_nonneg (by omega) (by omega)
   have h2:(b-a-1) / sp<=b-a-1:=Int.ediv_le_self _ (by omega);omega
  .decide
 have e2:a<b->(n2 a b sp:Int)=(b-a-1) / sp+1:=λh=>by
  unfold n2;rw[if_pos h];have h1:0<=(b-a-1) / sp:=Int.ediv_nonneg (by omega) (by omega);omega
 have e3:a<b->(b-a-1) / sp*sp<=b-a-1:=λh=>Int.ediv_mul_le _ (by omega);unfold Builtin.Range.small;rw[E8 hs];simp only[Builtin.Range.rangeFitsLong,Bool.and_eq_true,Bool.or_eq_true,decide_eq_true_eq,beq_iff_eq,show sp > 0 from hx,if_true];refine⟨⟨⟨⟨⟨by omega,by omega⟩,by omega,by omega⟩,by omega,by omega⟩,by omega,by omega⟩,.inr ⟨by omega,by omega⟩⟩
section
variable {X:Cx}{E:XK}{tg a b c:Expr}{f g:am}
def yc{pins:List (Addr×Obj)}{σ:L2.St}{H:Hp}{s:Shared}{R:It->Hp->Prop}{E:Value->Shared->Prop}{lo hi sp:Int}{t u v:Tok}{tk:Nat}(I:Inv X pins σ H s)(h1:0<=lo)(h2:lo<=1000000)(h3:0<=hi)(h4:hi<=1000000)(h5:1<=sp)(h6:sp<=1000000)
  (q:R (E1 lo sp (n2 lo hi sp)) H):wpAny (model X.prog X.w) X.A (pyIter (.ref s.heap.objs.size)) (Ky X pins σ tg R) E { s with heap:=s.heap.push { cls:=.type "range",data:=.fields #[.int lo t,.int hi u,.int sp v] },toks:=tk }:=by
 refine wpAny_pyIter_range (IsRange.new ..) (xY h1 h2 h3 h4 h5 h6) ?_;have I1:Inv X pins σ H { s with heap:=s.heap.push { cls:=.type "range",data:=.fields #[.int lo t,.int hi u,.int sp v] },toks:=tk }:=I.kept λb o e=>Heap.get?_push_of_some _ e;refine⟨(s.heap.push { cls:=.type "range",data:=.fields #[.int lo t,.int hi u,.int sp v] }).objs.size,[(s.heap.push { cls:=.type "range",data:=.fields #[.int lo t,.int hi u,.int sp v] }).objs.size],_,_,H,rfl,
  I1.kept (t':=tk) λb o e=>Heap.get?_push_of_some _ e,sv _ lo sp (n2 lo hi sp),?_,λb hb=>?_,q⟩
 .have e1:lo+((0:Nat):Int)*sp=lo:=by simp
  have e2:((n2 lo hi sp:Nat):Int)-((0:Nat):Int)=Builtin.Range.rangeSize lo hi sp:=by rw[E8 h5];simp
  show IsRangeIter _ _ (lo+((0:Nat):Int)*sp) (((n2 lo hi sp:Nat):Int)-((0:Nat):Int)) sp;rw[e1,e2];exact Heap.get?_push_size _ rfl
 .have e:b=(s.heap.push { cls:=.type "range",data:=.fields #[.int lo t,.int hi u,.int sp v] }).objs.size:=by simpa using hb
  subst e;exact I1.fpOk (Nat.le_refl _) (I1.hok.fresh (Nat.le_refl _))
def Jw(ta:TA):TI:=λσ H R=>ta σ H λvs H1=>∃i j k:Int,vs=[.int i,.int j,.int k]/\(0<=i/\i<=1000000/\0<=j/\j<=1000000/\1<=k/\k<=1000000)/\R (E1 i k (n2 i j k)) H1
def yh{ta:TA}{p pos:Pos}(hg:Gl X "range")(hm:X.mg "range"=none)(ha:PA X [a,b,c] ta)(hs:starEach [a,b,c] X.env=(false,eval a X.env)::starEach [b,c] X.env)(hs2:(backTo pos (starEach [b,c] X.env)).any (·.1)=false) :
  PI X tg (.Call (.Name "range" p) [a,b,c] [] pos) (Jw ta):=by
 intro pins s σ H R I h;refine Call_ (jN I hg hm boot_range (PyProof.Rows.callWith_type1 (cA (ha pos pins s σ H _ I h) λus s1 z9=>?_) hs hs2));obtain⟨vs,H1,I1,r1,q1⟩:=z9;obtain⟨i,j,k,e,⟨q1,q2,q3,q4,q5,q6⟩,q⟩:=q1;subst e;cases r1 with
 |cons r rr=>
  cases rr with
  |cons r' rr=>
   cases rr with
   |cons r2 rr=>
    cases rr;obtain⟨t,rfl⟩:=r;obtain⟨t',rfl⟩:=r';obtain⟨t2,rfl⟩:=r2;exact call_range_3 (by omega) (yc I1 q1 q2 q3 q4 q5 q6 q) (Or.inl (PyProof.noPylong_small (by omega)))
def cF(lo sp:Int)(n:Nat):ac:=(List.range n).map λk:Nat=>.int (lo+(k:Int)*sp)
def vI{K:W.Frag}{lo sp:Int}{n:Nat}{H:Hp}:Fz K (cF lo sp n) (E1 lo sp n) H:=by
 have hl:(cF lo sp n).length=n:=by unfold cF;simp
 refine⟨λi H' Ha' _ _ hi=>?_,λi H' Ha' x H2 d s1 s2 hd hy=>?_,λi H' Ha' _ _ hi=>?_⟩
 .rw[hl]at hi;exact hi
 .obtain⟨rfl,rfl⟩:=hy
  have:d=.int (lo+i*sp):=by
   unfold cF at hd;rw[List.getElem?_map]at hd;cases e:(List.range n)[i]? with
   |none=>rw[e]at hd;cases hd
   |some k=>
    rw[e]at hd;have hk:k=i:=by
     obtain⟨h1,h2⟩:=List.getElem?_eq_some_iff.mp e;simpa using h2.symm
    subst hk;cases hd;rfl
  subst this;exact⟨Ha',aZ.refl s2,ay.mpr rfl⟩
 .rw[hl]at hi;exact hi
def r3(d e c:D):ao (ac):=match d,e,c with
 |.int i,.int j,.int k=>if(1<=k/\k<=1000000)/\(0<=i/\i<=1000000)/\0<=j/\j<=1000000 then .ok (cF i k (n2 i j k)) else .stuck
 |_,_,_=>.stuck
def L9(ds:ac):ao (ac):=match ds with
 |[d,e,c]=>r3 d e c
 |_=>.stuck
def sF(f g h:am):Ev->ao (ac):=λρ=>(af f (af g (af h ax)) ρ).bind L9
def yP{h:am}{p pos:Pos}(hg:Gl X "range")(hm:X.mg "range"=none)(h1:DE X E a f)(h2:DE X E b g)(h3:DE X E c h)(hn:AH a=true:=by exact rfl)(hn2:AH b=true:=by exact rfl)(hn3:AH c=true:=by exact rfl):DI X E tg (.Call (.Name "range" p) [a,b,c] [] pos) (sF f g h):=by
 refine⟨i7 (yh hg hm (ag h1 (ag h2 (ag h3 av (hs:=aI hn3)) (hs:=aI hn2)) (hs:=aI hn)).o (aI hn) (bp (by simp[hn2,hn3]))) λσ H R z9=>?_⟩;obtain⟨Ha,ρ,hs,hr,q⟩:=z9;refine⟨Ha,ρ,hs,hr,?_⟩;unfold sF at q;cases e1:af f (af g (af h ax)) ρ with
 |stuck|exn x=>rw[e1]at q;exact q
 |ok ds=>
  rw[e1]at q;intro vs H1 H01 g1 r1
  match ds,r1,q with
  |[],_,q=>exact q.elim
  |[_],_,q=>exact q.elim
  |[_,_],_,q=>exact q.elim
  |_::_::_::_::_,_,q=>exact q.elim
  |[x,y,z],r1,q=>
   have q:match r3 x y z with
      |.ok ds=>∀J H' Ha',aZ H Ha H' Ha'->Fz X.K ds J Ha'->R J H'
      |.exn x=>∀C ox H' Ha',aZ H Ha H' Ha'->rO X.K Ha' x C ox->E C ox H'
      |.stuck=>False:=q
   cases x with
   |int i=>
    cases y with
    |int j=>
     cases z with
     |int k=>
      obtain⟨v1,r,rfl,e1,r1⟩:=aA.mp r1;obtain⟨v2,r,rfl,e2,r1⟩:=aA.mp r1;obtain⟨v3,r,rfl,e3,r1⟩:=aA.mp r1;rw[Reps.nil_iff.mp r1,ay.mp e1,ay.mp e2,ay.mp e3];have q2:match (if(1<=k/\k<=1000000)/\(0<=i/\i<=1000000)/\0<=j/\j<=1000000 then ao.ok (cF i k (n2 i j k)) else .stuck) with
        |.ok ds=>∀J H' Ha',aZ H Ha H' Ha'->Fz X.K ds J Ha'->R J H'
        |.exn x=>∀C ox H' Ha',aZ H Ha H' Ha'->rO X.K Ha' x C ox->E C ox H'
        |.stuck=>False:=q
      by_cases hj:(1<=k/\k<=1000000)/\(0<=i/\i<=1000000)/\0<=j/\j<=1000000
      .rw[if_pos hj]at q2
       exact⟨i,j,k,rfl,⟨hj.2.1.1,hj.2.1.2,hj.2.2.1,hj.2.2.2,hj.1.1,hj.1.2⟩,q2 _ H1 H01 g1 vI⟩
      .rw[if_neg hj]at q2;exact q2.elim
     |_=>exact q.elim
    |_=>exact q.elim
   |_=>exact q.elim
end
section
variable {X:Cx}{pins:List (Addr×Obj)}{σ:L2.St}{H:Hp}{s:Shared}{h':Heap}
def kJ{t':Nat}{fp:List Addr}{T:Addr}{xs:al}(I:Inv X pins σ H s)(k:∀b o,b∉fp->s.heap.get? b=some o->h'.get? b=some o)(hf:∀b∈fp,lq X pins H b)(hT:s.heap.objs.size<=T)
  (new:br X.prog X.w (upd H T (.tup xs)) h' T (.tup xs)):Inv X pins σ (upd H T (.tup xs)) { s with heap:=h',toks:=t' }:=by
 have hn:H T=none:=I.hok.fresh hT;have nit:∀b u,H b=some u->b∉fp:=λb u e z=>by rw[(hf b z).1]at e;cases e
 refine I.step (g':=s.gens) (d':=s.drawn) (ch:=fp) (λb hb=>?_) (λb o _ _ hc e _=>k b o hc e) (λb o _ _ hc e _=>⟨o.slots,k b o hc e⟩) (λb o _ e n=>?_)
  (λb o hc e=>⟨o,k b o hc e⟩) (λb xs e=>by rw[az (aO e hn)];exact e) (λb o u e=>by rw[az (aO e hn)];exact e) (λb ps e=>⟨#[],by rw[az (aO e hn),e];simp⟩) (λm hm=>?_) (λb u e=>?_) I.bare
 .obtain⟨_,f1,_,f3,f4,f5⟩:=hf b hb
  exact⟨f3,f1,f4,f5⟩
 .rw[az (Nat.ne_of_lt (Nat.lt_of_lt_of_le (Heap.lt_size e) hT))];exact n
 .obtain⟨o,es,ep,ho,r⟩:=hm
  exact⟨o,es,ep,k _ o (λz=>(hf _ z).2.1 rfl) ho,r⟩
 .by_cases hb:b=T
  .subst hb;rw[aG]at e;cases e;exact new
  .rw[az hb]at e
   refine(I.hok b u e).stay (λc v hc q=>k c v ?_ q) (λc q=>by rw[az (aO q hn)];exact q) λc xs q=>by rw[az (aO q hn)];exact q
   rcases hc with z|z
   .rw[z];exact nit b u e
   .exact nit c _ z
def qr{t':Nat}{fp:List Addr}(I:Inv X pins σ H s)(k:∀b o,b∉fp->s.heap.get? b=some o->h'.get? b=some o)(hf:∀b∈fp,lq X pins H b):Inv X pins σ H { s with heap:=h',toks:=t' }:=by
 have nit:∀b u,H b=some u->b∉fp:=λb u e z=>by rw[(hf b z).1]at e;cases e
 refine I.step (g':=s.gens) (d':=s.drawn) (ch:=fp) (λb hb=>?_) (λb o _ _ hc e _=>k b o hc e) (λb o _ _ hc e _=>⟨o.slots,k b o hc e⟩) (λb o _ e n=>n)
  (λb o hc e=>⟨o,k b o hc e⟩) (λb xs e=>e) (λb o u e=>e) (λb ps e=>⟨#[],by rw[e];simp⟩) (λm hm=>?_) (λb u e=>?_) I.bare
 .obtain⟨_,f1,_,f3,f4,f5⟩:=hf b hb
  exact⟨f3,f1,f4,f5⟩
 .obtain⟨o,es,ep,ho,r⟩:=hm
  exact⟨o,es,ep,k _ o (λz=>(hf _ z).2.1 rfl) ho,r⟩
 .refine(I.hok b u e).stay (λc v hc q=>k c v ?_ q) (λ_ q=>q) λ_ _ q=>q
  rcases hc with z|z
  .rw[z];exact nit b u e
  .exact nit c _ z
end
def LP(K:W.Frag)(a:Addr):It :=
 ⟨λi H=>∃xs x,eh K H a xs/\xs[i]?=some x,λi H x H'=>∃p y,H p=none/\x=.ref p/\(∀xs,eh K H a xs->xs[i]?=some y)/\H'=upd H p (.tup [.int i,y]),λi H=>∃xs,eh K H a xs/\xs.length<=i⟩
def xU{P:Program}{w:World}{K:W.Frag}{elts:List Expr}{k:Nat}{pos:Pos}(a it e:Addr)(hne:e≠it)(hae:a≠e)(hai:a≠it) :
  rH P w K (.Tuple elts k pos) (LP K a) [e,it] e (λi h=>(∃old,IsEnum h e it i old)/\h.IsListIter it a i) where
 mem:=by simp
 obj:=λi h st b hb=>by
  obtain⟨⟨old,he⟩,o,h1,h2,h3⟩:=st;rcases List.mem_cons.mp hb with rfl|hb
  .exact⟨_,he,λv z=>by cases z⟩
  .rcases List.mem_cons.mp hb with rfl|hb
   .exact⟨o,h1,λv z=>by rw[h3]at z;cases z⟩
   .cases hb
 keep:=λi h h' st k=>by
  obtain⟨⟨old,he⟩,hi⟩:=st;exact⟨⟨old,k e (by simp) _ he⟩,hi.at λo y=>k it (by simp) o y⟩
 item:=by
  intro X hP hw hK hc i pins s σ H E I hf st hg;subst hP hw hK;obtain⟨xs,x,hq,hx⟩:=hg;obtain⟨its,rv,p,hz⟩:=I.list hq;obtain⟨u,hu,ru⟩:=rv.get hx;have W:=WalksT.enumerate (prog:=X.prog) (w:=X.w) (I.ok.hd hc) e it a hne hae hai its.toArray;have hil:i<its.toArray.size:=by simpa using (List.getElem?_eq_some_iff.mp hu).1
  refine W.item i s _ _ hil ⟨st.1,st.2,p.isList⟩ λT vals h' tk hPt hT hTup hMid hk=>?_;refine⟨_,rfl,W.go elts k pos i T _ _ _ hMid λh'' st'' hk''=>?_⟩;obtain⟨t,y,hy,rfl⟩:=hPt;have hyu:y=u:=by
   have:its[i]?=some y:=by simpa using hy
   rw[hu]at this;cases this;rfl
  subst hyu;obtain⟨o,ho,hr⟩:=hTup;have ho':=hk'' T o (W.apart i T _ hMid) ho;refine⟨.ref T,upd H T (.tup [.int i,x]),kJ (s:=s) (h':=h'') (t':=tk) I (λb o hb e=>hk'' b o hb (hk b o hb e)) hf hT ⟨by show 2<=sizeLine;decide,[.int i t,y],.cons ⟨t,rfl⟩ (.cons ru .nil),o,ho',hr⟩,rfl,⟨T,x,I.hok.fresh hT,rfl,λys hy=>by rw[I.list_inj hy hq];exact hx,rfl⟩,⟨st''.1,st''.2.1⟩,λb hb=>?_⟩;have hb0:=(hf b hb).1;obtain⟨ob,hob,_⟩:∃o,s.heap.get? b=some o/\∀v,o.data≠.cell v:=by
   obtain⟨⟨old,he⟩,o,h1,h2,h3⟩:=st;rcases List.mem_cons.mp hb with rfl|hb
   .exact⟨_,he,λv z=>by cases z⟩
   .rcases List.mem_cons.mp hb with rfl|hb
    .exact⟨o,h1,λv z=>by rw[h3]at z;cases z⟩
    .cases hb
  rw[az (Nat.ne_of_lt (Nat.lt_of_lt_of_le (Heap.lt_size hob) hT))];exact hb0
 done:=by
  intro X hP hw hK hc i pins s σ H E I hf st hg;subst hP hw hK;obtain⟨xs,hq,hx⟩:=hg;obtain⟨its,rv,p,hz⟩:=I.list hq;have hl:=rv.length;obtain⟨⟨old,he⟩,hi⟩:=st;exact wpAny_pyNext_enum_end (I.ok.hd hc) he hi p.isList (by simp;omega) λh' hx=>⟨rfl,qr (t':=s.toks) I (λb o hb e=>hx b o (λz=>hb (by simp[z])) e) hf⟩
 self:=λ_ _ _ _ _ st h=>by
  obtain⟨⟨old,he⟩,_⟩:=st;exact wpAny_pyIter_enum he h
section
variable {X:Cx}{E:XK}{elts:List Expr}{k:Nat}{tp:Pos}{e a b:Expr}{f g:am}
def Jz(K:W.Frag)(ta:TA):TI:=λσ H R=>ta σ H λvs H1=>∃a,vs=[.ref a]/\(∃xs,eh K H1 a xs)/\R (LP K a) H1
def C2{ta:TA}{p pos:Pos}(hg:Gl X "enumerate")(hm:X.mg "enumerate"=none)(ha:PA X [a] ta)(hs:starEach [a] X.env=[(false,eval a X.env)]:=by rfl):PI X (.Tuple elts k tp) (.Call (.Name "enumerate" p) [a] [] pos) (Jz X.K ta):=by
 intro pins s σ H R I h;refine Call_ (jN I hg hm PyProof.Rows.Boot.«enumerate» (PyProof.Rows.callWith_type1 (cA (ha pos pins s σ H _ I h) λus s1 z9=>?_) hs rfl));obtain⟨vs,H1,I1,r1,q1⟩:=z9;obtain⟨l,e,⟨xs,hq⟩,q⟩:=q1;subst e;cases r1 with
 |cons r rr=>
  cases rr;cases r;obtain⟨its,rv,p,hz⟩:=I1.list hq;have hlt:l<s1.heap.objs.size:=by obtain⟨o,n,e,_⟩:=p;exact Heap.lt_size e
  refine call_enumerate_list p.isList λh' he hi hsz hk=>?_;refine wpAny_pyIter_enum he ?_;refine⟨s1.heap.objs.size+1,[s1.heap.objs.size+1,s1.heap.objs.size],_,_,H1,rfl,I1.kept (t':=s1.toks) hk,xU l s1.heap.objs.size (s1.heap.objs.size+1) (Nat.succ_ne_self _) (Nat.ne_of_lt (Nat.lt_succ_of_lt hlt)) (Nat.ne_of_lt hlt),⟨⟨_,he⟩,hi⟩,λb hb=>?_,q⟩;have hb':s1.heap.objs.size<=b:=by
   rcases List.mem_cons.mp hb with rfl|hb
   .omega
   .rcases List.mem_cons.mp hb with rfl|hb
    .exact Nat.le_refl _
    .cases hb
  exact I1.fpOk hb' (I1.hok.fresh hb')
def numbered(n:Nat):ac->ac
 |[]=>[]
 |d::ds=>.tup [.int n,d]::numbered (n+1) ds
theorem cI:∀(ds:ac) (n:Nat),(numbered n ds).length=ds.length
 |[],_=>rfl
 |d::ds,n=>by simp[numbered,cI ds]
theorem cY:∀(ds:ac) (n i:Nat),(numbered n ds)[i]?=(ds[i]?).map λd=>D.tup [.int (n+i:Nat),d]
 |[],_,_=>by simp[numbered]
 |d::ds,n,0=>by simp[numbered]
 |d::ds,n,i+1=>by simp only[numbered,List.getElem?_cons_succ];rw[cY ds (n+1) i,show n+1+i=n+(i+1) by omega]
def qz(f:am):Ev->ao (ac):=λρ=>(f ρ).bind λd=>match d with
 |.lst ds=>.ok (numbered 0 ds)
 |_=>.stuck
def qt{K:W.Frag}{H Ha:Hp}{p:Addr}{vs:al}{ds:ac}(hs:aE Ha H)(hp:H p=none)(r:Reps K Ha ds vs):∃H₀2,aZ H Ha (upd H p (.tup vs)) H₀2/\Rep K H₀2 (.tup ds) (.ref p) :=
 ⟨upd Ha p (.tup vs),aR hs hp,aH.mpr ⟨p,vs,rfl,ip.of aG,r.mono (aR (o:=.tup vs) hs hp).z⟩⟩
def mh{p pos:Pos}(hg:Gl X "enumerate")(hm:X.mg "enumerate"=none)(h:DE X E a f)(hn:AH a=true:=by exact rfl):DI X E (.Tuple elts k tp) (.Call (.Name "enumerate" p) [a] [] pos) (qz f):=by
 refine⟨i7 (C2 hg hm (bP h.o dQ (cP hn)) (cP hn)) λσ H R z9=>?_⟩;obtain⟨Ha,ρ,hs,hr,q⟩:=z9;refine⟨Ha,ρ,hs,hr,?_⟩;unfold qz at q;cases e1:f ρ with
 |stuck|exn x=>rw[e1]at q;exact q
 |ok d=>
  rw[e1]at q;intro v H1 H01 g1 r1;cases d with
  |lst ds=>
   obtain⟨l,vs,rfl,hv,hrv⟩:=aC.mp r1;refine⟨l,rfl,⟨vs,aE.sqL g1.sub hv⟩,q _ H1 H01 g1 ⟨λi H' Ha' s1 s2 hi=>?_,λi H' Ha' x H2 d s1 s2 hd hy=>?_,λi H' Ha' s1 s2 hi=>?_⟩⟩
   .rw[cI]at hi
    exact⟨vs,vs[i]'(by rw[←hrv.length];exact hi),aE.sqL (s1.trans s2) hv,by simp⟩
   .obtain⟨p,y,hp,rfl,hy,rfl⟩:=hy
    rw[cY]at hd;cases ei:ds[i]? with
    |none=>rw[ei]at hd;cases hd
    |some d'=>
     rw[ei]at hd;cases hd;obtain⟨u,k1,k2⟩:=hrv.get ei;have:=hy vs (aE.sqL (s1.trans s2) hv);rw[k1]at this;cases this;exact qt s2 hp (Reps.cons (ay.mpr (by simp)) (Reps.cons (k2.mono s1) Reps.nil))
   .rw[cI]at hi
    exact⟨vs,aE.sqL (s1.trans s2) hv,by rw[←hrv.length];exact hi⟩
  |_=>exact q.elim
end
noncomputable def LO(K:W.Frag) (a b:Addr):It :=
 ⟨λi H=>∃xs ys x y,eh K H a xs/\eh K H b ys/\xs[i]?=some x/\ys[i]?=some y,λi H x H'=>∃p y z,H p=none/\x=.ref p/\(∀xs,eh K H a xs->xs[i]?=some y)/\(∀xs,eh K H b xs->xs[i]?=some z)/\H'=upd H p (.tup [y,z]),
  λi H=>∃xs ys,eh K H a xs/\eh K H b ys/\min xs.length ys.length<=i⟩
def zE{P:Program}{w:World}{K:W.Frag}{elts:List Expr}{k:Nat}{pos:Pos}(z TI TO i1 i2 a b:Addr)(D:ZipApart z TI TO i1 i2 a b) :
  rH P w K (.Tuple elts k pos) (LO K a b) [z,TI,TO,i1,i2] z (λi h=>IsZip h z TI TO .none/\IsPair h TI (.ref i1) (.ref i2)/\(∃a b,IsPair h TO a b)/\h.IsListIter i1 a i/\h.IsListIter i2 b i) where
 mem:=by simp
 obj:=λi h st b hb=>by
  obtain⟨hz,hTI,⟨a',b',hTO⟩,⟨o1,e1,c1,d1⟩,⟨o2,e2,c2,d2⟩⟩:=st;simp only[List.mem_cons,List.not_mem_nil,or_false]at hb;rcases hb with rfl|rfl|rfl|rfl|rfl
  .exact⟨_,hz,λv z=>by cases z⟩
  .exact⟨_,hTI,λv z=>by cases z⟩
  .exact⟨_,hTO,λv z=>by cases z⟩
  .exact⟨_,e1,λv z=>by rw[d1]at z;cases z⟩
  .exact⟨_,e2,λv z=>by rw[d2]at z;cases z⟩
 keep:=λi h h' st k=>by
  obtain⟨hz,hTI,⟨a',b',hTO⟩,h1,h2⟩:=st;exact⟨k z (by simp) _ hz,k TI (by simp) _ hTI,⟨a',b',k TO (by simp) _ hTO⟩,h1.at λo y=>k i1 (by simp) o y,h2.at λo y=>k i2 (by simp) o y⟩
 item:=by
  intro X hP hw hK hc i pins s σ H E I hf st hg;subst hP hw hK;obtain⟨xs,ys,x,y,hqx,hqy,hx,hy⟩:=hg;obtain⟨its,rv,p,hz⟩:=I.list hqx;obtain⟨jts,rw_,p',hz'⟩:=I.list hqy;obtain⟨u,hu,ru⟩:=rv.get hx;obtain⟨u',hu',ru'⟩:=rw_.get hy;have W:=WalksT.zip2 (prog:=X.prog) (w:=X.w) (I.ok.hd hc) z TI TO i1 i2 a b D its.toArray jts.toArray;have hil:i<min its.toArray.size jts.toArray.size:=by
   have h1:=(List.getElem?_eq_some_iff.mp hu).1;have h2:=(List.getElem?_eq_some_iff.mp hu').1;simp only[List.size_toArray];omega
  have sub:∀b,b∉[z,TI,TO,i1,i2]->b∉[z,TO,i1,i2]:=λb hb hc=>hb (by simp only[List.mem_cons,List.not_mem_nil,or_false]at hc ⊢;rcases hc with h|h|h|h<;>simp[h]);refine W.item i s _ _ hil ⟨st.1,st.2.1,st.2.2.1,st.2.2.2.1,st.2.2.2.2,p.isList,p'.isList⟩ λT vals h' tk hPt hT hTup hMid hk=>?_;refine⟨_,rfl,W.go elts k pos i T _ _ _ hMid λh'' st'' hk''=>?_⟩;obtain⟨v,v',hv,hv',rfl⟩:=hPt;have hyu:v=u:=by
   have:its[i]?=some v:=by simpa using hv
   rw[hu]at this;cases this;rfl
  have hyu':v'=u':=by
   have:jts[i]?=some v':=by simpa using hv'
   rw[hu']at this;cases this;rfl
  subst hyu hyu';obtain⟨o,ho,hr⟩:=hTup;have ho':=hk'' T o (W.apart i T _ hMid) ho;refine⟨.ref T,upd H T (.tup [x,y]),kJ (s:=s) (h':=h'') (t':=tk) I (λb o hb e=>hk'' b o (sub b hb) (hk b o (sub b hb) e)) hf hT ⟨by show 2<=sizeLine;decide,[v,v'],.cons ru (.cons ru' .nil),o,ho',hr⟩,rfl,⟨T,x,y,I.hok.fresh hT,rfl,λys hy'=>by rw[I.list_inj hy' hqx];exact hx,λys hy'=>by rw[I.list_inj hy' hqy];exact hy,rfl⟩,
   ⟨st''.1,st''.2.1,st''.2.2.1,st''.2.2.2.1,st''.2.2.2.2.1⟩,λb hb=>?_⟩
  have hb0:=(hf b hb).1;obtain⟨ob,hob⟩:∃o,s.heap.get? b=some o:=by
   obtain⟨hz,hTI,⟨a',b',hTO⟩,⟨o1,e1,c1,d1⟩,⟨o2,e2,c2,d2⟩⟩:=st;simp only[List.mem_cons,List.not_mem_nil,or_false]at hb;rcases hb with rfl|rfl|rfl|rfl|rfl
   .exact⟨_,hz⟩
   .exact⟨_,hTI⟩
   .exact⟨_,hTO⟩
   .exact⟨_,e1⟩
   .exact⟨_,e2⟩
  rw[az (Nat.ne_of_lt (Nat.lt_of_lt_of_le (Heap.lt_size hob) hT))];exact hb0
 done:=by
  intro X hP hw hK hc i pins s σ H E I hf st hg;subst hP hw hK;obtain⟨xs,ys,hqx,hqy,hx⟩:=hg;obtain⟨its,rv,p,hz⟩:=I.list hqx;obtain⟨jts,rw_,p',hz'⟩:=I.list hqy;have hl:=rv.length;have hl':=rw_.length;obtain⟨hz,hTI,⟨a',b',hTO⟩,h1,h2⟩:=st;refine wpAny_pyNext_zip_end (I.ok.hd hc) D hz hTI hTO h1 h2 p.isList p'.isList ?_ λh' hk=>⟨rfl,qr (t':=s.toks) I (λc o hb e=>hk c o (λx=>hb (by simp[x])) (λx=>hb (by simp[x])) (λx=>hb (by simp[x])) (λx=>hb (by simp[x])) e) hf⟩
  by_cases hle:xs.length<=ys.length
  .left;simp;omega
  .right;simp;omega
 self:=λ_ _ _ _ _ st h=>by
  obtain⟨hz,_⟩:=st;exact wpAny_pyIter_zip hz h
section
variable {X:Cx}{E:XK}{elts:List Expr}{k:Nat}{tp:Pos}{e a b:Expr}{f g:am}
def cH:ac->ac->ac
 |d::ds,e::es=>.tup [d,e]::cH ds es
 |_,_=>[]
theorem ft:∀(ds es:ac),(cH ds es).length=min ds.length es.length
 |[],_=>by simp[cH]
 |_::_,[]=>by simp[cH]
 |d::ds,e::es=>by simp[cH,ft ds es]
theorem jM:∀(ds es:ac) (i:Nat) (d:D),(cH ds es)[i]?=some d->∃x y,ds[i]?=some x/\es[i]?=some y/\d=.tup [x,y]
 |[],_,_,_,h=>by simp[cH]at h
 |_::_,[],_,_,h=>by simp[cH]at h
 |d::ds,e::es,0,_,h=>by simp[cH]at h;exact⟨d,e,rfl,rfl,h.symm⟩
 |d::ds,e::es,i+1,_,h=>by
  simp only[cH,List.getElem?_cons_succ]at h;obtain⟨x,y,h1,h2,h3⟩:=jM ds es i _ h;exact⟨x,y,by simpa using h1,by simpa using h2,h3⟩
end
def Li(f:Str):List Str->ac->Option D
 |k::ks,d::ds=>if f=k then some d else Li f ks ds
 |_,_=>none
section
variable {X:Cx}{E:XK}{e a b o:Expr}{es:List Expr}{fe fo:am}{fa:Ev->ao (ac)}{pos:Pos}
def putAll:List Str->al->List (Str×V)->List (Str×V)
 |f::fs,v::vs,l=>putAll fs vs (iB f v l)
 |_,_,l=>l
theorem sS{f:Str}{v:V}:∀{l:List (Str×V)},f∉l.map (·.1)->iB f v l=l++[(f,v)]
 |[],_=>rfl
 |(k,x)::l,h=>by
  simp only[List.map_cons,List.mem_cons,not_or]at h;unfold iB;rw[if_neg (λz=>h.1 z.symm),sS h.2];rfl
theorem mP:∀{fs:List Str}{vs:al}{l:List (Str×V)},fs.Nodup->(∀f∈fs,f∉l.map (·.1))->fs.length=vs.length->putAll fs vs l=l++fs.zip vs
 |[],[],l,_,_,_=>by simp[putAll]
 |[],v::vs,l,_,_,h=>by simp at h
 |f::fs,[],l,_,_,h=>by simp at h
 |f::fs,v::vs,l,nd,hn,h=>by
  rw[List.nodup_cons]at nd;unfold putAll;rw[sS (hn f List.mem_cons_self),mP nd.2 (λg hg=>?_) (by simpa using h),List.zip_cons_cons,List.append_assoc]
  .rfl
  .simp only[List.map_append,List.map_cons,List.map_nil,List.mem_append,List.mem_singleton,not_or]
   exact⟨hn g (List.mem_cons_of_mem _ hg),λz=>nd.1 (z▸hg)⟩
def su{H:Hp}{a:Addr}{o:HO}(h:H a=some o):upd H a o=H:=by
 funext b
 by_cases hb:b=a
 .subst hb;rw[aG,h]
 .rw[az hb]
def kH{H:Hp}{a:Addr}{o u:HO}:upd (upd H a o) a u=upd H a u:=by
 funext b
 by_cases hb:b=a
 .subst hb;rw[aG,aG]
 .rw[az hb,az hb,az hb]
theorem sT{f:Str}{v:V}:∀{l:List (Str×V)},(iB f v l).length<=l.length+1
 |[]=>by simp[iB]
 |(k,x)::l=>by
  unfold iB;split
  .simp
  .have:=sT (f:=f) (v:=v) (l:=l)
   simp;omega
end
def Dm{K:W.Frag}{C:Addr}:∀f∈([]:List Str),lp K C f:=λ_ h=>nomatch h
def tw{K:W.Frag}{C:Addr}{f:Str}{ks:List Str}(h:W.findIn K (.ref C) f=some none)(r:∀f∈ks,lp K C f):∀g∈f::ks,lp K C g:=λg hg=>by
 rcases List.mem_cons.mp hg with rfl|hg
 .exact h
 .exact r g hg
end DL
namespace Com
open PySem L2 DL
def Fi(tg:Ev->D->ao Ev)(s:bd)(ρ:Ev)(ds:ac):ao Fl:=bW tg s ds ρ
def E7(d:D):ao (ac):=match d with
 |.lst ds=>.ok (numbered 0 ds)
 |_=>.stuck
def E6(d:D):ao (ac):=match d with
 |.lst ds=>.ok ds
 |_=>.stuck
def dY(n:Nat)(fr:bi)(tg:Ev->D->ao Ev)(tt fe:am)(ρ:Ev)(ds:ac):ao D:=if ds.length<=line then match bI (cc n fr ρ) tg tt fe ds with
  |.ok es=>.ok (.lst es)
  |_=>.stuck
 else .stuck
def Bc(tg:Ev->D->ao Ev)(s:bd)(ρ:Ev)(d:D):ao Fl:=match d with
 |.int j=>if -4611686018427387904<=j/\j<4611686018427387904 then bW tg s (intsFrom 0 j.toNat) ρ else .stuck
 |_=>.stuck
section
variable {s t:bd}{f g h:am}{src:Ev->ao (ac)}{fa:Ev->ao (ac)}{ρ r:Ev}{i j n:Nat}{d x y:D}{ds es xs:ac}{a b:Int}{tg:Ev->D->ao Ev}{tt fe:am}{fr:bi}
def En:jV src tg s ρ=(src ρ).bind (Fi tg s ρ):=aK rfl
def Bn:Fi tg s ρ ds=bW tg s ds ρ:=aK rfl
def qY:qz f ρ=(f ρ).bind E7:=aK rfl
def nG:E7 (.lst ds)=.ok (numbered 0 ds):=aK rfl
def DU:lS f ρ=(f ρ).bind E6:=aK rfl
def Bj:E6 (.lst ds)=.ok ds:=aK rfl
def c9:cG n fr src tg tt fe ρ=(src ρ).bind (dY n fr tg tt fe ρ):=aK rfl
def xt{is:bi}(h:(ds.length==is.length)=true):eV is ρ (.tup ds)=.ok (dk ρ is ds):=by
 show(match (if ds.length=is.length then some ds else none) with|some ds=>ao.ok (dk ρ is ds)|none=>.stuck)=_;rw[if_pos (eq_of_beq h)]
def ma:pf f tg s ρ=(f (iA ρ)).bind (Bc tg s ρ):=aK rfl
def nA{k:Nat}(h:k<=1000000):Bc tg s ρ (.int (k:Int))=bW tg s (intsFrom 0 k) ρ:=by
 unfold Bc;dsimp only;rw[if_pos ⟨by omega,by omega⟩,Int.toNat_natCast]
def JN:dH (.bl true)=.ok (.int 1):=aK rfl
def Hn:dH (.bl false)=.ok (.int 0):=aK rfl
def gW:yX (.int 10) (.int 18)=.ok (.int 1000000000000000000):=aK rfl
def gJ{F:D->D}(hl:ds.length<=1000000)(h:∀d∈ds,∃ρ1,tg (cc n fr ρ) d=.ok ρ1/\tt ρ1=.ok (.bl true)/\fe ρ1=.ok (F d)):dY n fr tg tt fe ρ ds=.ok (.lst (ds.map F)):=by
 unfold dY;rw[if_pos (show ds.length<=line from hl),pS h]
theorem lM{B:Ev}{F:D->D}{p:D->Bool}:∀{ds:ac},(∀d∈ds,∃ρ1,tg B d=.ok ρ1/\tt ρ1=.ok (.bl (p d))/\(p d=true->fe ρ1=.ok (F d)))->bI B tg tt fe ds=.ok ((ds.filter p).map F)
 |[],_=>rfl
 |d::ds,h=>by
  obtain⟨ρ1,h1,h2,h3⟩:=h d List.mem_cons_self;have ih:=lM (ds:=ds) λd hd=>h d (List.mem_cons_of_mem _ hd);unfold bI;rw[h1,Fs,h2,Fs];cases hp:p d with
  |true=>
   show(fe ρ1).bind _=_;rw[h3 hp,Fs,ih,Fs,List.filter_cons_of_pos hp];rfl
  |false=>
   show bI B tg tt fe ds=_;rw[ih,List.filter_cons_of_neg (by rw[hp];decide)]
def lK{F:D->D}{p:D->Bool}(hl:ds.length<=1000000)(h:∀d∈ds,∃ρ1,tg (cc n fr ρ) d=.ok ρ1/\tt ρ1=.ok (.bl (p d))/\(p d=true->fe ρ1=.ok (F d))):dY n fr tg tt fe ρ ds=.ok (.lst ((ds.filter p).map F)):=by
 unfold dY;rw[if_pos (show ds.length<=line from hl),lM h]
end
def un(s x:gN):gN:=(s.1*x.2+x.1*s.2,s.2*x.2)
end Com
def Ls:=(bJ (bJ (bJ @DV (bJ @En @Bn)) (bJ @qY (bJ @nG @DU))) (bJ (bJ @Bj (bJ @c9 @xt)) (bJ (bJ @ma @JN) (bJ @Hn @gW))))
local macro_rules|`(tactic|open_line with[$xs,*])=>`(tactic|simp only[Kf,Ls,List.map_cons,List.map_nil,List.length_cons,List.length_nil,List.replicate_succ,List.replicate_zero,List.nil_append,List.cons_append,List.getElem?_cons_zero,List.getElem?_cons_succ,List.set_cons_zero,List.set_cons_succ,Nat.sub_zero,Nat.reduceSub,Nat.reduceAdd,Nat.add_zero,Nat.zero_add,Bool.not_true,Bool.not_false,decide_true,decide_false,Nat.reduceLeDiff,Nat.reduceBEq,Int.reduceBEq,beq_self_eq_true,DL.dOne,DL.mYes,Int.reduceLT,Int.reduceLE,Int.reduceSub,Int.reduceAdd,Int.reduceMul,Int.reduceNeg,Int.reduceToNat,Bool.and_self,$[$xs:term],*])
namespace Com
open PySem L2 DL
def vE{a b:Int}(ha:0<=a)(hb:0<b):0<=(zm a b).1:=Int.ediv_nonneg ha (by omega)
def Jp{a:Int}(h0:0<=a)(h1:a<(zi:Int)):a.natAbs<uK:=Nat.lt_of_lt_of_le (show a.natAbs<zi by omega) EZ
def qW{i:Nat}{body:bd}(P:Nat->Ev->Prop){n:Nat}(h:∀k,k<n->∀ρ,P k ρ->∃ρ2,body (ρ.set i (.sh (.int (k:Int))))=.ok (.nx ρ2)/\P (k+1) ρ2){ρ:Ev}(h0:P 0 ρ):∃ρ',bW (bV i) body (intsFrom 0 n) ρ=.ok (.nx ρ')/\P n ρ':=by
 have key:∀(m k:Nat) (ρ:Ev),k+m=n->P k ρ->∃ρ',bW (bV i) body ((intsFrom 0 n).drop k) ρ=.ok (.nx ρ')/\P n ρ':=by
  intro m
  induction m with
  |zero=>
   intro k ρ hk hp;have:k=n:=by omega
   subst this;rw[A3];exact⟨ρ,rfl,hp⟩
  |succ m ih=>
   intro k ρ hk hp;obtain⟨ρ2,h1,h2⟩:=h k (by omega) ρ hp;rw[yG (by omega),qX (tg:=bV i) rfl h1];exact ih (k+1) ρ2 (by omega) h2
 exact key n 0 ρ (by omega) h0
def je{tg:Ev->D->ao Ev}{body:bd}{ds:ac}(P:Nat->Ev->Prop)(h:∀k d,ds[k]?=some d->∀ρ,P k ρ->∃ρ1 ρ2,tg ρ d=.ok ρ1/\body ρ1=.ok (.nx ρ2)/\P (k+1) ρ2){ρ:Ev}(h0:P 0 ρ):∃ρ',bW tg body ds ρ=.ok (.nx ρ')/\P ds.length ρ':=by
 have key:∀(m k:Nat) (ρ:Ev),k+m=ds.length->P k ρ->∃ρ',bW tg body (ds.drop k) ρ=.ok (.nx ρ')/\P ds.length ρ':=by
  intro m
  induction m with
  |zero=>
   intro k ρ hk hp;have:k=ds.length:=by omega
   subst this;rw[List.drop_length];exact⟨ρ,rfl,hp⟩
  |succ m ih=>
   intro k ρ hk hp;have hlt:k<ds.length:=by omega
   obtain⟨ρ1,ρ2,h1,h2,h3⟩:=h k ds[k] (List.getElem?_eq_getElem hlt) ρ hp;rw[List.drop_eq_getElem_cons hlt,qX h1 h2];exact ih (k+1) ρ2 (by omega) h3
 exact key ds.length 0 ρ (by omega) h0
structure Drawn (sz vs:List Int):Prop where
 len:vs.length=sz.length
 bnd:∀(i:Nat) (v s:Int),vs[i]?=some v->sz[i]?=some s->0<=v/\v<s
def Drawn.at{sz vs:List Int}(W:Drawn sz vs)(i:Nat){s:Int}(h:sz[i]?=some s):∃v,vs[i]?=some v/\(0<=v/\v<s)/\aD (.lst (vs.map D.int)) (.int (i:Int))=.ok (.int v):=by
 have hi:i<vs.length:=by rw[W.len];exact(List.getElem?_eq_some_iff.mp h).1
 refine⟨vs[i],List.getElem?_eq_getElem hi,W.bnd i _ _ (List.getElem?_eq_getElem hi) h,eL ?_⟩;rw[List.getElem?_map,List.getElem?_eq_getElem hi];rfl
def Drawn.ix{sz vs:List Int}(W:Drawn sz vs)(k:Int)(i:Nat){s:Int}(hk:k=(i:Int))(h:sz[i]?=some s):∃v,vs[i]?=some v/\(0<=v/\v<s)/\aD (.lst (vs.map D.int)) (.int k)=.ok (.int v):=by
 subst hk;exact W.at i h
def ER:("abcdefghijklmnopqrstuvwxyz":Str).cps.toList=(List.range 26).map (97 + ·):=by decide +kernel
def we:∀n,n<26->nq (97+n)=true:=by decide +kernel
def wc{v:Int}(h0:0<=v)(h1:v<26):aD (.str "abcdefghijklmnopqrstuvwxyz") (.int v)=.ok (.str ⟨#[97+v.toNat]⟩):=by
 obtain⟨n,rfl⟩:=Int.eq_ofNat_of_zero_le h0;have hn:n<26:=by omega
 have e:atI ("abcdefghijklmnopqrstuvwxyz":Str).cps.toList ((n:Nat):Int)=some (97+n):=dE (by rw[ER];simp[hn]);show(if("abcdefghijklmnopqrstuvwxyz":Str).length<=line then(match atI ("abcdefghijklmnopqrstuvwxyz":Str).cps.toList ((n:Nat):Int) with|some c=>ao.ok (D.str ⟨#[c]⟩)|none=>.stuck) else .stuck)=_;rw[if_pos (by decide),e];rfl
theorem xa:∀cs:bi,Str.join "" (cs.map λc=>(⟨#[c]⟩:Str))=⟨cs.toArray⟩
 |[]=>rfl
 |[c]=>rfl
 |c::d::cs=>by
  show(⟨#[c]⟩:Str)++""++Str.join "" ((d::cs).map λc=>(⟨#[c]⟩:Str))=_;rw[xa (d::cs)];apply Str.ext';show(#[c]++("":Str).cps)++(d::cs).toArray=_;have:("":Str).cps=#[]:=rfl;rw[this];simp
theorem wy:∀cs:bi,fV (cs.map λc=>D.str ⟨#[c]⟩)=some (cs.map λc=>(⟨#[c]⟩:Str))
 |[]=>rfl
 |c::cs=>by
  show(fV (cs.map λc=>D.str ⟨#[c]⟩)).map _=_;rw[wy cs];rfl
def vG{cs:bi}(h:cs.length<=1000):nh "" [.lst (cs.map λc=>D.str ⟨#[c]⟩)]=.ok (.str ⟨cs.toArray⟩):=by
 have GS:fO "" (cs.map λc=>(⟨#[c]⟩:Str))=true:=by
  unfold fO;have e:((cs.map λc=>(⟨#[c]⟩:Str)).map (·.length)).sum=cs.length:=by
   clear h
   induction cs with
   |nil=>rfl
   |cons c cs ih=>
    simp only[List.map_cons,List.sum_cons,List.length_cons,ih];show 1+cs.length=_;omega
  rw[e,Bool.and_eq_true];exact⟨by decide,decide_eq_true (by rw[List.length_map];omega)⟩
 show(match fV (cs.map λc=>D.str ⟨#[c]⟩) with|some ys=>if fO "" ys=true then ao.ok (D.str (Txt.join "" ys)) else .stuck|none=>.stuck)=_;rw[wy];show(if fO "" _=true then ao.ok (D.str (Txt.join "" _)) else .stuck)=_;rw[if_pos GS];show ao.ok (D.str (Builtin.Str.glued "" _))=_;rw[StrLaws.glued_eq_join,xa]
def mH{cs:bi}{b:Nat}(hb:b<=cs.length):Txt.slice ⟨cs.toArray⟩ none (some (b:Int))=⟨(cs.take b).toArray⟩:=by
 have:=StrLaws.sliceText_to (x:=⟨cs.toArray⟩) (j:=(b:Int)) ⟨by omega,by simpa using hb⟩;refine Eq.trans this ?_;simp
structure fT (zs:List Str):Prop where
 nd:zs.Nodup
 nm:∀z∈zs,nameB z=true
def uD{x y:Str}(h:x.length+y.length<=1000):bo (.str x) (.str y)=.ok (.str (x++y)):=if_pos (Nat.le_trans h (by decide))
def pR(a b:bi):(⟨a.toArray⟩:Str)++⟨b.toArray⟩=⟨(a++b).toArray⟩:=by
 apply Str.ext';show a.toArray++b.toArray=_;simp
def HM(a:bi):(⟨a.toArray⟩:Str).length=a.length:=by show a.toArray.size=_;simp
def wA{z:Str}{l h:Option Int}(hz:z.length<=1000):x8 (.str z) l h=.ok (.str (Txt.slice z l h)):=by
 show(if z.length<=line then _ else _)=_;rw[if_pos (Nat.le_trans hz (by decide))]
structure oq where
 a:Str
 b:Str
 w:Str
 l:gN
 o:Option gN
def fq:Option gN->D
 |none=>.non
 |some x=>fr x
def aP(t:oq):D:=.tup [.str t.a,.str t.b,.str t.w,fr t.l,fq t.o]
structure jH (zs:List Str) (t:oq):Prop where
 a:t.a∈zs
 b:t.b∈zs
 ne:t.a≠t.b
 w:t.w="one"∨t.w="both"
 l:qk t.l
 l0:0<=t.l.1
 o:∀x,t.o=some x->qk x/\0<x.1
def Il{α:Type}{vs:List α}{i:Nat}{a b c:α}(h0:vs[i]?=some a)(h1:vs[i+1]?=some b)(h2:vs[i+2]?=some c):(vs.drop i).take 3=[a,b,c]:=by
 apply List.ext_getElem?;intro j;rcases j with _|_|_|j
 .rw[List.getElem?_take_of_lt (by decide),List.getElem?_drop];simpa using h0
 .rw[List.getElem?_take_of_lt (by decide),List.getElem?_drop];simpa using h1
 .rw[List.getElem?_take_of_lt (by decide),List.getElem?_drop];simpa using h2
 .rw[List.getElem?_eq_none (by simp;omega)];simp
def um{vs:List Int}{a b:Nat}{x y:Int}(hx:x=(a:Int))(hy:y=(b:Int))(h:b<=vs.length)(hab:a<=b):fZ (vs.map D.int) (some x) (some y)=((vs.drop a).take (b-a)).map D.int:=by
 subst hx hy;rw[fR,HT.sIx_nat,HT.sIx_nat,Nat.min_eq_left h,Nat.min_eq_left (Nat.le_trans hab h)]
def J3{vs:List Int}{i:Nat}{x y:Int}{a b c:Int}(hx:x=(i:Int))(hy:y=((i+3:Nat):Int))(h0:vs[i]?=some a)(h1:vs[i+1]?=some b)(h2:vs[i+2]?=some c):fZ (vs.map D.int) (some x) (some y)=[.int a,.int b,.int c]:=by
 have hl:i+3<=vs.length:=by have:=(List.getElem?_eq_some_iff.mp h2).1;omega
 rw[um hx hy hl (by omega),show i+3-i=3 by omega,Il h0 h1 h2];rfl
def qv{zs:List Str}{k:Int}(h0:0<=k)(h1:k<zs.length):∃z,zs[k.toNat]?=some z/\aD (.lst (zs.map D.str)) (.int k)=.ok (.str z):=by
 obtain⟨n,rfl⟩:=Int.eq_ofNat_of_zero_le h0;have hn:n<zs.length:=by omega
 refine⟨zs[n],by simp[hn],eL ?_⟩;rw[List.getElem?_map,List.getElem?_eq_getElem hn];rfl
def Cp{k:Int}(h0:0<=k)(h1:k<2):∃z:Str,(z="one"∨z="both")/\aD (.lst [.str "one",.str "both"]) (.int k)=.ok (.str z):=by
 have:k=0∨k=1:=by omega
 rcases this with rfl|rfl
 .exact⟨_,.inl rfl,xr⟩
 .exact⟨_,.inr rfl,xq⟩
def qf{n d e:Int}(h2:2<=n)(d0:0<=d)(d1:d<n)(e0:0<=e)(e1:e<n-1):(0<=(d+1+e).fmod n/\(d+1+e).fmod n<n)/\(d+1+e).fmod n≠d:=by
 refine⟨dj (by omega),?_⟩;rw[Int.fmod_eq_emod_of_nonneg _ (by omega)]
 by_cases h:d+1+e<n
 .rw[Int.emod_eq_of_lt (by omega) h];omega
 .have:(d+1+e) % n=d+1+e-n:=by
   rw[←Int.sub_emod_right (d+1+e) n,Int.emod_eq_of_lt (by omega) (by omega)]
  rw[this];omega
def tu{α:Type}{zs:List α}(nd:zs.Nodup){i j:Nat}{x y:α}(hi:zs[i]?=some x)(hj:zs[j]?=some y)(hij:i≠j):x≠y:=by
 intro e;subst e;obtain⟨h1,e1⟩:=List.getElem?_eq_some_iff.mp hi;obtain⟨h2,e2⟩:=List.getElem?_eq_some_iff.mp hj;exact hij ((List.getElem_inj nd).mp (e1.trans e2.symm))
def lO:bd :=
 (ar (bx (iC (aq (af (ae 0) ax) m_is_ratio) (aa (aa (ae 0) (dC (.int 0)) aD) (dC (.int 0)) Kr)))
 au)
def m_is_length:ac->ao D:=bH 1 lO
def oh:bd :=
 (ar (bx (gM (aa (ae 0) (dC (.non)) oX) (iC (aq (af (ae 0) ax) m_is_ratio) (aa (aa (ae 0) (dC (.int 0)) aD) (dC (.int 0)) B6))))
 au)
def m_is_worth:ac->ao D:=bH 1 oh
noncomputable def uA:bd :=
 (ar (dO (gM (bZ (bc (ae 0) (du "tuple"))) (aa (aq (af (ae 0) ax) (m1 cN)) (dC (.int 5)) gI))
 (ar (bx (dC (.bl false)))
 au)
 au)
 (ar (dO (gM (bZ (aq (af (aa (ae 0) (dC (.int 0)) aD) ax) m_is_name)) (gM (bZ (aq (af (aa (ae 0) (dC (.int 1)) aD) ax) m_is_name)) (aa (aa (ae 0) (dC (.int 0)) aD) (aa (ae 0) (dC (.int 1)) aD) iD)))
 (ar (bx (dC (.bl false)))
 au)
 au)
 (ar (dO (gM (bZ (bc (aa (ae 0) (dC (.int 2)) aD) (du "str"))) (aa (aa (ae 0) (dC (.int 2)) aD) (dC (.tup [(.str "one"),(.str "both")])) dq))
 (ar (bx (dC (.bl false)))
 au)
 au)
 (ar (bx (iC (aq (af (aa (ae 0) (dC (.int 3)) aD) ax) m_is_length) (aq (af (aa (ae 0) (dC (.int 4)) aD) ax) m_is_worth)))
 au))))
def m_is_tie:ac->ao D:=bH 1 uA
noncomputable def b_look_at_places:bd :=
 (ar (dO (gM (bZ (bc (ae 0) (du "list"))) (bZ (ie Ic Ic (dC (.int 2)) (aq (af (ae 0) ax) (m1 cN)) (dC (.int 7)))))
 (ar eI
 au)
 au)
 (ar (jV (qz (ae 0)) (eV [1,2])
 (ar (dO (gM (bZ (aq (af (ae 2) ax) m_is_name)) (aa (ae 2) (ez (ae 0) dA (bM (ae 1))) oY))
 (ar eI
 au)
 au)
 au))
 au))
def m_look_at_places:ac->ao D:=bH 3 b_look_at_places
noncomputable def b_look_at_ties:bd :=
 (ar (dO (gM (bZ (bc (ae 0) (du "list"))) (aa (aq (af (ae 0) ax) (m1 cN)) (dC (.int 14)) B6))
 (ar eI
 au)
 au)
 (ar (jV (qz (ae 0)) (eV [2,3])
 (ar (dO (gM (bZ (aq (af (ae 3) ax) m_is_tie)) (gM (aa (aa (ae 3) (dC (.int 0)) aD) (ae 1) dq) (aa (aa (ae 3) (dC (.int 1)) aD) (ae 1) dq)))
 (ar eI
 au)
 au)
 au))
 au))
def m_look_at_ties:ac->ao D:=bH 4 b_look_at_ties
def oj:bd :=
 (ar (bx (iC (aq (af (ae 0) ax) m_is_name) (aa (ae 0) (ae 1) oY)))
 au)
def m_is_place:ac->ao D:=bH 2 oj
noncomputable def b_look_at_web:bd :=
 (ar (dO (gM (bZ (bc (ae 0) (du "tuple"))) (aa (aq (af (ae 0) ax) (m1 cN)) (dC (.int 4)) gI))
 (ar eI
 au)
 au)
 (ar (jE (aq (af (aa (ae 0) (dC (.int 0)) aD) ax) m_look_at_places))
 (ar (jE (aq (af (aa (ae 0) (dC (.int 1)) aD) (af (aa (ae 0) (dC (.int 0)) aD) ax)) m_look_at_ties))
 (ar (dO (bZ (aq (af (aa (ae 0) (dC (.int 2)) aD) (af (aa (ae 0) (dC (.int 0)) aD) ax)) m_is_place))
 (ar eI
 au)
 au)
 (ar (dO (gM (bZ (aq (af (aa (ae 0) (dC (.int 3)) aD) (af (aa (ae 0) (dC (.int 0)) aD) ax)) m_is_place)) (aa (aa (ae 0) (dC (.int 3)) aD) (aa (ae 0) (dC (.int 2)) aD) iD))
 (ar eI
 au)
 au)
 au)))))
def m_look_at_web:ac->ao D:=bH 1 b_look_at_web
structure eG where
 ps:List Str
 ts:List oq
 fi:Str
 la:Str
def aB(w:eG):D:=.tup [.lst (w.ps.map D.str),.lst (w.ts.map aP),.str w.fi,.str w.la]
structure bF (w:eG):Prop where
 n2:2<=w.ps.length
 n7:w.ps.length<=7
 nm:fT w.ps
 t14:w.ts.length<=14
 ts:∀t∈w.ts,jH w.ps t
 fi:w.fi∈w.ps
 la:w.la∈w.ps
 ne:w.fi≠w.la
def jb{z:Str}(h:nameB z=true):m_is_name [.str z]=.ok (.bl true):=by
 have hl:z.length<=8:=by
  unfold nameB at h;simp only[Bool.and_eq_true,decide_eq_true_eq]at h;exact h.2.1
 rw[nj (show GS (.str z)=true from decide_eq_true (Nat.le_trans hl (by decide)))];show ao.ok (D.bl (nameB z))=_;rw[h]
def mL{x:gN}(h:Low x):m_is_ratio [fr x]=.ok (.bl true):=by
 rw[qR];show ao.ok (D.bl (mO (.tup [.int x.1,.int x.2])))=_;have h1:=h.q1;have h2:=h.g1;show ao.ok (D.bl (decide (1<=x.2)&&(Int.gcd x.1 x.2==1)))=_;rw[decide_eq_true h1,h2];rfl
def tJ{x:gN}(h:Low x)(h0:0<=x.1):m_is_length [fr x]=.ok (.bl true):=by
 have e:fr x=.tup [.int x.1,.int x.2]:=rfl;have h1:=mL h;rw[e]at h1 ⊢;open_line with[m_is_length,lO,h1,decide_eq_true h0,decide_eq_true (show x.1≥0 from h0)]
def uN{o:Option gN}(h:∀x,o=some x->Low x/\0<x.1):m_is_worth [fq o]=.ok (.bl true):=by
 cases o with
 |none=>rfl
 |some x=>
  obtain⟨hx,h0⟩:=h x rfl;have e:fq (some x)=.tup [.int x.1,.int x.2]:=rfl;have h1:=mL hx;rw[show fr x=.tup [.int x.1,.int x.2] from rfl]at h1;rw[e];open_line with[m_is_worth,oh,h1,decide_eq_true h0]
def jf{x y:Str}:iD (.str x) (.str y)=.ok (.bl (x==y)):=by unfold iD;rw[if_pos ⟨rfl,rfl⟩,cK]
def zI{zs:List Str}{t:oq}(nm:fT zs)(h:jH zs t):m_is_tie [aP t]=.ok (.bl true):=by
 obtain⟨a,b,w,l,o⟩:=t;obtain⟨ha,hb,hne,hw,hl,hl0,ho⟩:=h;have h1:=jb (nm.nm a ha);have h2:=jb (nm.nm b hb);have h3:=tJ hl.toLow hl0;have h4:=uN (o:=o) λx hx=>⟨(ho x hx).1.toLow,(ho x hx).2⟩
 have h5:(a==b)=false:=beq_eq_false_iff_ne.mpr hne;have h6:dq (.str w) (.tup [.str "one",.str "both"])=.ok (.bl false):=by
  rcases hw with rfl|rfl<;>rfl
 have e:aP ⟨a,b,w,l,o⟩=.tup [.str a,.str b,.str w,fr l,fq o]:=rfl;rw[e];open_line with[m_is_tie,uA,h1,h2,jf,h5,h6,h3,h4]
def xJ{zs:List Str}{z:Str}:(zs.map D.str).any (λd=>cK d (.str z))=decide (z∈zs):=by
 induction zs with
 |nil=>rfl
 |cons y zs ih=>
  rw[List.map_cons,List.any_cons,ih];show((y==z)||decide (z∈zs))=_
  by_cases h:y=z
  .subst h;simp
  .have:(y==z)=false:=beq_eq_false_iff_ne.mpr h
   rw[this,Bool.false_or];have:z∈y::zs↔z∈zs:=by simp[Ne.symm h]
   exact decide_eq_decide.mpr this.symm
def iZ{n:Nat}{zs:List Str}:(zs.map D.str).all (aT n)=true:=List.all_eq_true.mpr λd hd=>by
 obtain⟨z,_,rfl⟩:=List.mem_map.mp hd;cases n<;>rfl
def fQ{zs:List Str}{z:Str}:oY (.str z) (.lst (zs.map D.str))=.ok (.bl (decide (z∈zs))):=by
 have e:A4 (.str z) (.lst (zs.map D.str))=some (decide (z∈zs)):=(if_pos ⟨rfl,iZ⟩).trans (congrArg some xJ);unfold oY;rw[e]
def vv{zs:List Str}{z:Str}:dq (.str z) (.lst (zs.map D.str))=.ok (.bl (!(decide (z∈zs)))):=by
 have e:A4 (.str z) (.lst (zs.map D.str))=some (decide (z∈zs)):=(if_pos ⟨rfl,iZ⟩).trans (congrArg some xJ);unfold dq;rw[e]
def mU{zs:List Str}{z:Str}(h:nameB z=true)(hz:z∈zs):m_is_place [.str z,.lst (zs.map D.str)]=.ok (.bl true):=by
 open_line with[m_is_place,oj,jb h,fQ,decide_eq_true hz]
def gR{α:Type}{F:α->D}{xs:List α}{k:Nat}{d:D}(h:(numbered 0 (xs.map F))[k]?=some d):∃x,xs[k]?=some x/\d=.tup [.int (k:Int),F x]:=by
 rw[cY,List.getElem?_map]at h;cases e:xs[k]? with
 |none=>rw[e]at h;cases h
 |some x=>
  rw[e]at h;cases h;exact⟨x,rfl,by simp⟩
def BI{α:Type}{F:α->D}{xs:List α}{k:Nat}(h:k<=xs.length):fZ (xs.map F) none (some (k:Int))=(xs.take k).map F:=by
 rw[fR,HT.sIx_none,HT.sIx_nat,Nat.min_eq_left h,List.drop_zero,Nat.sub_zero]
def pw{zs:List Str}(h2:2<=zs.length)(h7:zs.length<=7)(nm:fT zs):m_look_at_places [.lst (zs.map D.str)]=.ok .non:=by
 obtain⟨ρ',hl,_⟩:=je (ds:=numbered 0 (zs.map D.str)) (tg:=eV [1,2]) (ρ:=[.sh (.lst (zs.map D.str)),.no,.no])
  (body:=(ar (dO (gM (bZ (aq (af (ae 2) ax) m_is_name)) (aa (ae 2) (ez (ae 0) dA (bM (ae 1))) oY)) (ar eI au) au) au))
  (λk ρ=>∃a b,ρ=[.sh (.lst (zs.map D.str)),a,b]) (by
   rintro k d hd ρ ⟨a,b,rfl⟩;obtain⟨z,hz,rfl⟩:=gR hd;refine⟨_,[.sh (.lst (zs.map D.str)),.sh (.int (k:Int)),.sh (.str z)],xt rfl,?_,_,_,rfl⟩;have hk:k<zs.length:=(List.getElem?_eq_some_iff.mp hz).1;have hnot:decide (z∈zs.take k)=false:=decide_eq_false λhm=>by
    obtain⟨j,hj⟩:=List.mem_iff_getElem?.mp hm;have hjk:j<k:=by have:=(List.getElem?_eq_some_iff.mp hj).1;simp at this;omega
    rw[List.getElem?_take_of_lt hjk]at hj;exact tu nm.nd hj hz (by omega) rfl
   open_line with[jb (nm.nm z (List.mem_of_getElem? hz)),BI (Nat.le_of_lt hk),fQ,hnot]) ⟨.no,.no,rfl⟩
 have e1:decide ((2:Int)<=(zs.length:Int))=true:=decide_eq_true (by omega);have e2:decide ((zs.length:Int)<=7)=true:=decide_eq_true (by omega);open_line with[m_look_at_places,b_look_at_places,List.length_map,e1,e2,hl]
def Cu{zs:List Str}{ts:List oq}(h14:ts.length<=14)(nm:fT zs)(ht:∀t∈ts,jH zs t):m_look_at_ties [.lst (ts.map aP),.lst (zs.map D.str)]=.ok .non:=by
 obtain⟨ρ',hl,_⟩:=je (ds:=numbered 0 (ts.map aP)) (tg:=eV [2,3]) (ρ:=[.sh (.lst (ts.map aP)),.sh (.lst (zs.map D.str)),.no,.no])
  (body:=(ar (dO (gM (bZ (aq (af (ae 3) ax) m_is_tie)) (gM (aa (aa (ae 3) (dC (.int 0)) aD) (ae 1) dq) (aa (aa (ae 3) (dC (.int 1)) aD) (ae 1) dq))) (ar eI au) au) au))
  (λk ρ=>∃a b,ρ=[.sh (.lst (ts.map aP)),.sh (.lst (zs.map D.str)),a,b]) (by
   rintro k d hd ρ ⟨a,b,rfl⟩;obtain⟨t,ht',rfl⟩:=gR hd;refine⟨_,[.sh (.lst (ts.map aP)),.sh (.lst (zs.map D.str)),.sh (.int (k:Int)),.sh (aP t)],xt rfl,?_,_,_,rfl⟩;have hT:=ht t (List.mem_of_getElem? ht');have h1:=zI nm hT;rw[show aP t=.tup [.str t.a,.str t.b,.str t.w,fr t.l,fq t.o] from rfl]at h1 ⊢;open_line with[h1,vv,decide_eq_true hT.a,decide_eq_true hT.b]) ⟨.no,.no,rfl⟩
 have e1:decide ((14:Int)<(ts.length:Int))=false:=decide_eq_false (by omega);open_line with[m_look_at_ties,b_look_at_ties,List.length_map,e1,decide_eq_false (show ¬(ts.length:Int) > 14 by omega),hl]
def FK{w:eG}(h:bF w):m_look_at_web [aB w]=.ok .non:=by
 obtain⟨ps,ts,fi,la⟩:=w;have h1:=pw h.n2 h.n7 h.nm;have h2:=Cu h.t14 h.nm h.ts;have h3:=mU (h.nm.nm fi h.fi) h.fi;have h4:=mU (h.nm.nm la h.la) h.la;have h5:(la==fi)=false:=beq_eq_false_iff_ne.mpr (Ne.symm h.ne);rw[show aB ⟨ps,ts,fi,la⟩=.tup [.lst (ps.map D.str),.lst (ts.map aP),.str fi,.str la] from rfl];open_line with[m_look_at_web,b_look_at_web,h1,h2,h3,h4,jf,h5]
def tL{x y:gN}(h1:x.1.natAbs<wo)(h2:x.2.natAbs<wo)(h3:y.1.natAbs<wo)(h4:y.2.natAbs<wo):m_is_less [fr x,fr y]=.ok (.bl (flt x y)):=by
 rw[show fr x=.tup [.int x.1,.int x.2] from rfl,show fr y=.tup [.int y.1,.int y.2] from rfl];open_line with[m_is_less,qc,cu (eK h1 h4),cu (eK h3 h2)]
 rfl
def xg{xs:ac}{x:D}:aD (.lst (xs++[x])) (.int (-1))=.ok x:=by
 have e:atI (xs++[x]) (-1)=some x:=by
  unfold atI Dw;rw[if_neg (by decide)];have h:(-((xs++[x]).length:Int))<=-1:=by simp;omega
  rw[if_pos h];have e:(-1+((xs++[x]).length:Int)).toNat=xs.length:=by simp;omega
  rw[e];simp
 show(match atI (xs++[x]) (-1) with|some d=>ao.ok d|none=>.stuck)=_;rw[e]
def E9(i:Nat)(ρ:Ev)(d:D):ao Fl:=if oQ d=true then .ok (.nx (ρ.set i (.sh d))) else .stuck
def D1{i:Nat}{f:am}{ρ:Ev}:wB i f ρ=(f (iA ρ)).bind (E9 i ρ):=rfl
def zZ{n:Nat}{t:oq}:aT (n+3) (aP t)=true:=by
 obtain⟨a,b,w,l,o⟩:=t;cases o<;>cases n<;>rfl
def mB{c:am}{s:bd}{n:Nat}{ρ ρ2:Ev}(h1:c (iA ρ)=.ok (.bl true))(h2:s ρ=.ok (.nx ρ2)):bO c s (n+1) ρ=bO c s n ρ2:=by
 conv=>lhs;unfold bO
 rw[h1,h2];rfl
def iY{c:am}{s:bd}{n:Nat}{ρ:Ev}(h1:c (iA ρ)=.ok (.bl false)):bO c s (n+1) ρ=.ok (.nx ρ):=by
 conv=>lhs;unfold bO
 rw[h1];rfl
end Com
namespace DL
open PySem PySem.Spec PyProof.Rows L2
section
variable {X:Cx}{E:XK}{He H0e:Hp}{e a b:Expr}{es:List Expr}{f g:am}{fa:Ev->ao (ac)}{pos:Pos}
def kj(x y:D):ao D:=match x,y with
 |.lst ds,.lst es=>if ds.length+es.length<=line then .ok (.lst (ds++es)) else .stuck
 |_,_=>.stuck
def rh(ha:DE X E a f)(hb:DE X E b g):DF X E (.BinOp a .Add b pos) (aa f g kj):=by
 refine⟨?_⟩;refine aU (Av wU ha.o hb.o) λσ H Q z9=>?_;obtain⟨Ha,ρ,hs,hr,q⟩:=z9;refine⟨Ha,ρ,hs,hr,?_⟩
 unfold aa at q;cases e1:f ρ with
 |stuck|exn x=>rw[e1]at q;exact q
 |ok x=>
  rw[e1]at q;intro v H1 H01 g1 r1;refine⟨H01,ρ,g1.sub,hr.mono g1.z,?_⟩;cases e2:g ρ with
  |stuck=>simp only[ao.bind,e2]at q|exn y=>simp only[ao.bind,e2]at q;exact λC ox H' Ha' g' ex=>q C ox H' Ha' (g1.trans g') ex
  |ok y=>
   simp only[ao.bind,e2]at q;intro u H2 H02 g2 r2;cases x with
   |lst ds=>
    cases y with
    |lst es=>
     by_cases h:ds.length+es.length<=line
     .simp only[kj,if_pos h]at q
      obtain⟨l,vs,rfl,h1,h2⟩:=aC.mp (r1.mono g2.z);obtain⟨m,us,rfl,k1,k2⟩:=aC.mp r2;refine⟨l,m,vs,us,rfl,rfl,aE.sqL g2.sub h1,aE.sqL g2.sub k1,by rw[←h2.length,←k2.length];exact cO h,λp hp=>?_⟩;have sm:aE H2 (upd H2 p (.lst (vs++us))):=λb o eb=>by rw[az (by intro z;subst z;rw[hp]at eb;cases eb)];exact eb
      refine q p (vs++us) _ H02 ⟨(g1.s.trans g2.s).trans sm,g1.z.trans g2.z,g2.sub.trans sm,(g1.trans g2).nw⟩ ((g1.s.trans g2.s).free hp) ?_ aG (h2.app k2);cases qq:H02 p with|none=>rfl|some o=>have:=g2.sub _ _ qq;rw[hp]at this;cases this
     .simp only[kj,if_neg h]at q
    |_=>simp only[kj]at q
   |_=>simp only[kj]at q
end
end DL
namespace Cod
open PySem L2 DL Com
noncomputable def ku:bd :=
 (ar (uZ 2 (aq ax bG))
 (ar (aN 3 (aq (af (ae 0) ax) (m1 rA)))
 (ar (aN 4 (aa (aa (aa (ae 0) (dC (.int 2147483647)) bR) (dC (.int 48271)) bK) (dC (.int 2147483647)) bR))
 (ar (pf (aq (af (ae 1) ax) (m1 cN)) (bV 5)
 (ar (dO (aa (aq (af (ae 0) ax) (m1 rA)) (aa (dC (.int 10)) (dC (.int 18)) yX) Kr)
 (ar (eB 2 (aa (ae 3) (aa (ae 1) (ae 5) aD) bR))
 (ar (aN 3 (aa (ae 3) (aa (ae 1) (ae 5) aD) k7))
 au))
 (ar (aN 4 (aa (aa (aa (aa (aa (ae 4) (ae 4) bK) (aa (dC (.int 69621)) (ae 4) bK) bo) (aa (dC (.int 7919)) (ae 5) bK) bo) (dC (.int 1000003)) bo) (dC (.int 2147483647)) bR))
 (ar (eB 2 (aa (aa (aa (ae 4) (dC (.int 39373)) bK) (dC (.int 2147483629)) bR) (aa (ae 1) (ae 5) aD) bR))
 au)))
 au))
 (ar (bx (ae 2))
 au)))))
def bL:ac->ao D:=bH 6 ku
def EY:zi<B9:=by rw[FC];exact Nat.lt_of_lt_of_le (show zi<2 ^ 200 by decide) (Nat.pow_le_pow_right (by decide) (by decide))
def rG{c:Int}:rA (.int c)=.ok (.int (c.natAbs:Int)):=by
 show ao.ok (D.int (if c<0 then -c else c))=_
 congr 2
 split<;>omega
def draws_ok(c:Int)(sz:List Int)(hp:∀s∈sz,0<s/\s<=(zi:Int))(hn:sz.length<=900):∃vs,bL [.int c,.lst (sz.map D.int)]=.ok (.lst (vs.map D.int))/\Drawn sz vs:=by
 have hmix0:=dj (a:=c.fmod 2147483647*48271) (b:=2147483647) (by decide);have hcm:=dj (a:=c) (b:=2147483647) (by decide);obtain⟨ρ',hl,vs,hv,hb,lf,mx,x5,rfl,_⟩:=qW (i:=5) (n:=sz.length)
  (ρ:=[.sh (.int c),.sh (.lst (sz.map D.int)),.ow (.lst []),.sh (.int (c.natAbs:Int)),.sh (.int ((c.fmod 2147483647*48271).fmod 2147483647)),.no])
  (body:=(ar (dO (aa (aq (af (ae 0) ax) (m1 rA)) (aa (dC (.int 10)) (dC (.int 18)) yX) Kr)
 (ar (eB 2 (aa (ae 3) (aa (ae 1) (ae 5) aD) bR))
 (ar (aN 3 (aa (ae 3) (aa (ae 1) (ae 5) aD) k7))
 au))
 (ar (aN 4 (aa (aa (aa (aa (aa (ae 4) (ae 4) bK) (aa (dC (.int 69621)) (ae 4) bK) bo) (aa (dC (.int 7919)) (ae 5) bK) bo) (dC (.int 1000003)) bo) (dC (.int 2147483647)) bR))
 (ar (eB 2 (aa (aa (aa (ae 4) (dC (.int 39373)) bK) (dC (.int 2147483629)) bR) (aa (ae 1) (ae 5) aD) bR))
 au)))
 au))
  (λk ρ=>∃vs:List Int,vs.length=k/\(∀(i:Nat) (v s:Int),vs[i]?=some v->sz[i]?=some s->0<=v/\v<s)/\∃(lf mx:Int) (x5:Sl),ρ=[.sh (.int c),.sh (.lst (sz.map D.int)),.ow (.lst (vs.map D.int)),.sh (.int lf),.sh (.int mx),x5]/\0<=mx/\mx<2147483647) (by
   rintro k hk ρ ⟨vs,rfl,hb,lf,mx,x5,rfl,m0,m1_⟩;have hs:=hp sz[vs.length] (List.getElem_mem hk);have hix:aD (.lst (sz.map D.int)) (.int (vs.length:Int))=.ok (.int sz[vs.length]):=eL (by rw[List.getElem?_map,List.getElem?_eq_getElem hk];rfl);have hsz0:(sz[vs.length]==0)=false:=beq_eq_false_iff_ne.mpr (by omega);have hap:decide ((vs.map D.int).length<=999)=true:=decide_eq_true (by rw[List.length_map];omega);have hbn:∀v:Int,0<=v->v<sz[vs.length]->∀(i:Nat) (u s:Int),(vs++[v])[i]?=some u->sz[i]?=some s->0<=u/\u<s:=λv v0 v1 i u s e1 e2=>by
    by_cases hi:i<vs.length
    .rw[List.getElem?_append_left hi]at e1;exact hb i u s e1 e2
    .have:i=vs.length:=by
      have:=(List.getElem?_eq_some_iff.mp e1).1;simp at this;omega
     subst this;rw[List.getElem?_append_right (Nat.le_refl _),Nat.sub_self]at e1;cases e1;rw[List.getElem?_eq_getElem hk]at e2;cases e2;exact⟨v0,v1⟩
   by_cases hc:(1000000000000000000:Int)<=(c.natAbs:Int)
   .have f:=dj (a:=lf) (b:=sz[vs.length]) hs.1
    have hdiv:fD lf sz[vs.length]=true:=JX (by omega) (Nat.lt_of_le_of_lt (show sz[vs.length].natAbs<=zi by omega) EY);refine⟨[.sh (.int c),.sh (.lst (sz.map D.int)),.ow (.lst ((vs++[lf.fmod sz[vs.length]]).map D.int)),.sh (.int (lf.fdiv sz[vs.length])),.sh (.int mx),.sh (.int (vs.length:Int))],?_,vs++[lf.fmod sz[vs.length]],by simp,hbn _ f.1 f.2,_,_,_,rfl,m0,m1_⟩;open_line with[rG,gW,decide_eq_true hc,decide_eq_true (show(c.natAbs:Int)≥1000000000000000000 from hc),hix,hsz0,gX hap,vT hdiv,List.map_append]
   .have f1:=dj (a:=mx*mx+69621*mx+7919*(vs.length:Int)+1000003) (b:=2147483647) (by decide)
    generalize hmx:(mx*mx+69621*mx+7919*(vs.length:Int)+1000003).fmod 2147483647=my at f1;have f:=dj (a:=(my*39373).fmod 2147483629) (b:=sz[vs.length]) hs.1;have o1:dS mx mx=true:=gz (by omega) (by omega);have o2:dS 69621 mx=true:=gz (by decide) (by omega);have o3:dS 7919 (vs.length:Int)=true:=gz (by decide) (by omega);have o4:dS my 39373=true:=gz (by omega) (by decide);refine⟨[.sh (.int c),.sh (.lst (sz.map D.int)),.ow (.lst ((vs++[((my*39373).fmod 2147483629).fmod sz[vs.length]]).map D.int)),.sh (.int lf),.sh (.int my),.sh (.int (vs.length:Int))],?_,vs++[((my*39373).fmod 2147483629).fmod sz[vs.length]],by simp,hbn _ f.1 f.2,_,_,_,rfl,f1.1,f1.2⟩;open_line with[rG,gW,decide_eq_false hc,decide_eq_false (show ¬(c.natAbs:Int)≥1000000000000000000 from hc),cu o1,cu o2,cu o3,hmx,cu o4,hix,hsz0,gX hap,List.map_append]) ⟨[],rfl,λi v s e=>(by simp at e),_,_,_,rfl,hmix0.1,hmix0.2⟩
 refine⟨vs,?_,hv,hb⟩;have o0:dS (c.fmod 2147483647) 48271=true:=gz (by omega) (by decide);open_line with[bL,ku,rG,cu o0,List.length_map,ma,nA (show sz.length<=1000000 by omega),hl]
noncomputable def om:bd :=
 (ar (aN 2 (aq (af (ae 0) ax) (m1 rA)))
 (ar (aN 3 (ae 1))
 (ar (fW (jd 3) (aa (ae 3) (dC (.int 0)) gI)
 (ar (oF 2 3 (af (ae 3) (af (aa (ae 2) (ae 3) bR) ax)))
 au))
 (ar (bx (aq (af (aa (ae 0) (ae 2) k7) (af (aa (ae 1) (ae 2) k7) ax)) dm))
 au))))
def aL:ac->ao D:=bH 4 om
theorem tI{A B:Sl}:∀(n:Nat) (a b:Int),0<=a->0<=b->b.natAbs<n->bO (aa (ae 3) (dC (.int 0)) gI) (ar (oF 2 3 (af (ae 3) (af (aa (ae 2) (ae 3) bR) ax))) au) n [A,B,.sh (.int a),.sh (.int b)]=.ok (.nx [A,B,.sh (.int (Int.gcd a b:Int)),.sh (.int 0)])
 |0,a,b,_,_,h=>absurd h (Nat.not_lt_zero _)
 |n+1,a,b,ha,hb,h=>by
  by_cases h0:b=0
  .subst h0
   have hc:(aa (ae 3) (dC (.int 0)) gI) (iA [A,B,.sh (.int a),.sh (.int 0)])=.ok (.bl false):=by
    cases A<;>cases B<;>rfl
   rw[iY hc];have:((Int.gcd a 0:Nat):Int)=a:=by rw[Int.gcd_zero_right];omega
   rw[this]
  .have hc:(aa (ae 3) (dC (.int 0)) gI) (iA [A,B,.sh (.int a),.sh (.int b)])=.ok (.bl true):=by
    have:(b==0)=false:=beq_eq_false_iff_ne.mpr h0;cases A<;>cases B<;>open_line with[this]
   have f:=dj (a:=a) (b:=b) (by omega);have hb0:(b==0)=false:=beq_eq_false_iff_ne.mpr h0;rw[mB (ρ2:=[A,B,.sh (.int b),.sh (.int (a.fmod b))]) hc ?_,tI n b (a.fmod b) (by omega) f.1 (by omega)]
   .rw[ny]
   .cases A<;>cases B<;>open_line with[hb0]
def low_ok{a b:Int}(hb:0<b)(h1:a.natAbs<uK)(h2:b.natAbs<uK):aL [.int a,.int b]=.ok (fr (zm a b)):=by
 have hg:0<(Int.gcd a b:Int):=qU (by omega);have hgn:(Int.gcd (a.natAbs:Int) b:Int)=(Int.gcd a b:Int):=by
  congr 1
 have hl:=tI (A:=.sh (.int a)) (B:=.sh (.int b)) (b.natAbs+1) (a.natAbs:Int) b (by omega) (by omega) (Nat.lt_succ_self _);rw[hgn]at hl;have hwh:∀(c:am) (s:bd),fW (jd 3) c s [.sh (.int a),.sh (.int b),.sh (.int (a.natAbs:Int)),.sh (.int b)]=bO c s (b.natAbs+1) [.sh (.int a),.sh (.int b),.sh (.int (a.natAbs:Int)),.sh (.int b)]:=λ_ _=>rfl;have d1:(Int.gcd a b:Int)∣a:=Int.gcd_dvd_left ..;have d2:(Int.gcd a b:Int)∣b:=Int.gcd_dvd_right ..;have q1:fD a (Int.gcd a b:Int)=true:=rg (by omega) h1;have q2:fD b (Int.gcd a b:Int)=true:=rg (by omega) h2;have e1:a.fdiv (Int.gcd a b:Int)=a / (Int.gcd a b:Int):=ka hg;have e2:b.fdiv (Int.gcd a b:Int)=b / (Int.gcd a b:Int):=ka hg;open_line with[aL,om,rG,hwh,hl,vT q1,vT q2,e1,e2]
 rfl
noncomputable def iy:bd :=
 (ar (aN 1 (aa (aq (af (dC (.int 0)) (af (aa (aa (ae 0) (dC (.int 1)) aD) (dC (.int 7)) bR) (af (aa (aa (ae 0) (dC (.int 1)) aD) (dC (.int 60)) bR) (af (aa (ae 0) (dC (.int 1)) aD) (af (aa (aa (ae 0) (dC (.int 1)) aD) (dC (.int 1000)) bR) ax))))) bG) (aa (ae 0) (dC (.int 0)) aD) aD))
 (ar (aN 2 (aa (aq (af (dC (.int 1)) (af (dC (.int 1)) (af (aa (dC (.int 1)) (aa (ae 0) (dC (.int 2)) aD) bo) (af (dC (.int 1)) (af (aa (dC (.int 1)) (aa (aa (ae 0) (dC (.int 2)) aD) (dC (.int 4)) bR) bo) ax))))) bG) (aa (ae 0) (dC (.int 0)) aD) aD))
 (ar (bx (aq (af (ae 1) (af (ae 2) ax)) aL))
 au)))
def bN:ac->ao D:=bH 3 iy
def lG{w a b:Int}(hw:0<=w/\w<5)(ha:0<=a/\a<1000000000000000000)(hb:0<=b/\b<30):∃x:gN,bN [.lst [.int w,.int a,.int b]]=.ok (fr x)/\qk x/\0<=x.1:=by
 have hN:(1000000000000000000000:Int)<(zi:Int):=by decide
 have f7:=dj (a:=a) (b:=7) (by decide);have f60:=dj (a:=a) (b:=60) (by decide);have f1000:=dj (a:=a) (b:=1000) (by decide);have f4:=dj (a:=b) (b:=4) (by decide);obtain⟨p,q,hp,hq,i1,i2⟩:∃p q:Int,(0<=p/\p<1000000000000000000)/\(1<=q/\q<1000)/\aD (.lst [.int 0,.int (a.fmod 7),.int (a.fmod 60),.int a,.int (a.fmod 1000)]) (.int w)=.ok (.int p)/\aD (.lst [.int 1,.int 1,.int (1+b),.int 1,.int (1+b.fmod 4)]) (.int w)=.ok (.int q):=by
  have:w=0∨w=1∨w=2∨w=3∨w=4:=by omega
  rcases this with rfl|rfl|rfl|rfl|rfl
  .exact⟨0,1,by decide,by decide,rfl,rfl⟩
  .exact⟨a.fmod 7,1,by omega,by decide,rfl,rfl⟩
  .exact⟨a.fmod 60,1+b,by omega,by omega,rfl,rfl⟩
  .exact⟨a,1,by omega,by decide,rfl,rfl⟩
  .exact⟨a.fmod 1000,1+b.fmod 4,by omega,by omega,rfl,rfl⟩
 have hlo:=low_ok (a:=p) (b:=q) (by omega) (Jp (by omega) (by omega)) (Jp (by omega) (by omega));refine⟨zm p q,?_,Jq (by omega) (by omega) (by omega),vE (by omega) (by omega)⟩;open_line with[bN,iy,i1,i2,hlo]
noncomputable def kr:bd :=
 (ar (aN 2 (dC (.str "abcdefghijklmnopqrstuvwxyz")))
 (ar (uZ 3 (aq ax bG))
 (ar (pf (ae 1) (bV 4)
 (ar (aN 5 (ez (ae 0) (bM (aa (dC (.int 10)) (ae 4) bK)) (bM (aa (aa (dC (.int 10)) (ae 4) bK) (dC (.int 10)) bo))))
 (ar (aN 6 (uh (dC (.str "")) (af (cG 1 [2,5] (sG (aa (dC (.int 1)) (aa (ae 5) (dC (.int 0)) aD) bo)) (bV 0) mYes (aa (ae 1) (aa (ae 2) (aa (dC (.int 2)) (ae 0) bo) aD) aD)) ax)))
 (ar (dO (iC (aa (ae 4) (dC (.int 0)) B6) (aa (aa (ae 5) (dC (.int 1)) aD) (dC (.int 0)) iD))
 (ar (wB 6 (aa (ez (aa (ae 3) (aa (ae 4) (dC (.int 1)) fM) aD) dA (bM (aa (ae 5) (dC (.int 0)) aD))) (aa (ae 2) (aa (ae 5) (dC (.int 2)) aD) aD) bo))
 au)
 au)
 (ar (aN 7 (aa (ae 5) (dC (.int 9)) aD))
 (ar (fW (λ_=>30) (aa (ae 6) (ae 3) oY)
 (ar (aN 7 (aa (ae 7) (dC (.int 1)) bo))
 (ar (aN 6 (aa (ez (ae 6) dA (bM (bc (dC (.int 1)) ro))) (aa (ae 2) (aa (ae 7) (dC (.int 26)) bR) aD) bo))
 au)))
 (ar (eB 3 (ae 6))
 au)))))))
 (ar (bx (ae 3))
 au))))
def cJ:ac->ao D:=bH 8 kr
def S(cs:bi):Str:=⟨cs.toArray⟩
def BX{a b:bi}(h:S a=S b):a=b:=by
 have:=congrArg (λs:Str=>s.cps.toList) h;simpa[S] using this
def kB(a:bi):(S a).length=a.length:=HM a
structure lZ (cs:bi):Prop where
 l1:1<=cs.length
 l8:cs.length<=8
 ab:∀x∈cs,nq x=true
def lZ.nameB{cs:bi}(h:lZ cs):Com.nameB (S cs)=true:=by
 unfold Com.nameB;rw[kB];simp only[Bool.and_eq_true,decide_eq_true_eq];exact⟨h.l1,h.l8,List.all_eq_true.mpr λx hx=>h.ab x (by simpa[S] using hx)⟩
def eS(css:List (bi)):ac:=css.map λcs=>D.str (S cs)
def nk{css:List (bi)}{cs:bi}:oY (.str (S cs)) (.lst (eS css))=.ok (.bl (decide (cs∈css))):=by
 have e:eS css=(css.map S).map D.str:=by unfold eS;rw[List.map_map];rfl
 rw[e,fQ]
 congr 2
 apply decide_eq_decide.mpr;constructor
 .intro h
  obtain⟨b,hb,hs⟩:=List.mem_map.mp h;rw[←BX hs];exact hb
 .exact λh=>List.mem_map.mpr ⟨cs,h,rfl⟩
def EI{cs:bi}(h:1<=cs.length)(h8:cs.length<=1000):x8 (.str (S cs)) none (some (-1))=.ok (.str (S cs.dropLast)):=by
 rw[wA (by rw[kB];exact h8)]
 congr 2
 have e1:Txt.slice (S cs) none (some (-1))=Txt.slice (S cs) none (some (-1+((S cs).length:Int))):=StrLaws.sliceText_neg_hi (S cs) none (by decide) (by rw[kB];omega);rw[e1,kB,show(-1+(cs.length:Int))=((cs.length-1:Nat):Int) by omega,show S cs=⟨cs.toArray⟩ from rfl,mH (by omega)];rw[List.dropLast_eq_take];rfl
def fF(pre:bi)(at_:Int)(i:Nat):bi:=pre++[97+((at_+(i:Int)).fmod 26).toNat]
def EL{pre:bi}{at_:Int}{i:Nat}(hl:pre.length<=7)(hp:∀x∈pre,nq x=true):lZ (fF pre at_ i):=by
 have f:=dj (a:=at_+(i:Int)) (b:=26) (by decide);refine⟨by unfold fF;simp,by unfold fF;simp;omega,λx hx=>?_⟩;unfold fF at hx;rw[List.mem_append]at hx;rcases hx with hx|hx
 .exact hp x hx
 .have:x=97+((at_+(i:Int)).fmod 26).toNat:=by simpa using hx
  rw[this];exact we _ (by omega)
theorem mZ{α:Type}[DecidableEq α]:∀{l m:List α},l.Nodup->(∀x∈l,x∈m)->l.length<=m.length
 |[],_,_,_=>Nat.zero_le _
 |a::l,m,nd,h=>by
  rw[List.nodup_cons]at nd;have ha:=h a List.mem_cons_self;have:=mZ (l:=l) (m:=m.erase a) nd.2 λx hx=>by
   have hne:x≠a:=λz=>nd.1 (z▸hx);exact(List.mem_erase_of_ne hne).mpr (h x (List.mem_cons_of_mem _ hx))
  rw[List.length_erase_of_mem ha]at this;have:=List.length_pos_of_mem ha;simp only[List.length_cons];omega
def y8{pre:bi}{at_:Int}{css:List (bi)}(h6:css.length<=6):∃j,j<=6/\fF pre at_ (1+j)∉css:=by
 refine Classical.byContradiction λhno=>?_;have hall:∀j,j<=6->fF pre at_ (1+j)∈css:=λj hj=>Classical.byContradiction λhn=>hno ⟨j,hj,hn⟩;have nd:((List.range 7).map λj=>fF pre at_ (1+j)).Nodup:=by
  rw[List.nodup_iff_pairwise_ne,List.pairwise_map];refine List.Pairwise.imp_of_mem ?_ List.pairwise_lt_range;intro k j hk hj hlt heq;rw[List.mem_range]at hk hj;have h1:=List.append_inj_right heq rfl;have h2:97+((at_+((1+k:Nat):Int)).fmod 26).toNat=97+((at_+((1+j:Nat):Int)).fmod 26).toNat:=by simpa using h1
  rw[Int.fmod_eq_emod_of_nonneg _ (by decide),Int.fmod_eq_emod_of_nonneg _ (by decide)]at h2;omega
 have:=mZ nd (m:=css) λx hx=>by
  obtain⟨j,hj,rfl⟩:=List.mem_map.mp hx;rw[List.mem_range]at hj;exact hall j (by omega)
 simp at this;omega
def wX{a b c e:D}{css:List (bi)}{cs:bi}{at_:Int}(h1:1<=cs.length)(h8:cs.length<=8):(ar (aN 7 (aa (ae 7) (dC (.int 1)) bo))
 (ar (aN 6 (aa (ez (ae 6) dA (bM (bc (dC (.int 1)) ro))) (aa (ae 2) (aa (ae 7) (dC (.int 26)) bR) aD) bo))
 au)) [.sh a,.sh b,.sh (.str "abcdefghijklmnopqrstuvwxyz"),.ow (.lst (eS css)),.sh c,.sh e,.sh (.str (S cs)),.sh (.int at_)]=.ok (.nx [.sh a,.sh b,.sh (.str "abcdefghijklmnopqrstuvwxyz"),.ow (.lst (eS css)),.sh c,.sh e,.sh (.str (S (cs.dropLast++[97+((at_+1).fmod 26).toNat]))),.sh (.int (at_+1))]):=by
 have f:=dj (a:=at_+1) (b:=26) (by decide);have hs:=EI h1 (by omega);have hi:=wc f.1 f.2;have hadd:bo (.str (S cs.dropLast)) (.str ⟨#[97+((at_+1).fmod 26).toNat]⟩)=.ok (.str (S (cs.dropLast++[97+((at_+1).fmod 26).toNat]))):=by
  have hln:(S cs.dropLast).length+(⟨#[97+((at_+1).fmod 26).toNat]⟩:Str).length<=1000:=by
   rw[kB,List.length_dropLast];show cs.length-1+1<=1000;omega
  rw[uD hln];exact congrArg (λz=>ao.ok (D.str z)) (pR cs.dropLast [97+((at_+1).fmod 26).toNat])
 open_line with[hs,hi,hadd]
def AK{a b c e:D}{css:List (bi)}{pre:bi}{at_:Int}(hl:pre.length<=7):∀(d i fuel:Nat),fF pre at_ (i+d)∉css->d<fuel->∃i',bO (aa (ae 6) (ae 3) oY)
 (ar (aN 7 (aa (ae 7) (dC (.int 1)) bo))
 (ar (aN 6 (aa (ez (ae 6) dA (bM (bc (dC (.int 1)) ro))) (aa (ae 2) (aa (ae 7) (dC (.int 26)) bR) aD) bo))
 au)) fuel [.sh a,.sh b,.sh (.str "abcdefghijklmnopqrstuvwxyz"),.ow (.lst (eS css)),.sh c,.sh e,.sh (.str (S (fF pre at_ i))),.sh (.int (at_+(i:Int)))]=.ok (.nx [.sh a,.sh b,.sh (.str "abcdefghijklmnopqrstuvwxyz"),.ow (.lst (eS css)),.sh c,.sh e,.sh (.str (S (fF pre at_ i'))),.sh (.int (at_+(i':Int)))])/\fF pre at_ i'∉css:=by
 intro d
 induction d with
 |zero=>
  intro i fuel hn hf;obtain⟨f,rfl⟩:∃f,fuel=f+1:=⟨fuel-1,by omega⟩
  have hn:fF pre at_ i∉css:=hn;refine⟨i,?_,hn⟩;rw[iY];have:=nk (css:=css) (cs:=fF pre at_ i);rw[decide_eq_false hn]at this;open_line with[this]
 |succ d ih=>
  intro i fuel hn hf;obtain⟨f,rfl⟩:∃f,fuel=f+1:=⟨fuel-1,by omega⟩
  by_cases hm:fF pre at_ i∈css
  .obtain⟨i',h1,h2⟩:=ih (i+1) f (by rw[show i+1+d=i+(d+1) by omega];exact hn) (by omega)
   refine⟨i',?_,h2⟩;have hst:=wX (a:=a) (b:=b) (c:=c) (e:=e) (css:=css) (cs:=fF pre at_ i) (at_:=at_+(i:Int)) (by unfold fF;simp) (by unfold fF;simp;omega);have e1:(fF pre at_ i).dropLast++[97+((at_+(i:Int)+1).fmod 26).toNat]=fF pre at_ (i+1):=by
    unfold fF;rw[List.dropLast_concat,show at_+(i:Int)+1=at_+((i+1:Nat):Int) by omega]
   rw[e1,show at_+(i:Int)+1=at_+((i+1:Nat):Int) by omega]at hst;rw[mB ?_ hst]
   .exact h1
   .have:=nk (css:=css) (cs:=fF pre at_ i)
    rw[decide_eq_true hm]at this;open_line with[this]
  .refine⟨i,?_,hm⟩
   rw[iY];have:=nk (css:=css) (cs:=fF pre at_ i);rw[decide_eq_false hm]at this;open_line with[this]
def wW{a b c e:D}{css:List (bi)}{cs:bi}{at_:Int}(h6:css.length<=6)(h:lZ cs):∃cs' at',bO (aa (ae 6) (ae 3) oY)
 (ar (aN 7 (aa (ae 7) (dC (.int 1)) bo))
 (ar (aN 6 (aa (ez (ae 6) dA (bM (bc (dC (.int 1)) ro))) (aa (ae 2) (aa (ae 7) (dC (.int 26)) bR) aD) bo))
 au)) 30 [.sh a,.sh b,.sh (.str "abcdefghijklmnopqrstuvwxyz"),.ow (.lst (eS css)),.sh c,.sh e,.sh (.str (S cs)),.sh (.int at_)]=.ok (.nx [.sh a,.sh b,.sh (.str "abcdefghijklmnopqrstuvwxyz"),.ow (.lst (eS css)),.sh c,.sh e,.sh (.str (S cs')),.sh (.int at')])/\lZ cs'/\cs'∉css:=by
 by_cases hm:cs∈css
 .have hpl:cs.dropLast.length<=7:=by rw[List.length_dropLast];have:=h.l8;omega
  obtain⟨j,hj,hn⟩:=y8 (pre:=cs.dropLast) (at_:=at_) (css:=css) h6;obtain⟨i',h1,h2⟩:=AK (a:=a) (b:=b) (c:=c) (e:=e) hpl j 1 29 hn (by omega);refine⟨fF cs.dropLast at_ i',at_+(i':Int),?_,EL hpl λx hx=>h.ab x (List.dropLast_subset _ hx),h2⟩;have hst:=wX (a:=a) (b:=b) (c:=c) (e:=e) (css:=css) (cs:=cs) (at_:=at_) h.l1 h.l8;rw[mB ?_ hst]
  .exact h1
  .have:=nk (css:=css) (cs:=cs)
   rw[decide_eq_true hm]at this;open_line with[this]
 .refine⟨cs,at_,?_,h,hm⟩
  rw[iY];have:=nk (css:=css) (cs:=cs);rw[decide_eq_false hm]at this;open_line with[this]
def HD:List Int:=[8,3,26,26,26,26,26,26,26,26,8,3,26,26,26,26,26,26,26,26,8,3,26,26,26,26,26,26,26,26,8,3,26,26,26,26,26,26,26,26,8,3,26,26,26,26,26,26,26,26,8,3,26,26,26,26,26,26,26,26,8,3,26,26,26,26,26,26,26,26]
def HC:∀k,k<7->∀j,j<10->HD[10*k+j]?=some (if j=0 then 8 else if j=1 then 3 else 26):=by decide
structure EU (es:List Int):Prop where
 len:es.length=10
 e0:∃v,es[0]?=some v/\0<=v/\v<8
 e1:∃v,es[1]?=some v/\0<=v/\v<3
 el:∀j,2<=j->j<10->∃v,es[j]?=some v/\0<=v/\v<26
def FR{ds:List Int}(W:Drawn HD ds){k:Nat}(hk:k<7):EU ((ds.drop (10*k)).take 10):=by
 have hl:ds.length=70:=W.len;have at_:∀j,j<10->∃v,((ds.drop (10*k)).take 10)[j]?=some v/\0<=v/\v<(if j=0 then 8 else if j=1 then 3 else 26:Int):=λj hj=>by
  rw[List.getElem?_take_of_lt hj,List.getElem?_drop];obtain⟨v,h1,h2,_⟩:=W.at (10*k+j) (HC k hk j hj);exact⟨v,h1,h2.1,h2.2⟩
 refine⟨by rw[List.length_take,List.length_drop];omega,?_,?_,λj h2 h10=>?_⟩
 .have:=at_ 0 (by decide);simpa using this
 .have:=at_ 1 (by decide);simpa using this
 .obtain⟨v,h⟩:=at_ j h10
  rw[if_neg (by omega),if_neg (by omega)]at h;exact⟨v,h⟩
def EU.ix{es:List Int}{j:Nat}{v:Int}(h:es[j]?=some v):aD (.lst (es.map D.int)) (.int (j:Int))=.ok (.int v):=eL (by rw[List.getElem?_map,h];rfl)
def qw(d:D):ao (ac):=match d with
 |.int j=>if -4611686018427387904<=j/\j<4611686018427387904 then .ok (intsFrom 0 j.toNat) else .stuck
 |_=>.stuck
def nF{f:am}{ρ:Ev}:sG f ρ=(f ρ).bind qw:=aK rfl
def xX{k:Nat}(h:k<=1000000):qw (.int (k:Int))=.ok (intsFrom 0 k):=by
 unfold qw;dsimp only;rw[if_pos ⟨by omega,by omega⟩,Int.toNat_natCast]
def first(es:List Int)(m:Nat):bi:=(List.range m).map λj=>97+((es[2+j]?).getD 0).toNat
def Bg{es:List Int}(T:EU es){m:Nat}(h1:1<=m)(h8:m<=8):lZ (first es m):=by
 refine⟨by unfold first;simpa using h1,by unfold first;simpa using h8,λx hx=>?_⟩;unfold first at hx
 obtain⟨j,hj,rfl⟩:=List.mem_map.mp hx;rw[List.mem_range]at hj;obtain⟨v,e,b⟩:=T.el (2+j) (by omega) (by omega);rw[e,Option.getD_some];exact we _ (by omega)
def vL{es:List Int}(T:EU es){m:Nat}(h8:m<=8){a b n k:D}{x6 x7:Sl}:dY 1 [2,5] (bV 0) mYes (aa (ae 1) (aa (ae 2) (aa (dC (.int 2)) (ae 0) bo) aD) aD) [.sh a,.sh b,.sh (.str "abcdefghijklmnopqrstuvwxyz"),.ow n,.sh k,.sh (.lst (es.map D.int)),x6,x7] (intsFrom 0 m)=.ok (.lst ((first es m).map λc=>D.str ⟨#[c]⟩)):=by
 have hlen:(DL.intsFrom 0 m).length=m:=by unfold DL.intsFrom;simp
 rw[gJ (F:=λd=>match d with|.int j=>.str ⟨#[97+((es[2+j.toNat]?).getD 0).toNat]⟩|d=>d) (by rw[hlen];omega)]
 .congr 2
  unfold DL.intsFrom first
  rw[List.map_map,List.map_map];apply List.map_congr_left;intro j _;show D.str ⟨#[97+((es[2+(0+(j:Int)).toNat]?).getD 0).toNat]⟩=_;rw[show(0+(j:Int)).toNat=j by omega];rfl
 .intro d hd
  unfold DL.intsFrom at hd;obtain⟨j,hj,rfl⟩:=List.mem_map.mp hd;rw[List.mem_range]at hj;obtain⟨v,e,hb⟩:=T.el (2+j) (by omega) (by omega);refine⟨[.sh (.int (0+(j:Int))),.sh (.str "abcdefghijklmnopqrstuvwxyz"),.sh (.lst (es.map D.int))],rfl,rfl,?_⟩;have hix:aD (.lst (es.map D.int)) (.int (2+(0+(j:Int))))=.ok (.int v):=by
   rw[show(2+(0+(j:Int)))=((2+j:Nat):Int) by omega];exact EU.ix e
  open_line with[hix,wc hb.1 hb.2]
  rw[show(0+(j:Int)).toNat=j by omega,e];rfl
def uW{z:Str}{j:Int}(h:(z.length:Int)<=j):Txt.slice z none (some j)=Txt.slice z none (some (z.length:Int)):=by
 show StrLaws.sliceText z none (some j)=StrLaws.sliceText z none (some (z.length:Int));have e:Builtin.Str.strSliceIndices none (some j) 1 z.length=Builtin.Str.strSliceIndices none (some (z.length:Int)) 1 z.length:=by
  have a:¬j<0:=by omega
  have b:¬((z.length:Int)<0):=by omega
  have c:min j (z.length:Int)=(z.length:Int):=by omega
  have d:min (z.length:Int) (z.length:Int)=(z.length:Int):=by omega
  simp[Builtin.Str.strSliceIndices,a,b,c,d]
 unfold StrLaws.sliceText;rw[e]
def vx{α:Type}{l:List α}{x:α}(h:l.Nodup)(hx:x∉l):(l++[x]).Nodup:=by
 rw[List.nodup_append];refine⟨h,by simp,λa ha b hb=>?_⟩;have:b=x:=by simpa using hb
 subst this;intro z;subst z;exact hx ha
set_option maxHeartbeats 1000000 in
def names_ok{ds:List Int}(W:Drawn HD ds){n:Nat}(hn:n<=7):∃css:List (bi),cJ [.lst (ds.map D.int),.int (n:Int)]=.ok (.lst (eS css))/\css.length=n/\css.Nodup/\∀cs∈css,lZ cs:=by
 have hdl:ds.length=70:=W.len;obtain⟨ρ',hl,css,hc,hnd,hnm,x4,x5,x6,x7,rfl⟩:=qW (i:=4) (n:=n)
  (ρ:=[.sh (.lst (ds.map D.int)),.sh (.int (n:Int)),.sh (.str "abcdefghijklmnopqrstuvwxyz"),.ow (.lst []),.no,.no,.no,.no])
  (body:=(ar (aN 5 (ez (ae 0) (bM (aa (dC (.int 10)) (ae 4) bK)) (bM (aa (aa (dC (.int 10)) (ae 4) bK) (dC (.int 10)) bo))))
 (ar (aN 6 (uh (dC (.str "")) (af (cG 1 [2,5] (sG (aa (dC (.int 1)) (aa (ae 5) (dC (.int 0)) aD) bo)) (bV 0) mYes (aa (ae 1) (aa (ae 2) (aa (dC (.int 2)) (ae 0) bo) aD) aD)) ax)))
 (ar (dO (iC (aa (ae 4) (dC (.int 0)) B6) (aa (aa (ae 5) (dC (.int 1)) aD) (dC (.int 0)) iD))
 (ar (wB 6 (aa (ez (aa (ae 3) (aa (ae 4) (dC (.int 1)) fM) aD) dA (bM (aa (ae 5) (dC (.int 0)) aD))) (aa (ae 2) (aa (ae 5) (dC (.int 2)) aD) aD) bo))
 au)
 au)
 (ar (aN 7 (aa (ae 5) (dC (.int 9)) aD))
 (ar (fW (λ_=>30) (aa (ae 6) (ae 3) oY)
 (ar (aN 7 (aa (ae 7) (dC (.int 1)) bo))
 (ar (aN 6 (aa (ez (ae 6) dA (bM (bc (dC (.int 1)) ro))) (aa (ae 2) (aa (ae 7) (dC (.int 26)) bR) aD) bo))
 au)))
 (ar (eB 3 (ae 6))
 au)))))))
  (λk ρ=>∃css:List (bi),css.length=k/\css.Nodup/\(∀cs∈css,lZ cs)/\∃x4 x5 x6 x7,ρ=[.sh (.lst (ds.map D.int)),.sh (.int (n:Int)),.sh (.str "abcdefghijklmnopqrstuvwxyz"),.ow (.lst (eS css)),x4,x5,x6,x7]) (by
   rintro k hk ρ ⟨css,rfl,hnd,hnm,x4,x5,x6,x7,rfl⟩;have T:=FR W (k:=css.length) (by omega);generalize hes:(ds.drop (10*css.length)).take 10=es at T;have hcut:fZ (ds.map D.int) (some (10*(css.length:Int))) (some (10*(css.length:Int)+10))=es.map D.int:=by
    rw[um (a:=10*css.length) (b:=10*css.length+10) (by omega) (by omega) (by omega) (by omega),show 10*css.length+10-10*css.length=10 by omega,hes]
   obtain⟨e0,g0,b0,b0'⟩:=T.e0;obtain⟨e1,g1,b1,b1'⟩:=T.e1;obtain⟨e2,g2,b2,b2'⟩:=T.el 2 (by decide) (by decide);obtain⟨e9,g9,b9,b9'⟩:=T.el 9 (by decide) (by decide);have i0:aD (.lst (es.map D.int)) (.int 0)=.ok (.int e0):=EU.ix (j:=0) g0;have i1:aD (.lst (es.map D.int)) (.int 1)=.ok (.int e1):=EU.ix (j:=1) g1;have i2:aD (.lst (es.map D.int)) (.int 2)=.ok (.int e2):=EU.ix (j:=2) g2;have i9:aD (.lst (es.map D.int)) (.int 9)=.ok (.int e9):=EU.ix (j:=9) g9;obtain⟨m,rfl⟩:=Int.eq_ofNat_of_zero_le b0;have hm1:dS 10 (css.length:Int)=true:=gz (by decide) (by omega);have hsrc:qw (.int (1+(m:Int)))=.ok (DL.intsFrom 0 (1+m)):=by
    rw[show(1+(m:Int))=((1+m:Nat):Int) by omega];exact xX (by omega)
   have hjoin:=vG (cs:=first es (1+m)) (by unfold first;simp;omega);have hF:=Bg T (m:=1+m) (by omega) (by omega);have hcomp:=λ(x6 x7:Sl)=>vL T (m:=1+m) (by omega) (a:=.lst (ds.map D.int)) (b:=.int (n:Int)) (n:=.lst (eS css)) (k:=.int (css.length:Int)) (x6:=x6) (x7:=x7);have hwh:∀(c:am) (s:bd) (ρ:Ev),fW (λ_=>30) c s ρ=bO c s 30 ρ:=λ_ _ _=>rfl;have hap:decide ((eS css).length<=999)=true:=decide_eq_true (by unfold eS;rw[List.length_map];omega);have fin:∀cs,cs∉css->lZ cs->(css++[cs]).Nodup/\∀c∈css++[cs],lZ c:=λcs h1 h2=>⟨vx hnd h1,λc hc=>by
    rw[List.mem_append]at hc;rcases hc with hc|hc
    .exact hnm c hc
    .have:c=cs:=by simpa using hc
     subst this;exact h2⟩
   have hmp:∀cs,eS (css++[cs])=eS css++[.str (S cs)]:=λcs=>by unfold eS;rw[List.map_append];rfl
   have hS:∀cs:bi,(⟨cs.toArray⟩:Str)=S cs:=λ_=>rfl;rw[hS]at hjoin;cases hcc:(decide ((css.length:Int) > 0)&&(e1==0)) with
   |false=>
    obtain⟨cs',at',hw,hN,hO⟩:=wW (a:=.lst (ds.map D.int)) (b:=.int (n:Int)) (c:=.int (css.length:Int)) (e:=.lst (es.map D.int)) (css:=css) (cs:=first es (1+m)) (at_:=e9) (by omega) hF;refine⟨[.sh (.lst (ds.map D.int)),.sh (.int (n:Int)),.sh (.str "abcdefghijklmnopqrstuvwxyz"),.ow (.lst (eS (css++[cs']))),.sh (.int (css.length:Int)),.sh (.lst (es.map D.int)),.sh (.str (S cs')),.sh (.int at')],?_,css++[cs'],by simp,(fin cs' hO hN).1,(fin cs' hO hN).2,_,_,_,_,rfl⟩;rw[hmp]
    by_cases hk0:(css.length:Int) > 0
    .have h10:(e1==0)=false:=by rw[decide_eq_true hk0]at hcc;simpa using hcc
     open_line with[cu hm1,hcut,i0,nF,hsrc,hcomp,hjoin,decide_eq_true hk0,i1,h10,i9,hwh,hw,gX hap]
    .open_line with[cu hm1,hcut,i0,nF,hsrc,hcomp,hjoin,decide_eq_false hk0,i9,hwh,hw,gX hap]
   |true=>
    rw[Bool.and_eq_true,decide_eq_true_eq]at hcc;have hk0:=hcc.1;have hlast:css.length-1<css.length:=by omega
    have hpx:=hnm css[css.length-1] (List.getElem_mem hlast);have hixn:aD (.lst (eS css)) (.int ((css.length:Int)-1))=.ok (.str (S css[css.length-1])):=by
     rw[show((css.length:Int)-1)=((css.length-1:Nat):Int) by omega];exact eL (by unfold eS;rw[List.getElem?_map,List.getElem?_eq_getElem hlast];rfl)
    generalize css[css.length-1]=pv at hixn hpx;have hsl:x8 (.str (S pv)) none (some (m:Int))=.ok (.str (S (pv.take m))):=by
     rw[wA (by rw[kB];have:=hpx.l8;omega)]
     by_cases hmm:m<=pv.length
     .exact congrArg (λz=>ao.ok (D.str z)) (mH hmm)
     .rw[uW (by rw[kB];omega),kB]
      refine congrArg (λz=>ao.ok (D.str z)) ((mH (Nat.le_refl _)).trans ?_);rw[List.take_length,List.take_of_length_le (by omega)];rfl
    have hadd:bo (.str (S (pv.take m))) (.str ⟨#[97+e2.toNat]⟩)=.ok (.str (S (pv.take m++[97+e2.toNat]))):=by
     have hln:(S (pv.take m)).length+(⟨#[97+e2.toNat]⟩:Str).length<=1000:=by
      rw[kB,List.length_take];show min m pv.length+1<=1000;omega
     rw[uD hln];exact congrArg (λz=>ao.ok (D.str z)) (pR (pv.take m) [97+e2.toNat])
    have hset:∀(i:Nat) (ρ:Ev) (z:Str),E9 i ρ (.str z)=.ok (.nx (ρ.set i (.sh (.str z)))):=λ_ _ _=>rfl;have hF2:lZ (pv.take m++[97+e2.toNat]):=by
     refine⟨by simp,by simp;omega,λx hx=>?_⟩;rw[List.mem_append]at hx;rcases hx with hx|hx
     .exact hpx.ab x (List.mem_of_mem_take hx)
     .have:x=97+e2.toNat:=by simpa using hx
      rw[this];exact we _ (by omega)
    obtain⟨cs',at',hw,hN,hO⟩:=wW (a:=.lst (ds.map D.int)) (b:=.int (n:Int)) (c:=.int (css.length:Int)) (e:=.lst (es.map D.int)) (css:=css) (cs:=pv.take m++[97+e2.toNat]) (at_:=e9) (by omega) hF2;refine⟨[.sh (.lst (ds.map D.int)),.sh (.int (n:Int)),.sh (.str "abcdefghijklmnopqrstuvwxyz"),.ow (.lst (eS (css++[cs']))),.sh (.int (css.length:Int)),.sh (.lst (es.map D.int)),.sh (.str (S cs')),.sh (.int at')],?_,css++[cs'],by simp,(fin cs' hO hN).1,(fin cs' hO hN).2,_,_,_,_,rfl⟩;rw[hmp];open_line with[cu hm1,hcut,i0,nF,hsrc,hcomp,hjoin,decide_eq_true hk0,i1,hcc.2,fM,hixn,hsl,i2,wc b2 b2',hadd,D1,hset,i9,hwh,hw,gX hap]) ⟨[],rfl,List.nodup_nil,λc hc=>(nomatch hc),_,_,_,_,rfl⟩
 refine⟨css,?_,hc,hnd,hnm⟩;open_line with[cJ,kr,ma,nA (show n<=1000000 by omega),hl]
noncomputable def dI:bd :=
 (ar (aN 3 (aq (af (ae 0) (af (aq (af (dC (.int 420)) (af (dC (.int 60)) (af (dC (.int 2)) (af (dC (.int 5)) (af (aa (dC (.int 10)) (dC (.int 18)) yX) (af (dC (.int 30)) (af (dC (.int 6)) (af (dC (.int 5)) (af (aa (dC (.int 10)) (dC (.int 18)) yX) (af (dC (.int 30)) (af (dC (.int 3)) ax))))))))))) bG) ax)) bL))
 (ar (aN 4 (aa (aa (ae 3) (dC (.int 0)) aD) (aq (af (ae 2) ax) (m1 cN)) bR))
 (ar (aN 5 (aa (aa (aa (ae 4) (dC (.int 1)) bo) (aa (aa (ae 3) (dC (.int 1)) aD) (aa (aq (af (ae 2) ax) (m1 cN)) (dC (.int 1)) fM) bR) bo) (aq (af (ae 2) ax) (m1 cN)) bR))
 (ar (dO (aa (aa (ae 3) (dC (.int 10)) aD) (dC (.int 0)) iD)
 (ar (aN 4 (aa (ae 1) (aa (aq (af (ae 2) ax) (m1 cN)) (dC (.int 1)) fM) bR))
 (ar (aN 5 (aa (ae 4) (dC (.int 1)) bo))
 au))
 au)
 (ar (aN 6 (dC (.non)))
 (ar (dO (aa (aa (ae 3) (dC (.int 6)) aD) (dC (.int 0)) B6)
 (ar (aN 6 (aq (af (ez (ae 3) (bM (dC (.int 7))) (bM (dC (.int 10)))) ax) bN))
 (ar (dO (aa (aa (ae 6) (dC (.int 0)) aD) (dC (.int 0)) iD)
 (ar (aN 6 (aq (af (dC (.int 1)) (af (dC (.int 1)) ax)) dm))
 au)
 au)
 au))
 au)
 (ar (bx (aq (af (aa (ae 2) (ae 4) aD) (af (aa (ae 2) (ae 5) aD) (af (aa (aq (af (dC (.str "one")) (af (dC (.str "both")) ax)) bG) (aa (ae 3) (dC (.int 2)) aD) aD) (af (aq (af (ez (ae 3) (bM (dC (.int 3))) (bM (dC (.int 6)))) ax) bN) (af (ae 6) ax))))) dm))
 au)))))))
def bB:ac->ao D:=bH 7 dI
def xR:qk (1,1)/\0<((1,1):gN).1:=⟨⟨⟨by decide,by decide⟩,by decide,by decide⟩,by decide⟩
set_option maxHeartbeats 1000000 in
def FQ{zs:List Str}{c:Int}{k:Nat}(h2:2<=zs.length)(h8:zs.length<=8)(nd:zs.Nodup):∃t,bB [.int c,.int (k:Int),.lst (zs.map D.str)]=.ok (aP t)/\jH zs t:=by
 obtain⟨vs,hd,W⟩:=draws_ok c [420,60,2,5,1000000000000000000,30,6,5,1000000000000000000,30,3] (by decide) (by decide);have hd':bL [.int c,.lst [.int 420,.int 60,.int 2,.int 5,.int 1000000000000000000,.int 30,.int 6,.int 5,.int 1000000000000000000,.int 30,.int 3]]=.ok (.lst (vs.map D.int)):=hd;obtain⟨d0,g0,b0,i0⟩:=W.ix 0 0 rfl rfl;obtain⟨d1,g1,b1,i1⟩:=W.ix 1 1 rfl rfl;obtain⟨d2,g2,b2,i2⟩:=W.ix 2 2 rfl rfl;obtain⟨d3,g3,b3,_⟩:=W.at 3 rfl;obtain⟨d4,g4,b4,_⟩:=W.at 4 rfl;obtain⟨d5,g5,b5,_⟩:=W.at 5 rfl;obtain⟨d6,g6,b6,i6⟩:=W.ix 6 6 rfl rfl;obtain⟨d7,g7,b7,_⟩:=W.at 7 rfl;obtain⟨d8,g8,b8,_⟩:=W.at 8 rfl;obtain⟨d9,g9,b9,_⟩:=W.at 9 rfl;obtain⟨d10,g10,b10,i10⟩:=W.ix 10 10 rfl rfl;have c3:=J3 (x:=3) (y:=6) (i:=3) rfl rfl g3 g4 g5;have c7:=J3 (x:=7) (y:=10) (i:=7) rfl rfl g7 g8 g9;obtain⟨x,hx,fx,lx⟩:=lG (w:=d3) (a:=d4) (b:=d5) b3 b4 b5;obtain⟨y,hy,fy,ly⟩:=lG (w:=d7) (a:=d8) (b:=d9) b7 b8 b9;obtain⟨wd,hw,jw⟩:=Cp b2.1 b2.2;have hn0:((zs.length:Int)==0)=false:=beq_eq_false_iff_ne.mpr (by omega);have hn1:((zs.length:Int)-1==0)=false:=beq_eq_false_iff_ne.mpr (by omega);obtain⟨p,q,hp,hq,hpq,hplace⟩:∃p q:Int,(0<=p/\p<(zs.length:Int))/\(0<=q/\q<(zs.length:Int))/\p≠q/\(((d10==0)=true/\p=(k:Int).fmod ((zs.length:Int)-1)/\q=p+1)∨((d10==0)=false/\p=d0.fmod (zs.length:Int)/\q=(d0.fmod (zs.length:Int)+1+d1.fmod ((zs.length:Int)-1)).fmod (zs.length:Int))):=by
  cases h10:(d10==0) with
  |true=>
   have f:=dj (a:=(k:Int)) (b:=(zs.length:Int)-1) (by omega);exact⟨(k:Int).fmod ((zs.length:Int)-1),(k:Int).fmod ((zs.length:Int)-1)+1,by omega,by omega,by omega,.inl ⟨rfl,rfl,rfl⟩⟩
  |false=>
   have f:=dj (a:=d0) (b:=(zs.length:Int)) (by omega);have f':=dj (a:=d1) (b:=(zs.length:Int)-1) (by omega);obtain⟨hr,hne⟩:=qf (n:=(zs.length:Int)) (d:=d0.fmod (zs.length:Int)) (e:=d1.fmod ((zs.length:Int)-1)) (by omega) f.1 f.2 f'.1 f'.2;exact⟨_,_,f,hr,Ne.symm hne,.inr ⟨rfl,rfl,rfl⟩⟩
 obtain⟨z1,k1,j1⟩:=qv (zs:=zs) hp.1 hp.2;obtain⟨z2,k2,j2⟩:=qv (zs:=zs) hq.1 hq.2;have hz12:z1≠z2:=tu nd k1 k2 (by omega);have f1:aD (fr y) (.int 0)=.ok (.int y.1):=rfl;obtain⟨o,ho,hworth⟩:∃o:Option gN,(∀v,o=some v->qk v/\0<v.1)/\((¬d6 > 0/\o=none)∨(d6 > 0/\(y.1==0)=true/\o=some (1,1))∨(d6 > 0/\(y.1==0)=false/\o=some y)):=by
  by_cases h6:d6 > 0
  .cases hy0:(y.1==0) with
   |true=>exact⟨some (1,1),λv hv=>by cases hv;exact xR,.inr (.inl ⟨h6,rfl,rfl⟩)⟩
   |false=>exact⟨some y,λv hv=>by cases hv;exact⟨fy,by have:y.1≠0:=beq_eq_false_iff_ne.mp hy0;omega⟩,.inr (.inr ⟨h6,rfl,rfl⟩)⟩
  .exact⟨none,λv hv=>(nomatch hv),.inl ⟨h6,rfl⟩⟩
 refine⟨⟨z1,z2,wd,x,o⟩,?_,List.mem_of_getElem? k1,List.mem_of_getElem? k2,hz12,hw,fx,lx,ho⟩;rw[show aP ⟨z1,z2,wd,x,o⟩=.tup [.str z1,.str z2,.str wd,fr x,fq o] from rfl];rcases hplace with⟨h10,e1,e2⟩|⟨h10,e1,e2⟩<;>rcases hworth with⟨h6,e3⟩|⟨h6,hy0,e3⟩|⟨h6,hy0,e3⟩<;>subst e3
 .rw[e2,e1]at j2;rw[e1]at j1
  open_line with[bB,dI,gW,hd',i0,i1,i2,i6,i10,List.length_map,hn0,hn1,fM,h10,decide_eq_false h6,j1,j2,jw,c3,hx]
  rfl
 .rw[e2,e1]at j2;rw[e1]at j1
  open_line with[bB,dI,gW,hd',i0,i1,i2,i6,i10,List.length_map,hn0,hn1,fM,h10,decide_eq_true h6,c7,hy,f1,hy0,j1,j2,jw,c3,hx]
  rfl
 .rw[e2,e1]at j2;rw[e1]at j1
  open_line with[bB,dI,gW,hd',i0,i1,i2,i6,i10,List.length_map,hn0,hn1,fM,h10,decide_eq_true h6,c7,hy,f1,hy0,j1,j2,jw,c3,hx]
  rfl
 .rw[e2]at j2;rw[e1]at j1
  open_line with[bB,dI,gW,hd',i0,i1,i2,i6,i10,List.length_map,hn0,hn1,fM,h10,decide_eq_false h6,j1,j2,jw,c3,hx]
  rfl
 .rw[e2]at j2;rw[e1]at j1
  open_line with[bB,dI,gW,hd',i0,i1,i2,i6,i10,List.length_map,hn0,hn1,fM,h10,decide_eq_true h6,c7,hy,f1,hy0,j1,j2,jw,c3,hx]
  rfl
 .rw[e2]at j2;rw[e1]at j1
  open_line with[bB,dI,gW,hd',i0,i1,i2,i6,i10,List.length_map,hn0,hn1,fM,h10,decide_eq_true h6,c7,hy,f1,hy0,j1,j2,jw,c3,hx]
  rfl
def iL{zs:List Str}:numbered 0 (zs.map D.str)=(List.range zs.length).map λ(k:Nat)=>D.tup [.int (k:Int),.str (zs[k]?.getD ("":Str))]:=by
 apply List.ext_getElem?;intro i;rw[cY,List.getElem?_map,List.getElem?_map]
 by_cases h:i<zs.length
 .rw[List.getElem?_eq_getElem h,List.getElem?_range h]
  simp;rw[List.getElem?_eq_getElem h];rfl
 .rw[List.getElem?_eq_none (by omega),List.getElem?_eq_none (by simp;omega)];rfl
def yw{k f l:Nat}:dq (.int (k:Int)) (.tup [.int (f:Int),.int (l:Int)])=.ok (.bl (!(decide (k=f)||decide (k=l)))):=by
 have e:A4 (.int (k:Int)) (.tup [.int (f:Int),.int (l:Int)])=some (decide (k=f)||decide (k=l)):=by
  have e0:A4 (.int (k:Int)) (.tup [.int (f:Int),.int (l:Int)])=some (((f:Int)==(k:Int))||(((l:Int)==(k:Int))||false)):=rfl;rw[e0];refine congrArg some ?_;show(((f:Int)==(k:Int))||(((l:Int)==(k:Int))||false))=_;rw[Bool.or_false]
  congr 1
  .by_cases h:k=f
   .subst h;simp
   .rw[decide_eq_false h];exact beq_eq_false_iff_ne.mpr (by omega)
  .by_cases h:k=l
   .subst h;simp
   .rw[decide_eq_false h];exact beq_eq_false_iff_ne.mpr (by omega)
 unfold dq;rw[e]
def amid(zs:List Str)(f l:Nat):List Str:=((List.range zs.length).filter λk=>!(decide (k=f)||decide (k=l))).map λ(k:Nat)=>zs[k]?.getD ("":Str)
def amid_comp{zs:List Str}{f l:Nat}(h:zs.length<=8){a b x5 x6 x7:Sl}:dY 2 [3,4] (eV [0,1]) (aa (ae 0) (aq (af (ae 2) (af (ae 3) ax)) dm) dq) (ae 1) [a,b,.sh (.lst (zs.map D.str)),.sh (.int (f:Int)),.sh (.int (l:Int)),x5,x6,x7] (numbered 0 (zs.map D.str))=.ok (.lst ((amid zs f l).map D.str)):=by
 rw[lK (F:=λd=>match d with|.tup [_,z]=>z|d=>d) (p:=λd=>match d with|.tup [.int k,_]=>!(decide (k.toNat=f)||decide (k.toNat=l))|_=>false) (by rw[cI,List.length_map];omega)]
 .congr 2
  rw[iL];unfold amid;rw[List.filter_map,List.map_map,List.map_map];rfl
 .intro d hd
  rw[iL]at hd;obtain⟨k,_,rfl⟩:=List.mem_map.mp hd;refine⟨[.sh (.int (k:Int)),.sh (.str (zs[k]?.getD ("":Str))),.sh (.int (f:Int)),.sh (.int (l:Int))],rfl,?_,λ_=>rfl⟩;open_line with[yw,Int.toNat_natCast]
def walk(zs:List Str)(f l:Nat):List Str:=(zs[f]?.getD ("":Str))::(amid zs f l++[zs[l]?.getD ("":Str)])
def HZ(n f l:Nat):bi:=f::((List.range n).filter (λk=>!(decide (k=f)||decide (k=l)))++[l])
def r8{zs:List Str}{f l:Nat}:walk zs f l=(HZ zs.length f l).map λ(k:Nat)=>zs[k]?.getD ("":Str):=by
 unfold walk HZ amid;rw[List.map_cons,List.map_append];rfl
def FJ{n f l:Nat}(hfl:f≠l):(HZ n f l).Nodup:=by
 unfold HZ;rw[List.nodup_cons,List.nodup_append];refine⟨λh=>?_,List.nodup_range.filter _,by simp,λa ha b hb=>?_⟩
 .rw[List.mem_append]at h
  rcases h with h|h
  .have:=(List.mem_filter.mp h).2
   simp at this
  .exact hfl (by simpa using h)
 .have hb':b=l:=by simpa using hb
  subst hb';intro z;subst z;have:=(List.mem_filter.mp ha).2;simp at this
def uO{n f l:Nat}(hf:f<n)(hl:l<n):∀k∈HZ n f l,k<n:=λk hk=>by
 unfold HZ at hk;rw[List.mem_cons,List.mem_append]at hk;rcases hk with rfl|hk|hk
 .exact hf
 .exact List.mem_range.mp (List.mem_filter.mp hk).1
 .have:k=l:=by simpa using hk
  subst this;exact hl
def walk_nd{zs:List Str}(nd:zs.Nodup){f l:Nat}(hf:f<zs.length)(hl:l<zs.length)(hfl:f≠l):(walk zs f l).Nodup:=by
 rw[r8,List.nodup_iff_pairwise_ne,List.pairwise_map];refine List.Pairwise.imp_of_mem ?_ (List.nodup_iff_pairwise_ne.mp (FJ hfl));intro a b ha hb hab;have h1:=uO hf hl a ha;have h2:=uO hf hl b hb;rw[List.getElem?_eq_getElem h1,List.getElem?_eq_getElem h2,Option.getD_some,Option.getD_some];exact λz=>hab ((List.getElem_inj nd).mp z)
def walk_sub{zs:List Str}{f l:Nat}(hf:f<zs.length)(hl:l<zs.length):∀z∈walk zs f l,z∈zs:=λz hz=>by
 rw[r8]at hz;obtain⟨k,hk,rfl⟩:=List.mem_map.mp hz;have h1:=uO hf hl k hk;rw[List.getElem?_eq_getElem h1,Option.getD_some];exact List.getElem_mem h1
def walk_len{zs:List Str}(nd:zs.Nodup){f l:Nat}(hf:f<zs.length)(hl:l<zs.length)(hfl:f≠l):2<=(walk zs f l).length/\(walk zs f l).length<=zs.length:=by
 refine⟨by unfold walk;simp,mZ (walk_nd nd hf hl hfl) (walk_sub hf hl)⟩
def ties_comp{ws:List Str}{cs:List Int}(h2:2<=ws.length)(h8:ws.length<=8)(nd:ws.Nodup)(h14:cs.length<=14){x0 x1 x2 x3 x4 x5 x7:Sl}:∃ts:List oq,dY 2 [6] (eV [0,1]) mYes (aq (af (ae 1) (af (ae 0) (af (ae 2) ax))) bB) [x0,x1,x2,x3,x4,x5,.sh (.lst (ws.map D.str)),x7] (numbered 0 (cs.map D.int))=.ok (.lst (ts.map aP))/\ts.length=cs.length/\∀t∈ts,jH ws t:=by
 have key:∀(c:Int) (k:Nat),∃t,bB [.int c,.int (k:Int),.lst (ws.map D.str)]=.ok (aP t)/\jH ws t:=λc k=>FQ h2 h8 nd;obtain⟨g,hg⟩:∃g:Int->Nat->oq,∀(c:Int) (k:Nat),bB [.int c,.int (k:Int),.lst (ws.map D.str)]=.ok (aP (g c k))/\jH ws (g c k):=⟨λc k=>Classical.choose (key c k),λc k=>Classical.choose_spec (key c k)⟩
 refine⟨(List.range cs.length).map λ(k:Nat)=>g (cs[k]?.getD 0) k,?_,by simp,λt ht=>?_⟩
 .rw[gJ (F:=λd=>match d with|.tup [.int k,.int c]=>aP (g c k.toNat)|d=>d) (by rw[cI,List.length_map];omega)]
  .congr 2
   apply List.ext_getElem?;intro i;rw[List.getElem?_map,cY,List.getElem?_map,List.getElem?_map,List.getElem?_map]
   by_cases h:i<cs.length
   .rw[List.getElem?_eq_getElem h,List.getElem?_range h]
    show some (aP (g cs[i] (((0+i:Nat):Int)).toNat))=some (aP (g (cs[i]?.getD 0) i));rw[List.getElem?_eq_getElem h,Option.getD_some,Int.toNat_natCast,Nat.zero_add]
   .rw[List.getElem?_eq_none (by omega),List.getElem?_eq_none (by simp;omega)];rfl
  .intro d hd
   obtain⟨i,hi⟩:=List.mem_iff_getElem?.mp hd;rw[cY,List.getElem?_map]at hi;cases e:cs[i]? with
   |none=>rw[e]at hi;cases hi
   |some c=>
    rw[e]at hi;have hi':D.tup [.int ((0+i:Nat):Int),.int c]=d:=Option.some.inj hi;rw[Nat.zero_add]at hi';subst hi';refine⟨[.sh (.int (i:Int)),.sh (.int c),.sh (.lst (ws.map D.str))],rfl,rfl,?_⟩;have h:=(hg c i).1;open_line with[h,Int.toNat_natCast]
 .obtain⟨k,_,rfl⟩:=List.mem_map.mp ht
  exact(hg _ _).2
end Cod
namespace DL
open PySem PySem.Spec PyProof.Rows L2
section
variable {prog:Program}{w:World}{A:Around}{E:Value->Shared->Prop}{h:Heap}{g:Array GenState}{d:Drawn}{t:Nat}{os:OsState}
variable {nm q:Str}{C N:Addr}{bs bm bmB:List Value}{hdct:Bool}{sn:List Str}{sub:List Value}{ab:Bool}{col:Option Bool}{dd:Option Addr}{k0 k1 k2 k3 k5:Option Value}{B newId initId:String}{mN:Str->Option Value}{rest:List Value}{fI:Addr}{oI:Obj}
def Cg{Q:Fin->Shared->Prop}(F:ExcBaseFacts B newId initId bmB)(T:OwnTail h bmB bm)(hC:h.get? C=some (excClassObj nm q C N bs bm hdct sn sub ab col dd k0 k1 k2 k3 k5 newId))(hn:h.Ns N mN)(hi:mN "__init__"=some (.ref fI))(hfI:h.get? fI=some oI)(hfc:oI.cls=.type "function")(hrest:rest.length<=sizeLine)
  (hq:∀h' e,Heap.MadeExcOf h h' e (.ref C) rest->wpAny (model prog w) A (call (.ref fI) (.ref e::rest)) (λr s'=>r=.none/\Q (.done (.ret (.ref e))) s') E ⟨h',g,d,t,os⟩):wpAny (model prog w) A (Builtin.«type.__call__» ⟨.ref C::rest,[]⟩) Q E ⟨h,g,d,t,os⟩:=by
 repeat (first|with_reducible refine wpAny_loadPart_at hC ?_|with_reducible refine wpAny_madeBy_exc hC ?_|wp_step)
 refine codeAny_call_builtin_code (Code.quiet_builtin _ F.quiet) (wpAny_check_new_subT F T hC (codeAny_exc_new_subT F T hC ?_ hrest));generalize hT0:({ cls:=.type "tuple",data:=.seq rest.toArray }:Obj)=o0;generalize hX0:({ cls:=.ref C,data:=.fields #[.ref h.objs.size,.none,.none,.none,.bool false,.none] }:Obj)=o1;have kp:∀b o,h.get? b=some o->((h.push o0).push o1).get? b=some o:=λb o hb=>Heap.get?_push_of_some o1 (Heap.get?_push_of_some o0 hb);have hget:((h.push o0).push o1).get? (h.objs.size+1)=some o1:=by subst hX0 hT0;heap_get
 have hc1:o1.cls=.ref C:=by subst hX0;rfl
 have hcC:(Value.ref C::bm).contains (.ref C)=true:=by simp
 show wpAny _ _ _ _ _ _;unfold isInstance
 repeat (first|(with_reducible refine wpAny_loadPart_at hget ?_;try rw[hc1])|(with_reducible refine wpAny_isSubtype_exc (kp _ _ hC) ?_;rw[hcC])|wp_step)
 show wpAny _ _ (typeLookup (.ref C) _) _ _ _;refine wpAny_typeLookup_tail (kp _ _ hC) (hn.keeps kp) (T.keeps kp) F.mroIs F.init.lookup ?_;rw[hi];refine wpAny_holding (wpAny_bind (show wpAny _ _ (bindSpecial _ _) _ _ _ from ?_));unfold bindSpecial;refine wpAny_bind (wpAny_typeOf (T:="function") ⟨_,kp _ _ hfI,hfc⟩ ?_);rw[if_pos (by decide)];refine wpAny_pure (wpAny_bind (wpAny_mono (hq _ (h.objs.size+1) ⟨kp,Heap.get?_none_of_le (Nat.le_succ _),h.objs.size,by rw[hX0];exact hget,Heap.get?_none_of_le (Nat.le_refl _),?_⟩) (λr s' hr=>?_) λ_ _ x=>x))
 .subst hT0;exact Heap.get?_push_of_some _ (Heap.get?_push_at rfl rfl)
 .obtain⟨rfl,hQ⟩:=hr
  wp_walk
  exact hQ
def Ck{Q:Value->Shared->Prop}(F:ExcBaseFacts B newId initId bmB)(T:OwnTail h bmB bm)(hC:h.get? C=some (excClassObj nm q C N bs bm hdct sn sub ab col dd k0 k1 k2 k3 k5 newId))(hn:h.Ns N mN)(hi:mN "__init__"=some (.ref fI))(hfI:h.get? fI=some oI)(hfc:oI.cls=.type "function")(hrest:rest.length<=sizeLine)
  (hq:∀h' e,Heap.MadeExcOf h h' e (.ref C) rest->wpAny (model prog w) (A.under (.builtin "type.__call__" ⟨.ref C::rest,[]⟩)) (call (.ref fI) (.ref e::rest)) (λr s'=>r=.none/\Q (.ref e) s') E ⟨h',g,d,t,os⟩):wpAny (model prog w) A (call (.ref C) rest) Q E ⟨h,g,d,t,os⟩:=by
 have f1:=tc_lookup;have f2:=tc_bind (.ref C);have hT:(⟨h,g,d,t,os⟩:Shared).TypeIs (.ref C) "type":=⟨_,hC,rfl⟩
 refine wpAny_call (codeAny_of_tree (show wpAny _ _ (callAny (.ref C) _) _ _ _ from ?_))
 repeat (any_goals (first|assumption|with_reducible refine wpAny_loadPart_at hC ?_|wp_step))
 exact⟨rfl,codeAny_call_builtin_at (Code.quiet_builtin _ (by decide +kernel)) entry_typeCall (wpAny_check_type_call_sub hC (Cg F T hC hn hi hfI hfc hrest λh' e hm=>hq h' e hm))⟩
end
section
variable {M:Model}{A:Around}{E:Value->Shared->Prop}{env:PySem.Env}
variable {nm q:Str}{C N:Addr}{bs bm:List Value}{hdct:Bool}{sn:List Str}{sub:List Value}{ab:Bool}{col:Option Bool}{dd:Option Addr}{k0 k1 k2 k3 k5:Option Value}{newId:String}
def zw{s:Shared}{x:Sem Value}{Q:Flow->Shared->Prop}(hbase:bm.contains (.type "BaseException")=true)(hh:A.handled=none)
  (h:wpAny M A x (λv sg=>∃e dc t,v=.ref e/\sg.heap.get? C=some (excClassObj nm q C N bs bm hdct sn sub ab col dd k0 k1 k2 k3 k5 newId)/\sg.heap.get? e=some ⟨.ref C,dc,.fields #[.ref t,.none,.none,.none,.bool false,.none],#[]⟩/\E (.ref e) sg) E s):wpAny M A (raiseStmt env (some x) none) Q E s:=by
 have hcB:(Value.ref C::bm).contains (.type "BaseException")=true:=by rw[List.contains_cons,hbase,Bool.or_true]
 unfold raiseStmt;refine wpAny_bind (wpAny_mono h (λv sg ⟨e,dc,t,hv,hC,he,hE⟩=>?_) λ_ _ x=>x);subst hv;obtain⟨hp,g,d,tk,os⟩:=sg
 repeat (first|with_reducible refine wpAny_loadPart_at he ?_|with_reducible refine wpAny_loadPart_at hC ?_|(with_reducible refine wpAny_isSubtype_exc hC ?_;rw[hcB])|wp_step)
 exact wpAny_raiseNew_none hh hE
end
def iE:List Value->Bool
 |.ref _::r=>iE r
 |l=>l==[.type "ValueError",.type "Exception",.type "BaseException",.type "object"]
theorem pj(self:Value):∀{l:List Value},iE l=true->refuseLoop self "__setattr__" l=pure ()
 |[],e=>by cases e
 |x::r,e=>by
  cases x with|ref c=>rw[refuseLoop_ref];exact pj self (l:=r) (by unfold iE at e;exact e)| _=>unfold iE at e;rw[beq_iff_eq.mp e];exact PySem.F.store_ValueError.passes self
theorem zB:∀{l:List Value},iE l=true->l.contains (.type "object")=true
 |[],e=>by cases e
 |x::r,e=>by
  cases x with|ref c=>rw[List.contains_cons,zB (l:=r) (by unfold iE at e;exact e),Bool.or_true]| _=>unfold iE at e;rw[beq_iff_eq.mp e];decide
structure BU (K:W.Frag) (C:Addr) (ks:List Str):Prop where
 sa:W.findIn K (.ref C) "__setattr__"=some (some (.builtin "object.__setattr__"))
 hd:W.hasDictIn K C=true
 mr:(W.clsIn K C).any (λcd=>iE cd.mro)=true
 no:∀f∈ks,lp K C f
section
variable {prog:Program}{w:World}{A:Around}{K:W.Frag}{C x:Addr}{s:Shared}{R:Result->Shared->Prop}
def wu{ox:Obj}{od:Option Obj}{name:Str}{tk:Tok}{v:Value}{ks:List Str}(X:K.In s.heap)(I:W.InstAt s.heap x ox C od)(c:BU K C ks)(hf:name∈ks)
  (h:∀b,wpAny (model prog w) A.in1 (Builtin.ObjectAttr.storeInOwnDict (.ref x) (.ref C) (.str name tk) name v b) (λfin s'=>match fin with|.done f=>R (.ok f) s'|.again c'=>c'.quiet=true/\codeAny (model prog w) A c' R s') (λe s'=>R (.error e) s') s) :
  codeAny (model prog w) A (.call (.builtin "object.__setattr__") ⟨[.ref x,.str name tk,v],[]⟩) R s:=by
 have SF:=PySem.F.store_object;obtain⟨cd,hc,ho⟩:=W.any_some c.mr;have ne:cd.mro.isEmpty=false:=by cases q:cd.mro with|nil=>rw[q]at ho;cases ho|cons _ _=>rfl
 have sub:W.Looks (model prog w) s.heap (isInstance (.ref x) (.type "object")) true:=I.type.andThen (W.looks_mroIn X (by unfold W.mroIn;rw[hc,Option.bind_some,if_neg (by rw[ne];decide),zB ho]));refine codeAny_call_builtin SF.slot.plain SF.entry (@W.check_slot (model prog w) _ _ s "object.__setattr__" "object" "__setattr__" (.ref x) [.str name tk,v] [] _ SF.kind SF.split sub (SF.args (.ref x) (.str name tk) v) ?_);have hm:W.Looks (model prog w) s.heap (mroOf (.ref C)) cd.mro:=(W.looks_clsIn X hc).andThen .now;rw[W.osa_eq,refuse_eq];refine wpAny_bind (wpAny_bind (I.type.here (wpAny_bind (hm.here ?_))));rw[pj _ ho];refine wpAny_pure ?_;have L3:W.Looks (model prog w) s.heap (Builtin.ObjectAttr.storeTaker? none) none:=.now;have L2:W.Looks (model prog w) s.heap (typeLookup (.ref C) name) none:=W.looks_findIn X (c.no name hf);refine wpAny_bind (I.type.here (wpAny_bind (L2.here (wpAny_bind (L3.here ?_)))));exact h _
def Cj{E:Value->Shared->Prop}{Q:Unit->Shared->Prop}{name:Str}{v:Value}{ks:List Str}{fs:Array Value}(X:K.In s.heap)(hx:s.heap.get? x=some ⟨.ref C,none,.fields fs,#[]⟩)(c:BU K C ks)(hf:name∈ks)
  (h:∀h',h'.get? x=some ⟨.ref C,some s.heap.objs.size,.fields fs,#[]⟩->h'.Ns1 s.heap.objs.size (λy=>if y=name then some v else none)->(∀b o,b≠x->s.heap.get? b=some o->h'.get? b=some o)->Q () { s with heap:=h',toks:=s.toks+2 }) :
  wpAny (model prog w) A (setAttr (.ref x) name v) Q E s:=by
 have J:W.InstAt s.heap x ⟨.ref C,none,.fields fs,#[]⟩ C none:=⟨hx,rfl,rfl,trivial⟩
 refine W.set_plain X J c.sa (wu (s:={ s with toks:=s.toks+1 }) X J c hf λb=>?_);obtain⟨cd,hc,hd'⟩:=W.any_some c.hd;refine wpAny_bind (wpAny_pure (wpAny_bind (wpAny_bind (wpAny_loadPart hx (wpAny_bind (W.Looks.here (s:={ s with toks:=s.toks+1 }) (W.looks_clsIn X hc) ?_))))));rw[hd'];have hx₁:(s.heap.push W.emptyDict).get? x=some ⟨.ref C,none,.fields fs,#[]⟩:=Heap.get?_push_of_some _ hx;have hxs:x≠s.heap.objs.size:=Nat.ne_of_lt (Heap.lt_size hx);have hgd:((s.heap.push W.emptyDict).update x λo=>{ o with dict:=some s.heap.objs.size }).get? s.heap.objs.size=some W.emptyDict:=(Heap.get?_update_ne _ _ _ _ hxs.symm).trans (Heap.get?_push_at rfl rfl);have hnd:((s.heap.push W.emptyDict).update x λo=>{ o with dict:=some s.heap.objs.size }).Ns s.heap.objs.size (λ_=>none):=⟨_,#[],_,hgd,rfl,λe he=>absurd he (by simp),λ_=>rfl⟩
 have hx2:((s.heap.push W.emptyDict).update x λo=>{ o with dict:=some s.heap.objs.size }).get? x=some ⟨.ref C,some s.heap.objs.size,.fields fs,#[]⟩:=Heap.get?_update_self _ hx₁ rfl;refine wpAny_bind (wpAny_alloc' (wpAny_bind (wpAny_update' hx₁ (wpAny_pure ?_))));refine wpAny_bind (wpAny_pure (wpAny_bind (wpAny_nsSet1 (Heap.Ns1.of_empty hnd) λh' hn' hs=>?_)));obtain⟨oD,esD,epD,hoD,hdD,hcD⟩:=hn'.count (PySem.Within.cons name v PySem.Within.nil);refine wpAny_bind (wpAny_lookBehind hoD (by rw[hdD];exact pastItsLine_dict (Nat.le_trans hcD (by rw[List.length_cons,List.length_nil,sizeLine_eq];omega))) (wpAny_pure (h h' ?_ hn' λb o hb e=>?_)))
 .exact(hs.2 x hxs).trans hx2
 .exact(hs.2 b (Nat.ne_of_lt (Heap.lt_size e))).trans ((Heap.get?_update_ne _ _ _ _ hb).trans (Heap.get?_push_of_some _ e))
def Ci{E:Value->Shared->Prop}{Q:Unit->Shared->Prop}{name:Str}{v:Value}{ks ns:List Str}{fs:Array Value}{dx:Addr}{mA:Str->Option Value}(X:K.In s.heap)(hx:s.heap.get? x=some ⟨.ref C,some dx,.fields fs,#[]⟩)(hn:s.heap.Ns1 dx mA)(hne:dx≠x)(hw:PySem.Within mA ns)(hsz:ns.length<=sizeLine)(c:BU K C ks)(hf:name∈ks)
  (h:∀h',h'.Ns1 dx (λy=>if y=name then some v else mA y)->Heap.SameBut dx s.heap h'->Q () { s with heap:=h',toks:=s.toks+2 }):wpAny (model prog w) A (setAttr (.ref x) name v) Q E s:=by
 obtain⟨od,hod,hl⟩:=pD hn;have J:W.InstAt s.heap x ⟨.ref C,some dx,.fields fs,#[]⟩ C (some od):=⟨hx,rfl,rfl,hod⟩
 refine W.set_plain X J c.sa (wu (s:={ s with toks:=s.toks+1 }) X J c hf λb=>?_);obtain⟨cd,hc,hd'⟩:=W.any_some c.hd;refine wpAny_bind (wpAny_pure (wpAny_bind (wpAny_bind (wpAny_loadPart hx (wpAny_bind (W.Looks.here (s:={ s with toks:=s.toks+1 }) (W.looks_clsIn X hc) ?_))))));rw[hd'];refine wpAny_pure (a:=some dx) (wpAny_bind (wpAny_pure (wpAny_bind (wpAny_nsSet1 (s:={ s with toks:=s.toks+1 }) hn λh' hn2 hs2=>?_))));obtain⟨oD,esD,epD,hoD,hdD,hcD⟩:=hn2.count (PySem.Within.cons name v hw);exact wpAny_bind (wpAny_lookBehind hoD (by rw[hdD];exact pastItsLine_dict (Nat.le_trans hcD (by rw[List.length_cons];omega))) (wpAny_pure (h _ hn2 hs2)))
end
def oy(a C:Addr)(dc:Option Addr)(h:Heap):Prop:=∃t,h.get? a=some ⟨.ref C,dc,.fields #[.ref t,.none,.none,.none,.bool false,.none],#[]⟩
def uL(a:Addr)(fs:List (Str×V))(h:Heap):Prop:=∃mA,h.Ns1 a mA/\(∀f,jR (fs.lookup f) (mA f))/\PySem.Within mA (fs.map (·.1))
def nD{a C:Addr}{dc:Option Addr}:∀h1 h2:Heap,oy a C dc h1->(∀o,h1.get? a=some o->h2.get? a=some o)->oy a C dc h2:=λ_ _ ⟨t,e⟩ k=>⟨t,k _ e⟩
def rY{a:Addr}{fs:List (Str×V)}:∀h1 h2:Heap,uL a fs h1->(∀o,h1.get? a=some o->h2.get? a=some o)->uL a fs h2:=λ_ _ ⟨m,n,r⟩ k=>⟨m,n.at k,r⟩
def kG{a:Addr}{fs:List (Str×V)}{h:Heap}(x:uL a fs h):∃o,h.get? a=some o:=let ⟨_,⟨o,_,_,e,_⟩,_⟩:=x;⟨o,e⟩
def l3{a:Addr}{fs:List (Str×V)}{h:Heap}{mA:Str->Option Value}{f:Str}{y:V}{u:Value}(ry:bb y u)(r:∀f,jR (fs.lookup f) (mA f))(wi:PySem.Within mA (fs.map (·.1)))(n:h.Ns1 a (λz=>if z=f then some u else mA z)):uL a (iB f y fs) h:=by
 refine⟨_,n,λg=>?_,λg hg=>?_⟩
 .rw[lB]
  by_cases q:g=f
  .rw[if_pos q];simp only[if_pos q];exact ry
  .rw[if_neg q];simp only[if_neg q];exact r g
 .by_cases q:g=f
  .rw[q];exact(kQ f y fs).1
  .exact(kQ f y fs).2 g (wi g λz=>hg (by simp only[if_neg q];exact z))
section
variable {X:Cx}{o value:Expr}{f:Str}{pos pos':Pos}{ta tv:TE}
noncomputable def L7(K:W.Frag) (ta tv:TE) (f:Str):TS:=λD σ H=>tv σ H λy H1=>ta σ H1 λx H2=>∃a C dx l ks,x=.ref a/\H2 a=some (.ext (oy a C (some dx)))/\H2 dx=some (.ext (uL dx l))/\dx≠a/\BU K C ks/\f∈ks/\l.length<1000/\D.nx σ (upd H2 dx (.ext (uL dx (iB f y l))))
def L8(K:W.Frag)(ta tv:TE)(f:Str):TS:=λD σ H=>tv σ H λy H1=>ta σ H1 λx H2=>∃a C ks,x=.ref a/\H2 a=some (.ext (oy a C none))/\BU K C ks/\f∈ks/\∀dx,H2 dx=none->D.nx σ (upd (upd H2 a (.ext (oy a C (some dx)))) dx (.ext (uL dx [(f,y)])))
def IU(ha:PE X o ta)(hv:PE X value tv)(hs:swapsWith value (some (.Attribute o f pos')) pos.line X.env=pure false):PS X (.Assign [.Attribute o f pos'] value pos) (L7 X.K ta tv f):=by
 intro pins s σ H D I h;refine plainObj_wpAny_Assign_Attribute (cA (hv pins s σ H _ I h) λu s1 ⟨y,H1,I1,ry,q⟩=>cA (ha pins s1 σ H1 _ I1 q) λov s2 z9=>?_) hs;obtain⟨x,H2,I2,rx,a,C,dx,l,ks,ex,ea,ed,hne,c,hf,hl,q2⟩:=z9;subst ex;obtain rfl:ov=Value.ref a:=rx;obtain⟨⟨t,hx⟩,_,_⟩:=(show br X.prog X.w H2 s2.heap a (.ext _) from I2.hok a _ ea)
 obtain⟨⟨mA,n,r,wi⟩,_,_⟩:=(show br X.prog X.w H2 s2.heap dx (.ext _) from I2.hok dx _ ed)
 refine Ci I2.kIn hx n hne wi (by rw[List.length_map,sizeLine_eq];omega) c hf λh' n' sb=>⟨σ,_,I2.write (o:=.ext (uL dx (iB f y l))) (x:=dx) (e:=dx) (by rw[ed];exact True.intro) (.inl rfl) (λb q hb z=>(sb.2 b hb).trans z) (kG (l3 ry r wi n')) ⟨l3 ry r wi n',kG (l3 ry r wi n'),rY⟩,q2⟩
def IV(ha:PE X o ta)(hv:PE X value tv)(hs:swapsWith value (some (.Attribute o f pos')) pos.line X.env=pure false):PS X (.Assign [.Attribute o f pos'] value pos) (L8 X.K ta tv f):=by
 intro pins s σ H D I h;refine plainObj_wpAny_Assign_Attribute (cA (hv pins s σ H _ I h) λu s1 ⟨y,H1,I1,ry,q⟩=>cA (ha pins s1 σ H1 _ I1 q) λov s2 z9=>?_) hs;obtain⟨x,H2,I2,rx,a,C,ks,ex,ea,c,hf,q2⟩:=z9;subst ex;obtain rfl:ov=Value.ref a:=rx;obtain⟨⟨t,hx⟩,_,_⟩:=(show br X.prog X.w H2 s2.heap a (.ext _) from I2.hok a _ ea)
 have fr:H2 s2.heap.objs.size=none:=I2.hok.fresh (Nat.le_refl _);have hne:s2.heap.objs.size≠a:=λz=>Nat.lt_irrefl _ (z▸Heap.lt_size hx);refine Cj I2.kIn hx c hf λh' e' n' k'=>⟨σ,_,?_,q2 s2.heap.objs.size fr⟩
 have p:uL s2.heap.objs.size [(f,y)] h':=l3 (fs:=[]) (mA:=λ_=>none) ry (λ_=>True.intro) (λ_ z=>absurd rfl z) n';have mu:HY (H2 a):=by rw[ea];exact True.intro
 have fr':(upd H2 a (.ext (oy a C (some s2.heap.objs.size)))) s2.heap.objs.size=none:=by rw[az hne];exact fr
 exact I2.un (Un.ext (Un.write mu (.inl rfl) (λb q hb z=>k' b q hb z) ⟨_,e'⟩) fr' (Heap.get?_none_of_le (Nat.le_refl _))) (er.ext (I2.hok.write (o':=.ext (oy a C (some s2.heap.objs.size))) mu (.inl rfl) (λb q hb z=>k' b q hb z) ⟨_,e'⟩ ⟨⟨t,e'⟩,⟨_,e'⟩,nD⟩) fr' p (kG p) rY)
end
def Ip(is:bi):TA:=λσ H Q=>∃vs,is.map (λi=>σ[i]?)=vs.map (λv=>some (some v))/\Q vs H
structure PV (X:Cx) (es:List Expr) (is:bi):Prop where
 o:PA X es (Ip is)
section
variable {X:Cx}
def Gd:PV X [] []:=⟨λpos pins s σ H Q I ⟨vs,e,h⟩=>by
 cases vs with
 |nil=>exact dQ pos pins s σ H Q I h
 |cons v vs=>simp at e⟩
def qD{es:List Expr}{is:bi}{i:Nat}{y:Str}{p:Pos}(hN:X.N[i]?=some y)(hv:zg X.env.scope y)(h:PV X es is)(hd:(y==("__debug__":Str))=false:=by decide)(hcd:(y==("__classdict__":Str))=false:=by decide):PV X (.Name y p::es) (i::is) :=
 ⟨λpos pins s σ H Q I ⟨vs,e,q⟩=>by
  cases vs with
  |nil=>simp at e
  |cons v vs=>
   simp only[List.map_cons,List.cons.injEq]at e;exact bP (fX hN hv hd hcd) h.o (aI rfl) pos pins s σ H Q I ⟨v,e.1,vs,e.2,q⟩⟩
structure BV (K:W.Frag) (CE:Addr):Prop where
 rd:W.readsIn K CE (.type "type")=true
 fc:W.findCls K (.ref CE) (.type "type") "__init__"=some (.val (.builtin "ValueError.__init__"))
 sp:W.specialIn K (.ref CE) "__getattribute__"=some (some (.builtin "type.__getattribute__"))
structure Fv (K:W.Frag) (C fn:Addr):Prop where
 ex:∃CE nm q N bs hdct sn sub ab col dd k0 k1 k2 k3 k5,K.lookup C=some (excClassObj nm q C N bs [.ref CE,.type "ValueError",.type "Exception",.type "BaseException",.type "object"] hdct sn sub ab col dd k0 k1 k2 k3 k5 "ValueError.__new__")/\W.nsOkIn K N=true/\W.nsIn K N "__init__"=some (some (.ref fn)) /\
  W.excIn K CE [.type "ValueError",.type "Exception",.type "BaseException",.type "object"] "ValueError.__new__"=true
def Dl{K:W.Frag}{h:Heap}{N:Addr}{mg:Str->Option Value}{n:Str}{v:Value}(X:K.In h)(G:h.Ns N mg)(e:W.nsIn K N n=some (some v)):mg n=some v:=by
 obtain⟨o,es,ep,ho,hd,_,hf⟩:=G;unfold W.nsIn at e;split at e
 .rename_i c d es' n' sl q
  have:=X _ _ q;rw[ho]at this;cases this;cases hd;split at e
  .rename_i en he
   rw[←hf];unfold nsFind findBy;rw[←Array.find?_toList,he];simpa using e
  .split at e<;>cases e
 .cases e
structure Lo (h:Heap) (C fn:Addr):Prop where
 ex:∃bm N nm q bs hdct sn sub ab col dd k0 k1 k2 k3 k5 mN,h.get? C=some (excClassObj nm q C N bs bm hdct sn sub ab col dd k0 k1 k2 k3 k5 "ValueError.__new__")/\h.Ns N mN/\mN "__init__"=some (.ref fn)/\OwnTail h [.type "ValueError",.type "Exception",.type "BaseException",.type "object"] bm
def zJ{K:W.Frag}{CE:Addr}{h:Heap}(X:K.In h)(q:W.excIn K CE [.type "ValueError",.type "Exception",.type "BaseException",.type "object"] "ValueError.__new__"=true):OwnTail h [.type "ValueError",.type "Exception",.type "BaseException",.type "object"] [.ref CE,.type "ValueError",.type "Exception",.type "BaseException",.type "object"]:=by
 unfold W.excIn at q;split at q
 .rename_i dd cd sl ho
  split at q
  .simp only[Bool.and_eq_true,beq_iff_eq,Bool.not_eq_true']at q
   obtain⟨⟨⟨⟨_,_⟩,_⟩,hok⟩,hni⟩:=q;exact .own (X _ _ ho) (.of_isNs (W.isNs_of_in X hok)) (W.nsMap_none_of_in X hok hni) .base
  .cases q
 .cases q
def wq{K:W.Frag}{C fn:Addr}{h:Heap}(X:K.In h)(q:Fv K C fn):Lo h C fn:=by
 obtain⟨CE,nm,qn,N,bs,hdct,sn,sub,ab,col,dd,k0,k1,k2,k3,k5,ho,hok,hi,he⟩:=q.ex;exact⟨_,N,nm,qn,bs,hdct,sn,sub,ab,col,dd,k0,k1,k2,k3,k5,_,X _ _ ho,.of_isNs (W.isNs_of_in X hok),Dl X (.of_isNs (W.isNs_of_in X hok)) hi,zJ X he⟩
def L6(K:W.Frag)(t:TA):TE:=λσ H Q=>t σ H λvs H1=>∃a C rest fn,vs=.ref a::rest/\rest.length<=line/\H1 a=some (.ext (oy a C none))/\Fv K C fn/\Q .non (upd H1 a (.ext (oy a C none)))
def IZ{ce:Str}{CE:Addr}{np apos cpos:Pos}{e:Expr}{es:List Expr}{t:TA}{pl:Sem Bool}(b:BV X.K CE)(hg:Gl X ce)(hm:X.mg ce=some (.ref CE))(ha:PA X (e::es) t)(hdb:(ce==("__debug__":Str))=false:=by decide)
  (he:starEach (e::es) X.env=(false,eval e X.env)::starEach es X.env:=by exact aI rfl)(hpl:(backTo cpos (starEach es X.env)).any (·.1)=false:=by exact bp rfl)
  (ht:eval (.Call (.Attribute (.Name ce np) "__init__" apos) (e::es) [] cpos) X.env=(do
   let ov ←eval (.Name ce np) X.env
   standAt apos.atName
   let (f,first) ←holding [ov] (getMethod ov "__init__" pl)
   callWith cpos f first (backTo cpos (starEach (e::es) X.env)) (backToKw cpos (keywordEach [] X.env))):=by rfl) :
  PE X (.Call (.Attribute (.Name ce np) "__init__" apos) (e::es) [] cpos) (L6 X.K t):=by
 intro pins s σ H Q I h;refine W.methodCall_KW (pl:=pl) (fN I hg hm (W.method_cls I.kIn b.sp (W.cls_value I.kIn b.rd b.fc rfl ?_)) hdb) ht;have I0:=I.tok (s.toks+1);have hA:=ha cpos pins _ σ H _ I0 h;rw[he]at hA ⊢;refine Calls.callWith_builtin (by show(false||(backTo cpos (starEach es X.env)).any (·.1))=false;rw[hpl];rfl) (Calls.evalArgs_plain (cA hA λus s1 ⟨vs,H1,I1,r,a,C,rest,fn,ev,hl,ea,hx,q⟩=>?_));subst ev;obtain⟨_,us',rfl,ra,r'⟩:∃u us',us=u::us'/\bb (.ref a) u/\bj rest us':=by cases r with|cons r1 r2=>exact⟨_,_,rfl,r1,r2⟩
 obtain rfl:_=Value.ref a:=ra;obtain⟨bm,N,nm,qn,bs,hdct,sn,sub,ab,col,dd,k0,k1,k2,k3,k5,mN,hC,hn,hi,T⟩:=(wq I1.kIn hx).ex;obtain⟨⟨t0,hae⟩,_,_⟩:=(show br X.prog X.w H1 s1.heap a (.ext _) from I1.hok a _ ea)
 have F:=PySem.F.excBase_ValueError;have hz:us'.length<=sizeLine:=by rw[←r'.length];exact cO hl
 obtain⟨hp,g,d,tk,os⟩:=s1;refine wpAny_call (codeAny_call_builtin F.init.plain F.initEntry (wpAny_check_init_subT F T hC hae rfl ?_))
 wp_walk
 have mu:HY (H1 a):=by rw[ea];exact True.intro
 have hne:a≠hp.objs.size:=Nat.ne_of_lt (Heap.lt_size hae);refine⟨.non,upd H1 a (.ext (oy a C none)),I1.write (o:=.ext (oy a C none)) (x:=a) (e:=a) mu (.inl rfl) (λb u hb e=>(Heap.get?_update_other _ _ (Ne.symm hb)).trans (Heap.get?_push_of_some _ e)) ⟨_,Heap.get?_update_self _ (Heap.get?_push_of_some _ hae) rfl⟩ ⟨⟨hp.objs.size,?_⟩,⟨_,Heap.get?_update_self _ (Heap.get?_push_of_some _ hae) rfl⟩,nD⟩,rfl,q⟩;rw[Heap.get?_update_self _ (Heap.get?_push_of_some _ hae) rfl];rfl
end
section
variable {X:Cx}
noncomputable def LV(K:W.Frag) (fs:List Str) (is:bi):TS:=λD σ H=>∃a C dx l ks vs,σ[0]?=some (some (V.ref a))/\H a=some (.ext (oy a C (some dx)))/\H dx=some (.ext (uL dx l))/\dx≠a/\BU K C ks/\(∀f∈fs,f∈ks)/\l.length+fs.length<1000/\fs.length=vs.length /\
 is.map (λi=>σ[i]?)=vs.map (λv=>some (some v))/\D.nx σ (upd H dx (.ext (uL dx (putAll fs vs l))))
structure XR (X:Cx) (sts:List Stmt) (fs:List Str) (is:bi):Prop where
 o:uG X sts (LV X.K fs is)
def FH:XR X [] [] []:=⟨gr wL λD σ H ⟨a,C,dx,l,ks,vs,h1,h2,h3,h4,h5,h6,h7,h8,h9,q⟩=>by
 cases vs with
 |nil=>unfold putAll at q;rw[su h3]at q;exact q
 |cons v vs=>simp at h8⟩
def Cf{sts:List Stmt}{fs:List Str}{is:bi}{f:Str}{i:Nat}{x y:Str}{p1 p2 p3 pos:Pos}(hN:X.N[i]?=some y)(hN0:X.N[0]?=some x)(hv:zg X.env.scope y)(hv0:zg X.env.scope x)(h:XR X sts fs is)
  (hd:(y==("__debug__":Str))=false:=by decide)(hcd:(y==("__classdict__":Str))=false:=by decide)(hd0:(x==("__debug__":Str))=false:=by decide)(hcd0:(x==("__classdict__":Str))=false:=by decide)
  (hs:swapsWith (.Name y p3) (some (.Attribute (.Name x p1) f p2)) pos.line X.env=pure false:=by rfl):XR X (.Assign [.Attribute (.Name x p1) f p2] (.Name y p3) pos::sts) (f::fs) (i::is):=by
 refine⟨gr (gu (IU (fX hN0 hv0 hd0 hcd0) (fX hN hv hd hcd) hs) h.o) λD σ H z9=>?_⟩;obtain⟨a,C,dx,l,ks,vs,h1,h2,h3,h4,h5,h6,h7,h8,h9,q⟩:=z9;cases vs with
 |nil=>simp at h8
 |cons v vs=>
  simp only[List.map_cons,List.cons.injEq]at h9;simp only[List.length_cons]at h7 h8;refine⟨v,h9.1,.ref a,h1,a,C,dx,l,ks,rfl,h2,h3,h4,h5,h6 f List.mem_cons_self,by omega,a,C,dx,_,ks,vs,h1,?_,aG,h4,h5,λg hg=>h6 g (List.mem_cons_of_mem _ hg),?_,by omega,h9.2,?_⟩
  .rw[az h4.symm];exact h2
  .have:=sT (f:=f) (v:=v) (l:=l);omega
  .rw[kH];exact q
noncomputable def LW(K:W.Frag) (ks:List Str) (is:bi):TS:=λD σ H=>∃a C fn vs,σ[0]?=some (some (V.ref a))/\H a=some (.ext (oy a C none))/\BU K C ks/\Fv K C fn/\ks.length=vs.length/\ks.length<=60 /\
 is.map (λi=>σ[i]?)=vs.map (λv=>some (some v))/\∀dx,H dx=none->D.nx σ (upd (upd H a (.ext (oy a C (some dx)))) dx (.ext (uL dx (putAll ks vs []))))
structure XB (X:Cx) (sts:List Stmt) (ks:List Str) (is:bi):Prop where
 o:uG X sts (LW X.K ks is)
def Ii{sts:List Stmt}{fs:List Str}{is:bi}{f:Str}{i:Nat}{x y ce:Str}{CE:Addr}{p1 p2 p3 pos np apos cpos spos sp0:Pos}{es:List Expr}{pl:Sem Bool}(b:BV X.K CE)(hg:Gl X ce)(hm:X.mg ce=some (.ref CE))(hpv:PV X es (i::is))(hN:X.N[i]?=some y)(hN0:X.N[0]?=some x)(hv:zg X.env.scope y)(hv0:zg X.env.scope x)(h:XR X sts fs is)
  (hd:(y==("__debug__":Str))=false:=by decide)(hcd:(y==("__classdict__":Str))=false:=by decide)(hd0:(x==("__debug__":Str))=false:=by decide)(hcd0:(x==("__classdict__":Str))=false:=by decide)(hdb:(ce==("__debug__":Str))=false:=by decide)
  (hs:swapsWith (.Name y p3) (some (.Attribute (.Name x p1) f p2)) pos.line X.env=pure false:=by rfl)(hs0:swapsWith (.Call (.Attribute (.Name ce np) "__init__" apos) (.Name x sp0::es) [] cpos) none spos.line X.env=pure false:=by rfl)(hpl:(backTo cpos (starEach es X.env)).any (·.1)=false:=by exact bp rfl)
  (ht:eval (.Call (.Attribute (.Name ce np) "__init__" apos) (.Name x sp0::es) [] cpos) X.env=(do
   let ov ←eval (.Name ce np) X.env
   standAt apos.atName
   let (f,first) ←holding [ov] (getMethod ov "__init__" pl)
   callWith cpos f first (backTo cpos (starEach (.Name x sp0::es) X.env)) (backToKw cpos (keywordEach [] X.env))):=by rfl) :
  XB X (.Expr (.Call (.Attribute (.Name ce np) "__init__" apos) (.Name x sp0::es) [] cpos) spos::.Assign [.Attribute (.Name x p1) f p2] (.Name y p3) pos::sts) (f::fs) (i::is):=by
 refine⟨gr (gu (jX (IZ b hg hm (qD (p:=sp0) hN0 hv0 hpv hd0 hcd0).o hdb (aI rfl) hpl ht) hs0) (gu (IV (fX hN0 hv0 hd0 hcd0) (fX hN hv hd hcd) hs) h.o)) λD σ H ⟨a,C,fn,vs,h1,h2,h3,h4,h5,h6,h7,q⟩=>?_⟩;refine⟨.ref a::vs,(show σ[0]?::(i::is).map (λi=>σ[i]?)=some (some (V.ref a))::vs.map (λv=>some (some v)) by rw[h1,h7]),a,C,vs,fn,rfl,?_,h2,h4,?_⟩
 .have:vs.length<=60:=by omega
  exact Nat.le_trans this (by decide)
 .cases vs with
  |nil=>simp at h5
  |cons v vs=>
   simp only[List.map_cons,List.cons.injEq]at h7;simp only[List.length_cons]at h5 h6;rw[su h2];refine⟨v,h7.1,.ref a,h1,a,C,f::fs,rfl,h2,h3,List.mem_cons_self,λdx hdx=>?_⟩;have hne:dx≠a:=λz=>by subst z;rw[h2]at hdx;cases hdx
   refine⟨a,C,dx,[(f,v)],f::fs,vs,h1,?_,aG,hne,h3,λg hg=>List.mem_cons_of_mem _ hg,?_,by omega,h7.2,?_⟩
   .rw[az hne.symm,aG]
   .simp only[List.length_cons,List.length_nil];omega
   .rw[kH]
    have:=q dx hdx;unfold putAll at this;exact this
end
noncomputable def CF(K:W.Frag) (ks:List Str):Sp:=λvs H Q _=>∃a C fn args,vs=.ref a::args/\args.length=ks.length/\H a=some (.ext (oy a C none))/\BU K C ks/\Fv K C fn/\∀dx,H dx=none->Q .non (upd (upd H a (.ext (oy a C (some dx)))) dx (.ext (uL dx (putAll ks args []))))
def JF{P:Program}{w:World}{K:W.Frag}{mg:Str->Option Value}{base:Heap}{x qual:Str}{st:Stmt}{f:Addr}{fd:FuncData}{ps:List Str}{ks:List Str}(F:B1 K x qual st f fd)(S:eD ps ps (defScope st))(hps:ps.length=ks.length+1)(hf:ks.length<=60)
  (hbody:∀(cdv:Value) (A:Around) (outer:List PySem.Env) (s0:Shared) (H:Hp) (E:XK),XB (cf CX0 P w K mg base ps qual (defScope st) f cdv A outer s0 H E).nox (defBody st) ks ((List.range ks.length).map (· + 1))):eP P w K mg base CX0 1 f fd ps (CF K ks):=by
 refine F.ok S (λvs H Q E h=>?_) λcdv A outer s0 H vs Q E hr h=>?_
 .obtain⟨a,C,fn,args,rfl,hl,_⟩:=h
  simp[hl,hps]
 .obtain⟨a,C,fn,args,rfl,hl,hH,hC,hn,q⟩:=h
  refine⟨_,(hbody cdv A outer s0 H E).o,a,C,fn,args,?_,hH,hC,hn,hl.symm,hf,?_,q⟩
  .unfold L2.start;simp
  .unfold L2.start
   apply List.ext_getElem?;intro i;simp only[List.getElem?_map,List.map_map]
   by_cases hi:i<ks.length
   .have hia:i<args.length:=by omega
    simp[hi,hia,List.getElem?_append_left,List.getElem?_cons_succ]
   .have hia:¬i<args.length:=by omega
    simp[hi,hia]
section
variable {prog:Program}{w:World}{A:Around}{E:Value->Shared->Prop}{s:Shared}{env:PySem.Env}
variable {nm q:Str}{C N:Addr}{bs bm bmB:List Value}{hdct:Bool}{sn:List Str}{sub:List Value}{ab:Bool}{col:Option Bool}{dd:Option Addr}{k0 k1 k2 k3 k5:Option Value}{B newId initId:String}{mN:Str->Option Value}{fI:Addr}{oI:Obj}
def zx(F:ExcBaseFacts B newId initId bmB){x:Str}{np cpos pos:Pos}{args:List Expr}{Q:Flow->Shared->Prop}(hbase:bm.contains (.type "BaseException")=true)(hh:A.handled=none)(hplain:(backTo cpos (starEach args env)).any (·.1)=false)(hi:mN "__init__"=some (.ref fI))
  (h:wpAny (model prog w) A (eval (.Name x np) env) (λf sg=>f=.ref C/\wpAny (model prog w) A (evalArgs (.ref C) true (backTo cpos (starEach args env)) []) (λa si=>a.kw=[]/\a.pos.length<=sizeLine/\si.heap.get? C=some (excClassObj nm q C N bs bm hdct sn sub ab col dd k0 k1 k2 k3 k5 newId)/\si.heap.Ns N mN/\OwnTail si.heap bmB bm/\si.heap.get? fI=some oI/\oI.cls=.type "function" /\
    ∀h' e,Heap.MadeExcOf si.heap h' e (.ref C) a.pos->wpAny (model prog w) (A.under (.builtin "type.__call__" ⟨.ref C::a.pos,[]⟩)) (call (.ref fI) (.ref e::a.pos)) (λr s'=>r=.none/\s'.heap.get? C=some (excClassObj nm q C N bs bm hdct sn sub ab col dd k0 k1 k2 k3 k5 newId)/\(∃dc t,s'.heap.get? e=some ⟨.ref C,dc,.fields #[.ref t,.none,.none,.none,.bool false,.none],#[]⟩)/\E (.ref e) s') E { si with heap:=h' }) E sg) E s) :
  wpAny (model prog w) A (exec (.Raise (some (.Call (.Name x np) args [] cpos)) none pos) env) Q E s:=by
 rw[arm_exec_Raise];refine wpAny_bind (wpAny_standAt (zw (C:=C) (nm:=nm) (q:=q) (N:=N) (bs:=bs) (bm:=bm) (hdct:=hdct) (sn:=sn) (sub:=sub) (ab:=ab) (col:=col) (dd:=dd) (k0:=k0) (k1:=k1) (k2:=k2) (k3:=k3) (k5:=k5) (newId:=newId) hbase hh (wpAny_bind (wpAny_mono (wpAny_Call_ofName (wpAny_mono h (λf sg h₁=>?_) λ_ _ x=>x)) (λv sj hV=>wpAny_bind (wpAny_standAt (wpAny_pure hV))) λ_ _ x=>x))));obtain⟨rfl,h₁⟩:=h₁;unfold callWith;refine wpAny_bind (wpAny_holding (wpAny_mono h₁ (λ⟨apos,akw⟩ si ⟨hkw,hlen,hC,hn,T,hf,hfc,hG⟩=>wpAny_bind (wpAny_standAt ?_)) λ_ _ x=>x));obtain rfl:akw=[]:=hkw;obtain⟨hp,g,d,tk,os⟩:=si;simp only[hplain];refine wpAny_bind (wpAny_keeperOf_exc hC (wpAny_bind (Ck F T hC hn hi hf hfc hlen λh' e hm=>wpAny_mono (hG h' e hm) (λr s' hr=>?_) λ_ _ z=>z)));obtain⟨rfl,hC',⟨dc,t,he⟩,hE⟩:=hr;exact⟨rfl,wpAny_bind (wpAny_holding (wpAny_point (wpAny_pure ⟨e,dc,t,rfl,hC',he,hE⟩)))⟩
end
structure xK (K:W.Frag) (x:Str) (C:Addr):Prop where
 i:jC K x C
 cls:W.findIn K (.ref C) "__class__"=some (some (.builtin "object.__class__"))
 ga:W.findIn K (.ref C) "__getattribute__"=some (some (.builtin "BaseException.__getattribute__"))
 gt:W.findIn K (.ref C) "__getattr__"=some none
 t1:W.subIn K (.ref C) (.type "NoneType")=some false
 t2:W.subIn K (.ref C) (.type "bool")=some false
 t3:W.subIn K (.ref C) (.type "int")=some false
 t4:W.subIn K (.ref C) (.type "str")=some false
 t5:W.subIn K (.ref C) (.type "tuple")=some false
 t6:W.subIn K (.ref C) (.type "list")=some false
 t7:W.subIn K (.ref C) (.type "dict")=some false
 ve:W.subIn K (.ref C) (.type "ValueError")=some true
 self:W.subIn K (.ref C) (.ref C)=some true
def xK.xc{K:W.Frag}{x:Str}{C:Addr}(Z:xK K x C):XC K x C :=
 ⟨Z.i.ns,⟨Z.cls,Z.ga,Z.gt,Z.i.ob,Z.i.be⟩,λT hT=>by
  refine qQ (lE T hT) ?_;simp only[eO,List.mem_cons,List.not_mem_nil,or_false]at hT;rcases hT with rfl|rfl|rfl|rfl|rfl|rfl|rfl
  all_goals first|exact Z.t1|exact Z.t2|exact Z.t3|exact Z.t4|exact Z.t5|exact Z.t6|exact Z.t7⟩
def FG{K:W.Frag}{C fn:Addr}{ks:List Str}(z:Fv K C fn)(sa:W.findIn K (.ref C) "__setattr__"=some (some (.builtin "object.__setattr__")))(hd:W.hasDictIn K C=true)(no:∀f∈ks,lp K C f):BU K C ks:=by
 obtain⟨CE,nm,qn,N,bs,hdct,sn,sub,ab,col,dd,k0,k1,k2,k3,k5,ho,_⟩:=z.ex;refine⟨sa,hd,?_,no⟩;unfold W.clsIn;rw[ho];rfl
section
variable {P:Program}{w:World}{K:W.Frag}{mg:Str->Option Value}{base:Heap}{N:List Str}{qual:Str}{scope:Scope}{f:Addr}{cd:Value}{A:Around}{outer:List PySem.Env}{s0:Shared}{H0:Hp}{E:XK}{He H0e:Hp}
def A6{H:Hp}{h:Heap}{e dx:Addr}{o1 o2:HO}(ok:er P w (upd (upd H e o1) dx o2) h)(he:H e=none)(hd:H dx=none)(n1:∀b,o1≠.own b)(n2:∀b,o2≠.own b)(m1:∀b,o1≠.tup b)(m2:∀b,o2≠.tup b):er P w H h:=λa o q=>by
 have a1:a≠e:=λz=>by subst z;rw[he]at q;cases q
 have a2:a≠dx:=λz=>by subst z;rw[hd]at q;cases q
 refine(ok a o (by rw[az a2,az a1];exact q)).stay (λb u _ z=>z) (λb z=>?_) λb xs z=>?_
 .by_cases b2:b=dx
  .subst b2;rw[aG]at z;exact absurd (Option.some.inj z) (n2 _)
  .rw[az b2]at z
   by_cases b1:b=e
   .subst b1;rw[aG]at z;exact absurd (Option.some.inj z) (n1 _)
   .rw[az b1]at z;exact z
 .by_cases b2:b=dx
  .subst b2;rw[aG]at z;exact absurd (Option.some.inj z) (m2 _)
  .rw[az b2]at z
   by_cases b1:b=e
   .subst b1;rw[aG]at z;exact absurd (Option.some.inj z) (m1 _)
   .rw[az b1]at z;exact z
def zh{fs:List Addr}{H H2:Hp}{h h2:Heap}(u:Un fs [] H H2 h h2):Un fs [] H H h h2:=⟨u.keep,u.slot,λ_ _ _ n _=>n,u.there,λ_ _ q=>q,λ_ _ _ q=>q,λ_ ps q=>⟨#[],by rw[q];simp⟩⟩
end
def Ff(e:DictEntry):Bool:=match e.key with
 |.str _ _=>true
 |_=>false
def zv{K:W.Frag}{C CE fn N:Addr}{nm q:Str}{bs sub:List Value}{hdct ab:Bool}{sn:List Str}{col:Option Bool}{dd dn:Option Addr}{k0 k1 k2 k3 k5:Option Value}{cn:Value}{es:Array DictEntry}{ep:Nat}{st:Array (Option Value)}
  (xl:K.lookup C=some (excClassObj nm q C N bs [.ref CE,.type "ValueError",.type "Exception",.type "BaseException",.type "object"] hdct sn sub ab col dd k0 k1 k2 k3 k5 "ValueError.__new__"))(xn:K.lookup N=some ⟨cn,dn,.dict es ep,st⟩)(xk:es.toList.all Ff=true)(xv:W.nsIn K N "__init__"=some (some (.ref fn)))
  (xb:W.excIn K CE [.type "ValueError",.type "Exception",.type "BaseException",.type "object"] "ValueError.__new__"=true):Fv K C fn:=by
 refine⟨CE,nm,q,N,bs,hdct,sn,sub,ab,col,dd,k0,k1,k2,k3,k5,xl,?_,xv,xb⟩;unfold W.nsOkIn;rw[xn];rw[Array.all_toList]at xk;exact xk
def dP(x:Str)(ks:List Str)(fa:Ev->ao (ac)):bd:=λρ=>(fa (iA ρ)).bind λds=>if ds.length=ks.length then .exn ⟨x,ks.zip ds⟩ else .stuck
theorem rQ{K:W.Frag}{H:Hp}:∀{ks:List Str}{ds:ac}{vs:al}{n:Str}{d:D},Reps K H ds vs->(ks.zip ds).lookup n=some d->∃v,(ks.zip vs).lookup n=some v/\Rep K H d v
 |[],ds,vs,n,d,r,h=>by rw[List.zip_nil_left]at h;cases h
 |k::ks,[],vs,n,d,r,h=>by rw[List.zip_nil_right]at h;cases h
 |k::ks,e::ds,vs,n,d,r,h=>by
  obtain⟨v,vs',rfl,r1,r2⟩:=aA.mp r;rw[List.zip_cons_cons,List.lookup_cons]at h;rw[List.zip_cons_cons];cases q:n==k with
  |true=>rw[q]at h;cases h;exact⟨v,by rw[List.lookup_cons,q],r1⟩
  |false=>
   rw[q]at h;obtain⟨u,h1,h2⟩:=rQ r2 h;exact⟨u,by rw[List.lookup_cons,q];exact h1,h2⟩
def er.xd{P:Program}{w:World}{H:Hp}{g:Heap}(ok:er P w H g){a:Addr}{fs:List (Str×V)}(hn:H a=none)(p:uL a fs g):er P w (upd H a (.xd fs)) g:=λb u e=>by
 by_cases hb:b=a
 .subst hb;rw[aG]at e;cases e;obtain⟨m,n,r,_⟩:=p;exact⟨m,n,r⟩
 .rw[az hb]at e
  exact(ok b u e).stay (λc v _ q=>q) (λc q=>by rw[az (aO q hn)];exact q) λc xs q=>by rw[az (aO q hn)];exact q
section
variable {P:Program}{w:World}{K:W.Frag}{mg:Str->Option Value}{base:Heap}{N:List Str}{qual:Str}{scope:Scope}{f:Addr}{cd:Value}{A:Around}{outer:List PySem.Env}{s0:Shared}{H0:Hp}{E:XK}{He H0e:Hp}
def eu{x:Str}{C fn:Addr}{np cpos pos:Pos}{e:Expr}{es:List Expr}{fa:Ev->ao (ac)}{k:Nat}{fd:FuncData}{ps ks:List Str}(xc:XC K x C)(z:Fv K C fn)(st:BU K C ks)(hfn:W.isFn K (.ref fn)=true)(F:eP P w K mg base CX0 k fn fd ps (CF K ks))(hb:iz K fd ps [])(hks:ks.length<=60)(hnd:ks.Nodup)(hr:cL (k+1) (cf (eR P w) P w K mg base N qual scope f cd A outer s0 H0 E).A)(hm:mg x=some (.ref C))(hh:A.handled=none)
  (hg:Gl (cf (eR P w) P w K mg base N qual scope f cd A outer s0 H0 E) x)(ha:DA (cf (eR P w) P w K mg base N qual scope f cd A outer s0 H0 E) E (e::es) fa)
  (hdb:(x==("__debug__":Str))=false:=by decide)(he:starEach (e::es) (cf (eR P w) P w K mg base N qual scope f cd A outer s0 H0 E).env=(false,eval e (cf (eR P w) P w K mg base N qual scope f cd A outer s0 H0 E).env)::starEach es (cf (eR P w) P w K mg base N qual scope f cd A outer s0 H0 E).env:=by exact aI rfl)
  (hpl:(backTo cpos (starEach es (cf (eR P w) P w K mg base N qual scope f cd A outer s0 H0 E).env)).any (·.1)=false:=by exact bp rfl) :
  DS (cf (eR P w) P w K mg base N qual scope f cd A outer s0 H0 E) E He H0e (.Raise (some (.Call (.Name x np) (e::es) [] cpos)) none pos) (dP x ks fa):=by
 refine⟨?_⟩;intro pins s σ H D I ⟨Ha,ρ,hr',q⟩;obtain⟨bm,Nn,nm,qn,bs,hdct,sn,sub,ab,col,dd,k0,k1,k2,k3,k5,mN,hC,hN,hi,T⟩:=(wq I.ok.mod.kin z).ex;obtain⟨oI,hoI,hoc⟩:∃oI,base.get? fn=some oI/\oI.cls=.type "function":=by
  have:=beq_iff_eq.mp hfn;obtain⟨o,ho,hc⟩:=Option.map_eq_some_iff.mp this;exact⟨o,I.ok.mod.kin _ _ ho,hc⟩
 refine zx (C:=C) (nm:=nm) (q:=qn) (N:=Nn) (bs:=bs) (bm:=bm) (hdct:=hdct) (sn:=sn) (sub:=sub) (ab:=ab) (col:=col) (dd:=dd) (k0:=k0) (k1:=k1) (k2:=k2) (k3:=k3) (k5:=k5)
  PySem.F.excBase_ValueError (mN:=mN) (oI:=oI) (T.hasType PySem.F.excBase_ValueError.hasBase) hh (by rw[he];show(false||(backTo cpos (starEach es (cf (eR P w) P w K mg base N qual scope f cd A outer s0 H0 E).env)).any (·.1))=false;rw[hpl];rfl) hi (fN I hg hm ⟨rfl,?_⟩ hdb)
 have hq:pk K E H (frz He Ha H) (fa (iA ρ)) (λvs H1=>vs.length=ks.length/\∀dx,H1 dx=none->E (.ref C) (some dx) (upd H1 dx (.xd (ks.zip vs)))):=by
  unfold dP at q;cases e1:fa (iA ρ) with
  |stuck=>rw[e1]at q;exact q|exn z=>rw[e1]at q;exact λC ox H' Ha' g ex=>q C ox H' Ha' (hr'.frz_grow.trans g) ex
  |ok ds=>
   rw[e1]at q;intro vs H1 H01 g rp;have q:bA K E He H0e Ha (if ds.length=ks.length then ao.exn ⟨x,ks.zip ds⟩ else .stuck) D:=q
   by_cases hl:ds.length=ks.length
   .rw[if_pos hl]at q
    refine⟨by rw[←rp.length];exact hl,λdx hdx=>?_⟩;have ga:=aR (o:=.xd (ks.zip vs)) g.sub hdx;refine q (.ref C) (some dx) _ _ (hr'.frz_grow.trans (g.trans ga)) ⟨⟨C,rfl,xc⟩,ks.zip vs,aG,λn d hn=>?_⟩;obtain⟨v,k1,k2⟩:=rQ rp hn;exact⟨v,k1,k2.mono ga.z⟩
   .rw[if_neg hl]at q;exact q.elim
 have h1:=ha.o cpos pins s σ H _ I ⟨frz He Ha H,iA ρ,hr'.frz_le,hr'.looks,hq⟩;rw[he]at h1 ⊢;refine Calls.evalArgs_plain (wpAny_mono h1 (λus s2 h2=>?_) λ_ _ y=>y);obtain⟨vs,H1,I1,rv,hl,hE⟩:=h2;have hz:us.length<=sizeLine:=by rw[←rv.length,hl,sizeLine_eq];omega
 refine⟨rfl,hz,I1.bk _ _ hC,hN.keeps I1.bk,T.keeps I1.bk,I1.bk _ _ hoI,hoc,λh' ee hx=>?_⟩;have hn:H1 ee=none:=by
  cases q:H1 ee with|none=>rfl|some o=>obtain⟨u,hu⟩:=br.there (I1.hok ee o q);rw[hx.new]at hu;cases hu
 obtain⟨t,ht,_,_⟩:=hx.there;have hxn:oy ee C none h':=⟨t,ht⟩
 have un1:Un (eQ (cf (eR P w) P w K mg base N qual scope f cd A outer s0 H0 E).stack) [] H1 (upd H1 ee (.ext (oy ee C none))) s2.heap h':=Un.ext (Un.kept hx.keeps) hn hx.new;have I2:Inv (cf (eR P w) P w K mg base N qual scope f cd A outer s0 H0 E) pins σ (upd H1 ee (.ext (oy ee C none))) { s2 with heap:=h' } :=
  I1.call' (ch:=[]) rfl un1 (er.ext (I1.hok.kept hx.keeps) hn hxn ⟨_,ht⟩ nD) I1.bare (λ_ z=>nomatch z)
 have rv2:bj (V.ref ee::vs) (Value.ref ee::us):=.cons rfl rv;have hsp:CF K ks (V.ref ee::vs) (upd H1 ee (.ext (oy ee C none))) (λv H2=>v=.non/\∃dx,H1 dx=none/\dx≠ee/\H2=upd (upd (upd H1 ee (.ext (oy ee C none))) ee (.ext (oy ee C (some dx)))) dx (.ext (uL dx (putAll ks vs [])))) E :=
  ⟨ee,C,fn,vs,rfl,hl,aG,st,z,λdx hdx=>by
   have c:dx≠ee:=λc=>by rw[c,aG]at hdx;cases hdx
   rw[az c]at hdx;exact⟨rfl,dx,hdx,c,rfl⟩⟩
 have hl2:(Value.ref ee::us).length=ps.length:=by rw[←rv2.length];exact F.len _ _ _ _ hsp
 have hbb:=hb { s2 with heap:=h' } (Value.ref ee::us) I2.kIn (by simpa using hl2);rw[List.append_nil]at hbb;refine wpAny_call (codeAny_mono (F.run _ _ { s2 with heap:=h' } _ ⟨Value.ref ee::us,[]⟩ (Value.ref ee::us) _ _ E (hr.make C us []) (I2.env0.make C us []) hbb rv2 hsp) λr s3 hq3=>?_);cases r with
 |error e=>exact False.elim hq3
 |ok fl=>
  cases fl with
  |next|brk|cont=>exact False.elim hq3
  |ret u=>
   obtain⟨v,H2,os3,bare3,un3,hok3,rel3,rfl,dx,hdx,hdne,rfl⟩:=hq3;obtain rfl:u=Value.none:=rel3;rw[kH]at hok3 un3;have un4:=zh (un1.trans un3);have hok4:er P w H1 s3.heap:=A6 hok3 hn hdx (λ_ z=>by cases z) (λ_ z=>by cases z) (λ_ z=>by cases z) (λ_ z=>by cases z);obtain⟨⟨t3,ht3⟩,_,_⟩:=(show br P w _ s3.heap ee (.ext (oy ee C (some dx))) from hok3 ee _ (by rw[az hdne.symm,aG]))
   have I3:=I1.call' (ch:=[]) os3 un4 hok4 bare3 (λ_ z=>nomatch z);refine⟨rfl,I3.bk _ _ hC,⟨_,t3,ht3⟩,?_⟩;have hin:=xi (l:=envOfC qual scope s0.heap.objs.size f cd::outer);have hfr:s3.heap.FunFrames (W.hideAll s3.heap (ee::eQ (envOfC qual scope s0.heap.objs.size f cd::outer))) (envOfC qual scope s0.heap.objs.size f cd::outer):=W.funFrames_hide I3.stack λenv he a hf=>List.mem_cons_of_mem _ (hin env he a hf);have hst:(W.hideAll s3.heap (ee::eQ (envOfC qual scope s0.heap.objs.size f cd::outer))).StaysIn s3.heap:=λb o q=>W.of_hideAll _ q;have hen:(W.hideAll s3.heap (ee::eQ (envOfC qual scope s0.heap.objs.size f cd::outer))).get? ee=none:=W.hideAll_none _ (.head _);obtain⟨pX,_,_⟩:=(show br P w _ s3.heap dx (.ext (uL dx (putAll ks vs []))) from hok3 dx _ aG)
   rw[mP hnd (λ_ _ z=>by simp at z) hl.symm,List.nil_append]at pX;have hok5:=er.xd hok4 hdx pX;have dfresh:s2.heap.get? dx=none:=by
    cases qd:s2.heap.get? dx with
    |none=>rfl
    |some o=>
     have:=un3.free dx o (hx.keeps dx o qd) (by rw[az hdne];exact hdx) (by simp);rw[aG]at this;cases this
   have un5:=Un.ext (o:=.xd (ks.zip vs)) un4 hdx dfresh;refine vN (a0:=.ref t3) I3.ok.frames hfr rfl ht3 hst hen rfl rfl rfl (λ_=>rfl) λh4 fl4 up4 dc4=>?_;refine Bf rfl I1 (s1:=s3) (H1:=upd H1 dx (.xd (ks.zip vs))) os3 bare3 un5 hok5 (by rw[az hdne.symm];exact hn) hst hfr (λb hb hy=>?_) fl4 up4 ⟨some dx,⟨some dx,dc4,.inr rfl⟩,hE dx hdx⟩;have hbe:b≠ee:=λc=>by
    subst c;rcases hy with hy|⟨o,hy⟩
    .exact hy (by rw[az hdne.symm];exact hn)
    .rw[hx.new]at hy;cases hy
   have hth:∃o,s3.heap.get? b=some o:=by
    rcases hy with hy|⟨o,hy⟩
    .cases q:(upd H1 dx (.xd (ks.zip vs))) b with
     |none=>exact absurd q hy
     |some o=>exact br.there (hok5 b o q)
    .exact un4.there b o hy (by simp)
   obtain⟨o,q⟩:=hth;exact⟨o,W.hideAll_get _ q (List.not_mem_cons_of_ne_of_not_mem hbe hb)⟩
end
def LJ{α:Type}{us:List α}(h:us.length=1):∃a,us=[a]:=List.length_eq_one_iff.mp h
def LI{α:Type}{us:List α}(h:us.length=2):∃a b,us=[a,b]:=by
 cases us with|nil=>cases h|cons a us=>obtain⟨b,rfl⟩:=LJ (Nat.succ.inj h);exact⟨a,b,rfl⟩
def Lb{α:Type}{us:List α}(h:us.length=3):∃a b c,us=[a,b,c]:=by
 cases us with|nil=>cases h|cons a us=>obtain⟨b,c,rfl⟩:=LI (Nat.succ.inj h);exact⟨a,b,c,rfl⟩
def Ma{α:Type}{us:List α}(h:us.length=4):∃a b c d,us=[a,b,c,d]:=by
 cases us with|nil=>cases h|cons a us=>obtain⟨b,c,d,rfl⟩:=Lb (Nat.succ.inj h);exact⟨a,b,c,d,rfl⟩
end DL
namespace Com
open PySem L2 DL
def qC(x:Str)(ks:List Str)(ds:ac):ao Fl:=if ds.length=ks.length then .exn ⟨x,ks.zip ds⟩ else .stuck
def gF{x:Str}{ks:List Str}{fa:Ev->ao (ac)}{ρ:Ev}:dP x ks fa ρ=(fa (iA ρ)).bind (qC x ks):=aK rfl
def vO{x f g:Str}{d e:D}:qC x [f,g] [d,e]=.exn ⟨x,[(f,d),(g,e)]⟩:=if_pos rfl
end Com
namespace DL
open PySem PySem.Spec PyProof.Rows L2
structure FT (K:W.Frag) (mg:Str->Option Value) (x:Str) (st:Stmt) (ps:List Str) (a:Addr) (d:FuncData):Prop where
 F:B1 K x x st a d
 b:iz K d ps []
 g:mg x=some (.ref a)
noncomputable def QA(K:W.Frag) (x:Str) (st:Stmt) (a:Addr):Prop:=W.nsIn K mainGlobals x=some (some (.ref a))/\W.keepIn K (.ref a)=true/\∃oc kV dc pm cd ct od an sl,K.lookup a=some ⟨oc,od,.func (W.fnOf x x (defArgs st) (defBody st) (defScope st) .none kV dc pm an cd ct),sl⟩/\W.codeIn K cd x=true
def JD{K:W.Frag}{h:Heap}{mg:Str->Option Value}{x:Str}{st:Stmt}{ps:List Str}{a:Addr}(X:K.In h)(G:h.Ns mainGlobals mg)(q:QA K x st a)
  (hb:∀(kV doc pm:Value) (an:Option Addr) (cdv ct:Value) (us:List Value),us.length=ps.length->bindArgs (W.fnOf x x (defArgs st) (defBody st) (defScope st) .none kV doc pm an cdv ct) ⟨us,[]⟩=pure (ps.zip us)) :
  ∃d,FT K mg x st ps a d/\∃kV doc pm an cdv ct,d=W.fnOf x x (defArgs st) (defBody st) (defScope st) .none kV doc pm an cdv ct:=by
 obtain⟨e1,e4,oc,kV,dc,pm,cd,ct,od,an,sl,e2,e3⟩:=q;exact⟨_,⟨qV e2 e3 e4,(qV (st:=st) e2 e3 e4).binds hb,W.mg_of X G e1⟩,_,_,_,_,_,_,rfl⟩
section
variable {X:Cx}{E:XK}{e:Expr}{es:List Expr}{fa:Ev->ao (ac)}{f g h i j:am}{pos:Pos}{CX:ql}{k n:Nat}{fn:Addr}{fd:FuncData}{ps:List Str}{m:ac->ao D}{x:Str}{p:Pos}{st:Stmt}
def Ku(ρ:Ev)(ds:ac)(h:af f ax ρ=.ok ds):ds.length=1:=jy (λ_ h=>BS h) h
def Kt(ρ:Ev)(ds:ac)(q:af f (af g ax) ρ=.ok ds):ds.length=2:=jy (Ku ρ) q
def Ks(ρ:Ev)(ds:ac)(q:af f (af g (af h ax)) ρ=.ok ds):ds.length=3:=jy (Kt ρ) q
def Lm(ρ:Ev)(ds:ac)(q:af f (af g (af h (af i ax))) ρ=.ok ds):ds.length=4:=jy (Ks ρ) q
end
def jL(fa:Ev->ao (ac))(m:ac->ao D):bd:=λρ=>match fa ρ with
 |.ok ds=>(m ds).bind λ_=>.ok (.nx ρ)
 |_=>.stuck
section
variable {X:Cx}{e:Expr}{es:List Expr}{fa:Ev->ao (ac)}{pos:Pos}{k n:Nat}{fn:Addr}{fd:FuncData}{ps:List Str}{m:ac->ao D}{x:Str}{p:Pos}{st:Stmt}
def Cv{cpos:Pos}(F:eP X.prog X.w X.K X.mg X.base (eR X.prog X.w) k fn fd ps (spD X.K n m))(hr:cL k X.A)(hg:Gl X x)(hm:X.mg x=some (.ref fn))
  (hk:W.keepIn X.K (.ref fn)=true)(hb:iz X.K fd ps [])(ha:DA X.nox E0 (e::es) fa)(hn:(e::es).length=n:=by rfl)(hl:∀ρ ds,fa ρ=.ok ds->ds.length=(e::es).length)
  (hdb:(x==("__debug__":Str))=false:=by decide)(he:starEach (e::es) X.env=(false,eval e X.env)::starEach es X.env:=by exact aI rfl)(hpl:(backTo cpos (starEach es X.env)).any (·.1)=false:=by exact bp rfl)
  (hs:swapsWith (.Call (.Name x p) (e::es) [] cpos) none pos.line X.env=pure false:=by rfl):TB X (.Expr (.Call (.Name x p) (e::es) [] cpos) pos) (jL fa m):=by
 refine⟨λpins s σ H He H0e Ha ρ D XE I h q hx=>?_⟩;refine wpAny_Expr_any (cA (xE (Q:=λv H1=>D.nx σ H1) F hr hg hm hk hb ha.o I ?_ hx hdb he hpl) λv s1 ⟨y,H1,I1,r1,q1⟩=>⟨σ,H1,I1,q1⟩) I.quiet hs;refine⟨Ha,ρ,h.g.sub,h.rd,?_⟩;unfold jL at q ⊢;cases e1:fa ρ with
 |stuck=>rw[e1]at q;exact q|exn x=>rw[e1]at q;exact q.elim
 |ok ds=>
  rw[e1]at q;intro vs H1 H01 g1 r1;refine⟨?_,H01,ds,g1.sub,r1,?_⟩
  .have:=r1.length
   have:=hl ρ ds e1;omega
  .show post _ _ _ _ (m ds) _
   cases e2:m ds with
   |stuck=>simp only[e2]at q;exact q
   |exn x=>exact λC ox H' Ha' g ex=>⟨x,Ha',by simp only[e2];rfl,g1.z.trans g.z,h.grow (g1.trans g),ex⟩
   |ok d=>
    simp only[e2]at q;exact λv H' Ha' g rp=>q _ H' Ha' (g1.z.trans g.z) (h.grow (g1.trans g))
end
def qe:List Str->ac->Str->Option D
 |k::ks,d::ds,x=>if k=x then some d else qe ks ds x
 |_,_,_=>none
def iP(x y:D):ao D:=match x,y with
 |.dic ks ds,.str k=>match qe ks ds k with
  |some d=>.ok d
  |none=>.stuck
 |_,_=>.stuck
def ki(x y:D):ao D:=match x,y with
 |.str k,.dic ks ds=>.ok (.bl (!(qe ks ds k).isSome))
 |_,_=>.stuck
theorem lh{K:W.Frag}{H:Hp}{k:Str}:∀{ks:List Str}{ds:ac}{vs:al},ks.length=vs.length->Reps K H ds vs ->
  (∀d,qe ks ds k=some d->∃v,lQ ((ks.map Sum.inr).zip vs) (Sum.inr k:dD)=some v/\Rep K H d v)/\(qe ks ds k=none->lQ ((ks.map Sum.inr).zip vs) (Sum.inr k:dD)=none)
 |[],ds,vs,hl,r=>by
  exact⟨λd e=>(nomatch e),λ_=>rfl⟩
 |x::ks,ds,vs,hl,r=>by
  cases vs with
  |nil=>cases hl
  |cons v vs=>
   cases ds with
   |nil=>have:=Reps.nil_iff.mp r;cases this
   |cons d ds=>
    obtain⟨v',vr,e0,h1,h2⟩:=aA.mp r;cases e0;obtain⟨i1,i2⟩:=lh (k:=k) (ks:=ks) (ds:=ds) (vs:=vs) (by simpa using hl) h2;rw[List.map_cons,List.zip_cons_cons]
    by_cases hx:x=k
    .subst hx
     refine⟨λd' e=>?_,λe=>?_⟩
     .rw[qe,if_pos rfl]at e;cases e
      exact⟨v,jT rfl,h1⟩
     .rw[qe,if_pos rfl]at e;cases e
    .have hne:¬(Sum.inr x:dD)=Sum.inr k:=λz=>hx (Sum.inr.inj z)
     refine⟨λd' e=>?_,λe=>?_⟩
     .rw[qe,if_neg hx]at e
      rw[iF hne];exact i1 d' e
     .rw[qe,if_neg hx]at e
      rw[iF hne];exact i2 e
section
variable {X:Cx}{E:XK}{a b:Expr}{f g:am}{pos:Pos}
abbrev IP:R2:=λx y H Q=>∃p v,x=.ref p/\rL H p y (some v)/\Q v H
abbrev wI:R2:=λy x H Q=>∃p o,x=.ref p/\rL H p y o/\Q (.bl (!o.isSome)) H
def Dk:uM X.K E IP iP:=by
 intro x y v u H Ha Q hs r1 r2 q;unfold iP at q;cases x with
 |dic ks ds=>
  cases y with
  |str k=>
   rw[Rep]at r1;obtain⟨p,kvs,vs,rfl,h1,rfl,hl,h4⟩:=r1;rw[Rep.str_iff.mp r2];cases e:qe ks ds k with
   |none=>simp only[e]at q;exact q.elim
   |some d=>
    simp only[e]at q;obtain⟨v,hv,rv⟩:=(lh hl h4).1 d e;exact⟨p,v,rfl,.inl ⟨_,.inr k,aE.rd hs h1,rfl,hv.symm⟩,bE hs q rv⟩
  |_=>exact q.elim
 |_=>exact q.elim
def DB{k:Str}{ks:List Str}{ds:ac}{v u:V}{H Ha:Hp}{K:W.Frag}(hs:aE Ha H)(r1:Rep K Ha (.str k) v)(r2:Rep K Ha (.dic ks ds) u):∃p o,u=.ref p/\rL H p v o/\o.isSome=(qe ks ds k).isSome:=by
 rw[Rep]at r2;obtain⟨p,kvs,vs,rfl,h1,rfl,hl,h4⟩:=r2;rw[Rep.str_iff.mp r1];refine⟨p,_,rfl,.inl ⟨_,.inr k,aE.rd hs h1,rfl,rfl⟩,?_⟩;cases e:qe ks ds k with|none=>rw[(lh hl h4).2 e];rfl|some d=>obtain⟨v,hv,_⟩:=(lh hl h4).1 d e;rw[hv];rfl
def yt:uM X.K E wI ki:=by
 intro x y v u H Ha Q hs r1 r2 q;unfold ki at q;cases x with
 |str k=>
  cases y with
  |dic ks ds=>
   obtain⟨p,o,e1,e2,e3⟩:=DB hs r1 r2;exact⟨p,o,e1,e2,by rw[e3];exact bE hs q (rb _)⟩
  |_=>exact q.elim
 |_=>exact q.elim
def yn(hu:X.A.units+1<cLine):fL X (compareOp .NotIn) wI:=by
 intro pins s σ H x y v u Q I rx ry h;obtain⟨p,o,rfl,g,q⟩:=h;cases ry;exact EF hu I g rx λs' I'=>⟨.bl (!o.isSome),H,I',rfl,q⟩
def mj(hu:X.A.units+1<cLine)(ha:DE X E a f)(hb:DE X E b g)(hs:HX b:=by intro _ _;rfl):DE X E (.Subscript a b pos) (aa f g iP) :=
 ⟨aU (C6 hu ha.o hb.o hs) (gh Dk)⟩
end
section
variable {K:W.Frag}{E:XK}{He H0e Ha H H1:Hp}{σ:L2.St}{ρ:Ev}
def dw.putOwnG(h:dw K He H0e Ha σ H ρ){i:Nat}{dn:D}{p:Addr}(hp:∀(j:Nat) (a:Addr),σ[j]?=some (some (V.ref a))->a=p->∀d:D,ρ[j]?≠some (Sl.ow d))(he:He p=none)(h0:Ha p=none)(ho:EV K Ha H p dn)(hx:∀(i j:Nat) (ds:ac) (a:Addr) (P:Nat->Addr),ρ[i]?=some (.ox j ds)->σ[i]?=some (some (.ref a))->J7 K He Ha H a j ds P->∀l,oK j l=true->p≠P l) :
  dw K He H0e Ha (σ.set i (some (.ref p))) H (ρ.set i (.ow dn)):=by
 have key:∀(j:Nat) (s:Sl),(ρ.set i (.ow dn))[j]?=some s->(j=i/\s=.ow dn/\i<σ.length)∨(j≠i/\ρ[j]?=some s):=λj s e=>by
  by_cases hj:i=j
  .subst hj
   rw[List.getElem?_set_self']at e;cases q:ρ[i]? with
   |none=>rw[q]at e;cases e
   |some s'=>
    rw[q]at e;cases e;refine .inl ⟨rfl,rfl,?_⟩;rw[←h.ln];exact(List.getElem?_eq_some_iff.mp q).1
  .rw[List.getElem?_set_ne hj]at e
   exact .inr ⟨λz=>hj z.symm,e⟩
 have other:∀(k:Nat) (d2:D),k≠i->ρ[k]?=some (.ow d2)->some (some (V.ref p))≠σ[k]?:=λk d2 hk e2 z=>by
  obtain⟨a,h1,_⟩:=h.ow k d2 e2;rw[h1]at z;cases z;exact hp k p h1 rfl d2 e2
 refine⟨h.g,λj d' e=>?_,λj d' e=>?_,λj k d1 d2 hn e1 e2=>?_,by simp[h.ln],h.ex.upd (λj s e=>?_) (aE.refl _) (λa vs _ e=>e) λp us _ h0 hp _=>⟨hp,h0⟩⟩
 rotate_left 3
 .rcases key j _ e with⟨rfl,e',hl⟩|⟨hj,e'⟩
  .exact .inr (.inr (.inr ⟨dn,p,e',by rw[List.getElem?_set_self hl],hx⟩))
  .exact .inl ⟨e',by rw[List.getElem?_set_ne (Ne.symm hj)]⟩
 .rcases key j _ e with⟨rfl,e',hl⟩|⟨hj,e'⟩
  .cases e'
  .obtain⟨v',h1,h2⟩:=h.rd j d' e'
   exact⟨v',by rw[List.getElem?_set_ne (Ne.symm hj)];exact h1,h2⟩
 .rcases key j _ e with⟨rfl,e',hl⟩|⟨hj,e'⟩
  .cases e'
   exact⟨p,by rw[List.getElem?_set_self hl],he,h0,ho⟩
  .obtain⟨a,h1,h2⟩:=h.ow j d' e'
   exact⟨a,by rw[List.getElem?_set_ne (Ne.symm hj)];exact h1,h2⟩
 .rcases key j _ e1 with⟨rfl,_,hl⟩|⟨hj,e1'⟩
  .rcases key k _ e2 with⟨rfl,_,_⟩|⟨hk,e2'⟩
   .exact absurd rfl hn
   .rw[List.getElem?_set_self hl,List.getElem?_set_ne (Ne.symm hk)]
    exact other k d2 hk e2'
  .rcases key k _ e2 with⟨rfl,_,hl⟩|⟨hk,e2'⟩
   .rw[List.getElem?_set_self hl,List.getElem?_set_ne (Ne.symm hj)]
    exact λz=>other j d1 hj e1' z.symm
   .rw[List.getElem?_set_ne (Ne.symm hj),List.getElem?_set_ne (Ne.symm hk)]
    exact h.ap j k d1 d2 hn e1' e2'
def dw.writeG(h:dw K He H0e Ha σ H ρ){i:Nat}{d:D}{p:Addr}{dn:D}{o:HO}(e:ρ[i]?=some (.ow d))(es:σ[i]?=some (some (.ref p)))(ho:EV K Ha (upd H p o) p dn) :
  dw K He H0e Ha σ (upd H p o) (ρ.set i (.ow dn)):=by
 obtain⟨a,h1,h2,h3,h4⟩:=h.ow i d e;rw[h1]at es;cases es;have hil:i<ρ.length:=(List.getElem?_eq_some_iff.mp e).1;have key:∀(j:Nat) (s:Sl),(ρ.set i (.ow dn))[j]?=some s->(j=i/\s=.ow dn)∨(j≠i/\ρ[j]?=some s):=λj s e=>by
  by_cases hj:i=j
  .subst hj
   rw[List.getElem?_set_self hil]at e;cases e;exact .inl ⟨rfl,rfl⟩
  .rw[List.getElem?_set_ne hj]at e
   exact .inr ⟨λz=>hj z.symm,e⟩
 refine⟨⟨λb o' eb=>?_,h.g.z,λb o' eb=>?_,h.g.nw⟩,λj d' e'=>?_,λj d' e'=>?_,λj k d1 d2 hn e1 e2=>?_,by simp[h.ln],h.ex.upd (λj s e'=>?_) (aE.refl _) (λb us _ eb=>?_) λq us _ q0 hq hd=>?_⟩
 rotate_left 5
 .rcases key j _ e' with⟨rfl,e''⟩|⟨hj,e''⟩
  .exact .inr (.inr (.inr ⟨dn,p,e'',h1,λi' j' ds' a' P' x1 x2 x3 l ol=>by
    obtain⟨a2,P2,y1,y2,y3,_⟩:=h.ex.1 i' j' ds' x1;rw[x2]at y1;cases y1;have:P2 l=P' l:=by
     obtain⟨vs1,_,z1,_,y5,_⟩:=x3;obtain⟨vs2,_,z3,_,y4,_⟩:=y2;rw[z1]at z3;cases z3;obtain⟨_,_,_,_,_,z2,_⟩:=y5 l ol;obtain⟨_,_,_,_,_,z4,_⟩:=y4 l ol;rw[z2]at z4;injection z4 with z4;injection z4 with z4;exact z4.symm
    rw[←this];intro zz;rw[zz]at h1;exact y3 j d l ol e h1⟩))
  .exact .inl ⟨e'',rfl⟩
 .rw[az (by
   intro z;subst z;cases d with
   |lst ds'|dic ks ds'=>obtain⟨vs',h5,_⟩:=h4;rw[h5]at eb;cases eb
   |_=>exact h4)];exact eb
 .have hq':q≠p:=by
   intro z;subst z;exact hd i d e h1
  exact⟨by rw[az hq'];exact hq,q0⟩
 .rw[az (by intro z;subst z;rw[h2]at eb;cases eb)];exact h.g.s _ _ eb
 .rw[az (by intro z;subst z;rw[h3]at eb;cases eb)];exact h.g.sub _ _ eb
 .rcases key j _ e' with⟨rfl,e''⟩|⟨hj,e''⟩
  .cases e''
  .exact h.rd j d' e''
 .rcases key j _ e' with⟨rfl,e''⟩|⟨hj,e''⟩
  .cases e''
   exact⟨p,h1,h2,h3,ho⟩
  .obtain⟨b,k1,k2,k3,k4⟩:=h.ow j d' e''
   refine⟨b,k1,k2,k3,?_⟩;have hb:b≠p:=by
    intro z;subst z;exact h.ap j i d' d hj e'' e (by rw[k1,h1])
   cases d' with
   |lst ds'=>
    obtain⟨vs',h5,h6⟩:=k4;exact⟨vs',by rw[az hb];exact h5,h6⟩
   |dic ks ds'=>
    obtain⟨vs',h5,hl,h6⟩:=k4;exact⟨vs',by rw[az hb];exact h5,hl,h6⟩
   |_=>exact k4.elim
 .rcases key j _ e1 with⟨rfl,e1'⟩|⟨hj,e1'⟩
  .rcases key k _ e2 with⟨rfl,_⟩|⟨hk,e2'⟩
   .exact absurd rfl hn
   .exact h.ap j k d d2 hn e e2'
  .rcases key k _ e2 with⟨rfl,_⟩|⟨hk,e2'⟩
   .exact h.ap j k d1 d hn e1' e
   .exact h.ap j k d1 d2 hn e1' e2'
end
def va:List Str->ac->Str->D->ac
 |k::ks,e::ds,x,d=>(if k=x then d else e)::va ks ds x d
 |_,ds,_,_=>ds
def oJ(ks:List Str)(ds:ac)(k:Str)(d:D):D:=if k∈ks then .dic ks (va ks ds k d) else .dic (ks++[k]) (ds++[d])
theorem xI{k:Str}:∀{ks:List Str}{vs:al},ks.length=vs.length->(((ks.map Sum.inr).zip vs).any λkv=>decide (kv.1=(Sum.inr k:dD)))=decide (k∈ks)
 |[],_,_=>rfl
 |x::ks,[],h=>nomatch h
 |x::ks,v::vs,h=>by
  rw[List.map_cons,List.zip_cons_cons,List.any_cons,xI (by simpa using h)]
  by_cases hx:x=k
  .subst hx;simp
  .have:¬k=x:=λz=>hx z.symm
   simp[hx,this]
theorem wH{K:W.Frag}{H:Hp}{k:Str}{d:D}{v:V}(r:Rep K H d v):∀{ks:List Str}{ds:ac}{vs:al},ks.length=vs.length->Reps K H ds vs ->
  ∃vs',(((ks.map Sum.inr).zip vs).map λkv=>if kv.1=(Sum.inr k:dD) then(kv.1,v) else kv)=(ks.map Sum.inr).zip vs'/\ks.length=vs'.length/\Reps K H (va ks ds k d) vs'
 |[],ds,vs,hl,h=>⟨vs,rfl,hl,by cases ds<;>exact h⟩
 |x::ks,ds,[],hl,h=>nomatch hl
 |x::ks,[],v'::vs,hl,h=>by have:=Reps.nil_iff.mp h;cases this
 |x::ks,e::ds,v'::vs,hl,h=>by
  obtain⟨v2,vr,e0,h1,h2⟩:=aA.mp h;cases e0;obtain⟨vs',i1,i2,i3⟩:=wH r (ks:=ks) (ds:=ds) (vs:=vs) (by simpa using hl) h2;rw[List.map_cons,List.zip_cons_cons,List.map_cons,i1]
  by_cases hx:x=k
  .subst hx
   refine⟨v::vs',by rw[if_pos rfl];rfl,by simp[i2],?_⟩;rw[va,if_pos rfl];exact Reps.cons r i3
  .have hne:¬(Sum.inr x:dD)=Sum.inr k:=λz=>hx (Sum.inr.inj z)
   refine⟨v'::vs',by rw[if_neg hne];rfl,by simp[i2],?_⟩;rw[va,if_neg hx];exact Reps.cons h1 i3
theorem Reps.snoc{K:W.Frag}{H:Hp}{d:D}{v:V}(r:Rep K H d v):∀{ds:ac}{vs:al},Reps K H ds vs->Reps K H (ds++[d]) (vs++[v])
 |[],vs,h=>by rw[Reps.nil_iff.mp h];exact Reps.cons r Reps.nil
 |e::ds,vs,h=>by
  obtain⟨v2,vr,rfl,h1,h2⟩:=aA.mp h;exact Reps.cons h1 (Reps.snoc r h2)
def CP{K:W.Frag}{Ha H:Hp}{k:Str}{d:D}{v:V}{ks:List Str}{ds:ac}{vs:al}{p:Addr}(hl:ks.length=vs.length)(h:Reps K Ha ds vs)(r:Rep K Ha d v):EV K Ha (upd H p (.dK (gq ((ks.map Sum.inr).zip vs) (Sum.inr k) v))) p (oJ ks ds k d):=by
 unfold oJ;rw[show ∀(kvs:List (dD×V)) (u:V),gq kvs (Sum.inr k:dD) u=if(kvs.any λkv=>decide (kv.1=(Sum.inr k:dD)))=true then kvs.map (λkv=>if kv.1=(Sum.inr k:dD) then(kv.1,u) else kv) else kvs++[((Sum.inr k:dD),u)] from λ_ _=>rfl];rw[xI hl]
 by_cases hk:k∈ks
 .rw[if_pos hk,if_pos (decide_eq_true hk)]
  obtain⟨vs',i1,i2,i3⟩:=wH (k:=k) r hl h;exact⟨vs',by rw[aG,i1],i2,i3⟩
 .rw[if_neg hk,if_neg (by rw[decide_eq_false hk];decide)]
  refine⟨vs++[v],by rw[aG,List.map_append,List.zip_append (by rw[List.length_map];exact hl)];rfl,by simp[hl],Reps.snoc r h⟩
noncomputable def LZ(K:W.Frag) (E:XK) (f:am):TE:=λσ H Q=>∃Ha ρ,aE Ha H/\et K Ha σ ρ/\match f ρ with
 |.ok (.dic ks ds)=>∀p vs H' Ha',aZ H Ha H' Ha'->H p=none->Ha' p=none->H' p=some (.dK ((ks.map Sum.inr).zip vs))->ks.length=vs.length->Reps K Ha' ds vs->Q (.ref p) H'
 |.ok _=>False
 |.exn x=>∀C ox H' Ha',aZ H Ha H' Ha'->rO K Ha' x C ox->E C ox H'
 |.stuck=>False
structure KD (X:Cx) (E:XK) (e:Expr) (f:am):Prop where
 o:PE X e (LZ X.K E f)
def AD(i:Nat)(ρ:Ev)(d:D):ao Fl:=match d with
 |.dic ks ds=>.ok (.nx (ρ.set i (.ow (.dic ks ds))))
 |_=>.stuck
def sL(i:Nat)(f:am):bd:=λρ=>(f ρ).bind (AD i ρ)
section
variable {X:Cx}{E:XK}{He H0e:Hp}{e b:Expr}{pos:Pos}{f k:am}
def xx{i:Nat}{x:Str}{pos':Pos}(hN:X.N.Nodup)(hi:X.N[i]?=some x)(hx:zp X.env.scope x)(he:KD X E e f)(hs:swapsWith e (some (.Name x pos')) pos.line X.env=pure false:=by rfl)
  (hf:X.fn x=true∨X.env.scope.names.lookup x=some .local := by first|exact .inl rfl|exact .inr rfl|assumption):DS X E He H0e (.Assign [.Name x pos'] e pos) (sL i f):=by
 refine⟨?_⟩;refine cD (qE hN hi hx he.o hs hf) λD σ H z9=>?_;obtain⟨Ha,ρ,h,q⟩:=z9;refine⟨Ha,ρ,h.g.sub,h.rd,?_⟩
 unfold sL at q;cases e1:f ρ with
 |stuck=>rw[e1]at q;exact q|exn x=>rw[e1]at q;exact λC ox H' Ha' g ex=>q C ox H' Ha' (h.g.trans g) ex
 |ok d=>
  rw[e1]at q;cases d with
  |dic ks ds=>
   intro p vs H' Ha' g hp h0 hv hl rp;refine q _ H' Ha' g.z ((h.grow g).putOwnG (dn:=.dic ks ds) (λj a ej ea d ed=>?_) (h.g.s.free hp) h0 ⟨vs,hv,hl,rp⟩ (h.fresh_x g.s hp));subst ea;obtain⟨a',k1,_,_,k4⟩:=h.ow j d ed;rw[ej]at k1;cases k1;cases d with|lst ds'|dic ks ds'=>obtain⟨vs',h5,_⟩:=k4;rw[hp]at h5;cases h5| _=>exact k4.elim
  |_=>exact q.elim
def xA:KD X E (.Dict [] [] pos) (dC (.dic [] [])):=by
 refine⟨aU Az λσ H Q ⟨Ha,ρ,hs,hr,q⟩=>λp hp=>?_⟩;have q:∀p vs H' Ha',aZ H Ha H' Ha'->H p=none->Ha' p=none->H' p=some (.dK ((([]:List Str).map Sum.inr).zip vs))->([]:List Str).length=vs.length->Reps X.K Ha' [] vs->Q (.ref p) H':=q;have h0:Ha p=none:=hs.free hp;refine q p [] _ Ha ⟨λb o q=>by rw[az (aO q hp)];exact q,aE.refl _,λb o q=>?_,λa h1 h2=>absurd h2 h1⟩ hp h0 aG rfl Reps.nil;rw[az (by intro z;subst z;rw[h0]at q;cases q)];exact hs _ _ q
end
def LK(k d:D):ao D:=match k with
 |.str x=>.ok (.dic [x] [d])
 |_=>.stuck
def vk(ρ:Ev)(i:Nat)(k:List Str->ac->ao Fl):ao Fl:=match ρ[i]? with
 |some (.ow (.dic ks ds))=>k ks ds
 |_=>.stuck
def jW(i:Nat)(ρ:Ev)(ks:List Str)(ds:ac)(d j:D):ao Fl:=match j with
 |.str x=>if ks.length<line then .ok (.nx (ρ.set i (.ow (oJ ks ds x d)))) else .stuck
 |_=>.stuck
def jD(i:Nat)(f k:am):bd:=λρ=>vk ρ i λks ds=>(f ρ).bind λd=>(k ρ).bind (jW i ρ ks ds d)
section
variable {X:Cx}{E:XK}{He H0e:Hp}{e b:Expr}{pos:Pos}{f k:am}
def yj{K:W.Frag}{Ha H:Hp}{σ:L2.St}{ρ:Ev}{i:Nat}{k:List Str->ac->ao Fl}{D':fK}(h:dw K He H0e Ha σ H ρ)(q:bA K E He H0e Ha (vk ρ i k) D') :
  ∃ks ds p vs,ρ[i]?=some (.ow (.dic ks ds))/\σ[i]?=some (some (.ref p))/\H p=some (.dK ((ks.map Sum.inr).zip vs))/\ks.length=vs.length/\Reps K Ha ds vs/\bA K E He H0e Ha (k ks ds) D':=by
 unfold vk at q;cases e:ρ[i]? with
 |none=>rw[e]at q;exact q.elim
 |some s=>
  rw[e]at q;cases s with
  |no|sh d|ox j ds|pt a=>exact q.elim
  |ow d=>
   cases d with
   |dic ks ds=>
    obtain⟨p,h1,h2,h3,vs,h4,h5,h6⟩:=h.ow i _ e;exact⟨ks,ds,p,vs,rfl,h1,h4,h5,h6,q⟩
   |_=>exact q.elim
def An{K:W.Frag}{Ha H:Hp}{σ:L2.St}{ρ:Ev}{i:Nat}{D':fK}{ks:List Str}{ds:ac}{d j:D}{p:Addr}{vs:al}{v u:V}(h:dw K He H0e Ha σ H ρ)(e1:ρ[i]?=some (.ow (.dic ks ds)))(e2:σ[i]?=some (some (.ref p)))(e5:H p=some (.dK ((ks.map Sum.inr).zip vs)))(el:ks.length=vs.length)(e6:Reps K Ha ds vs)
  (rp:Rep K Ha d v)(rj:Rep K Ha j u)(q:bA K E He H0e Ha (jW i ρ ks ds d j) D'):∃a H4,V.ref p=.ref a/\zk H a u v H4/\D'.nx σ H4:=by
 unfold jW at q;cases j with
 |str x=>
  by_cases hl:ks.length<line
  .simp only[if_pos hl]at q
   rw[Rep.str_iff.mp rj];refine⟨p,_,rfl,zk.k (k:=.inr x) e5 ?_,?_⟩
   .rw[List.length_zip,List.length_map,←el,Nat.min_self]
    have:line<=sizeLine:=cO (Nat.le_refl _);omega
   .exact q σ _ Ha (aE.refl _) (h.writeG e1 e2 (CP el e6 rp))
  .simp only[if_neg hl]at q;exact q.elim
 |_=>exact q.elim
def md{i:Nat}{x:Str}{p1 p2:Pos}(hu:X.A.units+1<cLine)(hN:X.N[i]?=some x)(hv:zg X.env.scope x)(he:DE X E e f)(hk:DE X E b k)
  (hd:(x==("__debug__":Str))=false:=by decide)(hcd:(x==("__classdict__":Str))=false:=by decide)
  (hs:swapsWith e (some (.Subscript (.Name x p1) b p2)) pos.line X.env=pure false:=by rfl):DS X E He H0e (.Assign [.Subscript (.Name x p1) b p2] e pos) (jD i f k):=by
 refine⟨?_⟩;refine cD (CS hu (fX hN hv hd hcd) hk.o he.o hs) λD σ H z9=>?_;obtain⟨Ha,ρ,h,q⟩:=z9;refine⟨Ha,ρ,h.g.sub,h.rd,?_⟩
 obtain⟨ks,ds,p,vs,e1,e2,e5,el,e6,q⟩:=yj h q;refine plain (k:=λd=>(k ρ).bind (jW i ρ ks ds d)) h q λd v H1 H01 _ g1 r1 q1=>⟨.ref p,e2,?_⟩
 have h1':=h.grow g1;refine⟨H01,ρ,h1'.g.sub,h1'.rd,plain (k:=jW i ρ ks ds d) h1' q1 λj u H2 H02 _ g2 r2 q2=>?_⟩;exact An (h1'.grow g2) e1 e2 (g2.s _ _ (g1.s _ _ e5)) el ((e6.mono g1.z).mono g2.z) (r1.mono g2.z) r2 q2
end
section
variable {X:Cx}{E:XK}{He H0e:Hp}{e b o:Expr}{pos apos cpos:Pos}{f k g:am}
def un1{n:Nat}(h:n+64<cLine):n+1<cLine:=Nat.lt_of_le_of_lt (by omega) h
end
section
variable {X:Cx}{E:XK}{a b:Expr}{f g:am}{pos:Pos}
def J2(x y:D):ao D:=match x,y with
 |.tup [],.tup es=>.ok (.tup es)
 |.tup ds,.tup es=>if ds.isEmpty=false/\ds.length+es.length<=line then .ok (.tup (ds++es)) else .stuck
 |_,_=>.stuck
end
structure Rw where
 x:Str
 st:Stmt
 N:List Str
 n:Nat
abbrev Rw.ps(r:Rw):List Str:=r.N.take r.n
instance {N P:List Str}{sc:Scope}:Decidable (eD N P sc) :=
 decidable_of_iff (sc.kind=.function/\sc.isCoroutine=false/\sc.isGenerator=false/\N.Nodup/\N.take P.length=P/\(∀x∈P,sc.names.lookup x=some .local ∨ sc.names.lookup x=some .cell)/\∀y∈sc.names,y.2≠.free)
  ⟨λ⟨a,b,c,d,e,f,g⟩=>⟨a,b,c,d,e,f,g⟩,λ⟨a,b,c,d,e,f,g⟩=>⟨a,b,c,d,e,f,g⟩⟩
def Kw(rows:List Rw):Prop:=∀r∈rows,eD r.N r.ps (defScope r.st)
instance {rows:List Rw}:Decidable (Kw rows):=inferInstanceAs (Decidable (∀r∈rows,_))
def TG(rows:List Rw)(K:W.Frag)(mg:Str->Option Value)(A:Nat->Addr)(Q:Nat->FuncData):Prop:=∀i r,rows[i]?=some r->FT K mg r.x r.st r.ps (A i) (Q i)
def Ie(r:Rw):Prop:=∀(kV doc pm:Value) (an:Option Addr) (cdv ct:Value) (us:List Value),us.length=r.ps.length->bindArgs (W.fnOf r.x r.x (defArgs r.st) (defBody r.st) (defScope r.st) .none kV doc pm an cdv ct) ⟨us,[]⟩=pure (r.ps.zip us)
def QAs(K:W.Frag):List Rw->List Addr->Prop
 |[],_=>True
 |r::rs,a::as=>QA K r.x r.st a/\QAs K rs as
 |_::_,[]=>False
def QAs.cons{K:W.Frag}{x:Str}{st:Stmt}{N:List Str}{n:Nat}{rs:List Rw}{a:Addr}{as:List Addr}(q:QA K x st a)(t:QAs K rs as):QAs K (⟨x,st,N,n⟩::rs) (a::as):=⟨q,t⟩
theorem E4{K:W.Frag}{h:Heap}{mg:Str->Option Value}(X:K.In h)(G:h.Ns mainGlobals mg):∀{rows:List Rw}{as:List Addr},(∀r∈rows,Ie r)->QAs K rows as ->
  ∃Q:Nat->FuncData,∀i r,rows[i]?=some r->FT K mg r.x r.st r.ps (as.getD i 0) (Q i)/\∃kV doc pm an cdv ct,Q i=W.fnOf r.x r.x (defArgs r.st) (defBody r.st) (defScope r.st) .none kV doc pm an cdv ct
 |[],as,_,_=>⟨λ_=>default,λi r e=>by simp at e⟩
 |r::rs,[],_,q=>q.elim
 |r::rs,a::as,hb,q=>by
  obtain⟨Q,h⟩:=E4 X G (λr hr=>hb r (List.mem_cons_of_mem _ hr)) q.2;obtain⟨d,h1,h2⟩:=JD X G q.1 (hb r List.mem_cons_self);refine⟨λi=>match i with|0=>d|i+1=>Q i,λi r' e=>?_⟩;cases i with|zero=>rw[List.getElem?_cons_zero]at e;cases e;exact⟨h1,h2⟩|succ i=>rw[List.getElem?_cons_succ]at e;exact h i r' e
structure iV (P:Program) (w:World) (K:W.Frag) (mg:Str->Option Value) (base:Heap) (CX:ql) (k:Nat) (fn:Addr) (fd:FuncData) (ps:List Str) (sp:Sp) (x:Str) (st:Stmt):Prop where
 F:eP P w K mg base CX k fn fd ps sp
 t:FT K mg x st ps fn fd
section
variable {P:Program}{w:World}{K:W.Frag}{mg:Str->Option Value}{base:Heap}{rows:List Rw}{A:Nat->Addr}{Q:Nat->FuncData}{i k n:Nat}{r:Rw}{s:bd}{sM:Addr->Ev->ac->ao MFl}
variable (T:TG rows K mg A Q) (S:Kw rows) (h:rows[i]?=some r)
include T S h
theorem oD(b:∀(cdv:Value) (A':Around) (outer:List PySem.Env) (s0:Shared) (H Ha:Hp) (E:XK),cL k (A'.deeper (envOfC r.x (defScope r.st) s0.heap.objs.size (A i) cdv)) ->
   rP (cf CX0 P w K mg base r.N r.x (defScope r.st) (A i) cdv A' outer s0 H E).nox E H Ha (defBody r.st) s):iV P w K mg base CX0 (k+1) (A i) (Q i) r.ps (spD K r.ps.length (bH r.N.length s)) r.x r.st :=
 ⟨yK (T i r h).F (S r (List.mem_of_getElem? h)) b,T i r h⟩
theorem oE(b:∀(cdv:Value) (A':Around) (outer:List PySem.Env) (s0:Shared) (H Ha:Hp) (E:XK),cL k (A'.deeper (envOfC r.x (defScope r.st) s0.heap.objs.size (A i) cdv)) ->
   rP (cf (eR P w) P w K mg base r.N r.x (defScope r.st) (A i) cdv A' outer s0 H E) E H Ha (defBody r.st) s):iV P w K mg base (eR P w) (k+1) (A i) (Q i) r.ps (spD K r.ps.length (bH r.N.length s)) r.x r.st :=
 ⟨vK (T i r h).F (S r (List.mem_of_getElem? h)) b,T i r h⟩
end
section
variable {X:Cx}{E:XK}{e:Expr}{es:List Expr}{fa:Ev->ao (ac)}{pos:Pos}{CX:ql}{k k0 n:Nat}{fn:Addr}{fd:FuncData}{ps:List Str}{m:ac->ao D}{x:Str}{p:Pos}{st:Stmt}
def rC(B:iV X.prog X.w X.K X.mg X.base CX k0 fn fd ps (spD X.K n m) x st)(hr:cL k X.A)(ha:DA X E (e::es) fa)(hle:k0<=k:=by decide)(hx:ll CX X E:=by first|exact Jd|exact pass0E|exact C9)(hl:∀ρ ds,fa ρ=.ok ds->ds.length=(e::es).length:=by first|exact Ku|exact Kt|exact Ks|exact Lm|exact al5)(hn:(e::es).length=n:=by rfl)
  (hg:Gl X x:=by exact rfl)(hdb:(x==("__debug__":Str))=false:=by decide)(he:starEach (e::es) X.env=(false,eval e X.env)::starEach es X.env:=by exact aI rfl)(hpl:(backTo pos (starEach es X.env)).any (·.1)=false:=by exact bp rfl) :
  DE X E (.Call (.Name x p) (e::es) [] pos) (aq fa m):=EE (B.F.mono hle) hr hg B.t.g B.t.F.kp B.t.b hx ha hn hl hdb he hpl
def rD{cpos:Pos}(B:iV X.prog X.w X.K X.mg X.base (eR X.prog X.w) k0 fn fd ps (spD X.K n m) x st)(hr:cL k X.A)(ha:DA X.nox E0 (e::es) fa)(hle:k0<=k:=by decide)(hl:∀ρ ds,fa ρ=.ok ds->ds.length=(e::es).length:=by first|exact Ku|exact Kt|exact Ks|exact Lm|exact al5)(hn:(e::es).length=n:=by rfl)
  (hg:Gl X x:=by exact rfl)(hdb:(x==("__debug__":Str))=false:=by decide)(he:starEach (e::es) X.env=(false,eval e X.env)::starEach es X.env:=by exact aI rfl)(hpl:(backTo cpos (starEach es X.env)).any (·.1)=false:=by exact bp rfl)
  (hs:swapsWith (.Call (.Name x p) (e::es) [] cpos) none pos.line X.env=pure false:=by rfl):TB X (.Expr (.Call (.Name x p) (e::es) [] cpos) pos) (jL fa m):=Cv (B.F.mono hle) hr hg B.t.g B.t.F.kp B.t.b ha hn hl hdb he hpl hs
def rT{y:Str}{pos' cpos:Pos}(hN:X.N.Nodup){i:Nat}(hi:X.N[i]?=some y)(hy:zp X.env.scope y)(B:iV X.prog X.w X.K X.mg X.base (eR X.prog X.w) k0 fn fd ps (spD X.K n m) x st)(hr:cL k X.A)(ha:DA X.nox E0 (e::es) fa)(hle:k0<=k:=by decide)(hl:∀ρ ds,fa ρ=.ok ds->ds.length=(e::es).length:=by first|exact Ku|exact Kt|exact Ks|exact Lm|exact al5)(hn:(e::es).length=n:=by rfl)
  (hg:Gl X x:=by exact rfl)(hdb:(x==("__debug__":Str))=false:=by decide)(he:starEach (e::es) X.env=(false,eval e X.env)::starEach es X.env:=by exact aI rfl)(hpl:(backTo cpos (starEach es X.env)).any (·.1)=false:=by exact bp rfl)
  (hs:swapsWith (.Call (.Name x p) (e::es) [] cpos) (some (.Name y pos')) pos.line X.env=pure false:=by rfl)
  (hf:X.fn y=true∨X.env.scope.names.lookup y=some .local := by first|exact .inl rfl|exact .inr rfl|assumption):TB X (.Assign [.Name y pos'] (.Call (.Name x p) (e::es) [] cpos) pos) (sJ i fa m):=FU hN hi hy (B.F.mono hle) hr hg B.t.g B.t.F.kp B.t.b ha hn hl hdb he hpl hs hf
end
def Mg{r:Rw}(hn:r.ps.length=1:=by rfl)(hb:∀(kV doc pm:Value) (an:Option Addr) (cdv ct b:Value),bindArgs (W.fnOf r.x r.x (defArgs r.st) (defBody r.st) (defScope r.st) .none kV doc pm an cdv ct) ⟨[b],[]⟩=pure (r.ps.zip [b]):=by intros;rfl):Ie r:=λ_ _ _ _ _ _ us hl=>by
 obtain⟨b,rfl⟩:=LJ (hl.trans hn);exact hb ..
def Mf{r:Rw}(hn:r.ps.length=2:=by rfl)(hb:∀(kV doc pm:Value) (an:Option Addr) (cdv ct b c:Value),bindArgs (W.fnOf r.x r.x (defArgs r.st) (defBody r.st) (defScope r.st) .none kV doc pm an cdv ct) ⟨[b,c],[]⟩=pure (r.ps.zip [b,c]):=by intros;rfl):Ie r:=λ_ _ _ _ _ _ us hl=>by
 obtain⟨b,c,rfl⟩:=LI (hl.trans hn);exact hb ..
def Me{r:Rw}(hn:r.ps.length=3:=by rfl)(hb:∀(kV doc pm:Value) (an:Option Addr) (cdv ct b c d:Value),bindArgs (W.fnOf r.x r.x (defArgs r.st) (defBody r.st) (defScope r.st) .none kV doc pm an cdv ct) ⟨[b,c,d],[]⟩=pure (r.ps.zip [b,c,d]):=by intros;rfl):Ie r:=λ_ _ _ _ _ _ us hl=>by
 obtain⟨b,c,d,rfl⟩:=Lb (hl.trans hn);exact hb ..
def Md{r:Rw}(hn:r.ps.length=4:=by rfl)(hb:∀(kV doc pm:Value) (an:Option Addr) (cdv ct b c d e:Value),bindArgs (W.fnOf r.x r.x (defArgs r.st) (defBody r.st) (defScope r.st) .none kV doc pm an cdv ct) ⟨[b,c,d,e],[]⟩=pure (r.ps.zip [b,c,d,e]):=by intros;rfl):Ie r:=λ_ _ _ _ _ _ us hl=>by
 obtain⟨b,c,d,e,rfl⟩:=Ma (hl.trans hn);exact hb ..
def Be{P:Program}{w:World}{K:W.Frag}{mg:Str->Option Value}{base:Heap}{CX:ql}{k n:Nat}{f:Addr}{fd:FuncData}{ps:List Str}:eP P w K mg base CX k f fd ps (spD K n λ_=>.stuck) :=
 ⟨λ_ _ _ _ ⟨_,_,_,_,_,q⟩=>q.elim,λ_ _ _ _ _ _ _ _ _ _ _ _ _ ⟨_,_,_,_,_,q⟩=>q.elim⟩
def oS{P:Program}{w:World}{K:W.Frag}{mg:Str->Option Value}{base:Heap}{CX:ql}{k n:Nat}{rows:List Rw}{A:Nat->Addr}{Q:Nat->FuncData}{i:Nat}{r:Rw}(T:TG rows K mg A Q)(h:rows[i]?=some r):iV P w K mg base CX k (A i) (Q i) r.ps (spD K n λ_=>.stuck) r.x r.st:=⟨Be,T i r h⟩
def Cs(Ts:List String)(x:D):Bool:=Ts.any λT=>rN x==T||(rN x=="bool"&&T=="int")
def vg:D->Bool
 |.exc _=>false
 |.ob _ _=>false
 |_=>true
def uk(Ts:List String)(x:D):ao D:=if vg x=true then .ok (.bl (Cs Ts x)) else .stuck
theorem ck{K:W.Frag}{S:String}(hS:S∈["NoneType","bool","int","str","tuple","list","dict"]):∀{Ts:List String},(∀T∈Ts,iW K T)->W.kitAny K (.type S) (Ts.map Value.type)=some (Ts.any λT=>S==T||(S=="bool"&&T=="int"))
 |[],_=>rfl
 |T::Ts,h=>by
  have h1:=h T List.mem_cons_self S hS;have ih:=ck hS (Ts:=Ts) λU hU=>h U (List.mem_cons_of_mem _ hU);rw[List.map_cons,W.kitAny,h1,List.any_cons];cases (S==T||(S=="bool"&&T=="int")) with
  |true=>rfl
  |false=>rw[Bool.false_or];exact ih
theorem mC:∀{Ts:List String}{us:List Value},bj (Ts.map V.ty) us->us=Ts.map Value.type
 |[],_,.nil=>rfl
 |T::Ts,_,.cons r t=>by rw[mC t];obtain rfl:_=Value.type T:=r;rfl
section
variable {X:Cx}{E:XK}{e a:Expr}{es:List Expr}{f:am}{pos:Pos}
def Dz{Ts:List String}(hk:∀T∈Ts,iW X.K T):iX X (.builtin "isinstance") (λvs H Q=>∃x v p,vs=[v,.ref p]/\H p=some (.tup (Ts.map V.ty))/\Rep X.K H x v/\vg x=true/\Q (.bl (Cs Ts x)) H):=by
 intro pins s σ H xs us Q I r h;obtain⟨x,v,p,rfl,hp,h1,h2,q⟩:=h;cases r with
 |cons r1 r2=>
  cases r2 with
  |cons r3 r4=>
   cases r4;rename_i u1 u2;obtain rfl:u2=Value.ref p:=r3;obtain⟨_,its,rv,ob,k1,k2,n,k3⟩:=I.hok p _ hp;obtain rfl:=mC rv;obtain⟨oc,od,odt,osl⟩:=ob;cases k2;cases k3;have fin:∀tk,∃w' H',L2.Inv X pins σ H' { s with toks:=tk }/\bb w' (.bool (Cs Ts x))/\Q w' H':=λtk=>⟨.bl (Cs Ts x),H,I.tok _,rfl,q⟩
   cases x with
   |non=>rw[aJ.mp h1]at r1;cases (show u1=Value.none from r1);exact W.kia_tup W.kitx_none I.kIn True.intro k1 (ck (by simp) hk) (λz=>nomatch z) fin|bl b=>rw[aF.mp h1]at r1;cases (show u1=Value.bool b from r1);exact W.kia_tup W.kitx_bool I.kIn True.intro k1 (ck (by simp) hk) (λz=>nomatch z) fin|int b=>rw[ay.mp h1]at r1;obtain⟨t,q⟩:=(show ∃t,u1=Value.int b t from r1);cases q;exact W.kia_tup W.kitx_int I.kIn True.intro k1 (ck (by simp) hk) (λz=>nomatch z) fin|str b=>rw[Rep.str_iff.mp h1]at r1;obtain⟨t,q⟩:=(show ∃t,u1=Value.str b t from r1);cases q;exact W.kia_tup W.kitx_str I.kIn True.intro k1 (ck (by simp) hk) (λz=>nomatch z) fin
   |tup ds=>
    obtain⟨a,vs,its,rfl,rfl,h1,h2,h3,h4,_⟩:=aW I h1 r1;obtain⟨o,k1',k2',_⟩:=h4;exact W.kia_tup W.kitx_tuple I.kIn ⟨o,k1',k2'⟩ k1 (ck (by simp) hk) (λz=>nomatch z) fin
   |lst ds=>
    obtain⟨a,vs,its,rfl,rfl,h1,h2,h3,h4,_⟩:=aV I h1 r1;obtain⟨o,k1',k2',_⟩:=h4;exact W.kia_tup W.kitx_list I.kIn ⟨o,k1',k2'⟩ k1 (ck (by simp) hk) (λz=>nomatch z) fin
   |dic ks ds=>
    rw[Rep]at h1;obtain⟨a,kvs,vs,rfl,h1,h2,_⟩:=h1;cases (show u1=Value.ref a from r1);obtain⟨_,_,vs',_,p'⟩:=h1.ok I.hok;obtain⟨o,es,ep,k1',k2',_⟩:=p';exact W.kia_tup W.kitx_dict I.kIn ⟨o,k1',k2'.1⟩ k1 (ck (by simp) hk) (λz=>nomatch z) fin
   |exc _|ob _ _=>cases h2
structure TN (X:Cx) (es:List Expr) (Ts:List String):Prop where
 o:PA X es (λσ H Q=>Q (Ts.map V.ty) H)
 k:∀T∈Ts,iW X.K T
def FP:TN X [] []:=⟨dQ,λ_ h=>nomatch h⟩
def wx{x:Str}{p:Pos}{T:String}{Ts:List String}(hk:iW X.K T)(hg:Gl X x)(hm:X.mg x=none)(hv:bootBuiltins x=some (.type T))(h:TN X es Ts)(hn:x≠"__name__":=by decide)(hdb:(x==("__debug__":Str))=false:=by decide):TN X (.Name x p::es) (T::Ts) :=
 ⟨bP (qH (v:=.ty T) hg hm hv rfl hn hdb) h.o (aI rfl),λU hU=>by
  rcases List.mem_cons.mp hU with rfl|hU
  .exact hk
  .exact h.k U hU⟩
def EC{p1 p2:Pos}{k2}{Ts:List String}(hc:TN X es Ts)(hgi:Gl X "isinstance")(hmi:X.mg "isinstance"=none)(ha:DE X E a f)(hl:Ts.length<=30:=by decide)
  (he:starEach [a,.Tuple es k2 p2] X.env=(false,eval a X.env)::starEach [.Tuple es k2 p2] X.env:=by exact aI rfl)(he2:starEach [.Tuple es k2 p2] X.env=(false,eval (.Tuple es k2 p2) X.env)::starEach [] X.env:=by exact aI rfl)(hpl:(backTo pos (starEach [.Tuple es k2 p2] X.env)).any (·.1)=false:=by exact bp rfl) :
  DE X E (.Call (.Name "isinstance" p1) [a,.Tuple es k2 p2] [] pos) (bc f (uk Ts)):=by
 refine⟨?_⟩;refine aU (iI (Dz hc.k) hgi hmi PyProof.Rows.Boot.«isinstance» (bP ha.o (bP (vi hc.o) dQ he2) he) (by decide) (by decide) he hpl) λσ H Q z9=>?_;obtain⟨Ha,ρ,hs,hr,q⟩:=z9;refine⟨Ha,ρ,hs,hr,?_⟩
 unfold bc at q;cases e1:f ρ with
 |stuck|exn x=>rw[e1]at q;exact q
 |ok d=>
  rw[e1]at q;intro v H1 H01 g1 r1;have q:post X.K E H Ha (uk Ts d) Q:=q;unfold uk at q
  by_cases hp:vg d=true
  .rw[if_pos hp]at q
   refine⟨?_,λp hp'=>?_⟩
   .rw[List.length_map];exact Nat.le_trans hl (by decide)
   .have ga:=aR (o:=.tup (Ts.map V.ty)) g1.sub hp'
    exact⟨d,v,p,rfl,aG,(r1.mono g1.sub).mono ga.s,hp,q _ _ _ (g1.trans ga) (rb _)⟩
  .rw[if_neg hp]at q;exact q.elim
end
mutual
def plainD:D->Bool
 |.tup ds=>plainDs ds
 |.lst ds=>plainDs ds
 |.dic _ _=>false
 |.exc _=>false
 |.ob _ _=>false
 |_=>true
def plainDs:ac->Bool
 |[]=>true
 |d::ds=>plainD d&&plainDs ds
end
mutual
/-- the cells of a tree -/
def Ft(K:W.Frag)(H:Hp):D->V->Addr->Prop
 |.tup ds,v,b=>∃a vs,v=.ref a/\((b=a/\Rd H a (.tup vs))∨(ip K H a vs/\Fts K H ds vs b))
 |.lst ds,v,b=>∃a vs,v=.ref a/\((b=a/\Rd H a (.lst vs)/\Reps K H ds vs)∨(eh K H a vs/\Reps K H ds vs/\Fts K H ds vs b))
 |_,_,_=>False
def Fts(K:W.Frag)(H:Hp):ac->al->Addr->Prop
 |d::ds,v::vs,b=>Ft K H d v b∨Fts K H ds vs b
 |_,_,_=>False
end
open Classical in
noncomputable def rst(H:Hp) (S:Addr->Prop):Hp:=λb=>if S b then H b else none
def qB{H:Hp}{S:Addr->Prop}{b:Addr}(h:S b):rst H S b=H b:=if_pos h
def Af{H:Hp}{S:Addr->Prop}:aE (rst H S) H:=λb o e=>by
 unfold rst at e;split at e
 .exact e
 .cases e
def CJ{H:Hp}{S:Addr->Prop}{b:Addr}(h:rst H S b≠none):S b:=by
 unfold rst at h;split at h
 .assumption
 .exact absurd rfl h
def Ag{H:Hp}{S:Addr->Prop}{b:Addr}{u:HO}(h:S b)(r:Rd H b u):Rd (rst H S) b u:=by
 unfold Rd;rw[qB h];exact r
mutual
theorem Rep.rst{K:W.Frag}{H:Hp}{S:Addr->Prop}:∀{d:D}{v:V},plainD d=true->Rep K H d v->(∀b,Ft K H d v b->S b)->Rep K (rst H S) d v
 |.non,_,_,h,_=>by unfold Rep at h ⊢;exact h
 |.bl _,_,_,h,_=>by unfold Rep at h ⊢;exact h
 |.int _,_,_,h,_=>by unfold Rep at h ⊢;exact h
 |.str _,_,_,h,_=>by unfold Rep at h ⊢;exact h
 |.tup ds,_,p,h,s=>by
  obtain⟨a,vs,rfl,e2,e3⟩:=aH.mp h;unfold plainD at p;refine aH.mpr ⟨a,vs,rfl,?_,Reps.rst p e3 λb hb=>s b (by unfold Ft;exact⟨a,vs,rfl,.inr ⟨e2,hb⟩⟩)⟩;rcases e2 with e2|e2
  .exact .inl (Ag (s a (by unfold Ft;exact⟨a,vs,rfl,.inl ⟨rfl,e2⟩⟩)) e2)
  .exact .inr e2
 |.lst ds,_,p,h,s=>by
  obtain⟨a,vs,rfl,e2,e3⟩:=aC.mp h;unfold plainD at p;refine aC.mpr ⟨a,vs,rfl,?_,Reps.rst p e3 λb hb=>s b (by unfold Ft;exact⟨a,vs,rfl,.inr ⟨e2,e3,hb⟩⟩)⟩;rcases e2 with e2|e2
  .exact .inl (Ag (s a (by unfold Ft;exact⟨a,vs,rfl,.inl ⟨rfl,e2,e3⟩⟩)) e2)
  .exact .inr e2
 |.dic _ _,_,p,_,_=>by unfold plainD at p;cases p
 |.exc _,_,p,_,_=>by unfold plainD at p;cases p
 |.ob _ _,_,p,_,_=>by unfold plainD at p;cases p
theorem Reps.rst{K:W.Frag}{H:Hp}{S:Addr->Prop}:∀{ds:ac}{vs:al},plainDs ds=true->Reps K H ds vs->(∀b,Fts K H ds vs b->S b)->Reps K (rst H S) ds vs
 |[],_,_,h,_=>by rw[Reps.nil_iff.mp h];exact Reps.nil
 |d::ds,_,p,h,s=>by
  obtain⟨v,r,rfl,h1,h2⟩:=aA.mp h;unfold plainDs at p;rw[Bool.and_eq_true]at p;exact Reps.cons (Rep.rst p.1 h1 λb hb=>s b (by unfold Fts;exact .inl hb)) (Reps.rst p.2 h2 λb hb=>s b (by unfold Fts;exact .inr hb))
end
def Vw(A:Addr->Prop)(H H2:Hp):Prop:=∀c,H2 c=H c∨(A c/\∃o u,H c=some (.frz o u)/\H2 c=some u)
def Vw.keep{A:Addr->Prop}{H H2:Hp}(v:Vw A H H2){c:Addr}{u:HO}(e:H c=some u)(n:∀o w,u≠.frz o w):H2 c=some u:=by
 rcases v c with h|⟨_,o,w,h,_⟩
 .rw[h];exact e
 .rw[e]at h;cases h;exact absurd rfl (n o w)
def Vw.none{A:Addr->Prop}{H H2:Hp}(v:Vw A H H2){c:Addr}(e:H c=Option.none):H2 c=Option.none:=by
 rcases v c with h|⟨_,o',w,h,h2⟩
 .rw[h];exact e
 .rw[e]at h;cases h
def ou{P:Program}{w:World}{A:Addr->Prop}{H H2:Hp}{h:Heap}{a:Addr}{o:HO}(v:Vw A H H2)(x:br P w H h a o):br P w H2 h a o :=
 x.stay (λb u _ q=>q) (λb q=>v.keep q (λ_ _ z=>by cases z)) λb xs q=>v.keep q (λ_ _ z=>by cases z)
mutual
/-- .. seen as any list -/
def fgt:D->D
 |.tup ds=>.tup (fgts ds)
 |.lst ds=>.lst (fgts ds)
 |.dic ks ds=>.dic ks (fgts ds)
 |.ob k ds=>match k with
  |.pl=>.lst (fgts ds)
  |k=>.ob k (fgts ds)
 |.non=>.non
 |.bl b=>.bl b
 |.int i=>.int i
 |.str x=>.str x
 |.exc x=>.exc x
def fgts:ac->ac
 |[]=>[]
 |d::ds=>fgt d::fgts ds
end
mutual
theorem Rep.fgt{K:W.Frag}{H:Hp}:∀{d:D}{v:V},Rep K H d v->Rep K H (fgt d) v
 |.non,_,h=>by rw[DL.fgt];exact h
 |.bl _,_,h=>by rw[DL.fgt];exact h
 |.int _,_,h=>by rw[DL.fgt];exact h
 |.str _,_,h=>by rw[DL.fgt];exact h
 |.exc _,_,h=>by rw[DL.fgt];exact h
 |.tup ds,_,h=>by
  obtain⟨a,vs,e1,e2,e3⟩:=aH.mp h;rw[DL.fgt];exact aH.mpr ⟨a,vs,e1,e2,Reps.fgt e3⟩
 |.lst ds,_,h=>by
  obtain⟨a,vs,e1,e2,e3⟩:=aC.mp h;rw[DL.fgt];exact aC.mpr ⟨a,vs,e1,e2,Reps.fgt e3⟩
 |.dic ks ds,_,h=>by
  rw[Rep]at h;obtain⟨a,kvs,vs,e1,e2,e3,e4,e5⟩:=h;rw[DL.fgt,Rep];exact⟨a,kvs,vs,e1,e2,e3,e4,Reps.fgt e5⟩
 |.ob k ds,_,h=>by
  obtain⟨a,vs,e1,e2,e3⟩:=cb.mp h;cases k with
  |pl=>rw[DL.fgt];exact aC.mpr ⟨a,vs,e1,eh.of e2,Reps.fgt e3⟩
  |ins c ks=>rw[DL.fgt]<;>first|exact cb.mpr ⟨a,vs,e1,e2,Reps.fgt e3⟩|(intro z;cases z)
  |dint ks=>rw[DL.fgt]<;>first|exact cb.mpr ⟨a,vs,e1,e2,Reps.fgt e3⟩|(intro z;cases z)
  |exf c ks=>rw[DL.fgt]<;>first|exact cb.mpr ⟨a,vs,e1,e2,Reps.fgt e3⟩|(intro z;cases z)
theorem Reps.fgt{K:W.Frag}{H:Hp}:∀{ds:ac}{vs:al},Reps K H ds vs->Reps K H (fgts ds) vs
 |[],_,h=>by rw[fgts];exact h
 |d::ds,_,h=>by
  obtain⟨v,r,rfl,h1,h2⟩:=aA.mp h;rw[fgts];exact Reps.cons (Rep.fgt h1) (Reps.fgt h2)
end
section
variable {X:Cx}{E:XK}{e:Expr}{f:am}
def EH(f:am):am:=λρ=>(f ρ).bind λd=>.ok (fgt d)
def BF(he:DE X E e f):DE X E e (EH f):=⟨aU he.o λσ H Q ⟨Ha,ρ,hs,hr,q⟩=>⟨Ha,ρ,hs,hr,by
 unfold EH at q;cases e1:f ρ with
 |stuck|exn x=>rw[e1]at q;exact q
 |ok d=>rw[e1]at q;exact λv H' Ha' g r=>q v H' Ha' g r.fgt⟩⟩
def K8(d:D):ao D:=match d with
 |.lst ds=>.ok (.ob .pl ds)
 |_=>.stuck
def Aq(f:am):am:=λρ=>(f ρ).bind K8
def Fp(he:DF X E e f):DE X E e (Aq f):=⟨aU he.o λσ H Q ⟨Ha,ρ,hs,hr,q⟩=>⟨Ha,ρ,hs,hr,by
 unfold Aq at q;cases e1:f ρ with
 |stuck|exn x=>rw[e1]at q;exact q
 |ok d=>
  rw[e1]at q;cases d with
  |lst ds=>
   intro p vs H' Ha' g hp h0 hv rp;have z:aE Ha' (upd Ha' p (.lst vs)):=λb o e=>by rw[az (by intro z;subst z;rw[h0]at e;cases e)];exact e
   refine q (.ref p) H' (upd Ha' p (.lst vs)) ⟨g.s,g.z.trans z,λb o e=>?_,λb h1 h2=>?_⟩ (cb.mpr ⟨p,vs,rfl,aG,rp.mono z⟩)
   .by_cases c:b=p
    .subst c;rw[aG]at e;cases e;exact hv
    .rw[az c]at e;exact g.sub _ _ e
   .by_cases c:b=p
    .subst c;exact hp
    .rw[az c]at h1;exact g.nw b h1 h2
  |_=>exact q.elim⟩⟩
end
def EX(H:Hp):Prop:=∀c us,H c≠some (.lst us)
def LA(K:W.Frag)(n:Nat)(m:ac->ao D):Sp:=λvs H Q E=>vs.length=n/\∃Ha ds,aE Ha H/\EX Ha/\Reps K Ha ds vs/\post K E H Ha (m ds) Q
def vJ{P:Program}{w:World}{K:W.Frag}{mg:Str->Option Value}{base:Heap}{x qual:Str}{st:Stmt}{f:Addr}{fd:FuncData}{N ps:List Str}{k:Nat}{s:bd}(F:B1 K x qual st f fd)(S:eD N ps (defScope st))
  (hbody:∀(cdv:Value) (A:Around) (outer:List PySem.Env) (s0:Shared) (H Ha:Hp) (E:XK),EX Ha->cL k (A.deeper (envOfC qual (defScope st) s0.heap.objs.size f cdv)) ->
   rP (cf CX0 P w K mg base N qual (defScope st) f cdv A outer s0 H E).nox E H Ha (defBody st) s):eP P w K mg base CX0 (k+1) f fd ps (LA K ps.length (bH N.length s)):=by
 have hpl:ps.length<=N.length:=by have:=congrArg List.length S.pre;rw[List.length_take]at this;omega
 refine F.ok S (λvs H Q E h=>h.1) λcdv A outer s0 H vs Q E hr h=>?_;obtain⟨hn,Ha,ds,hs,hz,hv,q⟩:=h;refine⟨_,(hbody cdv A outer s0 H Ha E hz hr).o,Ha,ds.map Sl.sh++List.replicate (N.length-ds.length) .no,?_,?_⟩
 .refine⟨aZ.refl hs,iG hv,λi d e=>?_,λi j d d' hij e=>?_,?_,OX.none kL jJ⟩
  .by_cases hi:i<ds.length
   .rw[List.getElem?_append_left (by simpa using hi),List.getElem?_map]at e
    cases q:ds[i]? with|none|some d'=>rw[q]at e;cases e
   .rw[List.getElem?_append_right (by simpa using hi),List.getElem?_replicate]at e
    split at e<;>cases e
  .by_cases hi:i<ds.length
   .rw[List.getElem?_append_left (by simpa using hi),List.getElem?_map]at e
    cases q:ds[i]? with|none|some d'=>rw[q]at e;cases e
   .rw[List.getElem?_append_right (by simpa using hi),List.getElem?_replicate]at e
    split at e<;>cases e
  .unfold L2.start
   have:=hv.length;simp only[List.length_append,List.length_map,List.length_replicate];omega
 .unfold bH at q
  cases e1:s (ds.map Sl.sh++List.replicate (N.length-ds.length) .no) with
  |stuck|exn x=>rw[e1]at q;exact q
  |ok r=>
   rw[e1]at q;cases r with|nx ρ'=>exact λσ' H' Ha' _ h'=>q .non H' Ha' h'.g (aJ.mpr rfl)|rt d=>exact λv H' Ha' g rp=>q v H' Ha' g rp|bk ρ'|ct ρ'=>exact q.elim
def Kz(J Jf:Hp):Prop:=∀c,Jf c=J c∨∃us o,J c=some (.lst us)/\Jf c=some (.frz o (.lst us))
mutual
theorem Rep.frv{K:W.Frag}{J Jf:Hp}(e:Kz J Jf):∀{d:D}{v:V},plainD d=true->Rep K J d v->Rep K Jf d v
 |.non,_,_,h=>by unfold Rep at h ⊢;exact h
 |.bl _,_,_,h=>by unfold Rep at h ⊢;exact h
 |.int _,_,_,h=>by unfold Rep at h ⊢;exact h
 |.str _,_,_,h=>by unfold Rep at h ⊢;exact h
 |.tup ds,_,p,h=>by
  obtain⟨a,vs,rfl,e2,e3⟩:=aH.mp h;unfold plainD at p;refine aH.mpr ⟨a,vs,rfl,e2.imp (λr=>?_) id,Reps.frv e p e3⟩;rcases e a with q|⟨us,o,q,_⟩
  .unfold Rd;rw[q];exact r
  .rcases r with r|⟨_,r⟩<;>rw[q]at r<;>cases r
 |.lst ds,_,p,h=>by
  obtain⟨a,vs,rfl,e2,e3⟩:=aC.mp h;unfold plainD at p;refine aC.mpr ⟨a,vs,rfl,e2.imp (λr=>?_) id,Reps.frv e p e3⟩;rcases e a with q|⟨us,o,q,q2⟩
  .unfold Rd;rw[q];exact r
  .rcases r with r|⟨_,r⟩
   .rw[q]at r;cases r;exact .inr ⟨o,q2⟩
   .rw[q]at r;cases r
 |.dic _ _,_,p,_=>by unfold plainD at p;cases p
 |.exc _,_,p,_=>by unfold plainD at p;cases p
 |.ob _ _,_,p,_=>by unfold plainD at p;cases p
theorem Reps.frv{K:W.Frag}{J Jf:Hp}(e:Kz J Jf):∀{ds:ac}{vs:al},plainDs ds=true->Reps K J ds vs->Reps K Jf ds vs
 |[],_,_,h=>by rw[Reps.nil_iff.mp h];exact Reps.nil
 |d::ds,_,p,h=>by
  obtain⟨v,r,rfl,h1,h2⟩:=aA.mp h;unfold plainDs at p;rw[Bool.and_eq_true]at p;exact Reps.cons (Rep.frv e p.1 h1) (Reps.frv e p.2 h2)
end
open Classical in
noncomputable def jO(h:Heap) (S:Addr->Prop) (H:Hp):Hp:=λc=>match H c with
 |some (.lst us)=>if S c then(match h.get? c with|some o=>some (.frz o (.lst us))|none=>some (.lst us)) else some (.lst us)
 |o=>o
open Classical in
noncomputable def oa(S:Addr->Prop) (H H1:Hp):Hp:=λc=>if S c/\∃us,H c=some (.lst us) then H c else H1 c
section
variable {h:Heap}{S:Addr->Prop}{H H1:Hp}{c:Addr}
def l9{us:al}{o:Obj}(hc:S c)(e:H c=some (.lst us))(eo:h.get? c=some o):jO h S H c=some (.frz o (.lst us)):=by
 unfold jO;rw[e];simp only;rw[if_pos hc,eo]
def cU(hc:¬(S c/\∃us,H c=some (.lst us))):jO h S H c=H c:=by
 unfold jO;cases q:H c with
 |none=>rfl
 |some o=>
  cases o with|lst us=>simp only;rw[if_neg λz=>hc ⟨z,us,q⟩]| _=>rfl
def n9(hc:S c/\∃us,H c=some (.lst us)):oa S H H1 c=H c:=if_pos hc
def ff(hc:¬(S c/\∃us,H c=some (.lst us))):oa S H H1 c=H1 c:=if_neg hc
def GQ{P:Program}{w:World}(ok:er P w H h):Kz H (jO h S H):=λc=>by
 by_cases hc:S c/\∃us,H c=some (.lst us)
 .obtain⟨h1,us,e⟩:=hc
  obtain⟨_,its,n,_,eo⟩:=ok c _ e;exact .inr ⟨us,_,e,l9 h1 e eo⟩
 .exact .inl (cU hc)
def DK{P:Program}{w:World}(ok:er P w H h):er P w (jO h S H) h:=λa o e=>by
 have st:∀{u:HO},br P w H h a u->br P w (jO h S H) h a u:=λx=>x.stay (λb u _ q=>q) (λb q=>by rw[cU (λz=>by obtain⟨_,us,z⟩:=z;rw[q]at z;cases z)];exact q) λb xs q=>by rw[cU (λz=>by obtain⟨_,us,z⟩:=z;rw[q]at z;cases z)];exact q
 by_cases hc:S a/\∃us,H a=some (.lst us)
 .obtain⟨h1,us,ea⟩:=hc
  have x:=ok a _ ea;obtain⟨_,its,n,_,eo⟩:=id x;rw[l9 h1 ea eo]at e;cases e;exact⟨eo,st x⟩
 .rw[cU hc]at e;exact st (ok a o e)
end
def Mc(d:D):ao D:=match d with
 |.bl b=>.ok (.bl b)
 |_=>.stuck
def nv(m:ac->ao D):ac->ao D:=λds=>if plainDs ds=true then(match m ds with|.ok d=>Mc d|_=>.stuck) else .stuck
mutual
theorem Ft.some_of{K:W.Frag}{H:Hp}{b:Addr}:∀{d:D}{v:V},Ft K H d v b->H b≠none
 |.non,_,h=>by unfold Ft at h;exact h.elim
 |.bl _,_,h=>by unfold Ft at h;exact h.elim
 |.int _,_,h=>by unfold Ft at h;exact h.elim
 |.str _,_,h=>by unfold Ft at h;exact h.elim
 |.dic _ _,_,h=>by unfold Ft at h;exact h.elim
 |.exc _,_,h=>by unfold Ft at h;exact h.elim
 |.ob _ _,_,h=>by unfold Ft at h;exact h.elim
 |.tup ds,_,h=>by
  unfold Ft at h;obtain⟨a,vs,rfl,⟨rfl,h⟩|⟨_,h⟩⟩:=h
  .rcases h with h|⟨_,h⟩<;>rw[h]<;>simp
  .exact Fts.some_of h
 |.lst ds,_,h=>by
  unfold Ft at h;obtain⟨a,vs,rfl,⟨rfl,h,_⟩|⟨_,_,h⟩⟩:=h
  .rcases h with h|⟨_,h⟩<;>rw[h]<;>simp
  .exact Fts.some_of h
theorem Fts.some_of{K:W.Frag}{H:Hp}{b:Addr}:∀{ds:ac}{vs:al},Fts K H ds vs b->H b≠none
 |[],_,h=>by unfold Fts at h;exact h.elim
 |d::ds,[],h=>by unfold Fts at h;exact h.elim
 |d::ds,v::vs,h=>by
  unfold Fts at h;rcases h with h|h
  .exact Ft.some_of h
  .exact Fts.some_of h
end
def zj{P:Program}{w:World}{K:W.Frag}{mg:Str->Option Value}{base:Heap}{k n:Nat}{f:Addr}{fd:FuncData}{ps:List Str}{m:ac->ao D}(F:eP P w K mg base CX0 k f fd ps (LA K n m))(hn:n=ps.length) :
  eP P w K mg base CX0 k f fd ps (spD K n (nv m)):=by
 refine⟨λvs H Q E q=>by rw[q.1,hn],λA outer s H args us vs Q E hr he hb hv z9=>?_⟩;obtain⟨hl,Ha,ds,hs,rp,q⟩:=z9;unfold nv at q
 by_cases hp:plainDs ds=true
 .rw[if_pos hp]at q
  let S:Addr->Prop:=λb=>Fts K Ha ds vs b
  let Hf:=jO s.heap S H
  have hout:∀c,H c=none->Hf c=none:=λc e=>by
   show jO s.heap S H c=none;rw[cU (λz=>by obtain⟨_,us,z⟩:=z;rw[e]at z;cases z)];exact e
  have e0:rK P w K mg base A outer s Hf:=⟨he.frames,he.mod,λb o e=>⟨(he.bs b o e).1,hout b (he.bs b o e).2⟩,he.bsz,he.funs,λb hb=>hout b (he.frf b hb),DK he.hok,he.bare⟩
  have hfr:Kz (rst Ha S) (rst Hf S):=λc=>by
   by_cases sc:S c
   .rw[qB sc,qB sc]
    cases q0:Ha c with
    |none=>
     exact absurd q0 (Fts.some_of sc)
    |some o=>
     have hH:=hs _ _ q0;rcases GQ (S:=S) he.hok c with z|⟨us,ob,z,z2⟩
     .exact .inl (by show jO s.heap S H c=_;rw[z,hH])
     .rw[hH]at z;cases z;exact .inr ⟨us,ob,rfl,z2⟩
   .left;unfold rst;rw[if_neg sc,if_neg sc]
  have run:=F.run A outer s Hf args us vs (λv H1=>Q v (oa S H H1)) (λC ox H1=>E C ox (oa S H H1)) hr e0 hb hv ⟨hl,rst Hf S,ds,Af,λc ws e=>?_,Reps.frv hfr hp (Reps.rst hp rp λb hb=>hb),?_⟩
  .refine codeAny_mono run λr s' hr=>?_
   cases r with
   |ok fl=>
    cases fl with
    |ret u=>
     obtain⟨v,H1,k1,k2,k3,k4,k5,k6⟩:=hr;have vw:Vw (λ_=>True) H1 (oa S H H1):=λc=>by
      by_cases hc:S c/\∃us,H c=some (.lst us)
      .obtain⟨h1,ws,ea⟩:=hc
       obtain⟨_,its,m',_,eo⟩:=he.hok c _ ea;exact .inr ⟨trivial,_,_,k3.frzs c _ _ (l9 h1 ea eo),by rw[n9 ⟨h1,ws,ea⟩];exact ea⟩
      .exact .inl (ff hc)
     refine⟨v,oa S H H1,k1,k2,⟨λb o e n' hb hx=>k3.keep b o e (hout b n') hb hx,λb o e n' hb hx=>k3.slot b o e (hout b n') hb hx,λb o e n' hx=>vw.none (k3.free b o e (hout b n') hx),k3.there,λb xs e=>?_,λb o u' e=>?_,λb ps' e=>?_⟩,λa o e=>?_,k5,k6⟩
     .have nl:¬(S b/\∃us,H b=some (.lst us)):=λz=>by obtain⟨_,us,z⟩:=z;rw[e]at z;cases z
      rw[ff nl];exact k3.tups b xs (by show jO s.heap S H b=_;rw[cU nl];exact e)
     .have nl:¬(S b/\∃us,H b=some (.lst us)):=λz=>by obtain⟨_,us,z⟩:=z;rw[e]at z;cases z
      rw[ff nl];exact k3.frzs b o u' (by show jO s.heap S H b=_;rw[cU nl];exact e)
     .have nl:¬(S b/\∃us,H b=some (.lst us)):=λz=>by obtain⟨_,us,z⟩:=z;rw[e]at z;cases z
      rw[ff nl];exact k3.tbls b ps' (by show jO s.heap S H b=_;rw[cU nl];exact e)
     .rcases vw a with z|⟨_,ob,u',z,z2⟩
      .rw[z]at e;exact ou vw (k4 a o e)
      .rw[z2]at e;obtain rfl:u'=o:=Option.some.inj e
       obtain⟨_,y⟩:=(show br P w H1 s'.heap a (.frz ob u') from k4 a _ z)
       exact ou vw y
    |_=>exact hr
   |error x=>exact hr.elim
  .have sc:S c:=CJ (by rw[e];simp)
   rw[qB sc]at e
   by_cases hc:S c/\∃us,H c=some (.lst us)
   .obtain⟨h1,us',ea⟩:=hc
    obtain⟨_,its,m',_,eo⟩:=he.hok c _ ea;have:Hf c=_:=l9 h1 ea eo;rw[this]at e;cases e
   .have:Hf c=H c:=cU hc
    rw[this]at e;exact hc ⟨sc,ws,e⟩
  .cases e1:m ds with
   |stuck=>rw[e1]at q;exact q
   |exn x=>rw[e1]at q;exact q.elim
   |ok d=>
    rw[e1]at q;cases d with
    |bl b=>
     intro v H1 H01 g1 r1;rw[aF.mp r1];refine q (.bl b) (oa S H H1) Ha ⟨λc o e=>?_,aE.refl _,λc o e=>?_,λc h1 h2=>absurd h2 h1⟩ (aF.mpr rfl)
     .by_cases hc:S c/\∃us,H c=some (.lst us)
      .rw[n9 hc];exact e
      .rw[ff hc];exact g1.s _ _ (by show jO s.heap S H c=_;rw[cU hc];exact e)
     .have e:=hs _ _ e
      by_cases hc:S c/\∃us,H c=some (.lst us)
      .rw[n9 hc];exact e
      .rw[ff hc];exact g1.s _ _ (by show jO s.heap S H c=_;rw[cU hc];exact e)
    |_=>exact q.elim
 .rw[if_neg hp]at q;exact q.elim
def LB(r:Fl):ao Fl:=match r with
 |.rt d=>.ok (.rt d)
 |_=>.stuck
def zW(r:bd)(ρ:Ev)(s:Option Sl):ao Fl:=match s with
 |some (.sh (.tup (.ob .pl _::.ob .pl es::_)))=>if es.length<line then(r (ρ.map λ_=>.no)).bind LB else .stuck
 |_=>.stuck
def kN(i:Nat)(r:bd):bd:=λρ=>zW r ρ ρ[i]?
section
variable {X:Cx}{E:XK}{He H0e:Hp}{rest:List Stmt}{r:bd}
def yO{i:Nat}{y:Str}{k k':Int}{jj jk jn}{p0 p1 p2 p3 p4 p5 q0 q1 q2 q3 q4 q5 q6:Pos}(hz:EX H0e)(hk:k=0)(hk':k'=1)(hN:X.N[i]?=some y)(hv:zg X.env.scope y)(hr:rP X E He H0e rest r)
  (hd:(y==("__debug__":Str))=false:=by decide)(hcd:(y==("__classdict__":Str))=false:=by decide)(hix:kC (.Constant (.int k) jj p4):=by exact λ_ _=>rfl)(hix':kC (.Constant (.int k') jk q4):=by exact λ_ _=>rfl)
  (hbase:attributeBase (.Subscript (.Name y p1) (.Constant (.int k) jj p4) p0) "clear" X.env (eval (.Subscript (.Name y p1) (.Constant (.int k) jj p4) p0) X.env)=eval (.Subscript (.Name y p1) (.Constant (.int k) jj p4) p0) X.env:=by rfl)(hline:(p2.endLine==p3.line)=true:=by rfl)
  (hw:swapsWith (.Call (.Attribute (.Subscript (.Name y p1) (.Constant (.int k) jj p4) p0) "clear" p2) [] [] p3) none p5.line X.env=pure false:=by rfl)
  (hbase':attributeBase (.Subscript (.Name y q1) (.Constant (.int k') jk q4) q0) "append" X.env (eval (.Subscript (.Name y q1) (.Constant (.int k') jk q4) q0) X.env)=eval (.Subscript (.Name y q1) (.Constant (.int k') jk q4) q0) X.env:=by rfl)
  (hfew:((backTo q3 (starEach [.Constant .none jn q6] X.env)).all (λx=>!x.1)&&(backToKw q3 (keywordEach [] X.env)).all (λx=>x.1.isSome)
  &&decide ([(.Constant .none jn q6:Expr)].length+([]:List Keyword).length+(if([]:List Keyword).isEmpty then 0 else 1)<30))=true:=by exact nC rfl)
  (hline':(q2.endLine==q3.line)=true:=by rfl) (hs:starEach [.Constant .none jn q6] X.env=(false,eval (.Constant .none jn q6) X.env)::starEach [] X.env:=by exact aI rfl) (hplain:(backTo q3 (starEach [] X.env)).any (·.1)=false:=by exact bp rfl)
  (hw':swapsWith (.Call (.Attribute (.Subscript (.Name y q1) (.Constant (.int k') jk q4) q0) "append" q2) [.Constant .none jn q6] [] q3) none q5.line X.env=pure false:=by rfl) :
  rP X E He H0e (.Expr (.Call (.Attribute (.Subscript (.Name y p1) (.Constant (.int k) jj p4) p0) "clear" p2) [] [] p3) p5::.Expr (.Call (.Attribute (.Subscript (.Name y q1) (.Constant (.int k') jk q4) q0) "append" q2) [.Constant .none jn q6] [] q3) q5::rest) (kN i r):=by
 refine⟨?_⟩;have h1:=jX (Gq PySem.F.plainAttrs_list PySem.F.slot_list_clear PySem.F.type_list_clear AO (Ay vH (fX hN hv hd hcd) vj hix) hbase hline) hw;have h2:=jX (AB PySem.F.plainAttrs_list PySem.F.slot_list_append PySem.F.type_list_append kO (Ay vH (fX hN hv hd hcd) vj hix') (bP (Aw (j:=jn) (pos:=q6)) dQ hs) hbase' hfew hline' hs hplain) hw';refine gr (gu h1 (gu h2 hr.o)) λG σ H ⟨Ha,ρ,h,q⟩=>?_;unfold kN at q;cases e:ρ[i]? with
 |none=>rw[e]at q;exact q.elim
 |some s=>
  rw[e]at q;unfold zW at q;split at q
  rotate_left
  .exact q.elim
  rename_i ds0 es dr eq;cases eq
  by_cases hl:es.length<line
  rotate_left
  .rw[if_neg hl]at q;exact q.elim
  rw[if_pos hl]at q;obtain⟨v,e1,rp⟩:=h.rd i _ e;obtain⟨t,ws,rfl,ht,hw⟩:=aH.mp rp;obtain⟨v0,_,rfl,r0,hw⟩:=aA.mp hw;obtain⟨v1,wr,rfl,r1,hw⟩:=aA.mp hw;obtain⟨a0,us0,rfl,c0,_⟩:=cb.mp r0;obtain⟨a1,us1,rfl,c1,rs1⟩:=cb.mp r1;have c0:Ha a0=some (.lst us0):=c0;have c1:Ha a1=some (.lst us1):=c1;have new:∀b us,Ha b=some (.lst us)->H0e b=none/\He b=none:=λb us eb=>by
   have h0:H0e b=none:=by
    cases q0:H0e b with
    |none=>rfl
    |some o=>
     have:=h.g.z _ _ q0;rw[eb]at this;cases this;exact absurd q0 (hz b us)
   exact⟨h0,h.g.nw b (by rw[eb];simp) h0⟩
  have n0:=new a0 us0 c0;have n1:=new a1 us1 c1;have H0:=h.g.sub _ _ c0;have H1:=h.g.sub _ _ c1;refine⟨.ref t,e1,?_⟩;refine⟨t,.ref a0::.ref a1::wr,k,.ref a0,rfl,rfl,aE.sqT h.g.sub ht,by rw[hk];exact dE (j:=0) rfl,.inl ⟨rfl,us0,eh.of H0⟩,a0,us0,rfl,rfl,H0,?_⟩;have htn:ip X.K (upd H a0 (.lst [])) t (.ref a0::.ref a1::wr):=by
   rcases aE.sqT h.g.sub ht with z|z
   .refine .inl ?_
    rcases z with z|⟨o,z⟩
    .exact .inl (by rw[az (by intro y;subst y;rw[H0]at z;cases z)];exact z)
    .exact .inr ⟨o,by rw[az (by intro y;subst y;rw[H0]at z;cases z)];exact z⟩
   .exact .inr z
  obtain⟨us,hu,hul⟩:∃us,upd H a0 (.lst []) a1=some (.lst us)/\us.length<sizeLine:=by
   by_cases c:a1=a0
   .subst c;exact⟨[],aG,by decide⟩
   .exact⟨us1,by rw[az c];exact H1,by rw[←rs1.length];exact Nat.lt_of_lt_of_le hl (by decide)⟩
  refine⟨.ref t,e1,?_⟩;refine⟨t,.ref a0::.ref a1::wr,k',.ref a1,rfl,rfl,htn,by rw[hk'];exact dE (j:=1) rfl,.inl ⟨rfl,us,eh.of hu⟩,?_⟩;refine⟨a1,us,.non,rfl,rfl,hu,hul,?_⟩;have kp:∀b o,b≠a0->b≠a1->H b=some o->upd (upd H a0 (.lst [])) a1 (.lst (us++[.non])) b=some o:=λb o z0 z1 eb=>by rw[az z1,az z0];exact eb
  have nE:∀b o,He b=some o->b≠a0/\b≠a1:=λb o eb=>⟨(by intro z;subst z;rw[n0.2]at eb;cases eb),(by intro z;subst z;rw[n1.2]at eb;cases eb)⟩
  have nZ:∀b o,H0e b=some o->b≠a0/\b≠a1:=λb o eb=>⟨(by intro z;subst z;rw[n0.1]at eb;cases eb),(by intro z;subst z;rw[n1.1]at eb;cases eb)⟩
  have noE:∀(j:Nat) (s:Sl),(ρ.map λ_=>Sl.no)[j]?=some s->s=.no:=λj s ej=>by
   rw[List.getElem?_map]at ej;cases q9:ρ[j]? with|none=>rw[q9]at ej;cases ej|some _=>rw[q9]at ej;cases ej;rfl
  refine⟨H0e,ρ.map λ_=>.no,⟨⟨λb o eb=>kp b o (nE b o eb).1 (nE b o eb).2 (h.g.s _ _ eb),aE.refl _,λb o eb=>kp b o (nZ b o eb).1 (nZ b o eb).2 (h.g.sub _ _ (h.g.z _ _ eb)),λb x1 x2=>absurd x2 x1⟩,λj d ej=>(by cases noE j _ ej),λj d ej=>(by cases noE j _ ej),λj l d d' _ ej=>(by cases noE j _ ej),by simp[h.ln],⟨λj l ds ej=>(by cases noE j _ ej),λj b ej=>(by cases noE j _ ej)⟩⟩,?_⟩;cases e3:r (ρ.map λ_=>.no) with
  |stuck|exn x=>rw[e3]at q;exact q
  |ok fl=>
   rw[e3]at q;cases fl with|rt d=>exact q| _=>exact q.elim
end
end DL
namespace Zt
open PySem PySem.Spec PyProof.Rows
def nn{a b c d:Addr}(h:c=a∨c=b)(h1:a≠d)(h2:b≠d):c≠d:=by
 rcases h with h|h<;>rw[h]<;>assumption
structure uJ (P:Program) (w:World) (i l:Addr) (xs:Array Value) (St:Nat->Heap->Prop):Prop where
 stay:∀{k:Nat}{h h':Heap},St k h->(∀c o,c=i∨c=l->h.get? c=some o->h'.get? c=some o)->St k h'
 there:∀{k:Nat}{h:Heap},St k h->∃o,h.get? i=some o/\∀v,o.data≠.cell v
 draw:∀{A:Around}{E:Value->Shared->Prop}{s:Shared}{k:Nat}{x:Value}{Q:Value->Shared->Prop},St k s.heap->xs[k]?=some x->(∀h',St (k+1) h'->Heap.SameBut i s.heap h'->Q x { s with heap:=h' }) ->
  wpAny (model P w) A (Builtin.SmallTypes.nextOf (.ref i)) Q E s
 over:∀{A:Around}{E:Value->Shared->Prop}{s:Shared}{k:Nat}{Q:Value->Shared->Prop},A.handled=none->St k s.heap->xs[k]?=none ->
  (∀h' e,Heap.ExtBut i s.heap h'->(∃o,h'.get? e=some o/\o.cls=.type "StopIteration")->E (.ref e) { s with heap:=h' })->wpAny (model P w) A (Builtin.SmallTypes.nextOf (.ref i)) Q E s
section
variable {P:Program}{w:World}{A:Around}{E:Value->Shared->Prop}{s:Shared}
def zG{i t:Addr}{k:Nat}{xs:Array Value}{x:Value}{Q:Value->Shared->Prop}(hi:s.heap.IsTupleIter i t k)(ht:s.heap.IsTuple t xs)(hx:xs[k]?=some x)
  (hq:∀h',h'.IsTupleIter i t (k+1)->Heap.SameBut i s.heap h'->Q x { s with heap:=h' }):wpAny (model P w) A (Builtin.SmallTypes.nextOf (.ref i)) Q E s:=by
 obtain⟨oi,gi,ci,di⟩:=id hi;obtain⟨ot,gt,_,nt,dt⟩:=ht;unfold Builtin.SmallTypes.nextOf;refine wpAny_bind (wpAny_callSpecial?_slot (name:=Str.ofString "__next__") hi.typeIs F.slot_tuple_iterator_next (wpAny_call_entry F.slot_tuple_iterator_next hi.typeIs F.entry_tuple_iterator_next ?_ (F.args_tuple_iterator_next_1 _)));show wpAny _ _ (field (.ref i) 0 >>= _) _ _ s;refine wpAny_bind (wpAny_field gi di (x:=.ref t) rfl ?_);show wpAny _ _ (if(Value.ref t==Value.none)=true then _ else _) _ _ s;rw[if_neg (show ¬((Value.ref t==Value.none)=true) from λz=>nomatch z)];show wpAny _ _ (field (.ref i) 1 >>= _) _ _ s;refine wpAny_bind (wpAny_field gi di (x:=.int k 0) rfl ?_);show wpAny _ _ (seqItems? (.ref t) >>= _) _ _ s;refine wpAny_bind (wpAny_seqItems gt dt ?_);simp only[Int.toNat_natCast,hx];refine wpAny_bind (wpAny_setField gi di (by simp) (wpAny_pure ⟨x,rfl,wpAny_pure (hq _ ⟨_,Heap.get?_update_self _ gi (Obj.isFreed_of_fields (Obj.data_mapFields di _)),(Obj.cls_mapFields ..).trans ci,?_⟩ (Heap.SameBut.update ..))⟩));rw[Obj.data_mapFields di];simp[rawInt]
def zF{i t:Addr}{k:Nat}{xs:Array Value}{Q:Value->Shared->Prop}(hA:A.handled=none)(hi:s.heap.IsTupleIter i t k)(ht:s.heap.IsTuple t xs)(hx:xs[k]?=none)
  (he:∀h' e,Heap.ExtBut i s.heap h'->(∃o,h'.get? e=some o/\o.cls=.type "StopIteration")->E (.ref e) { s with heap:=h' }):wpAny (model P w) A (Builtin.SmallTypes.nextOf (.ref i)) Q E s:=by
 obtain⟨oi,gi,ci,di⟩:=id hi;obtain⟨ot,gt,_,nt,dt⟩:=ht;unfold Builtin.SmallTypes.nextOf;refine wpAny_bind (wpAny_callSpecial?_slot (name:=Str.ofString "__next__") hi.typeIs F.slot_tuple_iterator_next (wpAny_call_entry F.slot_tuple_iterator_next hi.typeIs F.entry_tuple_iterator_next ?_ (F.args_tuple_iterator_next_1 _)));show wpAny _ _ (field (.ref i) 0 >>= _) _ _ s;refine wpAny_bind (wpAny_field gi di (x:=.ref t) rfl ?_);show wpAny _ _ (if(Value.ref t==Value.none)=true then _ else _) _ _ s;rw[if_neg (show ¬((Value.ref t==Value.none)=true) from λz=>nomatch z)];show wpAny _ _ (field (.ref i) 1 >>= _) _ _ s;refine wpAny_bind (wpAny_field gi di (x:=.int k 0) rfl ?_);show wpAny _ _ (seqItems? (.ref t) >>= _) _ _ s;refine wpAny_bind (wpAny_seqItems gt dt ?_);simp only[Int.toNat_natCast,hx];refine wpAny_bind (wpAny_rule (wpAny_bind (wpAny_setField gi di (by simp) ?_)));show wpAny _ _ (newExc (.type "StopIteration") [] >>= _) _ _ _;refine wpAny_bind ?_;simp only[newExc,newTuple];refine wpAny_bind (wpAny_newObj_type ?_ (by size_fits));refine wpAny_bind (m:=firstArgMember _ _) (wpAny_of_eq (a:=Value.none) (by first|rfl|(simp only[firstArgMember];rfl)) (wpAny_newObj_type ?_ (by size_fits)));simp only[raiseNew];refine wpAny_bind (wpAny_handled ?_)
 first|rw[show A.in1.handled=none from hA]|rw[hA]
 refine wpAny_bind (wpAny_pure (wpAny_throw (he _ _ (((Heap.SameBut.update ..).extBut.push _).push _) ⟨_,Heap.get?_push_size _ rfl,rfl⟩)))
def l6(i t:Addr)(xs:Array Value):uJ P w i t xs λk h=>h.IsTupleIter i t k/\h.IsTuple t xs where
 stay:=λ⟨⟨o,e,r⟩,⟨o2,e2,r2⟩⟩ kp=>⟨⟨o,kp _ _ (.inl rfl) e,r⟩,⟨o2,kp _ _ (.inr rfl) e2,r2⟩⟩
 there:=λ⟨⟨o,e,_,d⟩,_⟩=>⟨o,e,λv z=>by rw[d]at z;cases z⟩
 draw:=λ{A E s k x Q} ⟨h1,h2⟩ hx hq=>by
  by_cases c:t=i
  .exfalso
   obtain⟨o,e,q,_⟩:=h1;obtain⟨o2,e2,q2,_⟩:=h2;subst c;rw[e]at e2;cases e2;rw[q]at q2;simp at q2
  .exact zG h1 h2 hx λh' a b=>hq h' ⟨a,h2.extBut b.extBut c⟩ b
 over:=λhA ⟨h1,h2⟩ hx he=>zF hA h1 h2 hx he
variable {z ti tO i j l m:Addr}{k:Nat}{xs ys:Array Value}{S S':Nat->Heap->Prop}{a b x y:Value}
def zr(D:ZipApart z ti tO i j l m)(I:uJ P w i l xs S)(J:uJ P w j m ys S'){Q:Value->Shared->Prop}
  (hz:IsZip s.heap z ti tO .none)(hti:IsPair s.heap ti (.ref i) (.ref j))(hto:IsPair s.heap tO a b)(h1:S k s.heap)(h2:S' k s.heap)(hx:xs[k]?=some x)(hy:ys[k]?=some y)
  (hq:∀h',IsZip h' z ti tO (rawInt s.heap.objs.size)->IsPair h' tO x y->S (k+1) h'->S' (k+1) h'->IsPair h' s.heap.objs.size x y->h'.objs.size=s.heap.objs.size+1 ->
   (∀c o,c≠z->c≠tO->c≠i->c≠j->s.heap.get? c=some o->h'.get? c=some o)->Q (.ref s.heap.objs.size) { s with heap:=h' }) :
  wpAny (model P w) A (Builtin.«zip.__next__» ⟨[.ref z],[]⟩) (λfin s'=>∃v,fin=.done (.ret v)/\Q v s') E s:=by
 have off:∀{k:Nat}{u u':Heap}{c:Addr},S k u->Heap.ExtBut c u u'->i≠c->l≠c->S k u':=λst e n1 n2=>I.stay st λd o hd g=>e d o (nn hd n1 n2) g;have off':∀{k:Nat}{u u':Heap}{c:Addr},S' k u->Heap.ExtBut c u u'->j≠c->m≠c->S' k u':=λst e n1 n2=>J.stay st λd o hd g=>e d o (nn hd n1 n2) g;show wpAny _ _ (field (.ref z) 2 >>= _) _ _ _;refine wpAny_bind (wpAny_field hz rfl (x:=.bool false) rfl ?_);show wpAny _ _ (field (.ref z) 3 >>= _) _ _ _;refine wpAny_bind (wpAny_field hz rfl (x:=.ref ti) rfl (wpAny_bind (wpAny_seqItems hti rfl ?_)));show wpAny _ _ (Builtin.SmallTypes.ownedTupleIsFree (.ref z) >>= _) _ _ _;refine wpAny_bind ?_;unfold Builtin.SmallTypes.ownedTupleIsFree;refine wpAny_bind (wpAny_field hz rfl (x:=.none) rfl (wpAny_pure ?_));simp only[if_true];refine wpAny_bind (wpAny_rule (wpAny_bind (wpAny_field hz rfl (x:=.ref tO) rfl (wpAny_bind (wpAny_setField_rec hz (by simp) λu1 z1 e1=>wpAny_bind ?_)))));replace z1:IsZip u1 z ti tO .ellipsis:=z1;simp only[List.zipIdx_cons,List.zipIdx_nil,List.forIn_cons,List.forIn_nil];refine wpAny_bind (wpAny_bind (wpAny_onRaise ?_));show wpAny _ _ (Builtin.SmallTypes.nextOf (.ref i) >>= _) _ _ _;refine wpAny_bind (I.draw (off h1 e1.extBut D.i1z D.l1z) hx λu2 n2 e2=>wpAny_pure ?_);have p2:IsPair u2 tO a b:=e2.extBut _ _ D.TOi1 (e1.extBut _ _ D.TOz hto);refine wpAny_bind (wpAny_seqItems p2 rfl (wpAny_bind (wpAny_updateSeq_pair p2 λu3 p3 e3=>?_)));replace p3:IsPair u3 tO x b:=p3;refine wpAny_bind (wpAny_letGo (wpAny_pure (wpAny_bind (wpAny_bind (wpAny_onRaise ?_)))));show wpAny _ _ (Builtin.SmallTypes.nextOf (.ref j) >>= _) _ _ _;refine wpAny_bind (J.draw (off' (off' (off' h2 e1.extBut D.i2z D.l2z) e2.extBut D.i12.symm D.l2i1) e3.extBut D.TOi2.symm D.l2TO) hy λu4 n4 e4=>wpAny_pure ?_);have p4:IsPair u4 tO x b:=e4.extBut _ _ D.TOi2 p3;refine wpAny_bind (wpAny_seqItems p4 rfl (wpAny_bind (wpAny_updateSeq_pair p4 λu5 p5 e5=>?_)));replace p5:IsPair u5 tO x y:=p5;refine wpAny_bind (wpAny_letGo (wpAny_pure (wpAny_pure (wpAny_bind (wpAny_seqItems p5 rfl (wpAny_bind (wpAny_newTuple ?_)))))));have sz:u5.objs.size=s.heap.objs.size:=by rw[e5.1,e4.1,e3.1,e2.1,e1.1]
 have z5:IsZip u5 z ti tO .ellipsis:=e5.extBut _ _ D.TOz.symm (e4.extBut _ _ D.i2z.symm (e3.extBut _ _ D.TOz.symm (e2.extBut _ _ D.i1z.symm z1)));have kp:∀c o,c≠z->c≠tO->c≠i->c≠j->s.heap.get? c=some o->u5.get? c=some o:=λc o c1 c2 c3 c4 g=>e5.extBut _ _ c2 (e4.extBut _ _ c4 (e3.extBut _ _ c2 (e2.extBut _ _ c3 (e1.extBut _ _ c1 g))));have s5:S (k+1) u5:=off (off (off n2 e3.extBut D.TOi1.symm D.l1TO) e4.extBut D.i12 D.l1i2) e5.extBut D.TOi1.symm D.l1TO;have t5:S' (k+1) u5:=off' n4 e5.extBut D.TOi2.symm D.l2TO;have zl:z<u5.objs.size:=Heap.lt_size z5;show wpAny _ _ (Builtin.SmallTypes.ownedTupleHandOut (.ref z) (.ref u5.objs.size) >>= _) _ _ _;refine wpAny_bind ?_;unfold Builtin.SmallTypes.ownedTupleHandOut;have z6:IsZip (u5.push { cls:=.type "tuple",data:=.seq #[x,y] }) z ti tO .ellipsis:=Heap.get?_push_of_some _ z5;refine wpAny_bind (wpAny_setField_rec z6 (by simp) λu7 z7 e7=>?_);replace z7:IsZip u7 z ti tO (rawInt u5.objs.size):=z7;refine wpAny_setField_rec z7 (by simp) λu8 z8 e8=>?_;replace z8:IsZip u8 z ti tO (rawInt u5.objs.size):=z8;have up:∀c o,c≠z->u5.get? c=some o->u8.get? c=some o:=λc o c1 g=>e8.extBut _ _ c1 (e7.extBut _ _ c1 (Heap.get?_push_of_some _ g));have t8:IsPair u8 u5.objs.size x y:=e8.extBut _ _ (Nat.ne_of_gt zl) (e7.extBut _ _ (Nat.ne_of_gt zl) (Heap.get?_push_size _ rfl));have s8:u8.objs.size=u5.objs.size+1:=by rw[e8.1,e7.1,Heap.size_push]
 rw[sz]at z8 t8 s8;refine wpAny_pure ⟨_,rfl,?_⟩;show Q (.ref u5.objs.size) _;rw[sz];exact hq u8 z8 (up _ _ D.TOz p5) (I.stay s5 λc o hc g=>up c o (nn hc D.i1z D.l1z) g) (J.stay t5 λc o hc g=>up c o (nn hc D.i2z D.l2z) g) t8 s8 λc o c1 c2 c3 c4 g=>up c o c1 (kp c o c1 c2 c3 c4 g)
def zq(D:ZipApart z ti tO i j l m)(I:uJ P w i l xs S)(J:uJ P w j m ys S'){Q:Fin->Shared->Prop}(hA:A.handled=none)
  (hz:IsZip s.heap z ti tO .none)(hti:IsPair s.heap ti (.ref i) (.ref j))(hto:IsPair s.heap tO a b)(h1:S k s.heap)(h2:S' k s.heap)(hend:xs[k]?=none∨ys[k]?=none)
  (hE:∀h' e,(∀c o,c≠z->c≠tO->c≠i->c≠j->s.heap.get? c=some o->h'.get? c=some o)->(∃o,h'.get? e=some o/\o.cls=.type "StopIteration")->E (.ref e) { s with heap:=h' }) :
  wpAny (model P w) A (Builtin.«zip.__next__» ⟨[.ref z],[]⟩) Q E s:=by
 have off:∀{k:Nat}{u u':Heap}{c:Addr},S k u->Heap.ExtBut c u u'->i≠c->l≠c->S k u':=λst e n1 n2=>I.stay st λd o hd g=>e d o (nn hd n1 n2) g;have off':∀{k:Nat}{u u':Heap}{c:Addr},S' k u->Heap.ExtBut c u u'->j≠c->m≠c->S' k u':=λst e n1 n2=>J.stay st λd o hd g=>e d o (nn hd n1 n2) g;show wpAny _ _ (field (.ref z) 2 >>= _) _ _ _;refine wpAny_bind (wpAny_field hz rfl (x:=.bool false) rfl ?_);show wpAny _ _ (field (.ref z) 3 >>= _) _ _ _;refine wpAny_bind (wpAny_field hz rfl (x:=.ref ti) rfl (wpAny_bind (wpAny_seqItems hti rfl ?_)));show wpAny _ _ (Builtin.SmallTypes.ownedTupleIsFree (.ref z) >>= _) _ _ _;refine wpAny_bind ?_;unfold Builtin.SmallTypes.ownedTupleIsFree;refine wpAny_bind (wpAny_field hz rfl (x:=.none) rfl (wpAny_pure ?_));simp only[if_true];refine wpAny_bind (wpAny_rule (wpAny_bind (wpAny_field hz rfl (x:=.ref tO) rfl (wpAny_bind (wpAny_setField_rec hz (by simp) λu1 z1 e1=>wpAny_bind ?_)))));replace z1:IsZip u1 z ti tO .ellipsis:=z1;simp only[List.zipIdx_cons,List.zipIdx_nil,List.forIn_cons,List.forIn_nil];refine wpAny_bind (wpAny_bind (wpAny_onRaise ?_));show wpAny _ _ (Builtin.SmallTypes.nextOf (.ref i) >>= _) _ _ _;cases hx:xs[k]? with
 |none=>
  refine wpAny_bind (I.over hA (off h1 e1.extBut D.i1z D.l1z) hx λu2 e e2 z9=>?_);obtain⟨oe,ge,ce⟩:=z9;have z2:IsZip u2 z ti tO .ellipsis:=e2 _ _ D.i1z.symm z1;have ne:e≠z:=λq=>by subst q;rw[z2]at ge;cases ge;simp at ce
  exact wpAny_setField_rec z2 (by simp) λu3 _ e3=>hE u3 e (λc o c1 _ c3 _ g=>e3.extBut _ _ c1 (e2 _ _ c3 (e1.extBut _ _ c1 g))) ⟨oe,e3.extBut _ _ ne ge,ce⟩
 |some x=>
  have hy:ys[k]?=none:=by rcases hend with q|q;rw[hx]at q;cases q;exact q
  refine wpAny_bind (I.draw (off h1 e1.extBut D.i1z D.l1z) hx λu2 n2 e2=>wpAny_pure ?_);have p2:IsPair u2 tO a b:=e2.extBut _ _ D.TOi1 (e1.extBut _ _ D.TOz hto);refine wpAny_bind (wpAny_seqItems p2 rfl (wpAny_bind (wpAny_updateSeq_pair p2 λu3 p3 e3=>?_)));refine wpAny_bind (wpAny_letGo (wpAny_pure (wpAny_bind (wpAny_bind (wpAny_onRaise ?_)))));show wpAny _ _ (Builtin.SmallTypes.nextOf (.ref j) >>= _) _ _ _;refine wpAny_bind (J.over hA (off' (off' (off' h2 e1.extBut D.i2z D.l2z) e2.extBut D.i12.symm D.l2i1) e3.extBut D.TOi2.symm D.l2TO) hy λu4 e e4 z9=>?_);obtain⟨oe,ge,ce⟩:=z9;have z4:IsZip u4 z ti tO .ellipsis:=e4 _ _ D.i2z.symm (e3.extBut _ _ D.TOz.symm (e2.extBut _ _ D.i1z.symm z1));have ne:e≠z:=λq=>by subst q;rw[z4]at ge;cases ge;simp at ce
  exact wpAny_setField_rec z4 (by simp) λu5 _ e5=>hE u5 e (λc o c1 c2 c3 c4 g=>e5.extBut _ _ c1 (e4 _ _ c4 (e3.extBut _ _ c2 (e2.extBut _ _ c3 (e1.extBut _ _ c1 g))))) ⟨oe,e5.extBut _ _ ne ge,ce⟩
def yz(D:ZipApart z ti tO i j l m)(I:uJ P w i l xs S)(J:uJ P w j m ys S'){Q:Option Value->Shared->Prop}
  (hz:IsZip s.heap z ti tO .none)(hti:IsPair s.heap ti (.ref i) (.ref j))(hto:IsPair s.heap tO a b)(h1:S k s.heap)(h2:S' k s.heap)(hx:xs[k]?=some x)(hy:ys[k]?=some y)
  (hq:∀h',IsZip h' z ti tO (rawInt s.heap.objs.size)->IsPair h' tO x y->S (k+1) h'->S' (k+1) h'->IsPair h' s.heap.objs.size x y->h'.objs.size=s.heap.objs.size+1 ->
   (∀c o,c≠z->c≠tO->c≠i->c≠j->s.heap.get? c=some o->h'.get? c=some o)->Q (some (.ref s.heap.objs.size)) { s with heap:=h' }):wpAny (model P w) A (pyNext (.ref z)) Q E s:=by
 have ty:s.TypeIs (.ref z) "zip":=⟨_,hz,rfl⟩
 unfold pyNext;exact wpAny_bind (wpAny_attempt (wpAny_callSpecial?_slot (name:=Str.ofString "__next__") ty F.slot_zip_next (wpAny_call_entry F.slot_zip_next ty F.entry_zip_next
  (zr D I J hz hti hto h1 h2 hx hy λh' b1 b2 b3 b4 b5 b6 b7=>wpAny_pure (hq h' b1 b2 b3 b4 b5 b6 b7)) (F.args_zip_next_1 _))))
def yy(D:ZipApart z ti tO i j l m)(I:uJ P w i l xs S)(J:uJ P w j m ys S'){Q:Option Value->Shared->Prop}(hA:A.handled=none)
  (hz:IsZip s.heap z ti tO .none)(hti:IsPair s.heap ti (.ref i) (.ref j))(hto:IsPair s.heap tO a b)(h1:S k s.heap)(h2:S' k s.heap)(hend:xs[k]?=none∨ys[k]?=none)
  (hq:∀h',(∀c o,c≠z->c≠tO->c≠i->c≠j->s.heap.get? c=some o->h'.get? c=some o)->Q none { s with heap:=h' }):wpAny (model P w) A (pyNext (.ref z)) Q E s:=by
 have ty:s.TypeIs (.ref z) "zip":=⟨_,hz,rfl⟩
 unfold pyNext;refine wpAny_bind (wpAny_attempt (wpAny_callSpecial?_slot (name:=Str.ofString "__next__") ty F.slot_zip_next (wpAny_call_entry F.slot_zip_next ty F.entry_zip_next (zq D I J hA hz hti hto h1 h2 hend λh' e kp ⟨o,go,co⟩=>?_) (F.args_zip_next_1 _))));exact wpAny_bind (wpAny_isInstance (T:="StopIteration") (b:=true) ⟨o,go,co⟩ isSubtype_stop (wpAny_pure (hq _ kp)))
abbrev n1(h:Heap)(l:Addr):Heap:=h.push { cls:=.type "tuple_iterator",data:=.fields #[.ref l,.int 0 0] }
abbrev n2(h:Heap)(l m:Addr):Heap:=n1 (n1 h l) m
abbrev n3(h:Heap)(l m:Addr):Heap:=(n2 h l m).push { cls:=.type "tuple",data:=.seq #[.ref h.objs.size,.ref (n1 h l).objs.size] }
abbrev n4(h:Heap)(l m:Addr):Heap:=(n3 h l m).push { cls:=.type "tuple",data:=.seq #[.none,.none] }
abbrev n5(h:Heap)(l m:Addr):Heap:=(n4 h l m).push { cls:=.type "zip",data:=.fields #[.none,.bool false,.bool false,.ref (n2 h l m).objs.size,.ref (n3 h l m).objs.size] }
def La(l m:Addr)(xs ys:Array Value) :
  Meets (Builtin.«zip.__new__» ⟨[.type "zip",.ref l,.ref m],[]⟩) (λ_ R s=>s.heap.IsTuple l xs/\s.heap.IsTuple m ys/\R (.ok (.ret (.ref (n4 s.heap l m).objs.size))) { s with heap:=n5 s.heap l m }) :=
 .of_wp λprog w A R s h=>by
  obtain⟨hp,g,d,tk,os⟩:=s;obtain⟨t1,t2,h⟩:=h;have hsub:=sub_zip;have u1:Heap.IsTuple (Shared.heap ⟨hp,g,d,tk,os⟩) l xs:=t1;have u2:Heap.IsTuple (Shared.heap ⟨hp.push { cls:=.type "tuple_iterator",data:=.fields #[.ref l,.int 0 0] },g,d,tk,os⟩) m ys:=Heap.IsTuple.push t2 _
  wp_walk using wpAny_pyIter_tuple u1,wpAny_pyIter_tuple u2
  exact⟨_,rfl,h⟩
end
end Zt
namespace Zt
open PySem PySem.Spec PyProof.Rows L2 DL
section
variable {P:Program}{w:World}{A:Around}{E:Value->Shared->Prop}{s:Shared}
def call_tups{l m:Addr}{xs ys:Array Value}{Q:Value->Shared->Prop}(t1:s.heap.IsTuple l xs)(t2:s.heap.IsTuple m ys)
  (h:∀h',IsZip h' (s.heap.objs.size+4) (s.heap.objs.size+2) (s.heap.objs.size+3) .none->IsPair h' (s.heap.objs.size+2) (.ref s.heap.objs.size) (.ref (s.heap.objs.size+1)) ->
   IsPair h' (s.heap.objs.size+3) .none .none->h'.IsTupleIter s.heap.objs.size l 0->h'.IsTupleIter (s.heap.objs.size+1) m 0->(∀c o,s.heap.get? c=some o->h'.get? c=some o)->Q (.ref (s.heap.objs.size+4)) { s with heap:=h' }) :
  wpAny (model P w) A (call (.type "zip") [.ref l,.ref m]) Q E s:=by
 refine callType_new F.called_zip (by decide) (F.typeCall_zip_2 _ _) (F.newCall_zip_2 _ _) (λobj=>F.args_object_init_3 obj _ _) F.entry_zip_new (La l m xs ys) ⟨t1,t2,?_⟩;have y1:(n1 s.heap l).objs.size=s.heap.objs.size+1:=Heap.size_push ..;have y2:(n2 s.heap l m).objs.size=s.heap.objs.size+2:=by rw[Heap.size_push,y1]
 have y3:(n3 s.heap l m).objs.size=s.heap.objs.size+3:=by rw[Heap.size_push,y2]
 have y4:(n4 s.heap l m).objs.size=s.heap.objs.size+4:=by rw[Heap.size_push,y3]
 have b5:(n5 s.heap l m).get? (n4 s.heap l m).objs.size=some _:=Heap.get?_push_size _ rfl;have b4:(n5 s.heap l m).get? (n3 s.heap l m).objs.size=some _:=Heap.get?_push_of_some _ (Heap.get?_push_size _ rfl);have b3:(n5 s.heap l m).get? (n2 s.heap l m).objs.size=some _:=Heap.get?_push_of_some _ (Heap.get?_push_of_some _ (Heap.get?_push_size _ rfl));have b2:(n5 s.heap l m).get? (n1 s.heap l).objs.size=some _:=Heap.get?_push_of_some _ (Heap.get?_push_of_some _ (Heap.get?_push_of_some _ (Heap.get?_push_size _ rfl)));have b1:(n5 s.heap l m).get? s.heap.objs.size=some _:=Heap.get?_push_of_some _ (Heap.get?_push_of_some _ (Heap.get?_push_of_some _ (Heap.get?_push_of_some _ (Heap.get?_push_size _ rfl))));show _/\_;rw[y2,y3,y4]at b5;rw[y1,y2]at b3;rw[y3]at b4;rw[y1]at b2;rw[y4];exact⟨⟨_,b5,rfl⟩,h _ b5 b3 b4 ⟨_,b1,rfl,rfl⟩ ⟨_,b2,rfl,rfl⟩ λc o g=>Heap.get?_push_of_some _ (Heap.get?_push_of_some _ (Heap.get?_push_of_some _ (Heap.get?_push_of_some _ (Heap.get?_push_of_some _ g))))⟩
end
noncomputable def ItzT(K:W.Frag) (a b:Addr):It :=
 ⟨λi H=>∃xs ys x y,ip K H a xs/\ip K H b ys/\xs[i]?=some x/\ys[i]?=some y,λi H x H'=>∃p y z,H p=none/\x=.ref p/\(∀xs,ip K H a xs->xs[i]?=some y)/\(∀xs,ip K H b xs->xs[i]?=some z)/\H'=upd H p (.tup [y,z]),
  λi H=>∃xs ys,ip K H a xs/\ip K H b ys/\min xs.length ys.length<=i⟩
def wz{X:Cx}{pins:List (Addr×Obj)}{σ:L2.St}{H:Hp}{s:Shared}{a:Addr}{xs ys:al}(I:Inv X pins σ H s)(h:ip X.K H a xs)(h':ip X.K H a ys):xs=ys:=by
 obtain⟨its,r,p,_⟩:=I.tuple h;obtain⟨jts,r',p',_⟩:=I.tuple h';obtain⟨o,g,_,n,d⟩:=p;obtain⟨o',g',_,n',d'⟩:=p';rw[g]at g';cases g';rw[d]at d';cases d';exact r.inj r'
def turn_zipT{P:Program}{w:World}{K:W.Frag}{elts:List Expr}{k:Nat}{pos:Pos}(z TI TO i1 i2 a b:Addr)(D:ZipApart z TI TO i1 i2 a b) :
  rH P w K (.Tuple elts k pos) (ItzT K a b) [z,TI,TO,i1,i2] z (λi h=>IsZip h z TI TO .none/\IsPair h TI (.ref i1) (.ref i2)/\(∃a b,IsPair h TO a b)/\h.IsTupleIter i1 a i/\h.IsTupleIter i2 b i) where
 mem:=by simp
 obj:=λi h st b hb=>by
  obtain⟨hz,hTI,⟨a',b',hTO⟩,⟨o1,e1,c1,d1⟩,⟨o2,e2,c2,d2⟩⟩:=st;simp only[List.mem_cons,List.not_mem_nil,or_false]at hb;rcases hb with rfl|rfl|rfl|rfl|rfl
  .exact⟨_,hz,λv z=>by cases z⟩
  .exact⟨_,hTI,λv z=>by cases z⟩
  .exact⟨_,hTO,λv z=>by cases z⟩
  .exact⟨_,e1,λv z=>by rw[d1]at z;cases z⟩
  .exact⟨_,e2,λv z=>by rw[d2]at z;cases z⟩
 keep:=λi h h' st k=>by
  obtain⟨hz,hTI,⟨a',b',hTO⟩,h1,h2⟩:=st;exact⟨k z (by simp) _ hz,k TI (by simp) _ hTI,⟨a',b',k TO (by simp) _ hTO⟩,h1.at λo y=>k i1 (by simp) o y,h2.at λo y=>k i2 (by simp) o y⟩
 item:=by
  intro X hP hw hK hc i pins s σ H E I hf st hg;subst hP hw hK;obtain⟨xs,ys,x,y,hqx,hqy,hx,hy⟩:=hg;obtain⟨its,rv,p,hz⟩:=I.tuple hqx;obtain⟨jts,rw_,p',hz'⟩:=I.tuple hqy;obtain⟨u,hu,ru⟩:=rv.get hx;obtain⟨u',hu',ru'⟩:=rw_.get hy;have st0:=st;obtain⟨hZ,hTI,⟨a',b',hTO⟩,h1,h2⟩:=st;refine yz D (l6 i1 a its.toArray) (l6 i2 b jts.toArray) hZ hTI hTO (k:=i) (x:=u) (y:=u') ⟨h1,p⟩ ⟨h2,p'⟩ (by simpa using hu) (by simpa using hu') λh' q1 q2 q3 q4 q5 q6 q7=>?_;refine⟨_,rfl,wpAny_letOwnedTupleGo_zip q1 λh'' r1 r2=>?_⟩;have lt:s.heap.objs.size≠z:=Nat.ne_of_gt (Heap.lt_size hZ);have kp:∀c o,c∉[z,TI,TO,i1,i2]->s.heap.get? c=some o->h''.get? c=some o:=λc o hc g=>r2.extBut _ _ (λq=>hc (by simp[q])) (q7 c o (λq=>hc (by simp[q])) (λq=>hc (by simp[q])) (λq=>hc (by simp[q])) (λq=>hc (by simp[q])) g);have hT:IsPair h'' s.heap.objs.size u u':=r2.extBut _ _ lt q5;have fr:H s.heap.objs.size=none:=I.hok.fresh (Nat.le_refl _);refine⟨.ref s.heap.objs.size,upd H s.heap.objs.size (.tup [x,y]),kJ (s:=s) (h':=h'') (t':=s.toks) I kp hf (Nat.le_refl _) ⟨by show 2<=sizeLine;decide,[u,u'],.cons ru (.cons ru' .nil),_,hT,rfl,_,rfl⟩,rfl,⟨_,x,y,fr,rfl,λws hw=>?_,λws hw=>?_,rfl⟩,⟨r1,?_,?_,?_,?_⟩,λc hc=>?_⟩
  .rw[wz I hw hqx];exact hx
  .rw[wz I hw hqy];exact hy
  .exact r2.extBut _ _ D.TIz (q7 _ _ D.TIz D.TITO D.TIi1 D.TIi2 hTI)
  .exact⟨_,_,r2.extBut _ _ D.TOz q2⟩
  .exact q3.1.extBut r2.extBut D.i1z
  .exact q4.1.extBut r2.extBut D.i2z
  .have c0:=(hf c hc).1
   obtain⟨ob,hob⟩:∃o,s.heap.get? c=some o:=by
    obtain⟨hz,hTI,⟨a',b',hTO⟩,⟨o1,e1,c1,d1⟩,⟨o2,e2,c2,d2⟩⟩:=st0;simp only[List.mem_cons,List.not_mem_nil,or_false]at hc;rcases hc with rfl|rfl|rfl|rfl|rfl
    .exact⟨_,hz⟩
    .exact⟨_,hTI⟩
    .exact⟨_,hTO⟩
    .exact⟨_,e1⟩
    .exact⟨_,e2⟩
   rw[az (Nat.ne_of_lt (Heap.lt_size hob))];exact c0
 done:=by
  intro X hP hw hK hc i pins s σ H E I hf st hg;subst hP hw hK;obtain⟨xs,ys,hqx,hqy,hx⟩:=hg;obtain⟨its,rv,p,hz⟩:=I.tuple hqx;obtain⟨jts,rw_,p',hz'⟩:=I.tuple hqy;have hl:=rv.length;have hl':=rw_.length;obtain⟨hZ,hTI,⟨a',b',hTO⟩,h1,h2⟩:=st;refine yy D (l6 i1 a its.toArray) (l6 i2 b jts.toArray) (I.ok.hd hc) hZ hTI hTO (k:=i) ⟨h1,p⟩ ⟨h2,p'⟩ ?_ λh' hk=>⟨rfl,qr (t':=s.toks) I (λc o hb e=>hk c o (λx=>hb (by simp[x])) (λx=>hb (by simp[x])) (λx=>hb (by simp[x])) (λx=>hb (by simp[x])) e) hf⟩
  by_cases hle:xs.length<=ys.length
  .left;simp;omega
  .right;simp;omega
 self:=λ_ _ _ _ _ st h=>by
  obtain⟨hz,_⟩:=st;exact wpAny_pyIter_zip hz h
end Zt
namespace DL
open PySem PySem.Spec PyProof.Rows L2
section
variable {X:Cx}{E:XK}{elts:List Expr}{k:Nat}{tp:Pos}{e a b:Expr}{f g:am}
def Jv(K:W.Frag)(ta:TA):TI:=λσ H R=>ta σ H λvs H1=>∃a b,vs=[.ref a,.ref b]/\(((∃xs,eh K H1 a xs)/\(∃xs,eh K H1 b xs)/\R (LO K a b) H1)∨((∃xs,ip K H1 a xs)/\(∃xs,ip K H1 b xs)/\R (Zt.ItzT K a b) H1))
def C1{ta:TA}{p pos:Pos}(hg:Gl X "zip")(hm:X.mg "zip"=none)(ha:PA X [a,b] ta)(hs:starEach [a,b] X.env=[(false,eval a X.env),(false,eval b X.env)]:=by rfl)(hs2:starEach [b] X.env=[(false,eval b X.env)]:=by rfl) :
  PI X (.Tuple elts k tp) (.Call (.Name "zip" p) [a,b] [] pos) (Jv X.K ta):=by
 intro pins s σ H R I h;refine Call_ (jN I hg hm PyProof.Rows.Boot.«zip» (PyProof.Rows.callWith_type1 (cA (ha pos pins s σ H _ I h) λus s1 ⟨vs,H1,I1,r1,q1⟩=>?_) (by rw[hs,hs2]) (by rw[hs2];rfl)));obtain⟨l,l',e,q⟩:=q1;subst e;cases r1 with
 |cons r rr=>
  cases rr with
  |cons r' rr=>
   cases rr;cases r;cases r';rcases q with⟨⟨xs,hq⟩,⟨ys,hq'⟩,q⟩|⟨⟨xs,hq⟩,⟨ys,hq'⟩,q⟩
   .obtain⟨its,rv,p,hz⟩:=I1.list hq
    obtain⟨jts,rv',p',hz'⟩:=I1.list hq';have hlt:l<s1.heap.objs.size:=by obtain⟨o,n,e,_⟩:=p;exact Heap.lt_size e
    have hlt':l' < s1.heap.objs.size:=by obtain⟨o,n,e,_⟩:=p';exact Heap.lt_size e
    refine call_zip_2 p.isList p'.isList λh' hz hTI hTO hi1 hi2 hsz hk=>?_;refine wpAny_pyIter_zip hz ?_;refine⟨s1.heap.objs.size+4,[s1.heap.objs.size+4,s1.heap.objs.size+2,s1.heap.objs.size+3,s1.heap.objs.size,s1.heap.objs.size+1],_,_,H1,rfl,I1.kept (t':=s1.toks) hk,zE _ _ _ _ _ l l' (zipApart_new hlt hlt'),⟨hz,hTI,⟨_,_,hTO⟩,hi1,hi2⟩,λb hb=>?_,q⟩;have hb':s1.heap.objs.size<=b:=by
     simp only[List.mem_cons,List.not_mem_nil,or_false]at hb;rcases hb with rfl|rfl|rfl|rfl|rfl<;>omega
    exact I1.fpOk hb' (I1.hok.fresh hb')
   .obtain⟨its,rv,p,hz⟩:=I1.tuple hq
    obtain⟨jts,rv',p',hz'⟩:=I1.tuple hq';refine Zt.call_tups p p' λh' hz hTI hTO hi1 hi2 hk=>?_;refine wpAny_pyIter_zip hz ?_;refine⟨s1.heap.objs.size+4,[s1.heap.objs.size+4,s1.heap.objs.size+2,s1.heap.objs.size+3,s1.heap.objs.size,s1.heap.objs.size+1],_,_,H1,rfl,I1.kept (t':=s1.toks) hk,Zt.turn_zipT _ _ _ _ _ l l' (zipApart_new p.lt p'.lt),⟨hz,hTI,⟨_,_,hTO⟩,hi1,hi2⟩,λb hb=>?_,q⟩;have hb':s1.heap.objs.size<=b:=by
     simp only[List.mem_cons,List.not_mem_nil,or_false]at hb;rcases hb with rfl|rfl|rfl|rfl|rfl<;>omega
    exact I1.fpOk hb' (I1.hok.fresh hb')
def mG(f g:am):Ev->ao (ac):=λρ=>(f ρ).bind λd=>(g ρ).bind λe=>match d,e with
 |.lst ds,.lst es=>.ok (cH ds es)
 |.tup ds,.tup es=>.ok (cH ds es)
 |_,_=>.stuck
def Ey{p pos:Pos}(hg:Gl X "zip")(hm:X.mg "zip"=none)(h:DE X E a f)(h':DE X E b g)(hn:AH a=true:=by exact rfl)(hn':AH b=true:=by exact rfl):DI X E (.Tuple elts k tp) (.Call (.Name "zip" p) [a,b] [] pos) (mG f g):=by
 refine⟨i7 (C1 hg hm (bP h.o (bP h'.o dQ (cP hn')) (aI hn)) (by rw[aI hn,cP hn']) (cP hn')) λσ H R z9=>?_⟩;obtain⟨Ha,ρ,hs,hr,q⟩:=z9;refine⟨Ha,ρ,hs,hr,?_⟩;unfold mG at q;cases e1:f ρ with
 |stuck|exn x=>rw[e1]at q;exact q
 |ok d=>
  rw[e1]at q;intro v H1 H01 g1 r1;refine⟨H01,ρ,g1.sub,hr.mono g1.z,?_⟩;replace q:match ((g ρ).bind λe=>match d,e with
   |.lst ds,.lst es=>ao.ok (cH ds es)
   |.tup ds,.tup es=>ao.ok (cH ds es)
   |_,_=>.stuck) with
    |.ok ds=>∀J H' Ha',aZ H Ha H' Ha'->Fz X.K ds J Ha'->R J H'
    |.exn x=>∀C ox H' Ha',aZ H Ha H' Ha'->rO X.K Ha' x C ox->E C ox H'
    |.stuck=>False:=q
  cases e2:g ρ with
  |stuck=>rw[e2]at q;exact q|exn x=>rw[e2]at q;exact λC ox H' Ha' g2=>q C ox H' Ha' (g1.trans g2)
  |ok d2=>
   rw[e2]at q;intro v2 H2 H02 g2 r2;cases d with
   |lst ds=>
    cases d2 with
    |lst es=>
     obtain⟨l,vs,rfl,hv,hrv⟩:=aC.mp (r1.mono g2.z);obtain⟨l',vs',rfl,hv',hrv'⟩:=aC.mp r2;refine⟨l,l',rfl,.inl ⟨⟨vs,aE.sqL g2.sub hv⟩,⟨vs',aE.sqL g2.sub hv'⟩,q _ H2 H02 (g1.trans g2) ⟨λi H' Ha' s1 s2 hi=>?_,λi H' Ha' x H2 d s1 s2 hd hy=>?_,λi H' Ha' s1 s2 hi=>?_⟩⟩⟩
     .rw[ft]at hi
      have h1:=hrv.length;have h2:=hrv'.length;exact⟨vs,vs',vs[i]'(by omega),vs'[i]'(by omega),aE.sqL (s1.trans s2) hv,aE.sqL (s1.trans s2) hv',by simp,by simp⟩
     .obtain⟨p,y,z,hp,rfl,hy,hz,rfl⟩:=hy
      obtain⟨d1,d2,k1,k2,rfl⟩:=jM _ _ _ _ hd;obtain⟨u,m1,m2⟩:=hrv.get k1;obtain⟨u',m1',m2'⟩:=hrv'.get k2;have:=hy vs (aE.sqL (s1.trans s2) hv);rw[m1]at this;cases this;have:=hz vs' (aE.sqL (s1.trans s2) hv');rw[m1']at this;cases this;exact qt s2 hp (Reps.cons (m2.mono s1) (Reps.cons (m2'.mono s1) Reps.nil))
     .rw[ft]at hi
      have h1:=hrv.length;have h2:=hrv'.length;exact⟨vs,vs',aE.sqL (s1.trans s2) hv,aE.sqL (s1.trans s2) hv',by omega⟩
    |_=>exact q.elim
   |tup ds=>
    cases d2 with
    |tup es=>
     obtain⟨l,vs,rfl,hv,hrv⟩:=aH.mp (r1.mono g2.z);obtain⟨l',vs',rfl,hv',hrv'⟩:=aH.mp r2;refine⟨l,l',rfl,.inr ⟨⟨vs,aE.sqT g2.sub hv⟩,⟨vs',aE.sqT g2.sub hv'⟩,q _ H2 H02 (g1.trans g2) ⟨λi H' Ha' s1 s2 hi=>?_,λi H' Ha' x H2 d s1 s2 hd hy=>?_,λi H' Ha' s1 s2 hi=>?_⟩⟩⟩
     .rw[ft]at hi
      have h1:=hrv.length;have h2:=hrv'.length;exact⟨vs,vs',vs[i]'(by omega),vs'[i]'(by omega),aE.sqT (s1.trans s2) hv,aE.sqT (s1.trans s2) hv',by simp,by simp⟩
     .obtain⟨p,y,z,hp,rfl,hy,hz,rfl⟩:=hy
      obtain⟨d1,d2,k1,k2,rfl⟩:=jM _ _ _ _ hd;obtain⟨u,m1,m2⟩:=hrv.get k1;obtain⟨u',m1',m2'⟩:=hrv'.get k2;have:=hy vs (aE.sqT (s1.trans s2) hv);rw[m1]at this;cases this;have:=hz vs' (aE.sqT (s1.trans s2) hv');rw[m1']at this;cases this;exact qt s2 hp (Reps.cons (m2.mono s1) (Reps.cons (m2'.mono s1) Reps.nil))
     .rw[ft]at hi
      have h1:=hrv.length;have h2:=hrv'.length;exact⟨vs,vs',aE.sqT (s1.trans s2) hv,aE.sqT (s1.trans s2) hv',by omega⟩
    |_=>exact q.elim
   |_=>exact q.elim
end
section
variable {X:Cx}{E:XK}{o e e':Expr}{apos cpos pos:Pos}{f g h:am}
def pJ(ks:List Str)(ds:ac)(y z:D):ao D:=match y with
 |.str k=>.ok ((qe ks ds k).getD z)
 |_=>.stuck
def JB(g h:am)(ρ:Ev)(x:D):ao D:=match x with
 |.dic ks ds=>(g ρ).bind λy=>(h ρ).bind (pJ ks ds y)
 |_=>.stuck
def lI(f g h:am):am:=λρ=>(f ρ).bind (JB g h ρ)
def BG(hu:X.A.units+1<cLine)(ho:DE X E o f)(he:DE X E e g)(hf:DE X E e' h)(m:M2 X o "get" apos e e' cpos):DE X E (.Call (.Attribute o "get" apos) [e,e'] [] cpos) (lI f g h):=by
 refine⟨aU (AA hu ho.o he.o hf.o m) λσ H Q z9=>?_⟩;obtain⟨Ha,ρ,hs,hr,q⟩:=z9;refine⟨Ha,ρ,hs,hr,?_⟩;unfold lI at q;cases e1:f ρ with
 |stuck|exn z=>rw[e1]at q;exact q
 |ok x=>
  rw[e1]at q;intro v H1 H01 g1 r1;cases x with
  |dic ks ds=>
   rw[Rep]at r1;obtain⟨p,kvs,vs,rfl,h1,rfl,hl,h4⟩:=r1;refine⟨p,rfl,.inl ⟨_,aE.rd g1.sub h1⟩,H01,ρ,g1.sub,hr.mono g1.z,?_⟩;have q:post X.K E H Ha ((g ρ).bind λy=>(h ρ).bind (pJ ks ds y)) Q:=q;cases e2:g ρ with
   |stuck=>rw[e2]at q;exact q|exn z=>rw[e2]at q;exact λC ox H' Ha' g' ex=>q C ox H' Ha' (g1.trans g') ex
   |ok y=>
    rw[e2]at q;intro u H2 H02 g2 r2;refine⟨H02,ρ,g2.sub,(hr.mono g1.z).mono g2.z,?_⟩;have q:post X.K E H Ha ((h ρ).bind (pJ ks ds y)) Q:=q;cases e3:h ρ with
    |stuck=>rw[e3]at q;exact q|exn z=>rw[e3]at q;exact λC ox H' Ha' g' ex=>q C ox H' Ha' ((g1.trans g2).trans g') ex
    |ok w=>
     rw[e3]at q;intro u3 H3 H03 g3 r3;cases y with
     |str k=>
      rw[Rep.str_iff.mp r2];refine⟨_,.inl ⟨_,.inr k,aE.rd g3.s (aE.rd g2.s (aE.rd g1.sub h1)),rfl,rfl⟩,?_⟩;have q:∀v H' Ha',aZ H Ha H' Ha'->Rep X.K Ha' ((qe ks ds k).getD w) v->Q v H':=q;cases e4:qe ks ds k with
      |none=>
       rw[(lh hl h4).2 e4];rw[e4]at q;exact q _ _ H03 ((g1.trans g2).trans g3) r3
      |some d=>
       obtain⟨v,hv,rv⟩:=(lh hl h4).1 d e4;rw[hv];rw[e4]at q;exact q _ _ H03 ((g1.trans g2).trans g3) ((rv.mono g2.z).mono g3.z)
     |_=>exact q.elim
  |_=>exact q.elim
def Lk(d:D):ao D:=match d with
 |.dic ks ds=>.ok (.dic ks ds)
 |_=>.stuck
def yY(f:am):am:=λρ=>(f ρ).bind Lk
def Ez(he:KD X E e f):DE X E e (yY f):=⟨aU he.o λσ H Q ⟨Ha,ρ,hs,hr,q⟩=>⟨Ha,ρ,hs,hr,by
 unfold yY at q;cases e1:f ρ with
 |stuck|exn x=>rw[e1]at q;exact q
 |ok d=>
  rw[e1]at q;cases d with
  |dic ks ds=>
   intro p vs H' Ha' g hp h0 hv hl rp;have z:aE Ha' (upd Ha' p (.dK ((ks.map Sum.inr).zip vs))):=λb o e=>by rw[az (by intro z;subst z;rw[h0]at e;cases e)];exact e
   refine q (.ref p) H' (upd Ha' p (.dK ((ks.map Sum.inr).zip vs))) ⟨g.s,g.z.trans z,λb o e=>?_,λb h1 h2=>?_⟩ (by rw[Rep];exact⟨p,_,vs,rfl,.inl aG,rfl,hl,rp.mono z⟩)
   .by_cases c:b=p
    .subst c;rw[aG]at e;cases e;exact hv
    .rw[az c]at e;exact g.sub _ _ e
   .by_cases c:b=p
    .subst c;exact hp
    .rw[az c]at h1;exact g.nw b h1 h2
  |non|bl _|int _|str _|tup _|lst _|exc _=>exact q.elim
  |ob _ _=>exact q.elim⟩⟩
end
section
variable {X:Cx}{E:XK}{b1 e1 b2 e2:Expr}{pos:Pos}{k1 f1 k2 f2:am}
def BC(x d y e:D):ao D:=match x,y with
 |.str s,.str t=>if s=t then .stuck else .ok (.dic [s,t] [d,e])
 |_,_=>.stuck
def rq(k1 f1 k2 f2:am):am:=λρ=>(k1 ρ).bind λx=>(f1 ρ).bind λd=>(k2 ρ).bind λy=>(f2 ρ).bind (BC x d y)
def yR(hk1:DE X E b1 k1)(hv1:DE X E e1 f1)(hk2:DE X E b2 k2)(hv2:DE X E e2 f2):KD X E (.Dict [some b1,some b2] [e1,e2] pos) (rq k1 f1 k2 f2):=by
 refine⟨?_⟩;refine aU (C5 (sU hk1.o hv1.o (sU hk2.o hv2.o CU)) rfl rfl (by simp) (by simp)) λσ H Q ⟨Ha,ρ,hs,hr,q⟩ p hpn=>?_;have h0:Ha p=none:=hs.free hpn;have hs2:aE Ha (upd H p (.dK [])):=λb o e=>by rw[az (by intro z;subst z;rw[h0]at e;cases e)];exact hs _ _ e
 have back:∀{H' Ha':Hp},aZ (upd H p (.dK [])) Ha H' Ha'->aZ H Ha H' Ha':=λg=>⟨λb o e=>g.s _ _ (by rw[az (aO e hpn)];exact e),g.z,g.sub,λa k1 k2=>by
   have:=g.nw a k1 k2
   by_cases ha:a=p
   .subst ha;exact hpn
   .rw[az ha]at this;exact this⟩
 refine⟨Ha,ρ,hs2,hr,?_⟩;unfold rq at q;cases q1:k1 ρ with
 |stuck=>rw[q1]at q;exact q|exn z=>rw[q1]at q;exact λC ox H' Ha' g ex=>q C ox H' Ha' (back g) ex
 |ok x=>
  rw[q1]at q;intro ux H1 H01 g1 r1;refine⟨H01,ρ,g1.sub,hr.mono g1.z,?_⟩;cases q2:f1 ρ with
  |stuck=>rw[q2]at q;exact q|exn z=>rw[q2]at q;exact λC ox H' Ha' g ex=>q C ox H' Ha' (back (g1.trans g)) ex
  |ok d=>
   rw[q2]at q;intro ud H2 H02 g2 r2;have G2:=g1.trans g2;refine⟨H02,ρ,g2.sub,hr.mono G2.z,?_⟩;cases q3:k2 ρ with
   |stuck=>rw[q3]at q;exact q|exn z=>rw[q3]at q;exact λC ox H' Ha' g ex=>q C ox H' Ha' (back (G2.trans g)) ex
   |ok y=>
    rw[q3]at q;intro uy H3 H03 g3 r3;have G3:=G2.trans g3;refine⟨H03,ρ,g3.sub,hr.mono G3.z,?_⟩;cases q4:f2 ρ with
    |stuck=>rw[q4]at q;exact q|exn z=>rw[q4]at q;exact λC ox H' Ha' g ex=>q C ox H' Ha' (back (G3.trans g)) ex
    |ok w=>
     rw[q4]at q;intro uw H4 H04 g4 r4;have G:=G3.trans g4;cases x with
     |str s=>
      cases y with
      |str t=>
       by_cases hst:s=t
       .have q:(match (if s=t then(ao.stuck:ao D) else .ok (.dic [s,t] [d,w])) with
         |.ok (.dic ks ds)=>∀p vs H' Ha',aZ H Ha H' Ha'->H p=none->Ha' p=none->H' p=some (.dK ((ks.map Sum.inr).zip vs))->ks.length=vs.length->Reps X.K Ha' ds vs->Q (.ref p) H'
         |.ok _=>False
         |.exn x=>∀C ox H' Ha',aZ H Ha H' Ha'->rO X.K Ha' x C ox->E C ox H'
         |.stuck=>False):=q
        rw[if_pos hst]at q;exact q.elim
       .have q:(match (if s=t then(ao.stuck:ao D) else .ok (.dic [s,t] [d,w])) with
         |.ok (.dic ks ds)=>∀p vs H' Ha',aZ H Ha H' Ha'->H p=none->Ha' p=none->H' p=some (.dK ((ks.map Sum.inr).zip vs))->ks.length=vs.length->Reps X.K Ha' ds vs->Q (.ref p) H'
         |.ok _=>False
         |.exn x=>∀C ox H' Ha',aZ H Ha H' Ha'->rO X.K Ha' x C ox->E C ox H'
         |.stuck=>False):=q
        rw[if_neg hst]at q;have hp2:H4 p=some (.dK []):=G.s _ _ aG;have n0:H04 p=none:=by
         cases qq:H04 p with|none=>rfl|some o=>have:=G.nw p (by rw[qq];simp) h0;rw[aG]at this;cases this
        rw[Rep.str_iff.mp r1,Rep.str_iff.mp r3];refine⟨hp2,[(Sum.inr s,ud),(Sum.inr t,uw)],rfl,by simp,?_⟩;have em:kP [] [((Sum.inr s:dD),ud),(Sum.inr t,uw)]=[(Sum.inr s,ud),(Sum.inr t,uw)]:=by
         show gq (gq [] (Sum.inr s) ud) (Sum.inr t) uw=_;simp[gq,hst]
        rw[em];refine q p [ud,uw] _ H04 ⟨λb o e=>?_,G.z,λb o e=>?_,(back G).nw⟩ hpn n0 aG rfl (Reps.cons ((r2.mono g3.z).mono g4.z) (Reps.cons r4 Reps.nil))
        .rw[az (aO e hpn)];exact(back G).s _ _ e
        .rw[az (by intro z;subst z;rw[n0]at e;cases e)];exact G.sub _ _ e
      |_=>exact q.elim
     |_=>cases y<;>exact q.elim
end
section
variable {P:Program}{w:World}{K:W.Frag}{mg:Str->Option Value}{base:Heap}{rows:List Rw}{A:Nat->Addr}{Q:Nat->FuncData}{i k n:Nat}{r:Rw}{s:bd}
variable (T:TG rows K mg A Q) (S:Kw rows) (h:rows[i]?=some r)
include T S h
theorem oZ(b:∀(cdv:Value) (A':Around) (outer:List PySem.Env) (s0:Shared) (H Ha:Hp) (E:XK),EX Ha->cL k (A'.deeper (envOfC r.x (defScope r.st) s0.heap.objs.size (A i) cdv)) ->
   rP (cf CX0 P w K mg base r.N r.x (defScope r.st) (A i) cdv A' outer s0 H E).nox E H Ha (defBody r.st) s):iV P w K mg base CX0 (k+1) (A i) (Q i) r.ps (spD K r.ps.length (nv (bH r.N.length s))) r.x r.st :=
 ⟨zj (vJ (T i r h).F (S r (List.mem_of_getElem? h)) b) rfl,T i r h⟩
end
end DL
namespace Rh
open PySem PySem.Spec PyProof.Rows
def oW:entryFor table "proto.unchain"=some Builtin.«proto.unchain»:=entryFor_of_tree (by kernel_rfl)
section
variable {P:Program}{w:World}{A:Around}{E:Value->Shared->Prop}{s:Shared}{env:PySem.Env}
def ctx(g:Heap)(e c:Addr):Heap:=g.update e (Obj.mapFields (·.setIfInBounds 2 (.ref c)))
def AM{α:Type}{e c:Addr}{oc oe:Obj}{vs ws:Array Value}{Q:α->Shared->Prop}(hA:A.handled=some (.ref c))(ne:c≠e)(gc:s.heap.get? c=some oc)(dc:oc.data=.fields vs)(c2:vs[2]?=some .none)
  (ge:s.heap.get? e=some oe)(de:oe.data=.fields ws)(hz:2<ws.size)(hE:E (.ref e) { s with heap:=ctx s.heap e c }):wpAny (model P w) A (raiseNew (.ref e):Sem α) Q E s:=by
 unfold raiseNew;refine wpAny_bind (wpAny_handled ?_);rw[hA];have hb:(Value.ref c != Value.ref e)=true:=by simp[ne]
 show wpAny _ _ (if(Value.ref c != Value.ref e)=true then _ else _) _ _ _;rw[if_pos hb];refine wpAny_bind (wpAny_holding (runValue_entry oW ?_));show wpAny _ _ (field (.ref c) 2 >>= _) _ _ _;refine wpAny_bind (wpAny_field gc dc c2 ?_);show wpAny _ _ (if(Value.none==Value.none)=true then _ else _) _ _ _;rw[if_pos (by rfl)];refine wpAny_bind (wpAny_pure (wpAny_pure ⟨_,rfl,?_⟩));refine wpAny_bind ?_;unfold updateField;refine wpAny_bind (wpAny_load ge ?_);rw[de];simp only[hz,if_true];exact wpAny_update ge (wpAny_throw hE)
variable {nm q:Str}{C N c:Addr}{bs bm bmB:List Value}{hdct:Bool}{sn:List Str}{sub:List Value}{ab:Bool}{col:Option Bool}{dd:Option Addr}{k0 k1 k2 k3 k5:Option Value}{B newId initId:String}
def xW{x:Sem Value}{Q:Flow->Shared->Prop}(hbase:bm.contains (.type "BaseException")=true)(hA:A.handled=some (.ref c))
  (h:wpAny (model P w) A x (λv sg=>∃e t oc vs,v=.ref e/\sg.heap.get? C=some (excClassObj nm q C N bs bm hdct sn sub ab col dd k0 k1 k2 k3 k5 newId) /\
   sg.heap.get? e=some { cls:=.ref C,data:=.fields #[.ref t,.none,.none,.none,.bool false,.none] }/\c≠e/\sg.heap.get? c=some oc/\oc.data=.fields vs/\vs[2]?=some .none/\E (.ref e) { sg with heap:=ctx sg.heap e c }) E s) :
  wpAny (model P w) A (raiseStmt env (some x) none) Q E s:=by
 have isB:(Value.ref C::bm).contains (.type "BaseException")=true:=by rw[List.contains_cons,hbase,Bool.or_true]
 unfold raiseStmt;refine wpAny_bind (wpAny_mono h (λv sg ⟨e,t,oc,vs,ev,hC,he,ne,gc,dc,c2,hE⟩=>?_) λ_ _ y=>y);subst ev;obtain⟨hp,gn,dr,tk,os⟩:=sg
 repeat (first|with_reducible refine wpAny_loadPart_at he ?_|with_reducible refine wpAny_loadPart_at hC ?_|(with_reducible refine wpAny_isSubtype_exc hC ?_;rw[isB])|wp_step)
 exact AM hA ne gc dc c2 he rfl (by simp) hE
def exec_some(F:ExcBaseFacts B newId initId bmB){mN:Str->Option Value}{x:Str}{np cpos pos:Pos}{args:List Expr}{Q:Flow->Shared->Prop}
  (hbase:bm.contains (.type "BaseException")=true)(hA:A.handled=some (.ref c))(hplain:(backTo cpos (starEach args env)).any (·.1)=false)(hni:mN "__init__"=none)
  (h:wpAny (model P w) A (eval (.Name x np) env) (λf sg=>f=.ref C/\wpAny (model P w) A (evalArgs (.ref C) true (backTo cpos (starEach args env)) [])
   (λa si=>a.kw=[]/\a.pos.length<=sizeLine/\si.heap.get? C=some (excClassObj nm q C N bs bm hdct sn sub ab col dd k0 k1 k2 k3 k5 newId)/\si.heap.Ns N mN/\OwnTail si.heap bmB bm/\(∃oc vs,si.heap.get? c=some oc/\oc.data=.fields vs/\vs[2]?=some .none) /\
    ∀h' e,Heap.MadeExcOf si.heap h' e (.ref C) a.pos->E (.ref e) { si with heap:=ctx h' e c }) E sg) E s) :
  wpAny (model P w) A (exec (.Raise (some (.Call (.Name x np) args [] cpos)) none pos) env) Q E s:=by
 rw[arm_exec_Raise];simp only[evalOpt,Option.map];refine wpAny_bind (wpAny_standAt (xW (C:=C) (nm:=nm) (q:=q) (N:=N) (bs:=bs) (bm:=bm) (hdct:=hdct) (sn:=sn) (sub:=sub) (ab:=ab) (col:=col) (dd:=dd) (k0:=k0) (k1:=k1) (k2:=k2) (k3:=k3) (k5:=k5) (newId:=newId) hbase hA ?_));refine wpAny_bind (wpAny_mono (wpAny_Call_ofName (wpAny_mono h (λf sg h₁=>?_) λ_ _ y=>y)) (λv sj hV=>wpAny_bind (wpAny_standAt (wpAny_pure hV))) λ_ _ y=>y);obtain⟨rfl,h₁⟩:=h₁;unfold callWith;refine wpAny_bind (wpAny_holding (wpAny_mono h₁ (λa si hG=>wpAny_bind (wpAny_standAt ?_)) λ_ _ y=>y));obtain⟨ap,ak⟩:=a;obtain⟨hk,hl,hC,hn,T,⟨oc,vs,gc,dc,c2⟩,hG⟩:=hG;obtain rfl:ak=[]:=hk;obtain⟨hp,gn,dr,tk,os⟩:=si;simp only[hplain];refine wpAny_bind (wpAny_keeperOf_exc hC (wpAny_bind (wpAny_call_exc_subT (hrest:=hl) F T hC hn hni λh' e hm=>wpAny_bind (wpAny_holding (wpAny_point (wpAny_pure ?_))))));obtain⟨t,ht,_,_⟩:=hm.there;refine⟨e,t,oc,vs,rfl,hm.keeps _ _ hC,ht,λz=>?_,hm.keeps _ _ gc,dc,c2,hG h' e hm⟩;subst z;have:=hm.new;rw[show(Shared.heap ⟨hp,gn,dr,tk,os⟩).get? c=some oc from gc]at this;cases this
end
end Rh
namespace DL
open PySem PySem.Spec PyProof.Rows L2
section
variable {M:Model}{A:Around}{E:Value->Shared->Prop}{s:Shared}{base:Heap}{env:PySem.Env}{l:List PySem.Env}{L e:Addr}{cls a0 fl:Value}{dc:Option Addr}
def DN{E':Value->Shared->Prop}(hf:env.frame=some L)(kb:base.StaysIn s.heap)(hl:s.heap.FunFrames base l)(ht:s.heap.TracedAtW base e cls a0 fl)(hc:iq s.heap e dc)
  (h:∀h',base.StaysIn h'->h'.FunFrames base l->h'.TracedAtW base e cls a0 (rawInt L)->(∀b o,s.heap.get? b=some o->(∀vs,o.data≠.fields vs)->h'.get? b=some o)->iq h' e dc->E' (.ref e) { s with heap:=h' }):cameBackBy M A env E' (.ref e) s:=by
 obtain⟨oe,vs,T,oT,ts,he,hcl,hd,h1,hnT,hTe,hT,dT,h3⟩:=ht;have z3:3<ts.size:=(Array.getElem?_eq_some_iff.mp h3).1;have oth:∀(f:Obj->Obj) (b:Addr),b≠T->(s.heap.update T f).get? b=s.heap.get? b:=λf b hb=>Heap.get?_update_other _ _ (Ne.symm hb);have ne:∀b o,s.heap.get? b=some o->(∀vs,o.data≠.fields vs)->b≠T:=λb o q z c=>by subst c;rw[hT]at q;cases q;exact z ts dT
 unfold cameBackBy;refine wpAny_bind (wpAny_field he hd h1 ?_);rw[if_neg (by simp)];rw[hf];unfold setFlight;refine wpAny_bind (wpAny_field he hd h1 ?_);rw[if_pos (by simp)];obtain⟨o',q',rfl,cx⟩:=hc;refine wpAny_setField hT dT z3 (h _ (λb o q=>(oth _ b λc=>by subst c;rw[hnT]at q;cases q).trans (kb b o q)) (hl.of_keeps λb o q z=>⟨o,(oth _ b (ne b o q z)).trans q,rfl⟩) ?_ (λb o q z=>(oth _ b (ne b o q z)).trans q) ⟨o',(oth _ e (Ne.symm hTe)).trans q',rfl,cx⟩);exact⟨oe,vs,T,_,_,(oth _ e (Ne.symm hTe)).trans he,hcl,hd,h1,hnT,hTe,Heap.get?_update_self _ hT (Obj.isFreed_of_fields (Obj.data_mapFields dT _)),Obj.data_mapFields dT _,by simp[z3]⟩
end
section
variable {P:Program}{w:World}{K:W.Frag}{mg:Str->Option Value}{base:Heap}{N:List Str}{qual:Str}{scope:Scope}{f:Addr}{cd:Value}{A:Around}{outer:List PySem.Env}{s0:Shared}{H0:Hp}{E:XK}
 {pins:List (Addr×Obj)}{σ:L2.St}{H:Hp}{s:Shared}
def tR(I:Inv (cf (eR P w) P w K mg base N qual scope f cd A outer s0 H0 E) pins σ H s){h1:Heap}{e c C:Addr}{vs:List Value}(hx:Heap.MadeExcOf s.heap h1 e (.ref C) vs)(hE:E (.ref C) none H) :
  notedBy (model P w) ((cf (eR P w) P w K mg base N qual scope f cd A outer s0 H0 E).A.mark (some (.ref c))) (cf (eR P w) P w K mg base N qual scope f cd A outer s0 H0 E).env
   (λx s2=>cameBackBy (model P w) (cf (eR P w) P w K mg base N qual scope f cd A outer s0 H0 E).A (cf (eR P w) P w K mg base N qual scope f cd A outer s0 H0 E).env (cf (eR P w) P w K mg base N qual scope f cd A outer s0 H0 E).xe x s2) (.ref e) { s with heap:=Rh.ctx h1 e c }:=by
 have hin:=xi (l:=envOfC qual scope s0.heap.objs.size f cd::outer);have hl:s.heap.FunFrames (W.hideAll s.heap (eQ (envOfC qual scope s0.heap.objs.size f cd::outer))) (envOfC qual scope s0.heap.objs.size f cd::outer):=W.funFrames_hide I.stack hin;have hn:H e=none:=by
  cases q:H e with|none=>rfl|some o=>obtain⟨u,hu⟩:=br.there (I.hok e o q);rw[hx.new]at hu;cases hu
 obtain⟨t,he,_,_⟩:=hx.there;have hen:(W.hideAll s.heap (eQ (envOfC qual scope s0.heap.objs.size f cd::outer))).get? e=none:=by
  cases q:(W.hideAll s.heap (eQ (envOfC qual scope s0.heap.objs.size f cd::outer))).get? e with|none=>rfl|some o=>have:=W.of_hideAll _ q;rw[hx.new]at this;cases this
 have kc:∀b o,s.heap.get? b=some o->(Rh.ctx h1 e c).get? b=some o:=λb o q=>by
  have hb:b≠e:=by intro z;subst z;rw[hx.new]at q;cases q
  unfold Rh.ctx;rw[Heap.get?_update_other _ _ (Ne.symm hb)];exact hx.keeps b o q
 have d2:=Obj.data_mapFields (o:={ cls:=.ref C,data:=.fields #[.ref t,.none,.none,.none,.bool false,.none] }) rfl (·.setIfInBounds 2 (.ref c));have hec:(Rh.ctx h1 e c).get? e=some (Obj.mapFields (·.setIfInBounds 2 (.ref c)) { cls:=.ref C,data:=.fields #[.ref t,.none,.none,.none,.bool false,.none] }):=Heap.get?_update_self _ he (Obj.isFreed_of_fields d2);have hfr:(Rh.ctx h1 e c).FunFrames (W.hideAll s.heap (eQ (envOfC qual scope s0.heap.objs.size f cd::outer))) (envOfC qual scope s0.heap.objs.size f cd::outer):=hl.of_keeps λb o hb _=>⟨o,kc b o hb,rfl⟩
 have hst:(W.hideAll s.heap (eQ (envOfC qual scope s0.heap.objs.size f cd::outer))).StaysIn (Rh.ctx h1 e c):=λb o q=>kc b o (W.of_hideAll _ q);unfold notedBy;refine tX (s:={ s with heap:=Rh.ctx h1 e c }) (a0:=.ref t) I.ok.frames hfr rfl hec hst hen d2 rfl rfl (λz=>absurd (fE _ _) z) λg ⟨k1,k2,k3,k4⟩ dg=>?_;rw[fE]at dg;refine DN (s:={ s with heap:=g }) rfl k1 k2 k3 dg λg2 m1 m2 m3 m4 dg2=>?_;show wpAny (model P w) _ (leaving (envOfC qual scope s0.heap.objs.size f cd) (.ref e)) _ _ _;unfold leaving;refine wpAny_bind (wpAny_noteFrame_againW rfl m3 ?_);refine gC (s:={ s with heap:=g2 }) m1 m2 m3 dg2 λh' x1 x2 x3 x4 dh=>?_;have up:(Rh.ctx h1 e c).UpToSlots h':=λb o q z=>by
  obtain⟨sl,y⟩:=k4 b o q z;exact⟨sl,x4 b _ (m4 b _ y z) z⟩
 obtain⟨_,_,x2'⟩:=x2;have hcl:(Obj.mapFields (·.setIfInBounds 2 (.ref c)) { cls:=.ref C,data:=.fields #[.ref t,.none,.none,.none,.bool false,.none] }:Obj).cls=.ref C:=Obj.cls_mapFields _ _;rw[hcl]at x3;refine Bf rfl I (s1:={ s with heap:=Rh.ctx h1 e c }) (H1:=H) rfl I.bare (Un.kept kc) (I.hok.kept kc) hn hst hfr (λb hb h=>?_) ⟨x1,hen,x2',x3⟩ up ⟨none,⟨_,dh,.inl rfl⟩,hE⟩;have:∃o,s.heap.get? b=some o:=by
  rcases h with h|h
  .cases q:H b with
   |none=>exact absurd q h
   |some o=>exact br.there (I.hok b o q)
  .exact h
 obtain⟨o,q⟩:=this;exact⟨o,W.hideAll_get _ q hb⟩
end
section
variable {X:Cx}{pins:List (Addr×Obj)}{σ:L2.St}{H:Hp}{s:Shared}{e:Addr}
def EK{H1:Hp}{s1 s':Shared}{Ex:XK}{ev:Value}{c:Str}{np hpos:Pos}{ba:Stmt}{suite:List Stmt}{rest:List ExceptHandler}{cv:Value}{D:fK}(hstk:X.stack=X.env::X.outer/\X.env.frame=some X.env.locals)(I:Inv X pins σ H1 s1)
  (h:eR X.prog X.w X.stack H1 s1 Ex ev s')(hg:Gl X c)(hm:X.mg c=some cv)(hx:∀C ox H',Ex (.ref C) ox H'->W.exmOne X.K (.ref C) cv=some true)
  (hs:∀ea C dc oc ox H' s2,Ex (.ref C) ox H'->(ox=none∨ox=dc)->H' ea=none->iq s2.heap ea dc->s2.heap.get? ea=some oc->Inv (DL.hand X ea) pins σ (upd H' ea (.ext (λg=>g.get? ea=some oc))) s2 ->
   wpAny (model X.prog X.w) (X.A.mark (some (.ref ea))) (execs (ba::suite) X.env) (SP (DL.hand X ea) pins D) (notedBy (model X.prog X.w) (X.A.mark (some (.ref ea))) X.env λx s3=>cameBackBy (model X.prog X.w) X.A X.env X.xe x s3) s2)
  (hdb:(c==("__debug__":Str))=false:=by decide) :
  wpAny (model X.prog X.w) X.A (noteFrame ev X.env) (λ_ si=>wpAny (model X.prog X.w) X.A (setFlight ev none) (λ_ sj=>
   wpAny (model X.prog X.w) X.A (handleBy ev X.env (.ExceptHandler (some (.Name c np)) none (ba::suite) hpos::rest)) (SP X pins D) X.xe sj) X.xe si) X.xe s':=by
 obtain⟨ea,C,a0,B,H',rfl,os,bare,un,hok,hne,fl,hB,ox,⟨dc,hdc,hox⟩,hE⟩:=h;have hA:X.A.frames=some (X.env::X.outer):=by rw[←hstk.1];exact I.ok.frames
 have fl0:=fl;rw[hstk.1]at fl;have hf1:∀b∈eQ X.stack,H' b=none:=λb hb=>by
  obtain⟨_,o,ho,_⟩:=I.stack.mem hb;exact un.free b o ho (I.stkFree b hb) (by simp)
 have hnew:s1.heap.get? ea=none:=by
  cases q:s1.heap.get? ea with
  |none=>rfl
  |some o=>
   by_cases hb:ea∈eQ X.stack
   .obtain⟨_,o',ho',hd⟩:=fl0.2.2.1.mem hb
    obtain⟨oe,vs,he,_,hd',_⟩:=fl0.first
    rw[ho']at he;cases he;exact absurd hd' (hd vs)
   .obtain⟨u,hu⟩:=hB ea hb (.inr ⟨o,q⟩)
    rw[fl.2.1]at hu;cases hu
 have inv:∀g,B.StaysIn g->s'.heap.UpToSlots g->Inv X pins σ H' { s' with heap:=g }:=λg k up=>
  I.call' (ch:=[]) os (Un.fly un fl0.1 fl0.2.2.1 hB k up) (er.fly hok hf1 fl0.1 hB k) bare (λ_ z=>nomatch z)
 have invx:∀g oc,B.StaysIn g->s'.heap.UpToSlots g->g.get? ea=some oc->Inv X pins σ (upd H' ea (.ext (λg=>g.get? ea=some oc))) { s' with heap:=g }:=λg oc k up p=>
  I.call' (ch:=[]) os (Un.ext (Un.fly un fl0.1 fl0.2.2.1 hB k up) hne hnew) (er.ext (er.fly hok hf1 fl0.1 hB k) hne p ⟨oc,p⟩ (λg1 g2 x y=>y oc x)) bare (λ_ z=>nomatch z)
 refine tY hA hstk.2 fl hdc λh4 held4 up4 dc4=>?_;refine tZ held4 dc4 λh5 fl5 up5 dc5=>?_;have I5:Inv (DL.hand X ea) pins σ H' { s' with heap:=h5 }:=Inv.hand (inv h5 fl5.1 (up4.trans up5));refine wpAny_handleBy_cons (codeAny_handlers_test ?_) (by intro q;cases q);refine fN I5 hg hm ?_ hdb;obtain⟨ob,hob,hoc⟩:=fl5.there;have LT:W.Looks (model X.prog X.w) h5 (typeOf (.ref ea)) (.ref C):=hoc▸(W.Looks.ld hob).andThen .now;refine(W.exm_one I5.kIn LT (hx C ox H' hE)).here ?_;refine codeAny_handlers_suite ?_;refine ua fl5 dc5 λh6 fl6 up6 dc6=>?_;obtain⟨oe,vs,he,hc,hd,_⟩:=fl6.first
 have I6:Inv (DL.hand X ea) pins σ (upd H' ea (.ext (λg=>g.get? ea=some oe))) { s' with heap:=h6 }:=Inv.hand (invx h6 oe fl6.1 ((up4.trans up5).trans up6) he);refine wpAny_mono (hs ea C dc oe ox H' _ hE hox hne dc6 he I6) (λf s8 h8=>?_) λ_ _ z=>z;cases f with|next|brk|cont=>obtain⟨σ',H2,J,q⟩:=h8;exact⟨σ',H2,eA I.ok J,q⟩|ret u=>obtain⟨v,σ',H2,J,r,q⟩:=h8;exact⟨v,σ',H2,eA I.ok J,r,q⟩
end
def zH(hit:Str->Bool)(x:Str)(fa:Ev->ao (ac))(ρ:Ev)(y:E2):ao Fl:=if hit y.cls=true/\y.flds.isEmpty=false then(match fa ρ with|.ok ds=>if ds.length<=line then .exn ⟨x,[]⟩ else .stuck|_=>.stuck) else .stuck
def lr(g:bd)(hit:Str->Bool)(x:Str)(fa:Ev->ao (ac)):bd:=λρ=>match g ρ with
 |.exn y=>zH hit x fa ρ y
 |r=>r
section
variable {P:Program}{w:World}{K:W.Frag}{mg:Str->Option Value}{base:Heap}{N:List Str}{qual:Str}{scope:Scope}{f:Addr}{cd:Value}{A:Around}{outer:List PySem.Env}{s0:Shared}{H0:Hp}{E:XK}{He H0e:Hp}
def Eu{st:Stmt}{g:bd}{hit:Str->Bool}{c x:Str}{np xp cpos rpos hpos pos:Pos}{cv:Value}{C:Addr}{e:Expr}{es:List Expr}{fa:Ev->ao (ac)}(hb:TB (cf (eR P w) P w K mg base N qual scope f cd A outer s0 H0 E) st g)
  (hg:Gl (cf (eR P w) P w K mg base N qual scope f cd A outer s0 H0 E) c)(hm:mg c=some cv)(hhit:∀x C,hit x=true->XC K x C->W.exmOne K (.ref C) cv=some true)
  (k:ES K x C)(hmx:mg x=some (.ref C))(hgx:Gl (cf (eR P w) P w K mg base N qual scope f cd A outer s0 H0 E) x)
  (ha:∀ea,DA (DL.hand (cf (eR P w) P w K mg base N qual scope f cd A outer s0 H0 E) ea) E0 (e::es) fa)(hdb:(c==("__debug__":Str))=false:=by decide)(hdx:(x==("__debug__":Str))=false:=by decide)
  (he:starEach (e::es) (cf (eR P w) P w K mg base N qual scope f cd A outer s0 H0 E).env=(false,eval e (cf (eR P w) P w K mg base N qual scope f cd A outer s0 H0 E).env)::starEach es (cf (eR P w) P w K mg base N qual scope f cd A outer s0 H0 E).env:=by exact aI rfl)
  (hpl:(backTo cpos (starEach es (cf (eR P w) P w K mg base N qual scope f cd A outer s0 H0 E).env)).any (·.1)=false:=by exact bp rfl) :
  DS (cf (eR P w) P w K mg base N qual scope f cd A outer s0 H0 E) E He H0e (.Try [st] [.ExceptHandler (some (.Name c np)) none [.Raise (some (.Call (.Name x xp) (e::es) [] cpos)) none rpos] hpos] [] [] pos) (lr g hit x fa):=by
 refine⟨?_⟩;intro pins s σ H D I ⟨Ha,ρ,h,q⟩;have hq:uS K He H0e Ha (g ρ) D:=by
  unfold lr at q;cases e1:g ρ with
  |exn x=>trivial|stuck=>rw[e1]at q;exact q
  |ok r=>rw[e1]at q;cases r<;>exact q
 refine wpAny_Try_except (wpAny_execs_cons (cA (hb.o pins s σ H He H0e Ha ρ D _ I h hq λH1 s1 ev s' I1 hc=>?_) λfl s1 hf=>?_))
 .have hit1:∀y,g ρ=.exn y->(hit y.cls=true/\y.flds.isEmpty=false)/\∃ds,fa ρ=.ok ds/\ds.length<=line/\bA K E He H0e Ha (.exn ⟨x,[]⟩) D:=λy e1=>by
   unfold lr at q;rw[e1]at q;have q:bA K E He H0e Ha (zH hit x fa ρ y) D:=q;unfold zH at q
   by_cases z:hit y.cls=true/\y.flds.isEmpty=false
   .rw[if_pos z]at q
    refine⟨z,?_⟩;cases e2:fa ρ with
    |stuck|exn u=>rw[e2]at q;exact q.elim
    |ok ds=>
     rw[e2]at q;have q:bA K E He H0e Ha (if ds.length<=line then ao.exn ⟨x,[]⟩ else .stuck) D:=q
     by_cases hl:ds.length<=line
     .rw[if_pos hl]at q;exact⟨ds,rfl,hl,q⟩
     .rw[if_neg hl]at q;exact q.elim
   .rw[if_neg z]at q;exact q.elim
  refine EK ⟨rfl,rfl⟩ I1 hc hg hm (λC ox H' ⟨y,Ha',e1,_,_,⟨⟨c',ec,xc⟩,_⟩⟩=>?_) (λea C' dc oc ox H' s2 ⟨y,Ha',e1,sm,srx,⟨⟨c',ec,xc⟩,hm2⟩⟩ hox hne hdc hoc I2=>?_) hdb
  .cases ec;exact hhit _ _ (hit1 y e1).1.1 xc
  .cases ec
   obtain⟨⟨_,hfl⟩,ds,e2,hl,q2⟩:=hit1 y e1;have hdn:dc≠none:=by
    rintro rfl;have:ox=none:=by rcases hox with z|z<;>exact z
    subst this;have hm2:y.flds=[]:=hm2;rw[hm2]at hfl;cases hfl
   obtain⟨oc',go,_,cx⟩:=hdc;rw[hoc]at go;cases go;obtain⟨vs2,dv,c2⟩:=cx hdn;have srx2:=srx.grow (aR (o:=.ext (λg=>g.get? ea=some oc)) srx.g.sub hne);refine wpAny_execs_cons ?_;obtain⟨bm,Nn,nm,qn,bs,hdct,sn,sub,ab,col,dd,k0,k1,k2,k3,k5,mN,hC,hN,hni,T⟩:=k.obj I2.ok.mod.kin;refine Rh.exec_some (C:=C) (c:=ea) (nm:=nm) (q:=qn) (N:=Nn) (bs:=bs) (bm:=bm) (hdct:=hdct) (sn:=sn) (sub:=sub) (ab:=ab) (col:=col) (dd:=dd) (k0:=k0) (k1:=k1) (k2:=k2) (k3:=k3) (k5:=k5)
    PySem.F.excBase_ValueError (mN:=mN) (T.hasType PySem.F.excBase_ValueError.hasBase) rfl (by rw[he];show(false||(backTo cpos (starEach es (cf (eR P w) P w K mg base N qual scope f cd A outer s0 H0 E).env)).any (·.1))=false;rw[hpl];rfl) hni (fN I2 hgx hmx ⟨rfl,?_⟩ hdx)
   have h1:=(ha ea).o cpos pins s2 σ _ (λus H2=>us.length<=sizeLine/\aE (upd H' ea (.ext (λg=>g.get? ea=some oc))) H2/\∃H02,aZ He H0e H2 H02) I2 ⟨upd Ha' ea (.ext (λg=>g.get? ea=some oc)),ρ,srx2.g.sub,srx2.rd,by
    rw[e2];exact λus H2 H02 g2 rp=>⟨by rw[←rp.length];exact cO hl,g2.s,H02,srx2.g.trans g2⟩⟩
   have h1:wpAny (model P w) ((cf (eR P w) P w K mg base N qual scope f cd A outer s0 H0 E).A.mark (some (.ref ea))) (spliced (backTo cpos (starEach (e::es) (cf (eR P w) P w K mg base N qual scope f cd A outer s0 H0 E).env))) _ _ s2:=h1;rw[he]at h1 ⊢;refine Calls.evalArgs_plain (wpAny_mono h1 (λus s3 h2=>?_) λ_ _ y=>y.elim);obtain⟨us',H2,I3,rv,hl2,sm2,H02,G2⟩:=h2;have I3:Inv (cf (eR P w) P w K mg base N qual scope f cd A outer s0 H0 E) pins σ H2 s3:=eA I.ok I3;have gE:∃oc vs,s3.heap.get? ea=some oc/\oc.data=.fields vs/\vs[2]?=some .none:=by
    obtain⟨z,_,_⟩:=(show br P w H2 s3.heap ea (.ext (λg=>g.get? ea=some oc)) from I3.hok ea _ (sm2 _ _ aG))
    exact⟨oc,vs2,z,dv,c2⟩
   exact⟨rfl,by rw[←rv.length];exact hl2,I3.bk _ _ hC,hN.keeps I3.bk,T.keeps I3.bk,gE,λh' ee hx=>tR I3 hx (q2 (.ref C) none H2 H02 G2 ⟨⟨C,rfl,k.xc⟩,rfl⟩)⟩
 .cases fl with
  |next=>exact wpAny_execs_nil (wpAny_execs_nil hf)
  |brk=>exact hf
  |cont=>exact hf
  |ret u=>exact hf
end
end DL
namespace DL
open PySem L2
section
variable {α β:Type}
def Rf(a b:ao α):Prop:=a=.stuck∨a=b
def cC{a b:ao α}{f g:α->ao β}(h:Rf a b)(k:∀x,Rf (f x) (g x)):Rf (a.bind f) (b.bind g):=by
 rcases h with rfl|rfl
 .exact .inl rfl
 .cases a with
  |ok x=>exact k x
  |exn x=>exact .inr rfl
  |stuck=>exact .inl rfl
structure jz (f g:Ev->ao α):Prop where
 o:∀ρ,Rf (f ρ) (g ρ)
end
structure Fy (f g:ac->ao D):Prop where
 o:∀ds,Rf (f ds) (g ds)
def Fy.ok{f g:ac->ao D}(h:Fy f g){ds:ac}{d:D}(e:f ds=.ok d):g ds=.ok d:=by
 rcases h.o ds with q|q
 .rw[q]at e;cases e
 .rw[←q];exact e
def rfm_refl{f:ac->ao D}:Fy f f:=⟨λ_=>.inr rfl⟩
def rf_refl{α:Type}{f:Ev->ao α}:jz f f:=⟨λ_=>.inr rfl⟩
section
variable {s s' t t':bd}{c c' f f':am}{fa fa':Ev->ao (ac)}{m m':ac->ao D}
def rf_stuck:jz eI s:=⟨λ_=>.inl rfl⟩
def rf_seq(h1:jz s s')(h2:jz t t'):jz (ar s t) (ar s' t'):=⟨λρ=>cC (h1.o ρ) λr=>by
 cases r with
 |nx ρ'=>exact h2.o ρ'
 |_=>exact .inr rfl⟩
def rf_if(hc:jz c c')(h1:jz s s')(h2:jz t t'):jz (dO c s t) (dO c' s' t'):=⟨λρ=>cC (hc.o _) λr=>by
 cases r with
 |bl b=>cases b with
  |true=>exact h1.o ρ
  |false=>exact h2.o ρ
 |_=>exact .inr rfl⟩
theorem l4{tg:Ev->D->ao Ev}(h:jz s s'):∀(ds:ac) (ρ:Ev),Rf (bW tg s ds ρ) (bW tg s' ds ρ)
 |[],ρ=>.inr rfl
 |d::r,ρ=>by
  unfold bW;refine cC (.inr rfl) λρ1=>cC (h.o ρ1) λx=>?_;cases x with|nx ρ2|ct ρ2=>exact l4 h r ρ2|bk ρ2|rt d=>exact .inr rfl
def rf_for{tg:Ev->D->ao Ev}(hf:jz f f')(h:jz s s'):jz (oG f tg s) (oG f' tg s'):=⟨λρ=>cC (hf.o ρ) λd=>by
 cases d with
 |lst ds=>exact l4 h ds ρ
 |_=>exact .inr rfl⟩
def rf_forI{tg:Ev->D->ao Ev}{src:Ev->ao (ac)}(h:jz s s'):jz (jV src tg s) (jV src tg s'):=⟨λρ=>cC (.inr rfl) λds=>l4 h ds ρ⟩
def rf_drop(h:jz f f'):jz (jE f) (jE f'):=⟨λρ=>cC (h.o _) λ_=>.inr rfl⟩
def rf_ret(h:jz f f'):jz (bx f) (bx f'):=⟨λρ=>cC (h.o _) λ_=>.inr rfl⟩
def rf_set{i:Nat}(h:jz f f'):jz (aN i f) (aN i f'):=⟨λρ=>cC (h.o _) λ_=>.inr rfl⟩
def rf_b1{op:D->ao D}(h:jz f f'):jz (bc f op) (bc f' op):=⟨λρ=>cC (h.o _) λ_=>.inr rfl⟩
def rf_not(h:jz f f'):jz (bZ f) (bZ f'):=rf_b1 h
def rf_b2{op:D->D->ao D}(h:jz f f')(h2:jz c c'):jz (aa f c op) (aa f' c' op):=⟨λρ=>cC (h.o _) λ_=>cC (h2.o _) λ_=>.inr rfl⟩
def rf_bA(h:jz fa fa')(hm:Fy m m'):jz (aq fa m) (aq fa' m'):=⟨λρ=>cC (h.o _) λds=>hm.o ds⟩
def rf_cons(h:jz f f')(h2:jz fa fa'):jz (af f fa) (af f' fa'):=⟨λρ=>cC (h.o _) λ_=>cC (h2.o _) λ_=>.inr rfl⟩
def u6{n:Nat}(h:jz s s'):Fy (bH n s) (bH n s'):=⟨λds=>cC (h.o _) λr=>.inr rfl⟩
end
end DL
local macro_rules|`(tactic|open_line with[rf_go])=>`(tactic|repeat (first|with_reducible exact DL.rf_refl|with_reducible exact DL.rf_stuck|with_reducible assumption|with_reducible exact DL.rfm_refl|with_reducible refine DL.rf_seq ?_ ?_|with_reducible refine DL.rf_if ?_ ?_ ?_|with_reducible refine DL.rf_for ?_ ?_|with_reducible refine DL.rf_forI ?_|with_reducible refine DL.rf_drop ?_|with_reducible refine DL.rf_ret ?_|with_reducible refine DL.rf_set ?_|with_reducible refine DL.rf_not ?_|with_reducible refine DL.rf_bA ?_ ?_|with_reducible refine DL.rf_cons ?_ ?_|with_reducible refine DL.rf_b1 ?_|with_reducible refine DL.rf_b2 ?_ ?_))
namespace Wex
open PySem L2 DL Com
noncomputable def ju:bd :=
 (ar (dO (gM (bZ (aq (af (ae 0) ax) m_is_whole)) (bZ (aq (af (ae 1) ax) m_is_whole)))
 (ar (Ae "NoNumber" (af (dC (.str "a fraction is made of two whole numbers")) ax))
 au)
 au)
 (ar (dO (aa (ae 1) (dC (.int 0)) iD)
 (ar (Ae "NoNumber" (af (dC (.str "a fraction's second number is not 0")) ax))
 au)
 au)
 (ar (aN 2 (aq (af (ae 0) (af (ae 1) ax)) m_common_divisor))
 (ar (dO (aa (ae 1) (dC (.int 0)) Ll)
 (ar (aN 2 (bc (ae 2) ro))
 au)
 au)
 (ar (bx (aq (af (aa (ae 0) (ae 2) k7) (af (aa (ae 1) (ae 2) k7) ax)) dm))
 au)))))
def m_ratio:ac->ao D:=bH 3 ju
noncomputable def b_plus:bd :=
 (ar (bx (aq (af (aa (aa (aa (ae 0) (dC (.int 0)) aD) (aa (ae 1) (dC (.int 1)) aD) bK) (aa (aa (ae 1) (dC (.int 0)) aD) (aa (ae 0) (dC (.int 1)) aD) bK) bo) (af (aa (aa (ae 0) (dC (.int 1)) aD) (aa (ae 1) (dC (.int 1)) aD) bK) ax)) m_ratio))
 au)
def m_plus:ac->ao D:=bH 2 b_plus
def plainD:D->Bool
 |.non=>true
 |.bl _=>true
 |.int _=>true
 |.str _=>true
 |.tup _=>true
 |.lst _=>true
 |_=>false
end Wex
namespace Bor
open PySem L2 DL
abbrev aL:ac->ao D:=Cod.aL
end Bor
namespace Nwb
open PySem L2 DL Com
noncomputable def b_look_at_places:bd :=
 (ar (dO (gM (bZ (bc (ae 0) (du "list"))) (bZ (ie Ic Ic (dC (.int 2)) (aq (af (ae 0) ax) (m1 cN)) (dC (.int 7)))))
 (ar (dP "NoWeb" ["part","number"] (af (dC (.str "places")) (af (dC (.non)) ax)))
 au)
 au)
 (ar (jV (qz (ae 0)) (eV [1,2])
 (ar (dO (gM (bZ (aq (af (ae 2) ax) m_is_name)) (aa (ae 2) (ez (ae 0) dA (bM (ae 1))) oY))
 (ar (dP "NoWeb" ["part","number"] (af (dC (.str "places")) (af (ae 1) ax)))
 au)
 au)
 au))
 au))
def m_look_at_places:ac->ao D:=bH 3 b_look_at_places
noncomputable def b_look_at_ties:bd :=
 (ar (dO (gM (bZ (bc (ae 0) (du "list"))) (aa (aq (af (ae 0) ax) (m1 cN)) (dC (.int 14)) B6))
 (ar (dP "NoWeb" ["part","number"] (af (dC (.str "ties")) (af (dC (.non)) ax)))
 au)
 au)
 (ar (jV (qz (ae 0)) (eV [2,3])
 (ar (dO (gM (bZ (aq (af (ae 3) ax) m_is_tie)) (gM (aa (aa (ae 3) (dC (.int 0)) aD) (ae 1) dq) (aa (aa (ae 3) (dC (.int 1)) aD) (ae 1) dq)))
 (ar (dP "NoWeb" ["part","number"] (af (dC (.str "ties")) (af (ae 2) ax)))
 au)
 au)
 au))
 au))
def m_look_at_ties:ac->ao D:=bH 4 b_look_at_ties
noncomputable def b_look_at_web:bd :=
 (ar (dO (gM (bZ (bc (ae 0) (du "tuple"))) (aa (aq (af (ae 0) ax) (m1 cN)) (dC (.int 4)) gI))
 (ar (dP "NoWeb" ["part","number"] (af (dC (.str "web")) (af (dC (.non)) ax)))
 au)
 au)
 (ar (jE (aq (af (aa (ae 0) (dC (.int 0)) aD) ax) m_look_at_places))
 (ar (jE (aq (af (aa (ae 0) (dC (.int 1)) aD) (af (aa (ae 0) (dC (.int 0)) aD) ax)) m_look_at_ties))
 (ar (dO (bZ (aq (af (aa (ae 0) (dC (.int 2)) aD) (af (aa (ae 0) (dC (.int 0)) aD) ax)) m_is_place))
 (ar (dP "NoWeb" ["part","number"] (af (dC (.str "first")) (af (dC (.non)) ax)))
 au)
 au)
 (ar (dO (gM (bZ (aq (af (aa (ae 0) (dC (.int 3)) aD) (af (aa (ae 0) (dC (.int 0)) aD) ax)) m_is_place)) (aa (aa (ae 0) (dC (.int 3)) aD) (aa (ae 0) (dC (.int 2)) aD) iD))
 (ar (dP "NoWeb" ["part","number"] (af (dC (.str "last")) (af (dC (.non)) ax)))
 au)
 au)
 au)))))
def m_look_at_web:ac->ao D:=bH 1 b_look_at_web
def GU(p:Str)(n:D):E2:=⟨"NoWeb",[("part",.str p),("number",n)]⟩
def gD{p:Str}{n:D}:qC "NoWeb" ["part","number"] [.str p,n]=.exn (GU p n):=vO
def ph:Fy Com.m_look_at_places m_look_at_places:=u6 (by unfold Com.b_look_at_places b_look_at_places;open_line with[rf_go])
def CK:Fy Com.m_look_at_ties m_look_at_ties:=u6 (by unfold Com.b_look_at_ties b_look_at_ties;open_line with[rf_go])
def F7:Fy Com.m_look_at_web m_look_at_web:=by
 have h1:=ph;have h2:=CK;exact u6 (by unfold Com.b_look_at_web b_look_at_web;open_line with[rf_go])
def webX{w:eG}(W:bF w):m_look_at_web [aB w]=.ok .non:=F7.ok (FK W)
def placesX{zs:List Str}(h2:2<=zs.length)(h7:zs.length<=7)(nm:fT zs):m_look_at_places [.lst (zs.map D.str)]=.ok .non:=ph.ok (pw h2 h7 nm)
def GR{tg:Ev->D->ao Ev}{body:bd}{ds:ac}(P:Nat->Ev->Prop)(X:Nat->E2)(h:∀k d,ds[k]?=some d->∀ρ,P k ρ->∃ρ1,tg ρ d=.ok ρ1/\((∃ρ2,body ρ1=.ok (.nx ρ2)/\P (k+1) ρ2)∨body ρ1=.exn (X k))){ρ:Ev}(h0:P 0 ρ) :
  (∃ρ',bW tg body ds ρ=.ok (.nx ρ')/\P ds.length ρ')∨∃k,k<ds.length/\bW tg body ds ρ=.exn (X k):=by
 have key:∀(m k:Nat) (ρ:Ev),k+m=ds.length->P k ρ->(∃ρ',bW tg body (ds.drop k) ρ=.ok (.nx ρ')/\P ds.length ρ')∨∃k',k' < ds.length/\bW tg body (ds.drop k) ρ=.exn (X k'):=by
  intro m
  induction m with
  |zero=>
   intro k ρ hk hp;have:k=ds.length:=by omega
   subst this;rw[List.drop_length];exact .inl ⟨ρ,rfl,hp⟩
  |succ m ih=>
   intro k ρ hk hp;have hlt:k<ds.length:=by omega
   obtain⟨ρ1,h1,h2⟩:=h k ds[k] (List.getElem?_eq_getElem hlt) ρ hp;rcases h2 with⟨ρ2,h2,h3⟩|h2
   .rw[List.drop_eq_getElem_cons hlt,qX h1 h2]
    exact ih (k+1) ρ2 (by omega) h3
   .refine .inr ⟨k,hlt,?_⟩
    rw[List.drop_eq_getElem_cons hlt];unfold bW;rw[h1,nH,h2,fB]
 exact key ds.length 0 ρ (by omega) h0
def tq{xs:ac}{k:Nat}{d:D}(h:(DL.numbered 0 xs)[k]?=some d):∃x,xs[k]?=some x/\d=.tup [.int (k:Int),x]:=by
 have:=gR (F:=id) (xs:=xs) (k:=k) (d:=d) (by rw[List.map_id];exact h);exact this
def cI(xs:ac):∀k,(DL.numbered k xs).length=xs.length:=by
 induction xs with|nil=>intro k;rfl|cons x xs ih=>intro k;unfold DL.numbered;rw[List.length_cons,ih,List.length_cons]
def HL{xs:ac}{k:Nat}(h:k<=xs.length):fZ xs none (some (k:Int))=xs.take k:=by
 have:=BI (F:=id) (xs:=xs) h
 rwa [List.map_id,List.map_id]at this
def Dn{d:D}(h:GS d=true):(∃z,d=.str z/\nameB z=true/\m_is_name [d]=.ok (.bl true))∨(AN d=false/\m_is_name [d]=.ok (.bl false)):=by
 have e:=nj h;cases hn:AN d with
 |false=>rw[hn]at e;exact .inr ⟨rfl,e⟩
 |true=>
  rw[hn]at e;cases d with|str z=>exact .inl ⟨z,rfl,hn,e⟩| _=>cases hn
def places_all{ds:ac}(hf:∀d∈ds,GS d=true)(h2:2<=ds.length)(h7:ds.length<=7) :
  (∃zs,ds=zs.map D.str/\fT zs)∨∃k,k<ds.length/\m_look_at_places [.lst ds]=.exn (GU "places" (.int (k:Int))):=by
 have hl:=GR (ds:=DL.numbered 0 ds) (tg:=eV [1,2]) (ρ:=[.sh (.lst ds),.no,.no])
  (body:=(ar (dO (gM (bZ (aq (af (ae 2) ax) m_is_name)) (aa (ae 2) (ez (ae 0) dA (bM (ae 1))) oY))
 (ar (dP "NoWeb" ["part","number"] (af (dC (.str "places")) (af (ae 1) ax)))
 au)
 au)
 au))
  (λk ρ=>(∃a b,ρ=[.sh (.lst ds),a,b])/\∃zs,ds.take k=zs.map D.str/\fT zs) (λk=>GU "places" (.int (k:Int))) (by
   rintro k d hd ρ ⟨⟨a,b,rfl⟩,zs,hz,nm⟩;obtain⟨x,hx,rfl⟩:=tq hd;have hk:k<ds.length:=(List.getElem?_eq_some_iff.mp hx).1;refine⟨[.sh (.lst ds),.sh (.int (k:Int)),.sh x],xt rfl,?_⟩;have hcut:fZ ds none (some (k:Int))=zs.map D.str:=by rw[HL (Nat.le_of_lt hk),hz]
   rcases Dn (hf x (List.mem_of_getElem? hx)) with⟨z,rfl,hnb,hn⟩|⟨_,hn⟩
   .by_cases hm:z∈zs
    .right
     open_line with[hn,hcut,fQ,decide_eq_true hm,gF,gD,fB]
    .left
     refine⟨[.sh (.lst ds),.sh (.int (k:Int)),.sh (.str z)],?_,⟨_,_,rfl⟩,zs++[z],?_,?_,?_⟩
     .open_line with[hn,hcut,fQ,decide_eq_false hm]
     .rw[List.take_succ,hx,hz,List.map_append];rfl
     .rw[List.nodup_append]
      exact⟨nm.nd,by simp,λa ha b hb=>by rw[List.mem_singleton]at hb;subst hb;exact λe=>hm (e▸ha)⟩
     .intro y hy
      rw[List.mem_append,List.mem_singleton]at hy;rcases hy with hy|rfl
      .exact nm.nm y hy
      .exact hnb
   .right
    open_line with[hn,gF,gD,fB]) ⟨⟨.no,.no,rfl⟩,[],by rw[List.take_zero];rfl,⟨.nil,λ_ h=>nomatch h⟩⟩
 rw[cI]at hl;have e1:decide ((2:Int)<=(ds.length:Int))=true:=decide_eq_true (by omega);have e2:decide ((ds.length:Int)<=7)=true:=decide_eq_true (by omega);rcases hl with⟨ρ',_,_,zs,hz,nm⟩|⟨k,hk,hl⟩
 .rw[List.take_length]at hz
  exact .inl ⟨zs,hz,nm⟩
 .refine .inr ⟨k,hk,?_⟩
  open_line with[m_look_at_places,b_look_at_places,e1,e2,hl,fB]
def places_size{ds:ac}(h:ds.length<2∨7<ds.length):m_look_at_places [.lst ds]=.exn (GU "places" .non):=by
 rcases h with h|h
 .have e1:decide ((2:Int)<=(ds.length:Int))=false:=decide_eq_false (by omega)
  open_line with[m_look_at_places,b_look_at_places,e1,gF,gD,fB]
 .have e1:decide ((2:Int)<=(ds.length:Int))=true:=decide_eq_true (by omega)
  have e2:decide ((ds.length:Int)<=7)=false:=decide_eq_false (by omega);open_line with[m_look_at_places,b_look_at_places,e1,e2,gF,gD,fB]
def ties_size{ds:ac}{p:D}(h:14<ds.length):m_look_at_ties [.lst ds,p]=.exn (GU "ties" .non):=by
 open_line with[m_look_at_ties,b_look_at_ties,decide_eq_true (show(ds.length:Int) > 14 by omega),gF,gD,fB]
section
variable {p t f l:D}{x:E2}
def web_places(h:m_look_at_places [p]=.exn x):m_look_at_web [.tup [p,t,f,l]]=.exn x:=by
 open_line with[m_look_at_web,b_look_at_web,h,fB]
def web_ties(h:m_look_at_places [p]=.ok .non)(h2:m_look_at_ties [t,p]=.exn x):m_look_at_web [.tup [p,t,f,l]]=.exn x:=by
 open_line with[m_look_at_web,b_look_at_web,h,h2,fB]
end
end Nwb
namespace K65
open PySem L2 DL
def gV:List (Str×Bool):=[("NoJoin",true),("NoWeb",true)]
def j7:List (Str×Bool):=[("NoJoin",false),("NoWeb",true)]
def zP:Str->Option Bool:=mE [("NoJoin",true),("NoWeb",false)]
def zN:Str->Option Bool:=mE [("NoJoin",true),("NoWeb",true)]
def zL:Str->Option Bool:=mE [("NoJoin",false),("NoWeb",true)]
abbrev bL:ac->ao D:=Cod.bL
abbrev cJ:ac->ao D:=Cod.cJ
abbrev aL:ac->ao D:=Cod.aL
abbrev bN:ac->ao D:=Cod.bN
abbrev bB:ac->ao D:=Cod.bB
noncomputable def il:bd :=
 (ar (aN 1 (aq (af (aa (ae 0) (dC (.int 0)) aD) (af (aa (aq (af (dC (.int 12)) (af (dC (.int 420)) (af (dC (.int 60)) (af (dC (.int 9)) (af (dC (.int 14)) ax))))) bG) (lT (aa (aq (af (dC (.int 8)) (af (dC (.int 3)) ax)) bG) (lT (aq (af (dC (.int 26)) ax) bG) (dC (.int 8))) kj) (dC (.int 7))) bo) ax)) bL))
 (ar (aN 2 (aq (af (ez (ae 1) (bM (dC (.int 5))) dA) (af (aa (aq (af (dC (.int 2)) (af (dC (.int 2)) (af (dC (.int 3)) (af (dC (.int 3)) (af (dC (.int 4)) (af (dC (.int 4)) (af (dC (.int 5)) (af (dC (.int 5)) (af (dC (.int 6)) (af (dC (.int 7)) (af (dC (.int 2)) (af (dC (.int 3)) ax)))))))))))) bG) (aa (ae 1) (dC (.int 0)) aD) aD) ax)) cJ))
 (ar (aN 3 (aa (aa (ae 1) (dC (.int 1)) aD) (aq (af (ae 2) ax) (m1 cN)) bR))
 (ar (aN 4 (aa (aa (aa (ae 3) (dC (.int 1)) bo) (aa (aa (ae 1) (dC (.int 2)) aD) (aa (aq (af (ae 2) ax) (m1 cN)) (dC (.int 1)) fM) bR) bo) (aq (af (ae 2) ax) (m1 cN)) bR))
 (ar (aN 5 (cG 2 [3,4] (qz (ae 2)) (eV [0,1]) (aa (ae 0) (aq (af (ae 2) (af (ae 3) ax)) dm) dq) (ae 1)))
 (ar (aN 6 (aa (aa (aq (af (aa (ae 2) (ae 3) aD) ax) bG) (ae 5) bo) (aq (af (aa (ae 2) (ae 4) aD) ax) bG) bo))
 (ar (aN 7 (cG 2 [6] (qz (ez (ae 0) (bM (dC (.int 1))) dA)) (eV [0,1]) mYes (aq (af (ae 1) (af (ae 0) (af (ae 2) ax))) bB)))
 (ar (dO (aa (aa (ae 1) (dC (.int 3)) aD) (dC (.int 0)) iD)
 (ar (aN 7 (ez (aa (ae 7) (ae 7) bo) dA (bM (aa (dC (.int 1)) (aa (ae 1) (dC (.int 4)) aD) bo))))
 au)
 au)
 (ar (bx (aq (af (ae 2) (af (ae 7) (af (aa (ae 2) (ae 3) aD) (af (aa (ae 2) (ae 4) aD) ax)))) dm))
 au)))))))))
def cj:ac->ao D:=bH 8 il
noncomputable def jG:bd :=
 (ar (aN 1 (ez (aa (ae 0) (aq (af (dC (.int 0)) ax) bG) bo) dA (bM (dC (.int 63)))))
 (ar (bx (cG 1 [1] (sF (dC (.int 0)) (aq (af (ae 1) ax) (m1 cN)) (dC (.int 8))) (bV 0) mYes (aq (af (ez (ae 1) (bM (ae 0)) (bM (aa (ae 0) (dC (.int 8)) bo))) ax) cj)))
 au))
def cq:ac->ao D:=bH 2 jG
noncomputable def iS:bd :=
 (ar (aN 3 (aa (aq (af (dC (.int 12)) (af (dC (.int 420)) (af (dC (.int 60)) (af (dC (.int 9)) (af (dC (.int 14)) ax))))) bG) (lT (aa (aq (af (dC (.int 8)) (af (dC (.int 3)) ax)) bG) (lT (aq (af (dC (.int 26)) ax) bG) (dC (.int 8))) kj) (dC (.int 7))) bo))
 (ar (aN 4 (ez (aq (af (ae 2) (af (aa (ae 3) (aq (af (dC (.int 3)) (af (dC (.int 420)) (af (dC (.int 420)) (af (dC (.int 2)) ax)))) bG) bo) ax)) bL) (bM (dC (.int 75))) dA))
 (ar (dO (aa (aa (ae 4) (dC (.int 0)) aD) (dC (.int 0)) B6)
 (ar (bx (ae 1))
 au)
 au)
 (ar (aN 5 (aa (aa (ae 0) (dC (.int 0)) aD) (aa (aa (ae 4) (dC (.int 1)) aD) (aq (af (aa (ae 0) (dC (.int 0)) aD) ax) (m1 cN)) bR) aD))
 (ar (aN 6 (aa (aa (ae 1) (dC (.int 0)) aD) (aa (aa (ae 4) (dC (.int 2)) aD) (aq (af (aa (ae 1) (dC (.int 0)) aD) ax) (m1 cN)) bR) aD))
 (ar (dO (aa (aa (ae 4) (dC (.int 3)) aD) (dC (.int 0)) iD)
 (ar (aN 5 (aa (aq (af (aa (ae 0) (dC (.int 2)) aD) (af (aa (ae 0) (dC (.int 3)) aD) ax)) bG) (aa (aa (ae 4) (dC (.int 1)) aD) (dC (.int 2)) bR) aD))
 (ar (aN 6 (aa (aq (af (aa (ae 1) (dC (.int 2)) aD) (af (aa (ae 1) (dC (.int 3)) aD) ax)) bG) (aa (aa (ae 4) (dC (.int 2)) aD) (dC (.int 2)) bR) aD))
 au))
 au)
 (ar (dO (aa (ae 5) (aa (ae 1) (dC (.int 0)) aD) oY)
 (ar (bx (ae 1))
 au)
 au)
 (ar (uZ 7 (aq ax bG))
 (ar (oG (aa (ae 1) (dC (.int 1)) aD) (eV [8,9,10,11,12])
 (ar (aN 8 (aa (aq (af (ae 8) (af (ae 5) ax)) bG) (aq (af (aa (ae 8) (ae 6) iD) ax) (m1 dH)) aD))
 (ar (eB 7 (aq (af (ae 8) (af (aa (aq (af (ae 9) (af (ae 5) ax)) bG) (aq (af (aa (ae 9) (ae 6) iD) ax) (m1 dH)) aD) (af (ae 10) (af (ae 11) (af (ae 12) ax))))) dm))
 au)))
 (ar (aN 13 (cG 1 [5,6] (lS (aq (af (aa (ae 1) (dC (.int 2)) aD) (af (aa (ae 1) (dC (.int 3)) aD) ax)) bG)) (bV 0) mYes (aa (aq (af (ae 0) (af (ae 1) ax)) bG) (aq (af (aa (ae 0) (ae 2) iD) ax) (m1 dH)) aD)))
 (ar (bx (aq (af (cG 1 [5,6] (lS (aa (ae 1) (dC (.int 0)) aD)) (bV 0) mYes (aa (aq (af (ae 0) (af (ae 1) ax)) bG) (aq (af (aa (ae 0) (ae 2) iD) ax) (m1 dH)) aD)) (af (ae 7) (af (aa (ae 13) (dC (.int 0)) aD) (af (aa (ae 13) (dC (.int 1)) aD) ax)))) dm))
 au)))))))))))
def bC:ac->ao D:=bH 14 iS
noncomputable def fJ:bd :=
 (ar (sL 2 (dC (.dic [] [])))
 (ar (oG (aa (ae 1) (dC (.int 0)) aD) (bV 3)
 (ar (jD 2 (ae 3) (ae 3))
 au))
 (ar (jD 2 (aa (ae 0) (dC (.int 2)) aD) (aa (ae 1) (dC (.int 2)) aD))
 (ar (jD 2 (aa (ae 0) (dC (.int 3)) aD) (aa (ae 1) (dC (.int 3)) aD))
 (ar (aN 4 (cG 1 [1] (lS (aa (ae 1) (dC (.int 0)) aD)) (bV 0) (iC (aa (ae 0) (aa (ae 1) (dC (.int 2)) aD) gI) (aa (ae 0) (aa (ae 1) (dC (.int 3)) aD) gI)) (ae 0)))
 (ar (dO (aa (cG 1 [0] (lS (ae 4)) (bV 0) (aa (ae 0) (aa (ae 1) (dC (.int 0)) aD) oY) (ae 0)) (aq ax bG) gI)
 (ar (bx (dC (.non)))
 au)
 au)
 (ar (dO (gM (aa (aa (aq (af (aa (ae 0) (dC (.int 0)) aD) ax) (m1 cN)) (aq (af (ae 4) ax) (m1 cN)) bo) (dC (.int 7)) B6) (aa (aa (aq (af (aa (ae 0) (dC (.int 1)) aD) ax) (m1 cN)) (aq (af (aa (ae 1) (dC (.int 1)) aD) ax) (m1 cN)) bo) (dC (.int 14)) B6))
 (ar (bx (dC (.non)))
 au)
 au)
 (ar (CI 2 (aN 5 (cG 1 [2] (lS (aa (ae 1) (dC (.int 1)) aD)) (bV 0) mYes (aq (af (aa (ae 1) (aa (ae 0) (dC (.int 0)) aD) iP) (af (aa (ae 1) (aa (ae 0) (dC (.int 1)) aD) iP) (af (aa (ae 0) (dC (.int 2)) aD) (af (aa (ae 0) (dC (.int 3)) aD) (af (aa (ae 0) (dC (.int 4)) aD) ax))))) dm))))
 (ar (bx (aq (af (aa (aa (ae 0) (dC (.int 0)) aD) (ae 4) bo) (af (aa (aa (ae 0) (dC (.int 1)) aD) (ae 5) bo) (af (aa (ae 0) (dC (.int 2)) aD) (af (aa (ae 0) (dC (.int 3)) aD) ax)))) dm))
 au)))))))))
def cR:ac->ao D:=bH 6 fJ
abbrev m_is_name:ac->ao D:=Com.m_is_name
abbrev m_look_at_places:ac->ao D:=Nwb.m_look_at_places
abbrev m_is_whole:ac->ao D:=Com.m_is_whole
abbrev m_common_divisor:ac->ao D:=Com.m_common_divisor
abbrev m_is_ratio:ac->ao D:=Com.m_is_ratio
abbrev m_is_length:ac->ao D:=Com.m_is_length
abbrev m_is_worth:ac->ao D:=Com.m_is_worth
abbrev m_is_tie:ac->ao D:=Com.m_is_tie
abbrev m_look_at_ties:ac->ao D:=Nwb.m_look_at_ties
abbrev m_is_place:ac->ao D:=Com.m_is_place
abbrev m_look_at_web:ac->ao D:=Nwb.m_look_at_web
noncomputable def ko:bd :=
 (ar (bx (aq (af (aa (ae 1) (aa (ae 0) (dC (.int 0)) aD) iP) (af (aa (ae 1) (aa (ae 0) (dC (.int 1)) aD) iP) (af (aa (ae 0) (dC (.int 2)) aD) (af (aa (ae 0) (dC (.int 3)) aD) (af (aa (ae 0) (dC (.int 4)) aD) ax))))) dm))
 au)
def dU:ac->ao D:=bH 2 ko
noncomputable def og:bd :=
 (ar (sL 4 (dC (.dic [] [])))
 (ar (oG (aa (ae 1) (dC (.int 0)) aD) (bV 5)
 (ar (jD 4 (lI (ae 2) (ae 5) (ae 5)) (ae 5))
 au))
 (ar (aN 6 (Aq (aa (aa (ae 0) (dC (.int 0)) aD) (cG 1 [2] (lS (aa (ae 1) (dC (.int 0)) aD)) (bV 0) (aa (ae 0) (ae 1) ki) (ae 0)) kj)))
 (ar (CI 4 (aN 7 (Aq (aa (aa (ae 0) (dC (.int 1)) aD) (cG 1 [4] (lS (aa (ae 1) (dC (.int 1)) aD)) (bV 0) mYes (aq (af (ae 0) (af (ae 1) ax)) dU)) kj))))
 (ar (aN 8 (aq (af (ae 6) (af (ae 7) (af (aa (ae 0) (dC (.int 2)) aD) (af (ae 3) ax)))) dm))
 (ar (lr (jL (af (EH (ae 8)) ax) m_look_at_web) (j9 j7) "NoJoin" (af (dC (.str "the two have a name in both, or are too much for one web")) ax))
 (ar (bx (ae 8))
 au)))))))
def gA:ac->ao D:=bH 9 og
noncomputable def gf:bd :=
 (ar (jE (aq (af (ae 0) ax) m_look_at_web))
 (ar (jE (aq (af (ae 1) ax) m_look_at_web))
 (ar (bx (aq (af (ae 0) (af (ae 1) (af (yY (rq (aa (ae 1) (dC (.int 2)) aD) (aa (ae 0) (dC (.int 2)) aD) (aa (ae 1) (dC (.int 3)) aD) (aa (ae 0) (dC (.int 3)) aD))) (af (aa (ae 0) (dC (.int 3)) aD) ax)))) gA))
 au)))
def cM:ac->ao D:=bH 2 gf
noncomputable def df(mR:ac->ao D):bd :=
 (ar (dO (bc (ae 1) (uk ["tuple","list"]))
 (ar (dO (aa (bc (ae 0) (du "tuple")) (bc (ae 1) (du "tuple")) gI)
 (ar (bx (dC (.bl false)))
 au)
 au)
 (ar (dO (gM (aa (bc (ae 0) (du "list")) (bc (ae 1) (du "list")) gI) (aa (aq (af (ae 0) ax) (m1 cN)) (aq (af (ae 1) ax) (m1 cN)) gI))
 (ar (bx (dC (.bl false)))
 au)
 au)
 (ar (bx (aq (af (cG 2 [] (mG (ae 0) (ae 1)) (eV [0,1]) mYes (aq (af (ae 0) (af (ae 1) ax)) mR)) ax) (m1 vZ)))
 au)))
 au)
 (ar (dO (gM (aa (ae 1) (dC (.non)) oX) (bc (ae 1) (du "str")))
 (ar (bx (iC (aa (ae 0) (ae 1) iD) (aa (bc (ae 0) (du "str")) (bc (ae 1) (du "str")) iD)))
 au)
 au)
 (ar (bx (iC (bc (ae 0) (du "int")) (iC (bZ (bc (ae 0) (du "bool"))) (aa (ae 0) (ae 1) iD))))
 au)))
def aS:Nat->ac->ao D
 |0=>λ_=>.stuck
 |n+1=>bH 2 (df (aS n))
abbrev gU:ac->ao D:=aS 5
noncomputable def fS:bd :=
 (ar (aN 2 (aq (af (ae 0) (af (ae 1) ax)) cR))
 (ar (aN 3 (dC (.non)))
 (ar (aN 4 (dC (.non)))
 (ar (yb (sJ 4 (af (ae 0) (af (ae 1) ax)) cM) (j9 gV) 5
 (ar (aN 3 (ae 5))
 au))
 (ar (dO (aa (ae 2) (dC (.non)) oX)
 (ar (dO (gM (bZ (bc (ae 3) (jB zP))) (bZ (bc (ae 3) (jB zN))))
 (ar (bx (dC (.bl false)))
 au)
 au)
 (ar (bx (bZ (bc (ae 3) (jB zL))))
 au))
 au)
 (ar (dO (gM (aa (ae 3) (dC (.non)) xB) (bZ (aq (af (EH (ae 4)) (af (ae 2) ax)) gU)))
 (ar (bx (dC (.bl false)))
 au)
 au)
 (kN 4
 (ar (bx (dC (.bl true)))
 au))))))))
def eE:ac->ao D:=nv (bH 6 fS)
noncomputable def Fu:bd :=
 (ar (aN 1 (aq (af (ae 0) ax) cq))
 (ar (aN 2 (ez (aa (ae 0) (aq (af (dC (.int 0)) ax) bG) bo) dA (bM (dC (.int 63)))))
 (ar (pf (aq (af (ae 1) ax) (m1 cN)) (bV 3)
 (ar (aN 4 (aa (ae 1) (ae 3) aD))
 (ar (aN 5 (aq (af (ae 4) (af (aa (ae 1) (aa (ae 3) (dC (.int 1)) fM) aD) (af (aa (ae 2) (aa (dC (.int 8)) (ae 3) bK) aD) ax))) bC))
 (ar (aN 6 (aq (af (aa (aq (af (ae 0) ax) cq) (ae 3) aD) (af (aq (af (ae 4) (af (aa (ae 1) (aa (ae 3) (dC (.int 1)) fM) aD) (af (aa (ae 2) (aa (dC (.int 8)) (ae 3) bK) aD) ax))) bC) ax)) dm))
 (ar (oG (aq (af (aq (af (ae 4) (af (ae 5) ax)) dm) (af (aq (af (ae 5) (af (ae 4) ax)) dm) (af (aq (af (ae 4) (af (ae 4) ax)) dm) (af (aq (af (ae 4) (af (ae 5) ax)) dm) ax)))) bG) (bV 7)
 (ar (dO (gM (bZ (aq (af (aa (ae 7) (dC (.int 0)) aD) (af (aa (ae 7) (dC (.int 1)) aD) ax)) eE)) (aa (aq (af (ae 4) (af (ae 5) ax)) dm) (ae 6) gI))
 (ar (bx (dC (.bl false)))
 au)
 au)
 au))
 au)))))
 (ar (bx (dC (.bl true)))
 au))))
def m_law:ac->ao D:=bH 8 Fu
def top(i:Nat):Stmt:=PySem.Challenge.pw_farthestcut_k65_webs_beside_one_another.main.body.getD i (.Pass ⟨0,0,0,0⟩)
noncomputable def rows:List Rw:=[
 ⟨"_law_draws",top 40,["_law_cell","_law_tops","_law_found","_law_left","_law_mixed","_law_k"],2⟩,
 ⟨"_law_names",top 43,["_law_d","_law_many","_law_some","_law_names_here","_law_k","_law_e","_law_name","_law_at"],2⟩,
 ⟨"_law_low",top 41,["_law_top","_law_bottom","_law_one","_law_other"],2⟩,
 ⟨"_law_fraction",top 42,["_law_d","_law_top","_law_bottom"],1⟩,
 ⟨"_law_tie",top 44,["_law_cell","_law_k","_law_walk","_law_d","_law_at","_law_other","_law_worth"],3⟩,
 ⟨"_law_group",top 45,["_law_cells","_law_d","_law_places","_law_first","_law_last","_law_amid","_law_walk","_law_ties"],1⟩,
 ⟨"_law_groups",top 46,["_law_script","_law_cells"],1⟩,
 ⟨"_law_meeting",top 47,["_law_one","_law_other","_law_cell","_law_tops","_law_d","_law_name","_law_old","_law_ties","_law_begin","_law_end","_law_word","_law_length","_law_worth","_law_ends"],3⟩,
 ⟨"_law_due",top 49,["_law_one","_law_other","_law_called","_law_place","_law_more","_law_ties"],2⟩,
 ⟨"is_name",top 12,["thing"],1⟩,
 ⟨"look_at_places",top 31,["places","number","place"],1⟩,
 ⟨"is_whole",top 10,["thing"],1⟩,
 ⟨"common_divisor",top 6,["one","other","larger","smaller","rest"],2⟩,
 ⟨"is_ratio",top 11,["thing"],1⟩,
 ⟨"is_length",top 28,["thing"],1⟩,
 ⟨"is_worth",top 29,["thing"],1⟩,
 ⟨"is_tie",top 27,["thing"],1⟩,
 ⟨"look_at_ties",top 32,["ties","places","number","tie"],2⟩,
 ⟨"is_place",top 33,["thing","places"],2⟩,
 ⟨"look_at_web",top 30,["thing"],1⟩,
 ⟨"tie_called",top 35,["tie","called"],2⟩,
 ⟨"joined",top 38,["one","other","put","last","called","place","places","ties","web"],4⟩,
 ⟨"webs_beside",top 37,["one","other"],2⟩,
 ⟨"_law_alike",top 48,["_law_found","_law_due_here"],2⟩,
 ⟨"_law_told",top 50,["_law_one","_law_other","_law_due_here","_law_caught","_law_found","_law_e"],2⟩,
 ⟨"law",top 51,["_law_script","_law_webs","_law_cells","_law_at","_law_one","_law_other","_law_kept","_law_pair"],1⟩]
def sc:Kw rows:=by decide +kernel
theorem nd(i:Nat){r:Rw}(h:rows[i]?=some r:=by rfl):r.N.Nodup:=(sc r (List.mem_of_getElem? h)).nd
def bn:∀r∈rows,Ie r:=by
 unfold rows
 repeat refine List.forall_mem_cons.mpr ⟨by first|exact Mg|exact Mf|exact Me|exact Md|exact bd5,?_⟩
 exact λ_ h=>nomatch h
abbrev gm:Stmt:=DC (top 4) 0
def ya:eD ["self","part","number"] ["self","part","number"] (defScope gm):=⟨rfl,rfl,rfl,by decide +kernel,rfl,by decide +kernel,by decide +kernel⟩
def Fw(K:W.Frag)(r:Addr):List (Addr×Bool)->Prop
 |[]=>True
 |x::l=>W.subIn K (.ref r) (.ref x.1)=some x.2/\Fw K r l
def sbc{K:W.Frag}{r c:Addr}{b:Bool}{l:List (Addr×Bool)}(h:W.subIn K (.ref r) (.ref c)=some b)(h':Fw K r l):Fw K r ((c,b)::l):=⟨h,h'⟩
theorem Ad{K:W.Frag}{r c:Addr}{b:Bool}:∀{l:List (Addr×Bool)},Fw K r l->∀n:Nat,l[n]?=some (c,b)->W.subIn K (.ref r) (.ref c)=some b
 |_::_,h,0,e=>by cases e;exact h.1
 |_::_,h,n+1,e=>Ad h.2 n e
set_option genInjectivity false in
set_option genSizeOfSpec false in
structure Adr where
 dB:Addr
 nr:FuncData
 bq:Addr
 bD:Addr
 cS:Addr
 bh:Addr
 A:Nat->Addr
 Q:Nat->FuncData
set_option genInjectivity false in
set_option genSizeOfSpec false in
structure Txt (K:W.Frag) (mg:Str->Option Value) (t:Adr):Prop where
 g:TG rows K mg t.A t.Q
 n_ValueError:mg "ValueError"=none
 n_abs:mg "abs"=none
 n_all:mg "all"=none
 n_bool:mg "bool"=none
 n_enumerate:mg "enumerate"=none
 n_int:mg "int"=none
 n_isinstance:mg "isinstance"=none
 n_len:mg "len"=none
 n_list:mg "list"=none
 n_range:mg "range"=none
 n_str:mg "str"=none
 n_tuple:mg "tuple"=none
 n_zip:mg "zip"=none
 nz:mg "CutError"=some (.ref t.bq)
 nu:jC K "CutError" t.bq
 tU:mg "NoJoin"=some (.ref t.bD)
 tP:jC K "NoJoin" t.bD
 A9:mg "NoTurn"=some (.ref t.cS)
 tN:jC K "NoTurn" t.cS
 eU:mg "NoWeb"=some (.ref t.bh)
 l7:jC K "NoWeb" t.bh
 dy:xM K "NoJoin" t.bD
 cB:xK K "NoWeb" t.bh
 B3:B1 K "__init__" "NoWeb.__init__" gm t.dB t.nr
 ef:iz K t.nr ["self","part","number"] []
 fk:Fv K t.bh t.dB
 fj:BU K t.bh ["part","number"]
 fm:W.isFn K (.ref t.dB)=true
 rZ:BV K t.bq
 fu:Fw K t.bD [(t.bq,true),(t.bD,true),(t.cS,false),(t.bh,false)]
 gP:Fw K t.bh [(t.bq,true),(t.bD,false),(t.cS,false),(t.bh,true)]
 eN:rJ K mg "FEWEST_PLACES" (.int 2)
 ik:rJ K mg "FIRST" (.int 2)
 jQ:rJ K mg "LAST" (.int 3)
 km:rJ K mg "LENGTH" (.int 3)
 lg:rJ K mg "LETTERS" (.str "abcdefghijklmnopqrstuvwxyz")
 fH:rJ K mg "LONGEST_NAME" (.int 8)
 gb:rJ K mg "MOST_PLACES" (.int 7)
 iR:rJ K mg "MOST_TIES" (.int 14)
 pW:rJ K mg "ONE" (.int 0)
 jt:rJ K mg "OTHER" (.int 1)
 dZ:rJ K mg "PLACES" (.int 0)
 nY:rJ K mg "TIES" (.int 1)
 nX:rJ K mg "WORD" (.int 2)
 rE:rJ K mg "WORDS" (.tup [(.str "one"),(.str "both")])
 mq:rJ K mg "WORTH" (.int 4)
section
variable {P:Program}{w:World}{K:W.Frag}{mg:Str->Option Value}{base:Heap}{t:Adr}
def lW(T:Txt K mg t):∀x C,j9 gV x=true->XC K x C->W.exmOne K (.ref C) (.ref t.bq)=some true :=
 tQ λq hq=>by
  unfold gV at hq;simp only[List.mem_cons,List.not_mem_nil,or_false]at hq;rcases hq with rfl|rfl
  .exact⟨t.bD,T.dy.xcls.xc,T.nu.exm (Ad T.fu 0 rfl)⟩
  .exact⟨t.bh,T.cB.xc,T.nu.exm (Ad T.gP 0 rfl)⟩
def qS(T:Txt K mg t):∀x C,j9 j7 x=true->XC K x C->W.exmOne K (.ref C) (.ref t.bh)=some true :=
 tQ λq hq=>by
  unfold j7 at hq;simp only[List.mem_cons,List.not_mem_nil,or_false]at hq;rcases hq with rfl|rfl
  .exact⟨t.bD,T.dy.xcls.xc,T.l7.exm (Ad T.fu 3 rfl)⟩
  .exact⟨t.bh,T.cB.xc,T.l7.exm (Ad T.gP 3 rfl)⟩
def zO(T:Txt K mg t):qi K zP (.ref t.bD) :=
 gj (p:=λ_ C b=>W.kitOne K (.ref C) (.ref t.bD)=some b) λq hq=>by
  simp only[List.mem_cons,List.not_mem_nil,or_false]at hq;rcases hq with rfl|rfl
  .exact⟨t.bD,T.dy.xcls.xc,T.tP.kit T.dy.self (Ad T.fu 1 rfl)⟩
  .exact⟨t.bh,T.cB.xc,T.tP.kit T.cB.self (Ad T.gP 1 rfl)⟩
def zM(T:Txt K mg t):qi K zN (.type "ValueError") :=
 gj (p:=λ_ C b=>W.kitOne K (.ref C) (.type "ValueError")=some b) λq hq=>by
  simp only[List.mem_cons,List.not_mem_nil,or_false]at hq;rcases hq with rfl|rfl
  .exact⟨t.bD,T.dy.xcls.xc,qQ m9 T.dy.ve⟩
  .exact⟨t.bh,T.cB.xc,qQ m9 T.cB.ve⟩
def zK(T:Txt K mg t):wg K zL [t.cS,t.bh] :=
 gj (p:=λ_ C b=>W.kitAny K (.ref C) ([t.cS,t.bh].map Value.ref)=some b) λq hq=>by
  simp only[List.mem_cons,List.not_mem_nil,or_false]at hq;rcases hq with rfl|rfl
  .exact⟨t.bD,T.dy.xcls.xc,(nc (T.tN.kit T.dy.self (Ad T.fu 2 rfl)) (nc (T.l7.kit T.dy.self (Ad T.fu 3 rfl)) vF))⟩
  .exact⟨t.bh,T.cB.xc,(nc (T.tN.kit T.cB.self (Ad T.gP 2 rfl)) (AU (T.l7.kit T.cB.self (Ad T.gP 3 rfl))))⟩
def dG(T:Txt K mg t):eP P w K mg base CX0 1 t.dB t.nr ["self","part","number"] (CF K ["part","number"]) :=
 JF T.B3 ya rfl (by decide) λcdv A outer s0 H E=>(Ii (i:=1) T.rZ rfl T.nz (qD (i:=1) rfl (Or.inl rfl) (qD (i:=2) rfl (Or.inl rfl) Gd)) rfl rfl (Or.inl rfl) (Or.inl rfl) (Cf (i:=2) rfl rfl (Or.inl rfl) (Or.inl rfl) FH))
def fY(T:Txt K mg t):iV P w K mg base CX0 1 (t.A 0) (t.Q 0) ["_law_cell","_law_tops"] (spD K 2 bL) "_law_draws" (top 40) :=
 oD T.g sc (i:=0) rfl λ_ _ _ _ _ _ _ _=>(
 (ah (vV (i:=2) (nd 0) rfl (Or.inl rfl) (nO av))
 (ah (aM (i:=3) (nd 0) rfl (Or.inl rfl) (aQ iQ nV rfl T.n_abs PyProof.Rows.Boot.«abs» (ag (dv 0) av)))
 (ah (aM (i:=4) (nd 0) rfl (Or.inl rfl) (bQ (ib (bQ (dv 0) ai) ai) ai))
 (ah (qZ PassesOwn.never rfl rfl T.n_range (aQ bg bS rfl T.n_len PyProof.Rows.Boot.«len» (ag (dv 1) av)) (cE (i:=5) (nd 0) rfl (Or.inl rfl)) eY
 (ah (bT (bf AG (dR λ_ _ _ _=>rb _) (aQ iQ nV rfl T.n_abs PyProof.Rows.Boot.«abs» (ag (dv 0) av)) (vW ai ai) nm)
 (ah (jm (i:=2) rfl (Or.inl rfl) (bQ (dv 3) (aj (dv 1) (dv 5))))
 (ah (aM (i:=3) (nd 0) rfl (Or.inl rfl) (vY (dv 3) (aj (dv 1) (dv 5))))
 aw))
 (ah (aM (i:=4) (nd 0) rfl (Or.inl rfl) (bQ (bz (bz (bz (ib (dv 4) (dv 4)) (ib ai (dv 4))) (ib ai (dv 5))) ai) ai))
 (ah (jm (i:=2) rfl (Or.inl rfl) (bQ (bQ (ib (dv 4) ai) ai) (aj (dv 1) (dv 5))))
 aw)))
 aw))
 (ah (aX (dv 2))
 aw))))))
def oN(T:Txt K mg t):iV P w K mg base CX0 1 (t.A 1) (t.Q 1) ["_law_d","_law_many"] (spD K 2 cJ) "_law_names" (top 43) :=
 oD T.g sc (i:=1) rfl λ_ _ _ _ H _ _ hr=>(
 (ah (aM (i:=2) (nd 1) rfl (Or.inr rfl) eM)
 (ah (vV (i:=3) (nd 1) rfl (Or.inl rfl) (nO av))
 (ah (qZ PassesOwn.never rfl rfl T.n_range (dv 1) (cE (i:=4) (nd 1) rfl (Or.inl rfl)) eY
 (ah (aM (i:=5) (nd 1) rfl (Or.inr rfl) (bU (dv 0) (cp (ib ai (dv 4))) (cp (bz (ib ai (dv 4)) ai))))
 (ah (aM (i:=6) (nd 1) rfl (Or.inl rfl) (EA eM (ag (lH (kZ ["_law_j","_law_some","_law_e"] 1 [2,5] rfl (yQ rfl T.n_range (bz ai (aj (dv 5) ai))) (dz (by decide)) (λs H C fp pn=>⟨λHe H0e=>(cE (i:=0) (show List.Nodup (["_law_j","_law_some","_law_e"]:List Str) from by decide) rfl (Or.inl rfl)),eX,(aj (dv 1) (aj (dv 2) (bz ai (dv 0))))⟩) ⟨rfl,rfl⟩ rfl rfl rfl rfl)) av)))
 (ah (bT (DW.dt (Bu (bf mW (dR λ_ _ _ _=>rb _) (dv 4) ai nm) (nM (bf (dF hr.units) fz (aj (dv 5) ai) ai nm))))
 (ah (Ew (i:=6) (nd 1) rfl (Or.inl rfl) (bz (bU (aj (dv 3) (kY (dv 4) ai)) eW (cp (aj (dv 5) ai))) (aj (dv 2) (aj (dv 5) ai))))
 aw)
 aw)
 (ah (aM (i:=7) (nd 1) rfl (Or.inl rfl) (aj (dv 5) ai))
 (ah (nN _ PassesOwn.never (bf (pA hr.units) pB (dv 6) (dv 3) rfl)
 (ah (aM (i:=7) (nd 1) rfl (Or.inl rfl) (bz (dv 7) ai))
 (ah (aM (i:=6) (nd 1) rfl (Or.inl rfl) (bz (bU (dv 6) eW (cp (HJ ai))) (aj (dv 2) (bQ (dv 7) ai))))
 aw)))
 (ah (jm (i:=3) rfl (Or.inl rfl) (dv 6))
 aw)))))))
 (ah (aX (dv 3))
 aw)))))
def sZ(T:Txt K mg t):iV P w K mg base CX0 1 (t.A 2) (t.Q 2) ["_law_top","_law_bottom"] (spD K 2 aL) "_law_low" (top 41) :=
 oD T.g sc (i:=2) rfl λ_ _ _ _ _ _ _ hr=>(
 (ah (aM (i:=2) (nd 2) rfl (Or.inl rfl) (aQ iQ nV rfl T.n_abs PyProof.Rows.Boot.«abs» (ag (dv 0) av)))
 (ah (aM (i:=3) (nd 2) rfl (Or.inl rfl) (dv 1))
 (ah (nN _ PassesOwn.never (bf (eJ hr.units) iw (dv 3) ai nm)
 (ah (HF (i:=2) (j:=3) rfl (nd 2) rfl rfl (by decide) rfl rfl (ag (dv 3) (ag (bQ (dv 2) (dv 3)) av)) rfl)
 aw))
 (ah (aX (cW (ag (vY (dv 0) (dv 2)) (ag (vY (dv 1) (dv 2)) av))))
 aw)))))
def gw(T:Txt K mg t):iV P w K mg base CX0 2 (t.A 3) (t.Q 3) ["_law_d"] (spD K 1 bN) "_law_fraction" (top 42) :=
 oD T.g sc (i:=3) rfl λ_ _ _ _ _ _ _ hr=>(
 (ah (aM (i:=1) (nd 3) rfl (Or.inl rfl) (aj (bY (ag ai (ag (bQ (aj (dv 0) ai) ai) (ag (bQ (aj (dv 0) ai) ai) (ag (aj (dv 0) ai) (ag (bQ (aj (dv 0) ai) ai) av)))))) (aj (dv 0) ai)))
 (ah (aM (i:=2) (nd 3) rfl (Or.inl rfl) (aj (bY (ag ai (ag ai (ag (bz ai (aj (dv 0) ai)) (ag ai (ag (bz ai (bQ (aj (dv 0) ai) ai)) av)))))) (aj (dv 0) ai)))
 (ah (aX (rC (sZ T) hr (ag (dv 1) (ag (dv 2) av))))
 aw))))
def sY(T:Txt K mg t):iV P w K mg base CX0 3 (t.A 4) (t.Q 4) ["_law_cell","_law_k","_law_walk"] (spD K 3 bB) "_law_tie" (top 44) :=
 oD T.g sc (i:=4) rfl λ_ _ _ _ _ _ _ hr=>(
 (ah (aM (i:=3) (nd 4) rfl (Or.inl rfl) (rC (fY T) hr (ag (dv 0) (ag (bY (ag ai (ag ai (ag ai (ag ai (ag (vW ai ai) (ag ai (ag ai (ag ai (ag (vW ai ai) (ag ai (ag ai av)))))))))))) av))))
 (ah (aM (i:=4) (nd 4) rfl (Or.inl rfl) (bQ (aj (dv 3) ai) (aQ bg bS rfl T.n_len PyProof.Rows.Boot.«len» (ag (dv 2) av))))
 (ah (aM (i:=5) (nd 4) rfl (Or.inl rfl) (bQ (bz (bz (dv 4) ai) (bQ (aj (dv 3) ai) (kY (aQ bg bS rfl T.n_len PyProof.Rows.Boot.«len» (ag (dv 2) av)) ai))) (aQ bg bS rfl T.n_len PyProof.Rows.Boot.«len» (ag (dv 2) av))))
 (ah (bT (bf (dF hr.units) fz (aj (dv 3) ai) ai nm)
 (ah (aM (i:=4) (nd 4) rfl (Or.inl rfl) (bQ (dv 1) (kY (aQ bg bS rfl T.n_len PyProof.Rows.Boot.«len» (ag (dv 2) av)) ai)))
 (ah (aM (i:=5) (nd 4) rfl (Or.inl rfl) (bz (dv 4) ai))
 aw))
 aw)
 (ah (aM (i:=6) (nd 4) rfl (Or.inl rfl) dW)
 (ah (bT (bf mW (dR λ_ _ _ _=>rb _) (aj (dv 3) ai) ai nm)
 (ah (aM (i:=6) (nd 4) rfl (Or.inl rfl) (rC (gw T) hr (ag (bU (dv 3) (cp ai) (cp ai)) av)))
 (ah (bT (bf (dF hr.units) fz (aj (dv 6) ai) ai nm)
 (ah (aM (i:=6) (nd 4) rfl (Or.inl rfl) (cW (ag ai (ag ai av))))
 aw)
 aw)
 aw))
 aw)
 (ah (aX (cW (ag (aj (dv 2) (dv 4)) (ag (aj (dv 2) (dv 5)) (ag (aj (bY (ag eM (ag eM av))) (aj (dv 3) ai)) (ag (rC (gw T) hr (ag (bU (dv 3) (cp ai) (cp ai)) av)) (ag (dv 6) av)))))))
 aw))))))))
def oO(T:Txt K mg t):iV P w K mg base CX0 4 (t.A 5) (t.Q 5) ["_law_cells"] (spD K 1 cj) "_law_group" (top 45) :=
 oD T.g sc (i:=5) rfl λ_ _ _ _ H _ _ hr=>(
 (ah (aM (i:=1) (nd 5) rfl (Or.inl rfl) (rC (fY T) hr (ag (aj (dv 0) ai) (ag (bz (bY (ag ai (ag ai (ag ai (ag ai (ag ai av)))))) (rl (rh (bY (ag ai (ag ai av))) (rl (nO (ag ai av)) ai)) ai)) av))))
 (ah (aM (i:=2) (nd 5) rfl (Or.inl rfl) (rC (oN T) hr (ag (bU (dv 1) (cp ai) eW) (ag (aj (bY (ag ai (ag ai (ag ai (ag ai (ag ai (ag ai (ag ai (ag ai (ag ai (ag ai (ag ai (ag ai av))))))))))))) (aj (dv 1) ai)) av))))
 (ah (aM (i:=3) (nd 5) rfl (Or.inr rfl) (bQ (aj (dv 1) ai) (aQ bg bS rfl T.n_len PyProof.Rows.Boot.«len» (ag (dv 2) av))))
 (ah (aM (i:=4) (nd 5) rfl (Or.inr rfl) (bQ (bz (bz (dv 3) ai) (bQ (aj (dv 1) ai) (kY (aQ bg bS rfl T.n_len PyProof.Rows.Boot.«len» (ag (dv 2) av)) ai))) (aQ bg bS rfl T.n_len PyProof.Rows.Boot.«len» (ag (dv 2) av))))
 (ah (ke (i:=5) (nd 5) rfl rfl fb (kZ ["_law_k","_law_place","_law_first","_law_last"] 2 [3,4] rfl (mh rfl T.n_enumerate (dv 2)) (mD (by decide)) (λs H C fp pn=>⟨λHe H0e=>(kX rfl (bX (i:=0) (show List.Nodup (["_law_k","_law_place","_law_first","_law_last"]:List Str) from by decide) rfl (Or.inl rfl) (bX (i:=1) (show List.Nodup (["_law_k","_law_place","_law_first","_law_last"]:List Str) from by decide) rfl (Or.inl rfl) jo))),(mf (bf (jY hr.units) j6 (dv 0) (cW (ag (dv 2) (ag (dv 3) av))) rfl)),(dv 1)⟩) ⟨rfl,rfl⟩ rfl rfl rfl rfl))
 (ah (aM (i:=6) (nd 5) rfl (Or.inr rfl) (bz (bz (bY (ag (aj (dv 2) (dv 3)) av)) (dv 5)) (bY (ag (aj (dv 2) (dv 4)) av))))
 (ah (ke (i:=7) (nd 5) rfl rfl fb (kZ ["_law_k","_law_cell","_law_walk"] 2 [6] rfl (mh rfl T.n_enumerate (bU (dv 0) (cp ai) eW)) (mD (by decide)) (λs H C fp pn=>⟨λHe H0e=>(kX rfl (bX (i:=0) (show List.Nodup (["_law_k","_law_cell","_law_walk"]:List Str) from by decide) rfl (Or.inl rfl) (bX (i:=1) (show List.Nodup (["_law_k","_law_cell","_law_walk"]:List Str) from by decide) rfl (Or.inl rfl) jo))),eX,(rC (sY T) hr (ag (dv 1) (ag (dv 0) (ag (dv 2) av))))⟩) ⟨rfl,rfl⟩ rfl rfl rfl rfl))
 (ah (bT (bf (dF hr.units) fz (aj (dv 1) ai) ai nm)
 (ah (aM (i:=7) (nd 5) rfl (Or.inl rfl) (bU (bz (dv 7) (dv 7)) eW (cp (bz ai (aj (dv 1) ai)))))
 aw)
 aw)
 (ah (aX (cW (ag (dv 2) (ag (dv 7) (ag (aj (dv 2) (dv 3)) (ag (aj (dv 2) (dv 4)) av))))))
 aw))))))))))
def iK(T:Txt K mg t):iV P w K mg base CX0 5 (t.A 6) (t.Q 6) ["_law_script"] (spD K 1 cq) "_law_groups" (top 46) :=
 oD T.g sc (i:=6) rfl λ_ _ _ _ H _ _ hr=>(
 (ah (aM (i:=1) (nd 6) rfl (Or.inr rfl) (bU (bz (dv 0) (bY (ag ai av))) eW (cp ai)))
 (ah (aX (lH (kZ ["_law_at","_law_cells"] 1 [1] rfl (yP rfl T.n_range ai (aQ bg bS rfl T.n_len PyProof.Rows.Boot.«len» (ag (dv 1) av)) ai) (dz (by decide)) (λs H C fp pn=>⟨λHe H0e=>(cE (i:=0) (show List.Nodup (["_law_at","_law_cells"]:List Str) from by decide) rfl (Or.inl rfl)),eX,(rC (oO T) hr (ag (bU (dv 1) (cp (dv 0)) (cp (bz (dv 0) ai))) av))⟩) ⟨rfl,rfl⟩ rfl rfl rfl rfl)))
 aw)))
def iu(T:Txt K mg t):iV P w K mg base CX0 2 (t.A 7) (t.Q 7) ["_law_one","_law_other","_law_cell"] (spD K 3 bC) "_law_meeting" (top 47) :=
 oD T.g sc (i:=7) rfl λ_ _ _ _ H _ _ hr=>(
 (ah (aM (i:=3) (nd 7) rfl (Or.inl rfl) (bz (bY (ag ai (ag ai (ag ai (ag ai (ag ai av)))))) (rl (rh (bY (ag ai (ag ai av))) (rl (nO (ag ai av)) ai)) ai)))
 (ah (aM (i:=4) (nd 7) rfl (Or.inl rfl) (bU (rC (fY T) hr (ag (dv 2) (ag (bz (dv 3) (bY (ag ai (ag ai (ag ai (ag ai av)))))) av))) (cp ai) eW))
 (ah (bT (bf mW (dR λ_ _ _ _=>rb _) (aj (dv 4) ai) ai nm)
 (ah (aX (dv 1))
 aw)
 aw)
 (ah (aM (i:=5) (nd 7) rfl (Or.inr rfl) (aj (aj (dv 0) ai) (bQ (aj (dv 4) ai) (aQ bg bS rfl T.n_len PyProof.Rows.Boot.«len» (ag (aj (dv 0) ai) av)))))
 (ah (aM (i:=6) (nd 7) rfl (Or.inr rfl) (aj (aj (dv 1) ai) (bQ (aj (dv 4) ai) (aQ bg bS rfl T.n_len PyProof.Rows.Boot.«len» (ag (aj (dv 1) ai) av)))))
 (ah (bT (bf (dF hr.units) fz (aj (dv 4) ai) ai nm)
 (ah (aM (i:=5) (nd 7) rfl (Or.inr rfl) (aj (bY (ag (aj (dv 0) ai) (ag (aj (dv 0) ai) av))) (bQ (aj (dv 4) ai) ai)))
 (ah (aM (i:=6) (nd 7) rfl (Or.inr rfl) (aj (bY (ag (aj (dv 1) ai) (ag (aj (dv 1) ai) av))) (bQ (aj (dv 4) ai) ai)))
 aw))
 aw)
 (ah (bT (bf (pA hr.units) pB (dv 5) (aj (dv 1) ai) rfl)
 (ah (aX (dv 1))
 aw)
 aw)
 (ah (vV (i:=7) (nd 7) rfl (Or.inl rfl) (nO av))
 (ah (rf PassesOwn.never rfl (aj (dv 1) ai) (kX rfl (bX (i:=8) (nd 7) rfl (Or.inl rfl) (bX (i:=9) (nd 7) rfl (Or.inl rfl) (bX (i:=10) (nd 7) rfl (Or.inl rfl) (bX (i:=11) (nd 7) rfl (Or.inl rfl) (bX (i:=12) (nd 7) rfl (Or.inl rfl) jo)))))) kK
 (ah (aM (i:=8) (nd 7) rfl (Or.inl rfl) (aj (bY (ag (dv 8) (ag (dv 5) av))) (kh jr rB rfl T.n_int PyProof.Rows.Boot.«int» (ag (dX (dF hr.units) fz (dv 8) (dv 6) nm) av))))
 (ah (jm (i:=7) rfl (Or.inl rfl) (cW (ag (dv 8) (ag (aj (bY (ag (dv 9) (ag (dv 5) av))) (kh jr rB rfl T.n_int PyProof.Rows.Boot.«int» (ag (dX (dF hr.units) fz (dv 9) (dv 6) nm) av))) (ag (dv 10) (ag (dv 11) (ag (dv 12) av)))))))
 aw)))
 (ah (ke (i:=13) (nd 7) rfl rfl fb (kZ ["_law_place","_law_name","_law_old"] 1 [5,6] rfl (gZ (bY (ag (aj (dv 1) ai) (ag (aj (dv 1) ai) av)))) (dz (by decide)) (λs H C fp pn=>⟨λHe H0e=>(cE (i:=0) (show List.Nodup (["_law_place","_law_name","_law_old"]:List Str) from by decide) rfl (Or.inl rfl)),eX,(aj (bY (ag (dv 0) (ag (dv 1) av))) (kh jr rB rfl T.n_int PyProof.Rows.Boot.«int» (ag (dX (dF hr.units) fz (dv 0) (dv 2) nm) av)))⟩) ⟨rfl,rfl⟩ rfl rfl rfl rfl))
 (ah (aX (cW (ag (lH (kZ ["_law_place","_law_name","_law_old"] 1 [5,6] rfl (gZ (aj (dv 1) ai)) (dz (by decide)) (λs H C fp pn=>⟨λHe H0e=>(cE (i:=0) (show List.Nodup (["_law_place","_law_name","_law_old"]:List Str) from by decide) rfl (Or.inl rfl)),eX,(aj (bY (ag (dv 0) (ag (dv 1) av))) (kh jr rB rfl T.n_int PyProof.Rows.Boot.«int» (ag (dX (dF hr.units) fz (dv 0) (dv 2) nm) av)))⟩) ⟨rfl,rfl⟩ rfl rfl rfl rfl)) (ag (dv 7) (ag (aj (dv 13) ai) (ag (aj (dv 13) ai) av))))))
 aw))))))))))))
def tf(T:Txt K mg t):iV P w K mg base CX0 1 (t.A 8) (t.Q 8) ["_law_one","_law_other"] (spD K 2 cR) "_law_due" (top 49) :=
 oD T.g sc (i:=8) rfl λ_ _ _ _ H _ _ hr=>(
 (ah (xx (i:=2) (nd 8) rfl (Or.inr rfl) xA)
 (ah (rf PassesOwn.never rfl (aj (dv 1) ai) (cE (i:=3) (nd 8) rfl (Or.inl rfl)) eY
 (ah (md (i:=2) (un1 hr.units) rfl (Or.inr (Or.inl rfl)) (dv 3) (dv 3))
 aw))
 (ah (md (i:=2) (un1 hr.units) rfl (Or.inr (Or.inl rfl)) (aj (dv 0) ai) (aj (dv 1) ai))
 (ah (md (i:=2) (un1 hr.units) rfl (Or.inr (Or.inl rfl)) (aj (dv 0) ai) (aj (dv 1) ai))
 (ah (ke (i:=4) (nd 8) rfl rfl fb (kZ ["_law_place","_law_other"] 1 [1] rfl (gZ (aj (dv 1) ai)) (dz (by decide)) (λs H C fp pn=>⟨λHe H0e=>(cE (i:=0) (show List.Nodup (["_law_place","_law_other"]:List Str) from by decide) rfl (Or.inl rfl)),(mf (DW.dt (Bu (bf (eJ hr.units) iw (dv 0) (aj (dv 1) ai) nm) (nM (bf (eJ hr.units) iw (dv 0) (aj (dv 1) ai) nm))))),(dv 0)⟩) ⟨rfl,rfl⟩ rfl rfl rfl rfl))
 (ah (bT (bf (eJ hr.units) iw (lH (kZ ["_law_place","_law_one"] 1 [0] rfl (gZ (dv 4)) (dz (by decide)) (λs H C fp pn=>⟨λHe H0e=>(cE (i:=0) (show List.Nodup (["_law_place","_law_one"]:List Str) from by decide) rfl (Or.inl rfl)),(mf (bf (pA hr.units) pB (dv 0) (aj (dv 1) ai) rfl)),(dv 0)⟩) ⟨rfl,rfl⟩ rfl rfl rfl rfl)) (bY av) nm)
 (ah (aX dW)
 aw)
 aw)
 (ah (bT (DW.dt (dJ (bf mW (dR λ_ _ _ _=>rb _) (bz (aQ bg bS rfl T.n_len PyProof.Rows.Boot.«len» (ag (aj (dv 0) ai) av)) (aQ bg bS rfl T.n_len PyProof.Rows.Boot.«len» (ag (dv 4) av))) ai nm) (bu (bf mW (dR λ_ _ _ _=>rb _) (bz (aQ bg bS rfl T.n_len PyProof.Rows.Boot.«len» (ag (aj (dv 0) ai) av)) (aQ bg bS rfl T.n_len PyProof.Rows.Boot.«len» (ag (aj (dv 1) ai) av))) ai nm))))
 (ah (aX dW)
 aw)
 aw)
 (ah (By 2 (ke (i:=5) (nd 8) rfl rfl fb (kZ ["_law_tie_here","_law_called"] 1 [2] rfl (gZ (aj (dv 1) ai)) (dz (by decide)) (λs H C fp pn=>⟨λHe H0e=>(cE (i:=0) (show List.Nodup (["_law_tie_here","_law_called"]:List Str) from by decide) rfl (Or.inl rfl)),eX,(cW (ag (mj (un1 hr.units) (dv 1) (aj (dv 0) ai)) (ag (mj (un1 hr.units) (dv 1) (aj (dv 0) ai)) (ag (aj (dv 0) ai) (ag (aj (dv 0) ai) (ag (aj (dv 0) ai) av))))))⟩) ⟨rfl,rfl⟩ rfl rfl rfl rfl)))
 (ah (aX (cW (ag (bz (aj (dv 0) ai) (dv 4)) (ag (bz (aj (dv 0) ai) (dv 5)) (ag (aj (dv 0) ai) (ag (aj (dv 0) ai) av))))))
 aw))))))))))
def gQ(T:Txt K mg t):iV P w K mg base CX0 1 (t.A 9) (t.Q 9) ["thing"] (spD K 1 m_is_name) "is_name" (top 12) :=
 oD T.g sc (i:=9) rfl λ_ _ _ _ H _ _ hr=>(
 (ah (bT (DW.dt (dJ (cy (cw (bw fA rfl T.n_isinstance rfl T.n_str PyProof.Rows.Boot.«str» (dv 0)))) (bu (cy (ue wR wR (i5 λ_ _ _ _=>rb _) (i5 λ_ _ _ _=>rb _) ja ja ai (aQ bg bS rfl T.n_len PyProof.Rows.Boot.«len» (ag (dv 0) av)) (aY T.fH rfl))))))
 (ah (aX gH)
 aw)
 aw)
 (ah (aX (aQ (uu rfl) BM rfl T.n_all PyProof.Rows.Boot.«all» (ag (lH (kZ ["sign"] 1 [] rfl (HH (dv 0)) (dz (by decide)) (λs H C fp pn=>⟨λHe H0e=>(cE (i:=0) (show List.Nodup (["sign"]:List Str) from by decide) rfl (Or.inl rfl)),eX,(dX (pA hr.units) pB (dv 0) (aY T.lg rfl) rfl)⟩) ⟨rfl,rfl⟩ rfl rfl rfl rfl)) av)))
 aw)))
def jZ(T:Txt K mg t):iV P w K mg base (eR P w) 3 (t.A 10) (t.Q 10) ["places"] (spD K 1 m_look_at_places) "look_at_places" (top 31) :=
 oE T.g sc (i:=10) rfl λ_ _ _ _ _ _ _ hr=>(
 (ah (bT (DW.dt (dJ (cy (cw (bw eF rfl T.n_isinstance rfl T.n_list PyProof.Rows.Boot.«list» (dv 0)))) (bu (cy (ue wR wR (i5 λ_ _ _ _=>rb _) (i5 λ_ _ _ _=>rb _) ja ja (aY T.eN rfl) (aQ bg bS rfl T.n_len PyProof.Rows.Boot.«len» (ag (dv 0) av)) (aY T.gb rfl))))))
 (ah (eu T.cB.xc T.fk T.fj T.fm ((dG T).mono (by decide:1<=1)) T.ef (by decide) (by decide) hr T.eU hr.hd rfl (ag eM (ag dW av)))
 aw)
 aw)
 (ah (xy PassesOwn.leaving rfl (mh rfl T.n_enumerate (dv 0)) (kX rfl (bX (i:=1) (nd 10) rfl (Or.inl rfl) (bX (i:=2) (nd 10) rfl (Or.inl rfl) jo))) kK
 (ah (bT (DW.dt (dJ (cy (cw (rC (gQ T) hr (ag (dv 2) av)))) (bu (bf (pA hr.units) pB (dv 2) (bU (dv 0) eW (cp (dv 1))) rfl))))
 (ah (eu T.cB.xc T.fk T.fj T.fm ((dG T).mono (by decide:1<=1)) T.ef (by decide) (by decide) hr T.eU hr.hd rfl (ag eM (ag (dv 1) av)))
 aw)
 aw)
 aw))
 aw)))
def lu(T:Txt K mg t):iV P w K mg base CX0 1 (t.A 11) (t.Q 11) ["thing"] (spD K 1 m_is_whole) "is_whole" (top 10) :=
 oD T.g sc (i:=11) rfl λ_ _ _ _ _ _ _ _=>(
 (ah (aX (ic (bw m7 rfl T.n_isinstance rfl T.n_int PyProof.Rows.Boot.«int» (dv 0)) (ia (vX (bw lD rfl T.n_isinstance rfl T.n_bool PyProof.Rows.Boot.«bool» (dv 0))))))
 aw))
def j0(T:Txt K mg t):iV P w K mg base CX0 1 (t.A 12) (t.Q 12) ["one","other"] (spD K 2 m_common_divisor) "common_divisor" (top 6) :=
 oD T.g sc (i:=12) rfl λ_ _ _ _ _ _ _ hr=>(
 (ah (aM (i:=2) (nd 12) rfl (Or.inl rfl) (aQ iQ nV rfl T.n_abs PyProof.Rows.Boot.«abs» (ag (dv 0) av)))
 (ah (aM (i:=3) (nd 12) rfl (Or.inl rfl) (aQ iQ nV rfl T.n_abs PyProof.Rows.Boot.«abs» (ag (dv 1) av)))
 (ah (nN _ PassesOwn.never (bf (eJ hr.units) iw (dv 3) ai nm)
 (ah (aM (i:=4) (nd 12) rfl (Or.inl rfl) (bQ (dv 2) (dv 3)))
 (ah (aM (i:=2) (nd 12) rfl (Or.inl rfl) (dv 3))
 (ah (aM (i:=3) (nd 12) rfl (Or.inl rfl) (dv 4))
 aw))))
 (ah (aX (dv 2))
 aw)))))
def lz(T:Txt K mg t):iV P w K mg base CX0 2 (t.A 13) (t.Q 13) ["thing"] (spD K 1 m_is_ratio) "is_ratio" (top 11) :=
 oD T.g sc (i:=13) rfl λ_ _ _ _ _ _ _ hr=>(
 (ah (bT (DW.dt (dJ (cy (cw (bw c8 rfl T.n_isinstance rfl T.n_tuple PyProof.Rows.Boot.«tuple» (dv 0)))) (bu (bf (eJ hr.units) iw (aQ bg bS rfl T.n_len PyProof.Rows.Boot.«len» (ag (dv 0) av)) ai nm))))
 (ah (aX gH)
 aw)
 aw)
 (ah (bT (DW.dt (dJ (cy (cw (rC (lu T) hr (ag (aj (dv 0) ai) av)))) (bu (cy (cw (rC (lu T) hr (ag (aj (dv 0) ai) av)))))))
 (ah (aX gH)
 aw)
 aw)
 (ah (aX (ic (dX AG (dR λ_ _ _ _=>rb _) (aj (dv 0) ai) ai nm) (ia (dX (dF hr.units) fz (rC (j0 T) hr (ag (aj (dv 0) ai) (ag (aj (dv 0) ai) av))) ai nm))))
 aw))))
def qK(T:Txt K mg t):iV P w K mg base CX0 3 (t.A 14) (t.Q 14) ["thing"] (spD K 1 m_is_length) "is_length" (top 28) :=
 oD T.g sc (i:=14) rfl λ_ _ _ _ _ _ _ hr=>(
 (ah (aX (ic (rC (lz T) hr (ag (dv 0) av)) (ia (dX AG (dR λ_ _ _ _=>rb _) (aj (dv 0) ai) ai nm))))
 aw))
def sX(T:Txt K mg t):iV P w K mg base CX0 3 (t.A 15) (t.Q 15) ["thing"] (spD K 1 m_is_worth) "is_worth" (top 29) :=
 oD T.g sc (i:=15) rfl λ_ _ _ _ _ _ _ hr=>(
 (ah (aX (J0 (dX vm vp (dv 0) dW nm) (ia (ic (rC (lz T) hr (ag (dv 0) av)) (ia (dX mW (dR λ_ _ _ _=>rb _) (aj (dv 0) ai) ai nm))))))
 aw))
def yp(T:Txt K mg t):iV P w K mg base CX0 4 (t.A 16) (t.Q 16) ["thing"] (spD K 1 m_is_tie) "is_tie" (top 27) :=
 oD T.g sc (i:=16) rfl λ_ _ _ _ _ _ _ hr=>(
 (ah (bT (DW.dt (dJ (cy (cw (bw c8 rfl T.n_isinstance rfl T.n_tuple PyProof.Rows.Boot.«tuple» (dv 0)))) (bu (bf (eJ hr.units) iw (aQ bg bS rfl T.n_len PyProof.Rows.Boot.«len» (ag (dv 0) av)) ai nm))))
 (ah (aX gH)
 aw)
 aw)
 (ah (bT (DW.dt (dJ (cy (cw (rC (gQ T) hr (ag (aj (dv 0) (aY T.pW rfl)) av)))) (dJ (cy (cw (rC (gQ T) hr (ag (aj (dv 0) (aY T.jt rfl)) av)))) (bu (bf (dF hr.units) fz (aj (dv 0) (aY T.pW rfl)) (aj (dv 0) (aY T.jt rfl)) nm)))))
 (ah (aX gH)
 aw)
 aw)
 (ah (bT (DW.dt (dJ (cy (cw (bw fA rfl T.n_isinstance rfl T.n_str PyProof.Rows.Boot.«str» (aj (dv 0) (aY T.nX rfl))))) (bu (bf (jY hr.units) j6 (aj (dv 0) (aY T.nX rfl)) (aY T.rE rfl) rfl))))
 (ah (aX gH)
 aw)
 aw)
 (ah (aX (ic (rC (qK T) hr (ag (aj (dv 0) (aY T.km rfl)) av)) (ia (rC (sX T) hr (ag (aj (dv 0) (aY T.mq rfl)) av)))))
 aw)))))
def lU(T:Txt K mg t):iV P w K mg base (eR P w) 5 (t.A 17) (t.Q 17) ["ties","places"] (spD K 2 m_look_at_ties) "look_at_ties" (top 32) :=
 oE T.g sc (i:=17) rfl λ_ _ _ _ _ _ _ hr=>(
 (ah (bT (DW.dt (dJ (cy (cw (bw eF rfl T.n_isinstance rfl T.n_list PyProof.Rows.Boot.«list» (dv 0)))) (bu (bf mW (dR λ_ _ _ _=>rb _) (aQ bg bS rfl T.n_len PyProof.Rows.Boot.«len» (ag (dv 0) av)) (aY T.iR rfl) nm))))
 (ah (eu T.cB.xc T.fk T.fj T.fm ((dG T).mono (by decide:1<=3)) T.ef (by decide) (by decide) hr T.eU hr.hd rfl (ag eM (ag dW av)))
 aw)
 aw)
 (ah (xy PassesOwn.leaving rfl (mh rfl T.n_enumerate (dv 0)) (kX rfl (bX (i:=2) (nd 17) rfl (Or.inl rfl) (bX (i:=3) (nd 17) rfl (Or.inl rfl) jo))) kK
 (ah (bT (DW.dt (dJ (cy (cw (rC (yp T) hr (ag (dv 3) av)))) (dJ (bf (jY hr.units) j6 (aj (dv 3) (aY T.pW rfl)) (dv 1) rfl) (bu (bf (jY hr.units) j6 (aj (dv 3) (aY T.jt rfl)) (dv 1) rfl)))))
 (ah (eu T.cB.xc T.fk T.fj T.fm ((dG T).mono (by decide:1<=3)) T.ef (by decide) (by decide) hr T.eU hr.hd rfl (ag eM (ag (dv 2) av)))
 aw)
 aw)
 aw))
 aw)))
def lA(T:Txt K mg t):iV P w K mg base CX0 2 (t.A 18) (t.Q 18) ["thing","places"] (spD K 2 m_is_place) "is_place" (top 33) :=
 oD T.g sc (i:=18) rfl λ_ _ _ _ _ _ _ hr=>(
 (ah (aX (ic (rC (gQ T) hr (ag (dv 0) av)) (ia (dX (pA hr.units) pB (dv 0) (dv 1) rfl))))
 aw))
def fw(T:Txt K mg t):iV P w K mg base (eR P w) 6 (t.A 19) (t.Q 19) ["thing"] (spD K 1 m_look_at_web) "look_at_web" (top 30) :=
 oE T.g sc (i:=19) rfl λ_ _ _ _ _ _ _ hr=>(
 (ah (bT (DW.dt (dJ (cy (cw (bw c8 rfl T.n_isinstance rfl T.n_tuple PyProof.Rows.Boot.«tuple» (dv 0)))) (bu (bf (eJ hr.units) iw (aQ bg bS rfl T.n_len PyProof.Rows.Boot.«len» (ag (dv 0) av)) ai nm))))
 (ah (eu T.cB.xc T.fk T.fj T.fm ((dG T).mono (by decide:1<=4)) T.ef (by decide) (by decide) hr T.eU hr.hd rfl (ag eM (ag dW av)))
 aw)
 aw)
 (ah (me (rC (jZ T) hr (ag (aj (dv 0) (aY T.dZ rfl)) av)))
 (ah (me (rC (lU T) hr (ag (aj (dv 0) (aY T.nY rfl)) (ag (aj (dv 0) (aY T.dZ rfl)) av))))
 (ah (bT (cy (cw (rC (lA T) hr (ag (aj (dv 0) (aY T.ik rfl)) (ag (aj (dv 0) (aY T.dZ rfl)) av)))))
 (ah (eu T.cB.xc T.fk T.fj T.fm ((dG T).mono (by decide:1<=4)) T.ef (by decide) (by decide) hr T.eU hr.hd rfl (ag eM (ag dW av)))
 aw)
 aw)
 (ah (bT (DW.dt (dJ (cy (cw (rC (lA T) hr (ag (aj (dv 0) (aY T.jQ rfl)) (ag (aj (dv 0) (aY T.dZ rfl)) av))))) (bu (bf (dF hr.units) fz (aj (dv 0) (aY T.jQ rfl)) (aj (dv 0) (aY T.ik rfl)) nm))))
 (ah (eu T.cB.xc T.fk T.fj T.fm ((dG T).mono (by decide:1<=4)) T.ef (by decide) (by decide) hr T.eU hr.hd rfl (ag eM (ag dW av)))
 aw)
 aw)
 aw))))))
def oM(T:Txt K mg t):iV P w K mg base CX0 1 (t.A 20) (t.Q 20) ["tie","called"] (spD K 2 dU) "tie_called" (top 35) :=
 oD T.g sc (i:=20) rfl λ_ _ _ _ _ _ _ hr=>(
 (ah (aX (cW (ag (mj (un1 hr.units) (dv 1) (aj (dv 0) (aY T.pW rfl))) (ag (mj (un1 hr.units) (dv 1) (aj (dv 0) (aY T.jt rfl))) (ag (aj (dv 0) (aY T.nX rfl)) (ag (aj (dv 0) (aY T.km rfl)) (ag (aj (dv 0) (aY T.mq rfl)) av)))))))
 aw))
def yo(T:Txt K mg t):iV P w K mg base (eR P w) 7 (t.A 21) (t.Q 21) ["one","other","put","last"] (spD K 4 gA) "joined" (top 38) :=
 oE T.g sc (i:=21) rfl λ_ _ _ _ H _ _ hr=>(
 (ah (xx (i:=4) (nd 21) rfl (Or.inr rfl) xA)
 (ah (rf PassesOwn.leaving rfl (aj (dv 1) (aY T.dZ rfl)) (cE (i:=5) (nd 21) rfl (Or.inl rfl)) eY
 (ah (md (i:=4) (un1 hr.units) rfl (Or.inr (Or.inl rfl)) (BG (un1 hr.units) (dv 2) (dv 5) (dv 5) ⟨rfl,by rw[aI rfl,cP rfl,keywordEach];rfl,rfl,by rw[aI rfl,cP rfl];rfl⟩) (dv 5))
 aw))
 (ah (aM (i:=6) (nd 21) rfl (Or.inl rfl) (Fp (rh (aj (dv 0) (aY T.dZ rfl)) (lH (kZ ["place","put"] 1 [2] rfl (gZ (aj (dv 1) (aY T.dZ rfl))) (dz (by decide)) (λs H C fp pn=>⟨λHe H0e=>(cE (i:=0) (show List.Nodup (["place","put"]:List Str) from by decide) rfl (Or.inl rfl)),(mf (bf (yn (un1 hr.units)) yt (dv 0) (dv 1) rfl)),(dv 0)⟩) ⟨rfl,rfl⟩ rfl rfl rfl rfl)))))
 (ah (By 4 (aM (i:=7) (nd 21) rfl (Or.inl rfl) (Fp (rh (aj (dv 0) (aY T.nY rfl)) (lH (kZ ["tie","called"] 1 [4] rfl (gZ (aj (dv 1) (aY T.nY rfl))) (dz (by decide)) (λs H C fp pn=>⟨λHe H0e=>(cE (i:=0) (show List.Nodup (["tie","called"]:List Str) from by decide) rfl (Or.inl rfl)),eX,(rC (oM T) hr (ag (dv 0) (ag (dv 1) av)))⟩) ⟨rfl,rfl⟩ rfl rfl rfl rfl))))))
 (ah (aM (i:=8) (nd 21) rfl (Or.inl rfl) (cW (ag (dv 6) (ag (dv 7) (ag (aj (dv 0) (aY T.ik rfl)) (ag (dv 3) av))))))
 (ah (Eu (rD (fw T) hr (ag (BF (dv 8)) av)) rfl T.eU (qS T) T.dy.xcls T.tU rfl (λea=>(ag eM av)))
 (ah (aX (dv 8))
 aw))))))))
def mX(T:Txt K mg t):iV P w K mg base (eR P w) 8 (t.A 22) (t.Q 22) ["one","other"] (spD K 2 cM) "webs_beside" (top 37) :=
 oE T.g sc (i:=22) rfl λ_ _ _ _ _ _ _ hr=>(
 (ah (me (rC (fw T) hr (ag (dv 0) av)))
 (ah (me (rC (fw T) hr (ag (dv 1) av)))
 (ah (aX (rC (yo T) hr (ag (dv 0) (ag (dv 1) (ag (Ez (yR (aj (dv 1) (aY T.ik rfl)) (aj (dv 0) (aY T.ik rfl)) (aj (dv 1) (aY T.jQ rfl)) (aj (dv 0) (aY T.jQ rfl)))) (ag (aj (dv 0) (aY T.jQ rfl)) av))))))
 aw))))
def cQ(T:Txt K mg t){k:Nat}{mR:ac->ao D}(hk:0<=k)(B:iV P w K mg base CX0 k (t.A 23) (t.Q 23) ["_law_found","_law_due_here"] (spD K 2 mR) "_law_alike" (top 48)):iV P w K mg base CX0 (k+1) (t.A 23) (t.Q 23) ["_law_found","_law_due_here"] (spD K 2 (bH 2 (df mR))) "_law_alike" (top 48) :=
 oD T.g sc (i:=23) rfl λ_ _ _ _ H _ _ hr=>(
 (ah (bT (cw (EC (wx c8 rfl T.n_tuple PyProof.Rows.Boot.«tuple» (wx eF rfl T.n_list PyProof.Rows.Boot.«list» FP)) rfl T.n_isinstance (dv 1)))
 (ah (bT (bf (eJ hr.units) iw (bw c8 rfl T.n_isinstance rfl T.n_tuple PyProof.Rows.Boot.«tuple» (dv 0)) (bw c8 rfl T.n_isinstance rfl T.n_tuple PyProof.Rows.Boot.«tuple» (dv 1)) nm)
 (ah (aX gH)
 aw)
 aw)
 (ah (bT (DW.dt (dJ (bf (eJ hr.units) iw (bw eF rfl T.n_isinstance rfl T.n_list PyProof.Rows.Boot.«list» (dv 0)) (bw eF rfl T.n_isinstance rfl T.n_list PyProof.Rows.Boot.«list» (dv 1)) nm) (bu (bf (eJ hr.units) iw (aQ bg bS rfl T.n_len PyProof.Rows.Boot.«len» (ag (dv 0) av)) (aQ bg bS rfl T.n_len PyProof.Rows.Boot.«len» (ag (dv 1) av)) nm))))
 (ah (aX gH)
 aw)
 aw)
 (ah (aX (aQ (uu rfl) BM rfl T.n_all PyProof.Rows.Boot.«all» (ag (lH (kZ ["_law_one","_law_other"] 2 [] rfl (Ey rfl T.n_zip (dv 0) (dv 1)) (mD (by decide)) (λs H C fp pn=>⟨λHe H0e=>(kX rfl (bX (i:=0) (show List.Nodup (["_law_one","_law_other"]:List Str) from by decide) rfl (Or.inl rfl) (bX (i:=1) (show List.Nodup (["_law_one","_law_other"]:List Str) from by decide) rfl (Or.inl rfl) jo))),eX,(rC B hr (ag (dv 0) (ag (dv 1) av)) (Nat.le_refl _))⟩) ⟨rfl,rfl⟩ rfl rfl rfl rfl)) av)))
 aw)))
 aw)
 (ah (bT (DW.dt (dJ (bf vm vp (dv 1) dW nm) (bu (cw (bw fA rfl T.n_isinstance rfl T.n_str PyProof.Rows.Boot.«str» (dv 1))))))
 (ah (aX (ic (dX (dF hr.units) fz (dv 0) (dv 1) nm) (ia (dX (dF hr.units) fz (bw fA rfl T.n_isinstance rfl T.n_str PyProof.Rows.Boot.«str» (dv 0)) (bw fA rfl T.n_isinstance rfl T.n_str PyProof.Rows.Boot.«str» (dv 1)) nm))))
 aw)
 aw)
 (ah (aX (ic (bw m7 rfl T.n_isinstance rfl T.n_int PyProof.Rows.Boot.«int» (dv 0)) (ic (vX (bw lD rfl T.n_isinstance rfl T.n_bool PyProof.Rows.Boot.«bool» (dv 0))) (ia (dX (dF hr.units) fz (dv 0) (dv 1) nm)))))
 aw))))
def oP(T:Txt K mg t):iV P w K mg base CX0 6 (t.A 23) (t.Q 23) ["_law_found","_law_due_here"] (spD K 2 gU) "_law_alike" (top 48) :=
 (cQ T (by decide) (cQ T (by decide) (cQ T (by decide) (cQ T (by decide) (cQ T (by decide) (oS (k:=1) T.g (i:=23) rfl))))))
def qL(T:Txt K mg t):iV P w K mg base CX0 9 (t.A 24) (t.Q 24) ["_law_one","_law_other"] (spD K 2 eE) "_law_told" (top 50) :=
 oZ T.g sc (i:=24) rfl λ_ _ _ _ _ _ _ hz hr=>(
 (ah (aM (i:=2) (nd 24) rfl (Or.inl rfl) (rC (tf T) hr (ag (dv 0) (ag (dv 1) av))))
 (ah (aM (i:=3) (nd 24) rfl (Or.inl rfl) dW)
 (ah (aM (i:=4) (nd 24) rfl (Or.inl rfl) dW)
 (ah (HE ⟨rfl,rfl⟩ (rT (i:=4) (nd 24) rfl (Or.inl rfl) (mX T) hr (ag (dv 0) (ag (dv 1) av))) rfl T.nz (lW T) (nd 24) rfl rfl (λea=>(ah (aM (i:=3) (nd 24) rfl (Or.inl rfl) (dv 5))
 aw)))
 (ah (bT (bf vm vp (dv 2) dW nm)
 (ah (bT (DW.dt (dJ (cy (cw (yS rfl T.tU (zO T) rfl T.n_isinstance (dv 3)))) (bu (cy (cw (yT rfl T.n_ValueError PyProof.Rows.Boot.«ValueError» (zM T) rfl T.n_isinstance (dv 3)))))))
 (ah (aX gH)
 aw)
 aw)
 (ah (aX (vX (EB (zK T) (xC rfl T.A9 (xC rfl T.eU HP)) (by simp) rfl T.n_isinstance (dv 3))))
 aw))
 aw)
 (ah (bT (DW.dt (dJ (bf Dd Dj (dv 3) dW nm) (bu (cy (cw (rC (oP T) hr (ag (BF (dv 4)) (ag (dv 2) av))))))))
 (ah (aX gH)
 aw)
 aw)
 (yO hz rfl rfl rfl (Or.inl rfl)
 (ah (aX gH)
 aw)))))))))
def ok_law(T:Txt K mg t):iV P w K mg base CX0 10 (t.A 25) (t.Q 25) ["_law_script"] (spD K 1 m_law) "law" (top 51) :=
 oD T.g sc (i:=25) rfl λ_ _ _ _ _ _ _ hr=>(
 (ah (aM (i:=1) (nd 25) rfl (Or.inl rfl) (rC (iK T) hr (ag (dv 0) av)))
 (ah (aM (i:=2) (nd 25) rfl (Or.inl rfl) (bU (bz (dv 0) (bY (ag ai av))) eW (cp ai)))
 (ah (qZ PassesOwn.never rfl rfl T.n_range (aQ bg bS rfl T.n_len PyProof.Rows.Boot.«len» (ag (dv 1) av)) (cE (i:=3) (nd 25) rfl (Or.inl rfl)) eY
 (ah (aM (i:=4) (nd 25) rfl (Or.inl rfl) (aj (dv 1) (dv 3)))
 (ah (aM (i:=5) (nd 25) rfl (Or.inl rfl) (rC (iu T) hr (ag (dv 4) (ag (aj (dv 1) (kY (dv 3) ai)) (ag (aj (dv 2) (ib ai (dv 3))) av)))))
 (ah (aM (i:=6) (nd 25) rfl (Or.inl rfl) (cW (ag (aj (rC (iK T) hr (ag (dv 0) av)) (dv 3)) (ag (rC (iu T) hr (ag (dv 4) (ag (aj (dv 1) (kY (dv 3) ai)) (ag (aj (dv 2) (ib ai (dv 3))) av)))) av))))
 (ah (rf PassesOwn.never rfl (bY (ag (cW (ag (dv 4) (ag (dv 5) av))) (ag (cW (ag (dv 5) (ag (dv 4) av))) (ag (cW (ag (dv 4) (ag (dv 4) av))) (ag (cW (ag (dv 4) (ag (dv 5) av))) av))))) (cE (i:=7) (nd 25) rfl (Or.inl rfl)) eY
 (ah (bT (DW.dt (dJ (cy (cw (rC (qL T) hr (ag (aj (dv 7) ai) (ag (aj (dv 7) ai) av))))) (bu (bf (eJ hr.units) iw (cW (ag (dv 4) (ag (dv 5) av))) (dv 6) nm))))
 (ah (aX gH)
 aw)
 aw)
 aw))
 aw)))))
 (ah (aX gH)
 aw)))))
end
def txt_mk{K:W.Frag}{h:Heap}{mg:Str->Option Value}(X:K.In h)(G:h.Ns mainGlobals mg){dB:Addr}{bq:Addr}{bD:Addr}{cS:Addr}{bh:Addr}{a0 a1 a2 a3 a4 a5 a6 a7 a8 a9 a10 a11 a12 a13 a14 a15 a16 a17 a18 a19 a20 a21 a22 a23 a24 a25:Addr}(qs:QAs K rows [a0,a1,a2,a3,a4,a5,a6,a7,a8,a9,a10,a11,a12,a13,a14,a15,a16,a17,a18,a19,a20,a21,a22,a23,a24,a25])
  (z_ValueError:W.nsIn K mainGlobals "ValueError"=some none)
  (z_abs:W.nsIn K mainGlobals "abs"=some none)
  (z_all:W.nsIn K mainGlobals "all"=some none)
  (z_bool:W.nsIn K mainGlobals "bool"=some none)
  (z_enumerate:W.nsIn K mainGlobals "enumerate"=some none)
  (z_int:W.nsIn K mainGlobals "int"=some none)
  (z_isinstance:W.nsIn K mainGlobals "isinstance"=some none)
  (z_len:W.nsIn K mainGlobals "len"=some none)
  (z_list:W.nsIn K mainGlobals "list"=some none)
  (z_range:W.nsIn K mainGlobals "range"=some none)
  (z_str:W.nsIn K mainGlobals "str"=some none)
  (z_tuple:W.nsIn K mainGlobals "tuple"=some none)
  (z_zip:W.nsIn K mainGlobals "zip"=some none)
  (lF:jC K "CutError" bq)
  (kE:xM K "NoJoin" bD)
  (pF:jC K "NoTurn" cS)
  (mw:xK K "NoWeb" bh)
  {yu yC yU ye pV yZ:Value}{yr zb:Option Addr}{xZ:Array (Option Value)}
  {AL Am:Str}{qO:Addr}{BN zU:List Value}{A5 BR:Bool}{zX:List Str}{y6:Option Bool}{BH Bz:Option Addr}{AZ AY AX AW AV:Option Value}{BJ:Value}{uc:Array DictEntry}{Bt:Nat}{zV:Array (Option Value)}
  (rW:K.lookup bh=some (excClassObj AL Am bh qO BN [.ref bq,.type "ValueError",.type "Exception",.type "BaseException",.type "object"] A5 zX zU BR y6 BH AZ AY AX AW AV "ValueError.__new__")) (rV:K.lookup qO=some ⟨BJ,Bz,.dict uc Bt,zV⟩) (rX:uc.toList.all Ff=true) (rS:W.nsIn K qO "__init__"=some (some (.ref dB)))
  (Al:W.isFn K (.ref dB)=true) (sQ:K.lookup dB=some ⟨yu,yr,.func (W.fnOf "__init__" "NoWeb.__init__" (defArgs gm) (defBody gm) (defScope gm) .none yC yU ye zb pV yZ),xZ⟩) (sP:W.codeIn K pV "NoWeb.__init__"=true) (sO:W.keepIn K (.ref dB)=true)
  (xP:W.findIn K (.ref bh) "__setattr__"=some (some (.builtin "object.__setattr__"))) (xQ:W.hasDictIn K bh=true) (mz:W.findIn K (.ref bh) "part"=some none) (kF:W.findIn K (.ref bh) "number"=some none)
  (jS:W.excIn K bq [.type "ValueError",.type "Exception",.type "BaseException",.type "object"] "ValueError.__new__"=true) (qo:W.readsIn K bq (.type "type")=true) (qp:W.findCls K (.ref bq) (.type "type") "__init__"=some (.val (.builtin "ValueError.__init__"))) (qm:W.specialIn K (.ref bq) "__getattribute__"=some (some (.builtin "type.__getattribute__")))
  (fu:Fw K bD [(bq,true),(bD,true),(cS,false),(bh,false)])
  (gP:Fw K bh [(bq,true),(bD,false),(cS,false),(bh,true)])
  {lR:Tok}(lP:W.nsIn K mainGlobals "FEWEST_PLACES"=some (some (.int 2 lR)))
  {Cz:Tok}(Ce:W.nsIn K mainGlobals "FIRST"=some (some (.int 2 Cz)))
  {FX:Tok}(FF:W.nsIn K mainGlobals "LAST"=some (some (.int 3 FX)))
  {zR:Tok}(zu:W.nsIn K mainGlobals "LENGTH"=some (some (.int 3 zR)))
  {xV:Tok}(xO:W.nsIn K mainGlobals "LETTERS"=some (some (.str "abcdefghijklmnopqrstuvwxyz" xV)))
  {mF:Tok}(mv:W.nsIn K mainGlobals "LONGEST_NAME"=some (some (.int 8 mF)))
  {oB:Tok}(oA:W.nsIn K mainGlobals "MOST_PLACES"=some (some (.int 7 oB)))
  {sC:Tok}(rR:W.nsIn K mainGlobals "MOST_TIES"=some (some (.int 14 sC)))
  {Im:Tok}(Ig:W.nsIn K mainGlobals "ONE"=some (some (.int 0 Im)))
  {Cy:Tok}(Cd:W.nsIn K mainGlobals "OTHER"=some (some (.int 1 Cy)))
  {zQ:Tok}(zt:W.nsIn K mainGlobals "PLACES"=some (some (.int 0 zQ)))
  {FW:Tok}(FE:W.nsIn K mainGlobals "TIES"=some (some (.int 1 FW)))
  {FV:Tok}(FD:W.nsIn K mainGlobals "WORD"=some (some (.int 2 FV)))
  {wJ:Addr}{wV:Obj}(Cc:W.nsIn K mainGlobals "WORDS"=some (some (.ref wJ))) (Co:K.lookup wJ=some wV) (Cr:∃od its n sl vs,wV=⟨.type "tuple",od,.seq its n,sl⟩/\bj vs its.toList/\its.size<=sizeLine/\∀H,Reps K H [.str "one",.str "both"] vs)
  {Cw:Tok}(Cb:W.nsIn K mainGlobals "WORTH"=some (some (.int 4 Cw))) :
  ∃t:Adr,Txt K mg t/\t.A 25=a25/\∃kV doc pm an cdv ct,t.Q 25=W.fnOf "law" "law" (defArgs (top 51)) (defBody (top 51)) (defScope (top 51)) .none kV doc pm an cdv ct:=by
 obtain⟨Q,hQ⟩:=E4 X G bn qs;have D_law:=(hQ 25 _ rfl).2;refine⟨⟨dB,_,bq,bD,cS,bh,λi=>[a0,a1,a2,a3,a4,a5,a6,a7,a8,a9,a10,a11,a12,a13,a14,a15,a16,a17,a18,a19,a20,a21,a22,a23,a24,a25].getD i 0,Q⟩,⟨λi r h=>(hQ i r h).1,W.mg_none_of X G z_ValueError,W.mg_none_of X G z_abs,W.mg_none_of X G z_all,W.mg_none_of X G z_bool,W.mg_none_of X G z_enumerate,W.mg_none_of X G z_int,W.mg_none_of X G z_isinstance,W.mg_none_of X G z_len,W.mg_none_of X G z_list,W.mg_none_of X G z_range,W.mg_none_of X G z_str,W.mg_none_of X G z_tuple,W.mg_none_of X G z_zip,W.mg_of X G lF.ns,lF,W.mg_of X G kE.i.ns,kE.i,W.mg_of X G pF.ns,pF,W.mg_of X G mw.i.ns,mw.i,kE,mw,qV sQ sP sO,?ef,zv rW rV rX rS jS,FG (zv rW rV rX rS jS) xP xQ (tw mz ( tw kF (Dm))),Al,⟨qo,qp,qm⟩,fu,gP,?eN,?ik,?jQ,?km,?lg,?fH,?gb,?iR,?pW,?jt,?dZ,?nY,?nX,?rE,?mq⟩,rfl,D_law⟩
 case ef=>exact(qV (st:=gm) sQ sP sO).binds λ_ _ _ _ _ _ us hl=>by obtain⟨_,_,_,rfl⟩:=Lb hl;rfl
 case eN=>exact cZ (W.mg_of X G lP)
 case ik=>exact cZ (W.mg_of X G Ce)
 case jQ=>exact cZ (W.mg_of X G FF)
 case km=>exact cZ (W.mg_of X G zu)
 case lg=>exact Dt (W.mg_of X G xO)
 case fH=>exact cZ (W.mg_of X G mv)
 case gb=>exact cZ (W.mg_of X G oA)
 case iR=>exact cZ (W.mg_of X G rR)
 case pW=>exact cZ (W.mg_of X G Ig)
 case jt=>exact cZ (W.mg_of X G Cd)
 case dZ=>exact cZ (W.mg_of X G zt)
 case nY=>exact cZ (W.mg_of X G FE)
 case nX=>exact cZ (W.mg_of X G FD)
 case rE=>
  obtain⟨od,its,n,sl,vs,rfl,h1,h2,h3⟩:=Cr;exact Ds (W.mg_of X G Cc) Co h1 h2 h3
 case mq=>exact cZ (W.mg_of X G Cb)
def txt_wr{K:W.Frag}{mg:Str->Option Value}{a:Addr}{R:Adr->Prop}(h:∃t:Adr,Txt K mg t/\t.A 25=a/\R t):∃t:Adr,Txt K mg t/\mg "law"=some (.ref (t.A 25))/\R t:=h.elim λt ⟨T,_,r⟩=>⟨t,T,(T.g 25 _ rfl).g,r⟩
end K65
namespace K11
open PySem L2 DL
abbrev aL:ac->ao D:=Cod.aL
end K11
namespace K12
open PySem L2 DL
abbrev aL:ac->ao D:=Cod.aL
abbrev m_ratio:ac->ao D:=Com.m_ratio
abbrev m_plus:ac->ao D:=Com.m_plus
end K12
namespace K51
open PySem L2 DL
abbrev aL:ac->ao D:=Cod.aL
def kq:bd :=
 (ar (bx (aq (af (aa (aa (ae 0) (dC (.int 0)) aD) (aa (ae 1) (dC (.int 0)) aD) bK) (af (aa (aa (ae 0) (dC (.int 1)) aD) (aa (ae 1) (dC (.int 1)) aD) bK) ax)) aL))
 au)
def eT:ac->ao D:=bH 2 kq
abbrev m_is_less:ac->ao D:=Com.m_is_less
abbrev m_ratio:ac->ao D:=Com.m_ratio
abbrev m_plus:ac->ao D:=Com.m_plus
def xG:bd :=
 (ar (bx (aq (af (aa (aa (ae 0) (dC (.int 0)) aD) (aa (ae 1) (dC (.int 0)) aD) bK) (af (aa (aa (ae 0) (dC (.int 1)) aD) (aa (ae 1) (dC (.int 1)) aD) bK) ax)) m_ratio))
 au)
def m_times:ac->ao D:=bH 2 xG
end K51
namespace K17
open PySem L2 DL
abbrev aL:ac->ao D:=Cod.aL
abbrev m_ratio:ac->ao D:=Com.m_ratio
abbrev m_is_less:ac->ao D:=Com.m_is_less
abbrev m_plus:ac->ao D:=Com.m_plus
end K17
namespace K11
open PySem L2 DL Com
def there(t:oq)(z:Str):Option Str:=if t.a=z then some t.b else if t.b=z/\t.w="both" then some t.a else none
def oS:Option Str->D
 |some z=>.str z
 |none=>.non
def vU{x y:Str}:iD (.str x) (.str y)=.ok (.bl (decide (x=y))):=by
 have h:iD (.str x) (.str y)=.ok (.bl (x==y)):=rfl;rw[h]
 by_cases e:x=y
 .rw[decide_eq_true e,e,beq_self_eq_true]
 .rw[decide_eq_false e,beq_eq_false_iff_ne.mpr e]
def ways(t:oq):List (Str×Str):=if t.w="one" then[(t.a,t.b)] else[(t.a,t.b),(t.b,t.a)]
def pr(p:Str×Str):D:=.tup [.str p.1,.str p.2]
noncomputable def JA(w:eG) (ks:bi) (seen:List Str) (here:Str) (d:D):Option Str :=
 if here=w.la then none else match d with
 |.int n=>if 0<=n/\n<(w.ts.length:Int)/\n.toNat∉ks then match w.ts[n.toNat]? with
   |some t=>match there t here with
    |some y=>if y∈seen then none else some y
    |none=>none
   |none=>none
  else none
 |_=>none
def Ml(d:D):Prop:=Wex.plainD d=true∨d=.dic [] []
def Kp{pre:List Str}{here:Str}:aD (.lst ((pre++[here]).map D.str)) (.int (-1))=.ok (.str here):=by
 rw[List.map_append];exact xg
def walk(w:eG)(ks:bi):List Str->Str->Nat->ac->Nat ⊕ List Str
 |pre,here,_,[]=>.inr (pre++[here])
 |pre,here,i,d::r=>match JA w ks (pre++[here]) here d with
  |none=>.inl i
  |some y=>walk w ks (pre++[here]) y (i+1) r
def JV(w:eG)(n:Nat):Nat ⊕ List Str->Option Nat
 |.inl j=>some j
 |.inr seen=>if seen.getLast?=some w.la then none else some n
end K11
namespace K11
open PySem L2 DL Com Bor
abbrev tm(ks:bi):ac:=ks.map λ(k:Nat)=>D.int (k:Int)
end K11
namespace K51
open PySem L2 DL Com Bor
structure El (x:gN):Prop where
 lo:Low x
 p0:0<=x.1
 p1:x.1<1152921504606846976
 q1:x.2<1152921504606846976
def Jg{a:Int}{m n:Nat}(h:a.natAbs<2 ^ m)(hm:m<=n):a.natAbs<2 ^ n:=Nat.lt_of_lt_of_le h (Nat.pow_le_pow_right (by decide) hm)
def gS{a b:Int}{m n:Nat}(h:a.natAbs<2 ^ m)(h':b.natAbs<2 ^ n):(a*b).natAbs<2 ^ (m+n):=by
 rw[Int.natAbs_mul,Nat.pow_add];exact Nat.mul_lt_mul'' h h'
def HV{a b:Int}{m:Nat}(h:a.natAbs<2 ^ m)(h':b.natAbs<2 ^ m):(a+b).natAbs<2 ^ (m+1):=by
 have:=Int.natAbs_add_le a b;rw[Nat.pow_succ];omega
def mt(x y:gN):gN:=zm (x.1*y.1) (x.2*y.2)
def pl(x y:gN):gN:=zm (un x y).1 (un x y).2
def i0(u:gN):aD (fr u) (.int 0)=.ok (.int u.1):=rfl
def i1(u:gN):aD (fr u) (.int 1)=.ok (.int u.2):=rfl
structure Bd (x:gN) (n:Nat):Prop where
 q0:0<x.2
 a:x.1.natAbs<2 ^ n
 b:x.2.natAbs<2 ^ n
def Bd.c13{x:gN}{n:Nat}(h:Bd x n)(hn:n<=6000):x.1.natAbs<uK/\x.2.natAbs<uK:=by
 have:2 ^ n<=uK:=by rw[rM];exact Nat.pow_le_pow_right (by decide) (Nat.le_trans hn (by decide))
 exact⟨Nat.lt_of_lt_of_le h.a this,Nat.lt_of_lt_of_le h.b this⟩
def Bd.c60{x:gN}{n:Nat}(h:Bd x n)(hn:n<=6000):x.1.natAbs<wo/\x.2.natAbs<wo:=⟨Nat.lt_of_lt_of_le (h.c13 hn).1 xN,Nat.lt_of_lt_of_le (h.c13 hn).2 xN⟩
def GC{a b:Int}{n:Nat}(hb:0<b)(h1:a.natAbs<2 ^ n)(h2:b.natAbs<2 ^ n):Bd (zm a b) n:=⟨by have:=(wZ (a:=a) hb).q1;omega,Nat.lt_of_le_of_lt w6 h1,Nat.lt_of_le_of_lt w4 h2⟩
def LH{x y:gN}{m n:Nat}(hx:Bd x m)(hy:Bd y n):Bd (mt x y) (m+n):=GC (Int.mul_pos hx.q0 hy.q0) (gS hx.a hy.a) (gS hx.b hy.b)
def un_bd{x y:gN}{m n:Nat}(hx:Bd x m)(hy:Bd y n):Bd (un x y) (m+n+1):=by
 refine⟨Int.mul_pos hx.q0 hy.q0,?_,Jg (gS hx.b hy.b) (by omega)⟩;have h1:=gS hx.a hy.b;have h2:=gS hy.a hx.b;rw[Nat.add_comm n m]at h2;exact HV h1 h2
def Ib{x y:gN}{m n:Nat}(hx:Bd x m)(hy:Bd y n)(h:m+n<=6000):eT [fr x,fr y]=.ok (fr (mt x y)):=by
 have b1:=hx.c60 (by omega);have b2:=hy.c60 (by omega);have hp:Bd (x.1*y.1,x.2*y.2) (m+n):=⟨Int.mul_pos hx.q0 hy.q0,gS hx.a hy.a,gS hx.b hy.b⟩
 have hc:=hp.c13 h;have m1:=cu (eK b1.1 b2.1);have m2:=cu (eK b1.2 b2.2);have hlo:aL [.int (x.1*y.1),.int (x.2*y.2)]=.ok (fr (mt x y)):=Cod.low_ok hp.q0 hc.1 hc.2;open_line with[eT,kq,i0,i1,m1,m2,hlo]
def Ik{x y:gN}{m n:Nat}(hx:Bd x m)(hy:Bd y n)(h:m+n<=6000):m_times [fr x,fr y]=.ok (fr (mt x y)):=by
 have b1:=hx.c60 (by omega);have b2:=hy.c60 (by omega);have hp:Bd (x.1*y.1,x.2*y.2) (m+n):=⟨Int.mul_pos hx.q0 hy.q0,gS hx.a hy.a,gS hx.b hy.b⟩
 have hc:=hp.c13 h;have m1:=cu (eK b1.1 b2.1);have m2:=cu (eK b1.2 b2.2);have hlo:m_ratio [.int (x.1*y.1),.int (x.2*y.2)]=.ok (fr (mt x y)):=mM hp.q0 hc.1 hc.2;open_line with[m_times,xG,i0,i1,m1,m2,hlo]
def Kl{x y:gN}{m n:Nat}(hx:Bd x m)(hy:Bd y n)(h:m+n<=5900):m_plus [fr x,fr y]=.ok (fr (pl x y)):=by
 have b1:=hx.c60 (by omega);have b2:=hy.c60 (by omega);have hp:=un_bd hx hy;have hc:=hp.c13 (by omega);have m1:=cu (eK b1.1 b2.2);have m2:=cu (eK b2.1 b1.2);have m3:=cu (eK b1.2 b2.2);have hlo:m_ratio [.int (x.1*y.2+y.1*x.2),.int (x.2*y.2)]=.ok (fr (pl x y)):=mM hp.q0 hc.1 hc.2;open_line with[Com.m_plus,Com.b_plus,i0,i1,m1,m2,m3,hlo]
def Ko{x y:gN}{m n:Nat}(hx:Bd x m)(hy:Bd y n)(hm:m<=6000)(hn:n<=6000):m_is_less [fr x,fr y]=.ok (.bl (flt x y)) :=
 tL (hx.c60 hm).1 (hx.c60 hm).2 (hy.c60 hn).1 (hy.c60 hn).2
end K51
namespace Pth
open PySem L2 DL Com Bor K17
open K11 (tm ways pr vU)
def Ke(w:eG)(ks:bi)(n:Nat)(a b:Str):Prop:=∃t,w.ts[n]?=some t/\n∉ks/\(a,b)∈ways t
inductive ET (w:eG) (ks:bi) (a:Str):bi->Str->Prop where
 |nil:ET w ks a [] a
 |snoc {p:bi}{b c:Str}{n:Nat}:ET w ks a p b->Ke w ks n b c->ET w ks a (p++[n]) c
section
variable {ρ:Ev}{i:Nat}{f k:am}{ks:List Str}{ds:ac}{d:D}
def kW:sL i f ρ=(f ρ).bind (AD i ρ):=aK rfl
def jl:AD i ρ (.dic ks ds)=.ok (.nx (ρ.set i (.ow (.dic ks ds)))):=aK rfl
def Fe(i:Nat)(f k:am)(ρ:Ev)(s:Option Sl):ao Fl:=match s with
 |some (.ow (.dic ks ds))=>(f ρ).bind λd=>(k ρ).bind (jW i ρ ks ds d)
 |_=>.stuck
def kU:jD i f k ρ=Fe i f k ρ ρ[i]?:=aK rfl
def Fd(i:Nat)(k:am)(ρ:Ev)(ks:List Str)(ds:ac)(d:D):ao Fl:=(k ρ).bind (jW i ρ ks ds d)
def ji:Fe i f k ρ (some (.ow (.dic ks ds)))=(f ρ).bind (Fd i k ρ ks ds):=aK rfl
def jh:Fd i k ρ ks ds d=(k ρ).bind (jW i ρ ks ds d):=aK rfl
def jg{x:Str}(h:decide (ks.length<=900)=true):jW i ρ ks ds d (.str x)=.ok (.nx (ρ.set i (.ow (oJ ks ds x d)))):=if_pos (Nat.lt_of_le_of_lt (of_decide_eq_true h) (by decide))
end
open K11 (tm ways pr vU)
theorem BQ{g:Str->D}{k:Str}:∀{ps:List Str},qe ps (ps.map g) k=if k∈ps then some (g k) else none
 |[]=>rfl
 |p::ps=>by
  rw[List.map_cons,qe]
  by_cases h:p=k
  .subst h;simp
  .rw[if_neg h,BQ]
   have:k≠p:=λz=>h z.symm;simp[this]
end Pth
namespace Vlu
open PySem L2 DL Com Bor Pth
open K11 (tm ways pr vU)
open K51 (Bd pl)
abbrev m_ratio:ac->ao D:=Com.m_ratio
noncomputable def xH:bd :=
 (ar (bx (aq (af (aa (aa (aa (ae 0) (dC (.int 0)) aD) (aa (ae 1) (dC (.int 1)) aD) bK) (aa (aa (ae 1) (dC (.int 0)) aD) (aa (ae 0) (dC (.int 1)) aD) bK) fM) (af (aa (aa (ae 0) (dC (.int 1)) aD) (aa (ae 1) (dC (.int 1)) aD) bK) ax)) m_ratio))
 au)
def m_minus:ac->ao D:=bH 2 xH
def mi(x y:gN):gN:=zm (x.1*y.2-y.1*x.2) (x.2*y.2)
def Jo{x y:gN}{m n:Nat}(hx:Bd x m)(hy:Bd y n)(h:m+n<=5900):m_minus [fr x,fr y]=.ok (fr (mi x y)):=by
 have b1:=hx.c60 (by omega);have b2:=hy.c60 (by omega);have hy':Bd (-y.1,y.2) n:=⟨hy.q0,by show(-y.1).natAbs<_;rw[Int.natAbs_neg];exact hy.a,hy.b⟩
 have hp:=K51.un_bd hx hy';have hc:=hp.c13 (by omega);have m1:=cu (eK b1.1 b2.2);have m2:=cu (eK b2.1 b1.2);have m3:=cu (eK b1.2 b2.2);have e:x.1*y.2 + -y.1*x.2=x.1*y.2-y.1*x.2:=by rw[Int.neg_mul];omega
 have hlo:m_ratio [.int (x.1*y.2-y.1*x.2),.int (x.2*y.2)]=.ok (fr (mi x y)):=by
  have h1:=hc.1;have h2:=hc.2;unfold un at h1 h2;simp only[e]at h1;exact mM hp.q0 h1 h2
 have i0:∀z:gN,aD (fr z) (.int 0)=.ok (.int z.1):=λ_=>rfl;have i1:∀z:gN,aD (fr z) (.int 1)=.ok (.int z.2):=λ_=>rfl;open_line with[m_minus,xH,i0,i1,m1,m2,m3,fM,hlo]
end Vlu
namespace Bfd
open PySem L2 DL Com Bor Pth Vlu
open K11 (tm ways pr there oS)
open K51 (Bd pl)
abbrev aL:ac->ao D:=Cod.aL
theorem rep_map{g:Str->D}{x:Str}{d:D}:∀{ks:List Str},va ks (ks.map g) x d=ks.map λk=>if k=x then d else g k
 |[]=>rfl
 |k::ks=>by rw[List.map_cons,va,rep_map,List.map_cons]
end Bfd
namespace K21
open PySem L2 DL
abbrev aL:ac->ao D:=Cod.aL
abbrev m_ratio:ac->ao D:=Com.m_ratio
abbrev m_minus:ac->ao D:=Vlu.m_minus
abbrev m_is_less:ac->ao D:=Com.m_is_less
end K21
namespace K15
open PySem L2 DL
abbrev aL:ac->ao D:=Cod.aL
abbrev m_ratio:ac->ao D:=Com.m_ratio
abbrev m_is_less:ac->ao D:=Com.m_is_less
abbrev m_plus:ac->ao D:=Com.m_plus
end K15
namespace K15
open PySem L2 DL Com Bor Pth
open K11 (tm ways pr there oS)
def uR{zs:List Str}{t:oq}(T:jH zs t){a b:Str}:there t a=some b↔(a,b)∈ways t:=by
 have ne:=T.ne;unfold there ways;rcases T.w with e|e
 .rw[if_pos e]
  constructor
  .intro h
   split at h
   .next h1=>cases h;subst h1;exact List.mem_singleton.mpr rfl
   .split at h
    .next h2=>rw[e]at h2;exact absurd h2.2 (by decide)
    .cases h
  .intro h
   have:=List.mem_singleton.mp h;cases this;rw[if_pos rfl]
 .have e1:t.w≠"one":=by rw[e];decide
  rw[if_neg e1];constructor
  .intro h
   split at h
   .next h1=>cases h;subst h1;exact List.mem_cons_self
   .split at h
    .next h2=>cases h;rw[←h2.1];exact List.mem_cons_of_mem _ (List.mem_singleton.mpr rfl)
    .cases h
  .intro h
   rcases List.mem_cons.mp h with h|h
   .cases h;rw[if_pos rfl]
   .have:=List.mem_singleton.mp h
    cases this;rw[if_neg ne,if_pos ⟨rfl,e⟩]
structure FA where
 y:bi
 s:List Str
 z:Str
def FA.seen(e:FA):List Str:=e.s++[e.z]
structure Ki (w:eG) (ks:bi) (e:FA):Prop where
 wk:ET w ks w.fi e.y e.z
 nd:e.seen.Nodup
 pl:∀p∈e.seen,p∈w.ps
 ln:e.y.length=e.s.length
inductive KA (w:eG) (ks:bi):FA->bi->Prop where
 |here {e:FA}:e.z=w.la->KA w ks e e.y
 |step {e:FA}{n:Nat}{b:Str}{p:bi}:e.z≠w.la->Ke w ks n e.z b->b∉e.seen->KA w ks ⟨e.y++[n],e.seen,b⟩ p->KA w ks e p
end K15
namespace Way
open PySem L2 DL Com Bor Pth K15
open K11 (tm ways pr there oS)
def un(w:eG)(e:FA):List Str:=w.ps.filter λu=>decide (u∉e.seen)
end Way
namespace K54
open PySem L2 DL
abbrev aL:ac->ao D:=Cod.aL
abbrev m_ratio:ac->ao D:=Com.m_ratio
abbrev m_plus:ac->ao D:=Com.m_plus
abbrev m_times:ac->ao D:=K51.m_times
abbrev m_minus:ac->ao D:=Vlu.m_minus
abbrev m_is_less:ac->ao D:=Com.m_is_less
abbrev eT:ac->ao D:=K51.eT
end K54
namespace Way
open PySem L2 DL Com Bor Pth
open K15 (FA Ki KA uR)
open K11 (tm ways there JA walk JV Ml)
def Mm(p:bi×gN):D:=.tup [.lst (tm p.1),fr p.2]
end Way
namespace K65
open PySem L2 DL Com
open Cod (HD S eS lZ BX)
def CB:List Int:=[12,420,60,9,14]++HD
def zT{ρ:Ev}:(aa (aq (af (dC (.int 12)) (af (dC (.int 420)) (af (dC (.int 60)) (af (dC (.int 9)) (af (dC (.int 14)) ax))))) bG) (lT (aa (aq (af (dC (.int 8)) (af (dC (.int 3)) ax)) bG) (lT (aq (af (dC (.int 26)) ax) bG) (dC (.int 8))) kj) (dC (.int 7))) bo) ρ=.ok (.lst (CB.map D.int)):=rfl
def LL:List Int:=[2,2,3,3,4,4,5,5,6,7,2,3]
def HN{k:Int}(h0:0<=k)(h1:k<12):∃m:Nat,aD (.lst [.int 2,.int 2,.int 3,.int 3,.int 4,.int 4,.int 5,.int 5,.int 6,.int 7,.int 2,.int 3]) (.int k)=.ok (.int ((2+m:Nat):Int))/\m<=5:=by
 obtain⟨n,rfl⟩:=Int.eq_ofNat_of_zero_le h0;have hn:n<12:=by omega
 have key:∀n<12,∃m≤5,LL[n]?=some ((2+m:Nat):Int):=by decide
 obtain⟨m,hm,e⟩:=key n hn;refine⟨m,eL (ds:=LL.map D.int) (k:=n) ?_,hm⟩;rw[List.getElem?_map,e];rfl
set_option maxHeartbeats 1000000 in
def A8{c:Int}{cs:List Int}(hn:cs.length<=7):∃w,cj [.lst ((c::cs).map D.int)]=.ok (aB w)/\bF w:=by
 obtain⟨vs,hd,W⟩:=Cod.draws_ok c CB (by decide) (by decide);have hvl:vs.length=75:=W.len;obtain⟨d0,g0,b0,i0⟩:=W.ix 0 0 rfl rfl;obtain⟨d1,g1,b1,i1⟩:=W.ix 1 1 rfl rfl;obtain⟨d2,g2,b2,i2⟩:=W.ix 2 2 rfl rfl;obtain⟨d3,g3,b3,i3⟩:=W.ix 3 3 rfl rfl;obtain⟨d4,g4,b4,i4⟩:=W.ix 4 4 rfl rfl;have W3:Drawn HD (vs.drop 5):=⟨by rw[List.length_drop,hvl];rfl,λi v s e1 e2=>by
  rw[List.getElem?_drop]at e1;refine W.bnd (5+i) v s e1 ?_;have:CB[5+i]?=HD[i]?:=by
   unfold CB;rw[List.getElem?_append_right (by simp)];simp
  rw[this];exact e2⟩
 obtain⟨m,hm,hm5⟩:=HN b0.1 b0.2;obtain⟨css,hnm,hcl,hnd,hall⟩:=Cod.names_ok W3 (n:=2+m) (by omega);have hnm':cJ [.lst ((vs.drop 5).map D.int),.int ((2+m:Nat):Int)]=.ok (.lst ((css.map S).map D.str)):=by
  have:eS css=(css.map S).map D.str:=by unfold eS;rw[List.map_map];rfl
  rw[←this];exact hnm
 have hzl:(css.map S).length=2+m:=by rw[List.length_map,hcl]
 have nd:(css.map S).Nodup:=by
  rw[List.nodup_iff_pairwise_ne,List.pairwise_map];exact List.Pairwise.imp (λh z=>h (BX z)) (List.nodup_iff_pairwise_ne.mp hnd)
 have nm:fT (css.map S):=⟨nd,λz hz=>by
  obtain⟨cs,hc,rfl⟩:=List.mem_map.mp hz;exact(hall cs hc).nameB⟩
 generalize css.map S=zs at *;have hcut:fZ (vs.map D.int) (some 5) none=(vs.drop 5).map D.int:=by
  rw[fR,HT.sIx_none,show(5:Int)=((5:Nat):Int) from rfl,HT.sIx_nat,hvl];rw[List.take_of_length_le (by rw[List.length_drop];omega)];rfl
 have hcut1:fZ (D.int c::cs.map D.int) (some 1) none=cs.map D.int:=by
  rw[show D.int c::cs.map D.int=(c::cs).map D.int from rfl,fR,HT.sIx_none,show(1:Int)=((1:Nat):Int) from rfl,HT.sIx_nat];rw[List.take_of_length_le (by rw[List.length_drop];simp)];simp
 have hix0:aD (.lst (D.int c::cs.map D.int)) (.int 0)=.ok (.int c):=eL (k:=0) rfl;have hh:(aa (ae 0) (dC (.int 0)) aD) [.sh (.lst (D.int c::cs.map D.int)),.no,.no,.no,.no,.no,.no,.no]=.ok (.int c):=hix0;have hn0:((zs.length:Int)==0)=false:=beq_eq_false_iff_ne.mpr (by omega);have hn1:((zs.length:Int)-1==0)=false:=beq_eq_false_iff_ne.mpr (by omega);have f1:=dj (a:=d1) (b:=(zs.length:Int)) (by omega);have f2:=dj (a:=d2) (b:=(zs.length:Int)-1) (by omega);obtain⟨hr,hne⟩:=qf (n:=(zs.length:Int)) (d:=d1.fmod (zs.length:Int)) (e:=d2.fmod ((zs.length:Int)-1)) (by omega) f1.1 f1.2 f2.1 f2.2;obtain⟨f,hf⟩:=Int.eq_ofNat_of_zero_le f1.1;obtain⟨l,hl⟩:=Int.eq_ofNat_of_zero_le hr.1;have hfn:f<zs.length:=by omega
 have hln:l<zs.length:=by omega
 have hfl:f≠l:=by omega
 have hixf:aD (.lst (zs.map D.str)) (.int (f:Int))=.ok (.str zs[f]):=eL (by rw[List.getElem?_map,List.getElem?_eq_getElem hfn];rfl);have hixl:aD (.lst (zs.map D.str)) (.int (l:Int))=.ok (.str zs[l]):=eL (by rw[List.getElem?_map,List.getElem?_eq_getElem hln];rfl);obtain⟨w2,w8⟩:=Cod.walk_len nd hfn hln hfl;have hwl:(Cod.amid zs f l).length+2=(Cod.walk zs f l).length:=by unfold Cod.walk;simp
 have a1:bo (.lst [.str zs[f]]) (.lst ((Cod.amid zs f l).map D.str))=.ok (.lst (.str zs[f]::(Cod.amid zs f l).map D.str)):=by
  rw[gY (decide_eq_true (by rw[List.length_map];simp;omega))];rfl
 have a2:bo (.lst (.str zs[f]::(Cod.amid zs f l).map D.str)) (.lst [.str zs[l]])=.ok (.lst ((Cod.walk zs f l).map D.str)):=by
  rw[gY (decide_eq_true (by simp;omega))];unfold Cod.walk;rw[List.map_cons,List.map_append,List.getElem?_eq_getElem hfn,List.getElem?_eq_getElem hln];rfl
 obtain⟨ts,hts,htl,htall⟩:=Cod.ties_comp (ws:=Cod.walk zs f l) (cs:=cs) w2 (by omega) (Cod.walk_nd nd hfn hln hfl) (by omega) (x0:=.sh (.lst (D.int c::cs.map D.int))) (x1:=.sh (.lst (vs.map D.int))) (x2:=.sh (.lst (zs.map D.str))) (x3:=.sh (.int (f:Int))) (x4:=.sh (.int (l:Int))) (x5:=.sh (.lst ((Cod.amid zs f l).map D.str))) (x7:=.no);have ok:∀ts':List oq,ts'.length<=14->(∀t∈ts',jH (Cod.walk zs f l) t)->bF ⟨zs,ts',zs[f],zs[l]⟩:=λts' h14 hall'=>⟨by show 2<=zs.length;omega,by show zs.length<=7;omega,nm,h14,λt ht=>by
  have T:=hall' t ht;exact⟨Cod.walk_sub hfn hln _ T.a,Cod.walk_sub hfn hln _ T.b,T.ne,T.w,T.l,T.l0,T.o⟩,List.getElem_mem hfn,List.getElem_mem hln,λz=>hfl ((List.getElem_inj nd).mp z)⟩
 have a3:bo (.lst (ts.map aP)) (.lst (ts.map aP))=.ok (.lst ((ts++ts).map aP)):=by
  rw[gY (decide_eq_true (by rw[List.length_map];omega)),List.map_append]
 obtain⟨ts2,hc2,hsub,hl2⟩:∃ts2:List oq,fZ ((ts++ts).map aP) none (some (1+d4))=ts2.map aP/\(∀t∈ts2,t∈ts)/\ts2.length<=14:=by
  rw[fR];refine⟨_,rfl,λt ht=>?_,?_⟩
  .have:=List.mem_of_mem_drop (List.mem_of_mem_take ht)
   rcases List.mem_append.mp this with h|h<;>exact h
  .refine Nat.le_trans (List.length_take_le' ..) ?_
   rw[List.length_drop,List.length_append];omega
 cases h3:(d3==0) with
 |true=>
  refine⟨⟨zs,ts2,zs[f],zs[l]⟩,?_,ok ts2 hl2 λt ht=>htall t (hsub t ht)⟩;rw[cj,il,List.map_cons,kT];show((ar _ _) [.sh (.lst (D.int c::cs.map D.int)),.no,.no,.no,.no,.no,.no,.no]).bind oH=_;rw[kS,kR,Br,kd,hh,nH,nK,kd,zT];open_line with[hd,hcut,i0,hm,hnm',i1,i2,List.length_map,hn0,hn1,fM,hf]
  rw[hf]at hl;open_line with[hl,hcut1,c9,qY,nG,Cod.amid_comp (show zs.length<=8 by omega),hixf,hixl,a1,a2,hts,i3,h3,i4,a3,hc2]
  rfl
 |false=>
  refine⟨⟨zs,ts,zs[f],zs[l]⟩,?_,ok ts (by omega) htall⟩;rw[cj,il,List.map_cons,kT];show((ar _ _) [.sh (.lst (D.int c::cs.map D.int)),.no,.no,.no,.no,.no,.no,.no]).bind oH=_;rw[kS,kR,Br,kd,hh,nH,nK,kd,zT];open_line with[hd,hcut,i0,hm,hnm',i1,i2,List.length_map,hn0,hn1,fM,hf]
  rw[hf]at hl;open_line with[hl,hcut1,c9,qY,nG,Cod.amid_comp (show zs.length<=8 by omega),hixf,hixl,a1,a2,hts,i3,h3]
  rfl
def cl(ns:List Int):List Int:=(ns++[0]).take 63
def BK{ns:List Int}(h:ns.length<=63):1<=(cl ns).length/\(cl ns).length<=63:=by
 unfold cl;rw[List.length_take,List.length_append];simp;omega
def pT{ns:List Int}:fZ ((ns++[0]).map D.int) none (some 63)=(cl ns).map D.int:=by
 rw[fR,HT.sIx_none,show(63:Int)=((63:Nat):Int) from rfl,HT.sIx_nat];unfold cl;rw[List.drop_zero,Nat.sub_zero];refine congrArg _ ?_
 by_cases h:63<=(ns++[0]).length
 .rw[Nat.min_eq_left h]
 .rw[Nat.min_eq_right (by omega),List.take_length,List.take_of_length_le (by omega)]
def pU{ns:List Int}(h:ns.length<=63):bo (.lst (ns.map D.int)) (.lst [.int 0])=.ok (.lst ((ns++[0]).map D.int)):=by
 rw[gY (decide_eq_true (by rw[List.length_map];simp;omega)),List.map_append];rfl
def BL{L:List Int}{j:Nat}(hj:8*j<L.length):∃(c:Int) (cs:List Int),fZ (L.map D.int) (some ((8*j:Nat):Int)) (some (((8*j:Nat):Int)+8))=(c::cs).map D.int/\cs.length<=7:=by
 rw[fR,show(((8*j:Nat):Int)+8)=((8*j+8:Nat):Int) by omega,HT.sIx_nat,HT.sIx_nat];generalize hX:(L.drop (min (8*j) L.length)).take (min (8*j+8) L.length-min (8*j) L.length)=X;have hl:X.length=min (8*j+8) L.length-8*j:=by
  rw[←hX,List.length_take,List.length_drop];omega
 cases X with|nil=>simp at hl;omega|cons c cs=>exact⟨c,cs,rfl,by simp at hl;omega⟩
def yI{ns:List Int}(h:ns.length<=63):∃ws:List eG,cq [.lst (ns.map D.int)]=.ok (.lst (ws.map aB))/\(∀w∈ws,bF w)/\ws.length<=8/\1<=ws.length/\∀k<ws.length,8*k<(cl ns).length:=by
 obtain⟨l1,l63⟩:=BK h;generalize hL:cl ns=L at *;have key:∀j:Nat,∃w:eG,8*j<L.length->cj [.lst (fZ (L.map D.int) (some ((8*j:Nat):Int)) (some (((8*j:Nat):Int)+8)))]=.ok (aB w)/\bF w:=λj=>by
  by_cases hj:8*j<L.length
  .obtain⟨c,cs,e,hc⟩:=BL hj
   rw[e];obtain⟨w,h1,h2⟩:=A8 (c:=c) hc;exact⟨w,λ_=>⟨h1,h2⟩⟩
  .exact⟨⟨[],[],"",""⟩,λz=>absurd z hj⟩
 obtain⟨g,hg⟩:∃g:Nat->eG,∀j:Nat,8*j<L.length->cj [.lst (fZ (L.map D.int) (some ((8*j:Nat):Int)) (some (((8*j:Nat):Int)+8)))]=.ok (aB (g j))/\bF (g j):=⟨λj=>Classical.choose (key j),λj=>Classical.choose_spec (key j)⟩
 generalize hN:n2 0 (L.length:Int) 8=N;have hN1:∀j<N,8*j<L.length:=λj hj=>by
  rw[←hN]at hj;unfold n2 at hj;rw[if_pos (by omega)]at hj;omega
 have hN2:N<=8/\1<=N:=by
  rw[←hN];unfold n2;rw[if_pos (by omega)];omega
 have hr3:sF (dC (.int 0)) (aq (af (ae 1) ax) (m1 cN)) (dC (.int 8)) [.sh (.lst (ns.map D.int)),.sh (.lst (L.map D.int))]=.ok (cF 0 8 N):=by
  have e:af (dC (.int 0)) (af (aq (af (ae 1) ax) (m1 cN)) (af (dC (.int 8)) ax)) [.sh (.lst (ns.map D.int)),.sh (.lst (L.map D.int))]=.ok [.int 0,.int (L.length:Int),.int 8]:=by
   rw[show(L.length:Int)=((L.map D.int).length:Int) by rw[List.length_map]];generalize L.map D.int=M;rfl
  unfold sF;rw[e];show r3 (.int 0) (.int (L.length:Int)) (.int 8)=_;unfold r3;rw[←hN];exact if_pos ⟨⟨by decide,by decide⟩,⟨by decide,by decide⟩,by omega,by omega⟩
 have hcomp:dY 1 [1] (bV 0) mYes (aq (af (ez (ae 1) (bM (ae 0)) (bM (aa (ae 0) (dC (.int 8)) bo))) ax) cj) [.sh (.lst (ns.map D.int)),.sh (.lst (L.map D.int))] (cF 0 8 N)=.ok (.lst (((List.range N).map g).map aB)):=by
  rw[gJ (F:=λd=>match d with|.int i=>aB (g (i.toNat / 8))|d=>d) (by unfold cF;simp;omega)]
  .congr 2
   unfold cF;rw[List.map_map,List.map_map];refine List.map_congr_left λj hj=>?_;show aB (g (((0:Int)+(j:Int)*8).toNat / 8))=aB (g j);rw[show((0:Int)+(j:Int)*8).toNat / 8=j by omega]
  .intro d hd
   unfold cF at hd;obtain⟨j,hj,rfl⟩:=List.mem_map.mp hd;have hj:=List.mem_range.mp hj;have e:(0:Int)+(j:Int)*8=((8*j:Nat):Int):=by omega
   rw[e];refine⟨[.sh (.int ((8*j:Nat):Int)),.sh (.lst (L.map D.int))],rfl,rfl,?_⟩;have hc:=(hg j (hN1 j hj)).1;have e2:(((8*j:Nat):Int)).toNat / 8=j:=by omega
   open_line with[hc,e2]
 refine⟨(List.range N).map g,?_,λw hw=>?_,by simp;omega,by simp;omega,λk hk=>hN1 k (by simpa using hk)⟩
 .open_line with[cq,jG,pU h,pT,hL,c9,hr3,hcomp]
 .obtain⟨j,hj,rfl⟩:=List.mem_map.mp hw
  exact(hg j (hN1 j (List.mem_range.mp hj))).2
def rn(p q z:Str):Str:=if z=q then p else z
def B4(p q:Str)(t:oq):oq:=⟨rn p q t.a,rn p q t.b,t.w,t.l,t.o⟩
def LD(p q:Str)(v:eG):eG:=⟨v.ps.map (rn p q),v.ts.map (B4 p q),rn p q v.fi,rn p q v.la⟩
def u0{p q:Str}{zs:List Str}(hp:p∉zs){x y:Str}(hx:x∈zs)(hy:y∈zs)(h:rn p q x=rn p q y):x=y:=by
 unfold rn at h;split at h<;>split at h
 .rename_i a b;rw[a,b]
 .exact absurd (h▸hy) hp
 .exact absurd (h▸hx) hp
 .exact h
def F5{p q:Str}{v:eG}(W:bF v)(hp:p∉v.ps)(hb:nameB p=true):bF (LD p q v):=by
 have mem:∀z∈v.ps,rn p q z∈v.ps.map (rn p q):=λz hz=>List.mem_map.mpr ⟨z,hz,rfl⟩;refine⟨by show 2<=(v.ps.map _).length;rw[List.length_map];exact W.n2,by show(v.ps.map _).length<=7;rw[List.length_map];exact W.n7,⟨?_,λz hz=>?_⟩,by show(v.ts.map _).length<=14;rw[List.length_map];exact W.t14,λt ht=>?_,mem _ W.fi,mem _ W.la,λz=>W.ne (u0 hp W.fi W.la z)⟩
 .show(v.ps.map _).Nodup
  rw[List.nodup_iff_pairwise_ne,List.pairwise_map];exact List.Pairwise.imp_of_mem (λha hb hab z=>hab (u0 hp ha hb z)) (List.nodup_iff_pairwise_ne.mp W.nm.1)
 .obtain⟨y,hy,rfl⟩:=List.mem_map.mp hz
  unfold rn;split
  .exact hb
  .exact W.nm.2 y hy
 .obtain⟨s,hs,rfl⟩:=List.mem_map.mp ht
  have T:=W.ts s hs;exact⟨mem _ T.a,mem _ T.b,λz=>T.ne (u0 hp T.a T.b z),T.w,T.l,T.l0,T.o⟩
def Jt{z q:Str}:dH (.bl (z==q))=.ok (.int (if z=q then 1 else 0)):=by
 by_cases h:z=q
 .rw[if_pos h,h,beq_self_eq_true q];rfl
 .rw[if_neg h,beq_eq_false_iff_ne.mpr h];rfl
def Jr{z p q:Str}:aD (.lst [.str z,.str p]) (.int (if z=q then 1 else 0))=.ok (.str (rn p q z)):=by
 unfold rn
 by_cases h:z=q
 .rw[if_pos h,if_pos h];rfl
 .rw[if_neg h,if_neg h];rfl
def C0{i j k:Nat}{ρ:Ev}{z p q:Str}(hz:ρ[i]?=some (.sh (.str z)))(hp:ρ[j]?=some (.sh (.str p)))(hq:ρ[k]?=some (.sh (.str q))):(aa (aq (af (ae i) (af (ae j) ax)) bG) (aq (af (aa (ae i) (ae k) iD) ax) (m1 dH)) aD) ρ=.ok (.str (rn p q z)):=by
 by_cases h:z=q
 .have e:(z==q)=true:=by rw[h];exact beq_self_eq_true q
  open_line with[hz,hp,hq,jf,e]
  unfold rn;rw[if_pos h]
 .have e:(z==q)=false:=beq_eq_false_iff_ne.mpr h
  open_line with[hz,hp,hq,jf,e]
  unfold rn;rw[if_neg h]
def wC{ρ:Ev}{p q:Str}{zs:List Str}(h7:zs.length<=7)(h5:ρ[5]?=some (.sh (.str p)))(h6:ρ[6]?=some (.sh (.str q))):dY 1 [5,6] (bV 0) mYes (aa (aq (af (ae 0) (af (ae 1) ax)) bG) (aq (af (aa (ae 0) (ae 2) iD) ax) (m1 dH)) aD) ρ (zs.map D.str)=.ok (.lst ((zs.map (rn p q)).map D.str)):=by
 rw[gJ (F:=λd=>match d with|.str z=>.str (rn p q z)|d=>d) (by rw[List.length_map];omega)]
 .congr 2
  rw[List.map_map,List.map_map];rfl
 .intro d hd
  obtain⟨z,_,rfl⟩:=List.mem_map.mp hd;refine⟨[.sh (.str z),.sh (.str p),.sh (.str q)],?_,rfl,C0 rfl rfl rfl⟩;show bV 0 (cc 1 [5,6] ρ) (.str z)=_;have e:cc 1 [5,6] ρ=[.no,.sh (.str p),.sh (.str q)]:=by
   unfold cc;simp[h5,h6,iA]
  rw[e];rfl
def Lz:List Int:=CB++[3,420,420,2]
def uV:bo (.lst (CB.map D.int)) (.lst [.int 3,.int 420,.int 420,.int 2])=.ok (.lst (Lz.map D.int)):=rfl
noncomputable def Kk:bd :=
 (ar (aN 8 (aa (aq (af (ae 8) (af (ae 5) ax)) bG) (aq (af (aa (ae 8) (ae 6) iD) ax) (m1 dH)) aD))
 (ar (eB 7 (aq (af (ae 8) (af (aa (aq (af (ae 9) (af (ae 5) ax)) bG) (aq (af (aa (ae 9) (ae 6) iD) ax) (m1 dH)) aD) (af (ae 10) (af (ae 11) (af (ae 12) ax))))) dm))
 au))
def F6{x0 x1 x2 x3 x4:D}{p q:Str}{ts:List oq}(h14:ts.length<=14){a8 a9 a10 a11 a12:Sl}:∃b8 b9 b10 b11 b12,bW (eV [8,9,10,11,12]) Kk (ts.map aP) [.sh x0,.sh x1,.sh x2,.sh x3,.sh x4,.sh (.str p),.sh (.str q),.ow (.lst []),a8,a9,a10,a11,a12,.no]=.ok (.nx [.sh x0,.sh x1,.sh x2,.sh x3,.sh x4,.sh (.str p),.sh (.str q),.ow (.lst ((ts.map (B4 p q)).map aP)),b8,b9,b10,b11,b12,.no]):=by
 obtain⟨ρ',hf,b8,b9,b10,b11,b12,hP⟩:=je (tg:=eV [8,9,10,11,12]) (body:=Kk) (ds:=ts.map aP) (λk ρ=>∃b8 b9 b10 b11 b12,ρ=[.sh x0,.sh x1,.sh x2,.sh x3,.sh x4,.sh (.str p),.sh (.str q),.ow (.lst (((ts.take k).map (B4 p q)).map aP)),b8,b9,b10,b11,b12,.no]) (λk d hd ρ z9=>by
   obtain⟨b8,b9,b10,b11,b12,hρ⟩:=z9;subst hρ;rw[List.getElem?_map]at hd;cases e:ts[k]? with
   |none=>rw[e]at hd;cases hd
   |some t=>
    rw[e]at hd;cases hd;obtain⟨hk,_⟩:=List.getElem?_eq_some_iff.mp e;refine⟨[.sh x0,.sh x1,.sh x2,.sh x3,.sh x4,.sh (.str p),.sh (.str q),.ow (.lst (((ts.take k).map (B4 p q)).map aP)),.sh (.str t.a),.sh (.str t.b),.sh (.str t.w),.sh (fr t.l),.sh (fq t.o),.no],[.sh x0,.sh x1,.sh x2,.sh x3,.sh x4,.sh (.str p),.sh (.str q),.ow (.lst (((ts.take (k+1)).map (B4 p q)).map aP)),.sh (.str (rn p q t.a)),.sh (.str t.b),.sh (.str t.w),.sh (fr t.l),.sh (fq t.o),.no],rfl,?_,_,_,_,_,_,rfl⟩;have hl:(((ts.take k).map (B4 p q)).map aP).length<1000:=by
     rw[List.length_map,List.length_map,List.length_take];omega
    have e1:(((ts.take (k+1)).map (B4 p q)).map aP)=((ts.take k).map (B4 p q)).map aP++[aP (B4 p q t)]:=by
     rw[List.take_succ,e];simp
    rw[e1];generalize ((ts.take k).map (B4 p q)).map aP=M at *;have hl':decide (M.length<=999)=true:=decide_eq_true (by omega);open_line with[Kk,jf,Jt,Jr,gX hl']
    rfl) (ρ:=[.sh x0,.sh x1,.sh x2,.sh x3,.sh x4,.sh (.str p),.sh (.str q),.ow (.lst []),a8,a9,a10,a11,a12,.no]) ⟨_,_,_,_,_,rfl⟩
 refine⟨b8,b9,b10,b11,b12,?_⟩;rw[hf,hP,List.length_map,List.take_length]
def qu{ρ:Ev}:(aa (aq (af (dC (.int 12)) (af (dC (.int 420)) (af (dC (.int 60)) (af (dC (.int 9)) (af (dC (.int 14)) ax))))) bG) (lT (aa (aq (af (dC (.int 8)) (af (dC (.int 3)) ax)) bG) (lT (aq (af (dC (.int 26)) ax) bG) (dC (.int 8))) kj) (dC (.int 7))) bo) ρ=.ok (.lst (CB.map D.int)):=rfl
def zD{x y:Str}{k:Int}(h0:0<=k)(h1:k<2):∃z,(z=x∨z=y)/\aD (.lst [.str x,.str y]) (.int k)=.ok (.str z):=by
 obtain⟨n,rfl⟩:=Int.eq_ofNat_of_zero_le h0;have:n=0∨n=1:=by omega
 rcases this with rfl|rfl
 .exact⟨x,.inl rfl,rfl⟩
 .exact⟨y,.inr rfl,rfl⟩
noncomputable def wF:bd :=
 (ar (dO (aa (ae 5) (aa (ae 1) (dC (.int 0)) aD) oY)
 (ar (bx (ae 1))
 au)
 au)
 (ar (uZ 7 (aq ax bG))
 (ar (oG (aa (ae 1) (dC (.int 1)) aD) (eV [8,9,10,11,12]) Kk)
 (ar (aN 13 (cG 1 [5,6] (lS (aq (af (aa (ae 1) (dC (.int 2)) aD) (af (aa (ae 1) (dC (.int 3)) aD) ax)) bG)) (bV 0) mYes (aa (aq (af (ae 0) (af (ae 1) ax)) bG) (aq (af (aa (ae 0) (ae 2) iD) ax) (m1 dH)) aD)))
 (ar (bx (aq (af (cG 1 [5,6] (lS (aa (ae 1) (dC (.int 0)) aD)) (bV 0) mYes (aa (aq (af (ae 0) (af (ae 1) ax)) bG) (aq (af (aa (ae 0) (ae 2) iD) ax) (m1 dH)) aD)) (af (ae 7) (af (aa (ae 13) (dC (.int 0)) aD) (af (aa (ae 13) (dC (.int 1)) aD) ax)))) dm))
 au)))))
set_option maxHeartbeats 1000000 in
def wD{x0 x2 x3 x4:D}{v:eG}(V:bF v){p q:Str}(hb:nameB p=true):∃u,wF [.sh x0,.sh (aB v),.sh x2,.sh x3,.sh x4,.sh (.str p),.sh (.str q),.no,.no,.no,.no,.no,.no,.no]=.ok (.rt (aB u))/\bF u:=by
 by_cases hp:p∈v.ps
 .refine⟨v,?_,V⟩
  have e:=fQ (zs:=v.ps) (z:=p);rw[decide_eq_true hp]at e;have f0:aD (aB v) (.int 0)=.ok (.lst (v.ps.map D.str)):=rfl;open_line with[wF,f0,e]
 .refine⟨LD p q v,?_,F5 V hp hb⟩
  have e:=fQ (zs:=v.ps) (z:=p);rw[decide_eq_false hp]at e;have f0:aD (aB v) (.int 0)=.ok (.lst (v.ps.map D.str)):=rfl;have f1:aD (aB v) (.int 1)=.ok (.lst (v.ts.map aP)):=rfl;have f2:aD (aB v) (.int 2)=.ok (.str v.fi):=rfl;have f3:aD (aB v) (.int 3)=.ok (.str v.la):=rfl;obtain⟨b8,b9,b10,b11,b12,hf⟩:=F6 (x0:=x0) (x1:=aB v) (x2:=x2) (x3:=x3) (x4:=x4) (p:=p) (q:=q) V.t14 (a8:=.no) (a9:=.no) (a10:=.no) (a11:=.no) (a12:=.no);have c1:=λρ h5 h6=>wC (ρ:=ρ) (p:=p) (q:=q) (zs:=v.ps) V.n7 h5 h6;have c2:∀ρ:Ev,ρ[5]?=some (.sh (.str p))->ρ[6]?=some (.sh (.str q))->dY 1 [5,6] (bV 0) mYes (aa (aq (af (ae 0) (af (ae 1) ax)) bG) (aq (af (aa (ae 0) (ae 2) iD) ax) (m1 dH)) aD) ρ [.str v.fi,.str v.la]=.ok (.lst [.str (rn p q v.fi),.str (rn p q v.la)]):=λρ h5 h6=>wC (ρ:=ρ) (p:=p) (q:=q) (zs:=[v.fi,v.la]) (by show 2<=7;omega) h5 h6;have x0':∀x y:D,aD (.lst [x,y]) (.int 0)=.ok x:=λ_ _=>rfl;have x1':∀x y:D,aD (.lst [x,y]) (.int 1)=.ok y:=λ_ _=>rfl;open_line with[wF,f0,e,f1,hf,c9,f2,f3,c1,c2,x0',x1']
  rfl
set_option maxHeartbeats 1000000 in
def vB{w v:eG}(W:bF w)(V:bF v)(c:Int):∃u,bC [aB w,aB v,.int c]=.ok (aB u)/\bF u:=by
 obtain⟨vs,hd,Y⟩:=Cod.draws_ok c Lz (by decide) (by decide);have hvl:vs.length=79:=Y.len;obtain⟨e0,g0,b0,_⟩:=Y.at 75 rfl;obtain⟨e1,g1,b1,_⟩:=Y.at 76 rfl;obtain⟨e2,g2,b2,_⟩:=Y.at 77 rfl;obtain⟨e3,g3,b3,_⟩:=Y.at 78 rfl;have hcut:fZ (vs.map D.int) (some 75) none=[.int e0,.int e1,.int e2,.int e3]:=by
  rw[fR,HT.sIx_none,show(75:Int)=((75:Nat):Int) from rfl,HT.sIx_nat,hvl];show(List.take 4 (List.drop 75 vs)).map D.int=[e0,e1,e2,e3].map D.int
  congr 1
  apply List.ext_getElem?;intro j;rw[List.getElem?_take];rcases j with _|_|_|_|j
  .rw[if_pos (by omega),List.getElem?_drop];exact g0
  .rw[if_pos (by omega),List.getElem?_drop];exact g1
  .rw[if_pos (by omega),List.getElem?_drop];exact g2
  .rw[if_pos (by omega),List.getElem?_drop];exact g3
  .rw[if_neg (by omega)];rfl
 have i0:aD (.lst [.int e0,.int e1,.int e2,.int e3]) (.int 0)=.ok (.int e0):=rfl;have i1:aD (.lst [.int e0,.int e1,.int e2,.int e3]) (.int 1)=.ok (.int e1):=rfl;have i2:aD (.lst [.int e0,.int e1,.int e2,.int e3]) (.int 2)=.ok (.int e2):=rfl;have i3:aD (.lst [.int e0,.int e1,.int e2,.int e3]) (.int 3)=.ok (.int e3):=rfl;have hs0:∀ρ:Ev,(aa (ae 3) (aq (af (dC (.int 3)) (af (dC (.int 420)) (af (dC (.int 420)) (af (dC (.int 2)) ax)))) bG) bo) ρ=(ae 3 ρ).bind λd=>bo d (.lst [.int 3,.int 420,.int 420,.int 2]):=λρ=>rfl;have fw0:aD (aB w) (.int 0)=.ok (.lst (w.ps.map D.str)):=rfl;have fw2:aD (aB w) (.int 2)=.ok (.str w.fi):=rfl;have fw3:aD (aB w) (.int 3)=.ok (.str w.la):=rfl;have fv0:aD (aB v) (.int 0)=.ok (.lst (v.ps.map D.str)):=rfl;have fv2:aD (aB v) (.int 2)=.ok (.str v.fi):=rfl;have fv3:aD (aB v) (.int 3)=.ok (.str v.la):=rfl;have wn:=W.n2;have vn:=V.n2;have hw0:((w.ps.length:Int)==0)=false:=beq_eq_false_iff_ne.mpr (by omega);have hv0:((v.ps.length:Int)==0)=false:=beq_eq_false_iff_ne.mpr (by omega);have k1:=dj (a:=e1) (b:=(w.ps.length:Int)) (by omega);have k2:=dj (a:=e2) (b:=(v.ps.length:Int)) (by omega);have k3:=dj (a:=e1) (b:=2) (by omega);have k4:=dj (a:=e2) (b:=2) (by omega);obtain⟨p,hp,jp⟩:=qv (zs:=w.ps) k1.1 k1.2;obtain⟨q,hq,jq⟩:=qv (zs:=v.ps) k2.1 k2.2;obtain⟨p',hp',jp'⟩:=zD (x:=w.fi) (y:=w.la) k3.1 k3.2;obtain⟨q',hq',jq'⟩:=zD (x:=v.fi) (y:=v.la) k4.1 k4.2;have np:nameB p=true:=W.nm.2 p (List.mem_of_getElem? hp);have np':nameB p'=true:=by
  rcases hp' with rfl|rfl
  .exact W.nm.2 _ W.fi
  .exact W.nm.2 _ W.la
 have h20:((2:Int)==0)=false:=rfl;obtain⟨u1,hu1,U1⟩:=wD (x0:=aB w) (x2:=.int c) (x3:=.lst (CB.map D.int)) (x4:=.lst [.int e0,.int e1,.int e2,.int e3]) V (q:=q) np;obtain⟨u2,hu2,U2⟩:=wD (x0:=aB w) (x2:=.int c) (x3:=.lst (CB.map D.int)) (x4:=.lst [.int e0,.int e1,.int e2,.int e3]) V (q:=q') np';have hb:iS=ar (aN 3 (aa (aq (af (dC (.int 12)) (af (dC (.int 420)) (af (dC (.int 60)) (af (dC (.int 9)) (af (dC (.int 14)) ax))))) bG) (lT (aa (aq (af (dC (.int 8)) (af (dC (.int 3)) ax)) bG) (lT (aq (af (dC (.int 26)) ax) bG) (dC (.int 8))) kj) (dC (.int 7))) bo))
  (ar (aN 4 (ez (aq (af (ae 2) (af (aa (ae 3) (aq (af (dC (.int 3)) (af (dC (.int 420)) (af (dC (.int 420)) (af (dC (.int 2)) ax)))) bG) bo) ax)) bL) (bM (dC (.int 75))) dA))
  (ar (dO (aa (aa (ae 4) (dC (.int 0)) aD) (dC (.int 0)) B6) (ar (bx (ae 1)) au) au)
  (ar (aN 5 (aa (aa (ae 0) (dC (.int 0)) aD) (aa (aa (ae 4) (dC (.int 1)) aD) (aq (af (aa (ae 0) (dC (.int 0)) aD) ax) (m1 cN)) bR) aD))
  (ar (aN 6 (aa (aa (ae 1) (dC (.int 0)) aD) (aa (aa (ae 4) (dC (.int 2)) aD) (aq (af (aa (ae 1) (dC (.int 0)) aD) ax) (m1 cN)) bR) aD))
  (ar (dO (aa (aa (ae 4) (dC (.int 3)) aD) (dC (.int 0)) iD)
  (ar (aN 5 (aa (aq (af (aa (ae 0) (dC (.int 2)) aD) (af (aa (ae 0) (dC (.int 3)) aD) ax)) bG) (aa (aa (ae 4) (dC (.int 1)) aD) (dC (.int 2)) bR) aD))
  (ar (aN 6 (aa (aq (af (aa (ae 1) (dC (.int 2)) aD) (af (aa (ae 1) (dC (.int 3)) aD) ax)) bG) (aa (aa (ae 4) (dC (.int 2)) aD) (dC (.int 2)) bR) aD))
  au)) au) wF))))):=rfl
 by_cases h0:e0 > 0
 .refine⟨v,?_,V⟩
  rw[bC,hb,kT];show((ar _ _) [.sh (aB w),.sh (aB v),.sh (.int c),.no,.no,.no,.no,.no,.no,.no,.no,.no,.no,.no]).bind oH=_;rw[kS,kR,qu];open_line with[uV,hd,hcut,i0,decide_eq_true h0]
 cases h3:(e3==0) with
 |true=>
  refine⟨u2,?_,U2⟩;rw[bC,hb,kT];show((ar _ _) [.sh (aB w),.sh (aB v),.sh (.int c),.no,.no,.no,.no,.no,.no,.no,.no,.no,.no,.no]).bind oH=_;rw[kS,kR,qu];open_line with[uV,hd,hcut,i0,decide_eq_false h0,fw0,fv0,i1,i2,i3,List.length_map,hw0,hv0,h20,jp,jq,h3,fw2,fw3,fv2,fv3,jp',jq',hu2]
 |false=>
  refine⟨u1,?_,U1⟩;rw[bC,hb,kT];show((ar _ _) [.sh (aB w),.sh (aB v),.sh (.int c),.no,.no,.no,.no,.no,.no,.no,.no,.no,.no,.no]).bind oH=_;rw[kS,kR,qu];open_line with[uV,hd,hcut,i0,decide_eq_false h0,fw0,fv0,i1,i2,i3,List.length_map,hw0,hv0,jp,jq,h3,hu1]
end K65
namespace Nwb
open PySem L2 DL Com Bor
def Mn{es:ac}:J2 (.tup []) (.tup es)=.ok (.tup es):=rfl
def name_fit{z:Str}(h:nameB z=true):GS (.str z)=true:=by
 unfold nameB at h;simp only[Bool.and_eq_true,decide_eq_true_eq]at h;exact decide_eq_true (Nat.le_trans h.2.1 (by decide))
end Nwb
namespace K65
open PySem L2 DL Com
open Nwb (GU)
def cz(w v:eG)(z:Str):Str:=if z=v.fi then w.fi else if z=v.la then w.la else z
def cT(w v:eG)(t:oq):oq:=⟨cz w v t.a,cz w v t.b,t.w,t.l,t.o⟩
def oth(v:eG):List Str:=v.ps.filter λz=>!decide (z=v.fi)&&!decide (z=v.la)
def J(w v:eG):eG:=⟨w.ps++oth v,w.ts++v.ts.map (cT w v),w.fi,w.la⟩
def E3(w v:eG):Prop:=(∃z∈oth v,z∈w.ps)∨7<w.ps.length+(oth v).length∨14<w.ts.length+v.ts.length
def qI{v:eG}{z:Str}:z∈oth v↔z∈v.ps/\z≠v.fi/\z≠v.la:=by unfold oth;rw[List.mem_filter];simp
def Kb{w v:eG}(W:bF w)(V:bF v)(h:¬E3 w v):bF (J w v):=by
 have hd:∀z∈oth v,z∉w.ps:=λz hz hw=>h (.inl ⟨z,hz,hw⟩);have h7:¬7<w.ps.length+(oth v).length:=λz=>h (.inr (.inl z));have h14:¬14<w.ts.length+v.ts.length:=λz=>h (.inr (.inr z));have wn:=W.n2;have inj:∀{x y:Str},x∈v.ps->y∈v.ps->cz w v x=cz w v y->x=y:=λ{x y} hx hy e=>by
  have nx:∀{p x:Str},p∈w.ps->x∈v.ps->x≠v.fi->x≠v.la->p≠x:=λ{p x} hp hx a b e=>hd x (qI.mpr ⟨hx,a,b⟩) (e▸hp);unfold cz at e
  by_cases xf:x=v.fi
  .rw[if_pos xf]at e
   by_cases yf:y=v.fi
   .rw[xf,yf]
   .rw[if_neg yf]at e
    by_cases yl:y=v.la
    .rw[if_pos yl]at e;exact absurd e W.ne
    .rw[if_neg yl]at e;exact absurd e (nx W.fi hy yf yl)
  .rw[if_neg xf]at e
   by_cases xl:x=v.la
   .rw[if_pos xl]at e
    by_cases yf:y=v.fi
    .rw[if_pos yf]at e;exact absurd e.symm W.ne
    .rw[if_neg yf]at e
     by_cases yl:y=v.la
     .rw[xl,yl]
     .rw[if_neg yl]at e;exact absurd e (nx W.la hy yf yl)
   .rw[if_neg xl]at e
    by_cases yf:y=v.fi
    .rw[if_pos yf]at e;exact absurd e.symm (nx W.fi hx xf xl)
    .rw[if_neg yf]at e
     by_cases yl:y=v.la
     .rw[if_pos yl]at e;exact absurd e.symm (nx W.la hx xf xl)
     .rw[if_neg yl]at e;exact e
 have mem:∀{x:Str},x∈v.ps->cz w v x∈w.ps++oth v:=λ{x} hx=>by
  unfold cz;split
  .exact List.mem_append_left _ W.fi
  .rename_i a
   split
   .exact List.mem_append_left _ W.la
   .rename_i b;exact List.mem_append_right _ (qI.mpr ⟨hx,a,b⟩)
 refine⟨by show 2<=(w.ps++oth v).length;rw[List.length_append];omega,by show(w.ps++oth v).length<=7;rw[List.length_append];omega,⟨?_,λz hz=>?_⟩,by show(w.ts++v.ts.map _).length<=14;rw[List.length_append,List.length_map];omega,λt ht=>?_,List.mem_append_left _ W.fi,List.mem_append_left _ W.la,W.ne⟩
 .show(w.ps++oth v).Nodup
  rw[List.nodup_append];exact⟨W.nm.1,V.nm.1.filter _,λa ha b hb e=>hd b hb (e▸ha)⟩
 .rcases List.mem_append.mp (show z∈w.ps++oth v from hz) with hz|hz
  .exact W.nm.2 z hz
  .exact V.nm.2 z (qI.mp hz).1
 .rcases List.mem_append.mp (show t∈w.ts++v.ts.map _ from ht) with ht|ht
  .have T:=W.ts t ht
   exact⟨List.mem_append_left _ T.a,List.mem_append_left _ T.b,T.ne,T.w,T.l,T.l0,T.o⟩
  .obtain⟨s,hs,rfl⟩:=List.mem_map.mp ht
   have T:=V.ts s hs;exact⟨mem T.a,mem T.b,λe=>T.ne (inj T.a T.b e),T.w,T.l,T.l0,T.o⟩
def AQ{w v:eG}(W:bF w)(V:bF v)(h:E3 w v):∃p n,Nwb.m_look_at_web [aB (J w v)]=.exn (GU p n):=by
 have wn:=W.n2;have hP:((w.ps++oth v).map D.str).length=w.ps.length+(oth v).length:=by rw[List.length_map,List.length_append]
 by_cases h7:7<w.ps.length+(oth v).length
 .refine⟨"places",.non,Nwb.web_places ?_⟩
  exact Nwb.places_size (.inr (by show 7<((w.ps++oth v).map D.str).length;omega))
 .rcases Nwb.places_all (ds:=(w.ps++oth v).map D.str) (λd hd=>by
   obtain⟨z,hz,rfl⟩:=List.mem_map.mp hd;refine Nwb.name_fit ?_;rcases List.mem_append.mp hz with hz|hz
   .exact W.nm.2 z hz
   .exact V.nm.2 z (qI.mp hz).1) (by omega) (by omega) with⟨zs,hz,nm⟩|⟨k,_,hk⟩
  .have e:w.ps++oth v=zs:=by
    refine List.map_inj_right ?_ |>.mp hz
    intro a b hab;exact D.str.inj hab
   subst e;have h14:14<w.ts.length+v.ts.length:=by
    rcases h with⟨z,h1,h2⟩|h|h
    .have:=(List.nodup_append.mp nm.1).2.2 z h2 z h1
     exact absurd rfl this
    .exact absurd h h7
    .exact h
   have pl:=Nwb.placesX (zs:=w.ps++oth v) (by rw[List.length_append];omega) (by rw[List.length_append];omega) nm;refine⟨"ties",.non,Nwb.web_ties pl ?_⟩;have hT:((w.ts++v.ts.map (cT w v)).map aP).length=w.ts.length+v.ts.length:=by rw[List.length_map,List.length_append,List.length_map]
   exact Nwb.ties_size (by show 14<((w.ts++v.ts.map (cT w v)).map aP).length;omega)
  .exact⟨"places",.int (k:Int),Nwb.web_places hk⟩
end K65
namespace K65
open PySem L2 DL Com Pth
def sR{g:Str->D}{ks:List Str}{k:Str}(h:k∉ks):oJ ks (ks.map g) k (g k)=.dic (ks++[k]) ((ks++[k]).map g):=by
 unfold oJ;rw[if_neg h,List.map_append];rfl
def mY{zs:List Str}(nd:zs.Nodup){k:Nat}{z:Str}(h:zs[k]?=some z):z∉zs.take k:=by
 intro hm;obtain⟨i,hi,e⟩:=List.getElem_of_mem hm;rw[List.length_take]at hi;rw[List.getElem_take]at e;obtain⟨hk,e2⟩:=List.getElem?_eq_some_iff.mp h;have:=(List.getElem_inj (h₀:=show i<zs.length by omega) (h₁:=hk) nd).mp (e.trans e2.symm);omega
def fG(w v:eG):D:=.dic v.ps (v.ps.map λz=>.str (cz w v z))
def mn{w v:eG}{z:Str}(h:z∈v.ps):iP (fG w v) (.str z)=.ok (.str (cz w v z)):=by
 unfold fG iP;simp only[BQ (g:=λz=>D.str (cz w v z)),if_pos h]
def Bw{x0 x1:D}{zs:List Str}(nd:zs.Nodup)(h7:zs.length<=7):∃b3,bW (bV 3) (ar (jD 2 (ae 3) (ae 3)) au) (zs.map D.str) [.sh x0,.sh x1,.ow (.dic [] []),.no,.no,.no]=.ok (.nx [.sh x0,.sh x1,.ow (.dic zs (zs.map D.str)),b3,.no,.no]):=by
 obtain⟨ρ',hf,b3,hP⟩:=je (tg:=bV 3) (body:=ar (jD 2 (ae 3) (ae 3)) au) (ds:=zs.map D.str) (λk ρ=>∃b3,ρ=[.sh x0,.sh x1,.ow (.dic (zs.take k) ((zs.take k).map D.str)),b3,.no,.no]) (λk d hd ρ z9=>by
   obtain⟨b3,hρ⟩:=z9;subst hρ;rw[List.getElem?_map]at hd;cases e:zs[k]? with
   |none=>rw[e]at hd;cases hd
   |some z=>
    rw[e]at hd;cases hd;refine⟨_,[.sh x0,.sh x1,.ow (.dic (zs.take (k+1)) ((zs.take (k+1)).map D.str)),.sh (.str z),.no,.no],rfl,?_,_,rfl⟩;have e1:zs.take (k+1)=zs.take k++[z]:=by rw[List.take_succ,e];rfl
    have hl:decide ((zs.take k).length<=900)=true:=decide_eq_true (by rw[List.length_take];omega);rw[e1,←sR (g:=D.str) (mY nd e)];open_line with[kU,ji,jh,jg hl]) (ρ:=[.sh x0,.sh x1,.ow (.dic [] []),.no,.no,.no]) ⟨_,rfl⟩
 refine⟨b3,?_⟩;rw[hf,hP,List.length_map,List.take_length]
def kl{w v:eG}(V:bF v):oJ v.ps (v.ps.map D.str) v.fi (.str w.fi)=.dic v.ps (v.ps.map λz=>if z=v.fi then .str w.fi else .str z):=by
 unfold oJ;rw[if_pos V.fi,Bfd.rep_map]
def ml{w v:eG}(V:bF v):oJ v.ps (v.ps.map λz=>if z=v.fi then .str w.fi else .str z) v.la (.str w.la)=fG w v:=by
 unfold oJ fG;rw[if_pos V.la,Bfd.rep_map]
 congr 1
 refine List.map_congr_left λz hz=>?_;unfold cz
 by_cases zl:z=v.la
 .rw[if_pos zl,if_neg (λe=>V.ne (e.symm.trans zl)),if_pos zl]
 .rw[if_neg zl,if_neg zl]
  split<;>rfl
def wY{x y:Str}:gI (.str x) (.str y)=.ok (.bl (!decide (x=y))):=by
 by_cases h:x=y
 .subst h
  rw[decide_eq_true rfl];unfold gI;rw[if_pos ⟨rfl,rfl⟩,cK,beq_self_eq_true x]
 .rw[decide_eq_false h];unfold gI;rw[if_pos ⟨rfl,rfl⟩,cK,beq_eq_false_iff_ne.mpr h]
def qM{xs:List Str}:gI (.lst (xs.map D.str)) (.lst [])=.ok (.bl (!xs.isEmpty)):=by
 cases xs with
 |nil=>rfl
 |cons x xs=>
  unfold gI;rw[if_pos ⟨by rw[show aT _ (.lst ((x::xs).map D.str))=((x::xs).map D.str).all (aT _) from rfl];exact iZ,rfl⟩];rfl
def jI{zs:List Str}{p:Str->Bool}{fr:bi}{ρ:Ev}{tt:am}{b:Ev}(h7:zs.length<=7)(hb:cc 1 fr ρ=.no::b)(ht:∀z∈zs,tt (.sh (.str z)::b)=.ok (.bl (p z))):dY 1 fr (bV 0) tt (ae 0) ρ (zs.map D.str)=.ok (.lst ((zs.filter p).map D.str)):=by
 rw[lK (F:=id) (p:=λd=>match d with|.str z=>p z|_=>false) (by rw[List.length_map];omega)]
 .congr 2
  rw[List.map_id,List.filter_map];rfl
 .intro d hd
  obtain⟨z,hz,rfl⟩:=List.mem_map.mp hd;exact⟨.sh (.str z)::b,by rw[hb];rfl,ht z hz,λ_=>rfl⟩
def sA{w v:eG}(V:bF v){fr:bi}{ρ:Ev}{fe:am}(hb:cc 1 fr ρ=[.no,.sh (fG w v)])(ht:∀t∈v.ts,fe [.sh (aP t),.sh (fG w v)]=.ok (aP (cT w v t))):dY 1 fr (bV 0) mYes fe ρ (v.ts.map aP)=.ok (.lst ((v.ts.map (cT w v)).map aP)):=by
 have key:∀d∈v.ts.map aP,∃t∈v.ts,d=aP t:=λd hd=>by
  obtain⟨t,h1,h2⟩:=List.mem_map.mp hd;exact⟨t,h1,h2.symm⟩
 have h14:=V.t14;rw[gJ (F:=λd=>match d with|.tup [.str a,.str b,x,y,z]=>.tup [.str (cz w v a),.str (cz w v b),x,y,z]|d=>d) (by rw[List.length_map];omega)]
 .congr 2
  rw[List.map_map,List.map_map];rfl
 .intro d hd
  obtain⟨t,h1,rfl⟩:=key d hd;exact⟨[.sh (aP t),.sh (fG w v)],by rw[hb];rfl,rfl,ht t h1⟩
set_option maxHeartbeats 1000000 in
def Bv{w v:eG}(W:bF w)(V:bF v):(E3 w v->cR [aB w,aB v]=.ok .non)/\(¬E3 w v->cR [aB w,aB v]=.ok (aB (J w v))):=by
 have v7:=V.n7;have w7:=W.n7;have vt:=V.t14;have wt:=W.t14;have fw0:aD (aB w) (.int 0)=.ok (.lst (w.ps.map D.str)):=rfl;have fw1:aD (aB w) (.int 1)=.ok (.lst (w.ts.map aP)):=rfl;have fw2:aD (aB w) (.int 2)=.ok (.str w.fi):=rfl;have fw3:aD (aB w) (.int 3)=.ok (.str w.la):=rfl;have fv0:aD (aB v) (.int 0)=.ok (.lst (v.ps.map D.str)):=rfl;have fv1:aD (aB v) (.int 1)=.ok (.lst (v.ts.map aP)):=rfl;have fv2:aD (aB v) (.int 2)=.ok (.str v.fi):=rfl;have fv3:aD (aB v) (.int 3)=.ok (.str v.la):=rfl;obtain⟨b3,hf⟩:=Bw (x0:=aB w) (x1:=aB v) V.nm.1 v7;have hl:decide (v.ps.length<=900)=true:=decide_eq_true (by omega);have ho:(oth v).length<=7:=Nat.le_trans (List.length_filter_le ..) v7;have c4:dY 1 [1] (bV 0) (iC (aa (ae 0) (aa (ae 1) (dC (.int 2)) aD) gI) (aa (ae 0) (aa (ae 1) (dC (.int 3)) aD) gI)) (ae 0) [.sh (aB w),.sh (aB v),.ow (fG w v),b3,.no,.no] (v.ps.map D.str)=.ok (.lst ((oth v).map D.str)):=jI (b:=[.sh (aB v)]) v7 rfl λz _=>by
  by_cases hz:z=v.fi
  .open_line with[fv2,wY,decide_eq_true hz,Bool.not_true,Bool.false_and]
  .open_line with[fv2,fv3,wY,decide_eq_false hz,Bool.not_false,Bool.true_and]
 have c5:∀b3',dY 1 [0] (bV 0) (aa (ae 0) (aa (ae 1) (dC (.int 0)) aD) oY) (ae 0) [.sh (aB w),.sh (aB v),.sh (fG w v),b3',.sh (.lst ((oth v).map D.str)),.no] ((oth v).map D.str)=.ok (.lst (((oth v).filter λz=>decide (z∈w.ps)).map D.str)):=λb3'=>jI (b:=[.sh (aB w)]) ho rfl λz _=>by
  open_line with[fw0,fQ]
 have c6:dY 1 [2] (bV 0) mYes (aq (af (aa (ae 1) (aa (ae 0) (dC (.int 0)) aD) iP) (af (aa (ae 1) (aa (ae 0) (dC (.int 1)) aD) iP) (af (aa (ae 0) (dC (.int 2)) aD) (af (aa (ae 0) (dC (.int 3)) aD) (af (aa (ae 0) (dC (.int 4)) aD) ax))))) dm) [.sh (aB w),.sh (aB v),.sh (fG w v),b3,.sh (.lst ((oth v).map D.str)),.no] (v.ts.map aP)=.ok (.lst ((v.ts.map (cT w v)).map aP)):=sA V rfl λt ht=>by
  have T:=V.ts t ht;have t0:aD (aP t) (.int 0)=.ok (.str t.a):=rfl;have t1:aD (aP t) (.int 1)=.ok (.str t.b):=rfl;have t2:aD (aP t) (.int 2)=.ok (.str t.w):=rfl;have t3:aD (aP t) (.int 3)=.ok (fr t.l):=rfl;have t4:aD (aP t) (.int 4)=.ok (fq t.o):=rfl;open_line with[t0,t1,t2,t3,t4,mn T.a,mn T.b]
  rfl
 have a1:bo (.lst (w.ps.map D.str)) (.lst ((oth v).map D.str))=.ok (.lst ((w.ps++oth v).map D.str)):=by
  rw[gY (decide_eq_true (by rw[List.length_map,List.length_map];omega)),List.map_append]
 have a2:bo (.lst (w.ts.map aP)) (.lst ((v.ts.map (cT w v)).map aP))=.ok (.lst ((w.ts++v.ts.map (cT w v)).map aP)):=by
  rw[gY (decide_eq_true (by rw[List.length_map,List.length_map,List.length_map];omega)),List.map_append]
 have un:unown 2 [.sh (aB w),.sh (aB v),.ow (fG w v),b3,.sh (.lst ((oth v).map D.str)),.no]=[.sh (aB w),.sh (aB v),.sh (fG w v),b3,.sh (.lst ((oth v).map D.str)),.no]:=rfl;constructor
 .intro h
  cases hE:((oth v).filter λz=>decide (z∈w.ps)).isEmpty with
  |false=>
   open_line with[cR,fJ,kW,jl,fv0,hf,kU,ji,jh,jg hl,fw3,fv2,fw2,fv3,kl V,ml V,c9,c4,c5,qM,hE,Bool.not_false]
  |true=>
   have hs:7<w.ps.length+(oth v).length∨14<w.ts.length+v.ts.length:=by
    rcases h with⟨z,h1,h2⟩|h
    .have:z∈(oth v).filter λz=>decide (z∈w.ps):=List.mem_filter.mpr ⟨h1,decide_eq_true h2⟩
     rw[List.isEmpty_iff.mp hE]at this;exact nomatch this
    .exact h
   by_cases h7:7<w.ps.length+(oth v).length
   .open_line with[cR,fJ,kW,jl,fv0,hf,kU,ji,jh,jg hl,fw3,fv2,fw2,fv3,kl V,ml V,c9,c4,c5,qM,hE,Bool.not_true,fw0,List.length_map,decide_eq_true (show(w.ps.length:Int)+((oth v).length:Int) > 7 by omega)]
   .open_line with[cR,fJ,kW,jl,fv0,hf,kU,ji,jh,jg hl,fw3,fv2,fw2,fv3,kl V,ml V,c9,c4,c5,qM,hE,Bool.not_true,fw0,fw1,fv1,List.length_map,decide_eq_false (show ¬(w.ps.length:Int)+((oth v).length:Int) > 7 by omega),decide_eq_true (show(w.ts.length:Int)+(v.ts.length:Int) > 14 by omega)]
 .intro h
  have hE:((oth v).filter λz=>decide (z∈w.ps)).isEmpty=true:=by
   rw[List.isEmpty_iff,List.filter_eq_nil_iff];exact λz hz hw=>h (.inl ⟨z,hz,of_decide_eq_true hw⟩)
  have h7:¬7<w.ps.length+(oth v).length:=λz=>h (.inr (.inl z));have h14:¬14<w.ts.length+v.ts.length:=λz=>h (.inr (.inr z));open_line with[cR,fJ,kW,jl,fv0,hf,kU,ji,jh,jg hl,fw3,fv2,fw2,fv3,kl V,ml V,c9,c4,c5,qM,hE,Bool.not_true,fw0,fw1,fv1,List.length_map,decide_eq_false (show ¬(w.ps.length:Int)+((oth v).length:Int) > 7 by omega),decide_eq_false (show ¬(w.ts.length:Int)+(v.ts.length:Int) > 14 by omega),un,c6,a1,a2]
  rfl
def ir(u:eG):D:=.tup [.ob .pl (u.ps.map D.str),.ob .pl (u.ts.map aP),.str u.fi,.str u.la]
theorem nB{α:Type}{F:α->D}(h:∀x,fgt (F x)=F x):∀xs:List α,fgts (xs.map F)=xs.map F
 |[]=>rfl
 |x::xs=>by rw[List.map_cons,fgts,h x,nB h xs]
def DM(t:oq):fgt (aP t)=aP t:=by
 obtain⟨a,b,w,l,o⟩:=t;cases o<;>rfl
def tW(u:eG):fgt (ir u)=aB u:=by
 show D.tup [.lst (fgts (u.ps.map D.str)),.lst (fgts (u.ts.map aP)),.str u.fi,.str u.la]=_;rw[nB (λ_=>rfl),nB DM];rfl
def gp(w v:eG):D:=.dic [v.fi,v.la] [.str w.fi,.str w.la]
def BP{x y k:Str}{d e:D}:qe [x,y] [d,e] k=if x=k then some d else if y=k then some e else none:=rfl
def DH{w v:eG}{z:Str}:pJ [v.fi,v.la] [.str w.fi,.str w.la] (.str z) (.str z)=.ok (.str (cz w v z)):=by
 show ao.ok ((qe [v.fi,v.la] [.str w.fi,.str w.la] z).getD (.str z))=_;rw[BP];unfold cz
 by_cases h:z=v.fi
 .rw[if_pos h,if_pos h.symm];rfl
 .rw[if_neg h,if_neg (λe=>h e.symm)]
  by_cases h2:z=v.la
  .rw[if_pos h2,if_pos h2.symm];rfl
  .rw[if_neg h2,if_neg (λe=>h2 e.symm)];rfl
def yx{w v:eG}{z:Str}:ki (.str z) (gp w v)=.ok (.bl (!decide (z=v.fi)&&!decide (z=v.la))):=by
 show ao.ok (D.bl (!(qe [v.fi,v.la] [.str w.fi,.str w.la] z).isSome))=_;rw[BP]
 by_cases h:z=v.fi
 .rw[decide_eq_true h,if_pos h.symm];rfl
 .rw[decide_eq_false h,if_neg (λe=>h e.symm)]
  by_cases h2:z=v.la
  .rw[decide_eq_true h2,if_pos h2.symm];rfl
  .rw[decide_eq_false h2,if_neg (λe=>h2 e.symm)];rfl
def DJ{f g h:am}{ρ:Ev}{ks:List Str}{ds:ac}{y z:D}(h1:f ρ=.ok (.dic ks ds))(h2:g ρ=.ok y)(h3:h ρ=.ok z):lI f g h ρ=pJ ks ds y z:=by
 unfold lI;rw[h1,nH];show((g ρ).bind λy=>(h ρ).bind (pJ ks ds y))=_;rw[h2,nH,h3,nH]
def yD{x0 x1 x3:D}{w v:eG}(V:bF v):∃b5,bW (bV 5) (ar (jD 4 (lI (ae 2) (ae 5) (ae 5)) (ae 5)) au) (v.ps.map D.str) [.sh x0,.sh x1,.sh (gp w v),.sh x3,.ow (.dic [] []),.no,.no,.no,.no]=.ok (.nx [.sh x0,.sh x1,.sh (gp w v),.sh x3,.ow (fG w v),b5,.no,.no,.no]):=by
 have v7:=V.n7;obtain⟨ρ',hf,b5,hP⟩:=je (tg:=bV 5) (body:=ar (jD 4 (lI (ae 2) (ae 5) (ae 5)) (ae 5)) au) (ds:=v.ps.map D.str) (λk ρ=>∃b5,ρ=[.sh x0,.sh x1,.sh (gp w v),.sh x3,.ow (.dic (v.ps.take k) ((v.ps.take k).map λz=>.str (cz w v z))),b5,.no,.no,.no]) (λk d hd ρ z9=>by
   obtain⟨b5,hρ⟩:=z9;subst hρ;rw[List.getElem?_map]at hd;cases e:v.ps[k]? with
   |none=>rw[e]at hd;cases hd
   |some z=>
    rw[e]at hd;cases hd;refine⟨_,[.sh x0,.sh x1,.sh (gp w v),.sh x3,.ow (.dic (v.ps.take (k+1)) ((v.ps.take (k+1)).map λz=>.str (cz w v z))),.sh (.str z),.no,.no,.no],rfl,?_,_,rfl⟩;have e1:v.ps.take (k+1)=v.ps.take k++[z]:=by rw[List.take_succ,e];rfl
    have hl:decide ((v.ps.take k).length<=900)=true:=decide_eq_true (by rw[List.length_take];omega);rw[e1,←sR (g:=λz=>.str (cz w v z)) (mY V.nm.1 e)];have hg:∀s:Sl,lI (ae 2) (ae 5) (ae 5) [.sh x0,.sh x1,.sh (gp w v),.sh x3,s,.sh (.str z),.no,.no,.no]=.ok (.str (cz w v z)):=λs=>(DJ rfl rfl rfl).trans DH;open_line with[kU,ji,hg,jh,jg hl]) (ρ:=[.sh x0,.sh x1,.sh (gp w v),.sh x3,.ow (.dic [] []),.no,.no,.no,.no]) ⟨_,rfl⟩
 refine⟨b5,?_⟩;rw[hf,hP,List.length_map,List.take_length];rfl
def y9{w v:eG}{t:oq}(T:jH v.ps t):dU [aP t,fG w v]=.ok (aP (cT w v t)):=by
 have t0:aD (aP t) (.int 0)=.ok (.str t.a):=rfl;have t1:aD (aP t) (.int 1)=.ok (.str t.b):=rfl;have t2:aD (aP t) (.int 2)=.ok (.str t.w):=rfl;have t3:aD (aP t) (.int 3)=.ok (fr t.l):=rfl;have t4:aD (aP t) (.int 4)=.ok (fq t.o):=rfl;open_line with[dU,ko,t0,t1,t2,t3,t4,mn T.a,mn T.b]
 rfl
def Fm{f:am}{ρ:Ev}:Aq f ρ=(f ρ).bind K8:=rfl
def Bl{ds:ac}:K8 (.lst ds)=.ok (.ob .pl ds):=rfl
set_option maxHeartbeats 1000000 in
def pH{w v:eG}(W:bF w)(V:bF v):(E3 w v->gA [aB w,aB v,gp w v,.str w.la]=.exn ⟨"NoJoin",[]⟩)/\(¬E3 w v->gA [aB w,aB v,gp w v,.str w.la]=.ok (ir (J w v))):=by
 have v7:=V.n7;have w7:=W.n7;have vt:=V.t14;have wt:=W.t14;have fw0:aD (aB w) (.int 0)=.ok (.lst (w.ps.map D.str)):=rfl;have fw1:aD (aB w) (.int 1)=.ok (.lst (w.ts.map aP)):=rfl;have fw2:aD (aB w) (.int 2)=.ok (.str w.fi):=rfl;have fv0:aD (aB v) (.int 0)=.ok (.lst (v.ps.map D.str)):=rfl;have fv1:aD (aB v) (.int 1)=.ok (.lst (v.ts.map aP)):=rfl;obtain⟨b5,hf⟩:=yD (x0:=aB w) (x1:=aB v) (x3:=.str w.la) (w:=w) V;have ho:(oth v).length<=7:=Nat.le_trans (List.length_filter_le ..) v7;have c6:dY 1 [2] (bV 0) (aa (ae 0) (ae 1) ki) (ae 0) [.sh (aB w),.sh (aB v),.sh (gp w v),.sh (.str w.la),.ow (fG w v),b5,.no,.no,.no] (v.ps.map D.str)=.ok (.lst ((oth v).map D.str)):=jI (b:=[.sh (gp w v)]) v7 rfl λz _=>by
  open_line with[yx]
 have a1:kj (.lst (w.ps.map D.str)) (.lst ((oth v).map D.str))=.ok (.lst ((J w v).ps.map D.str)):=by
  show(if(w.ps.map D.str).length+((oth v).map D.str).length<=line then _ else _)=_;rw[if_pos (by rw[List.length_map,List.length_map];exact Nat.le_trans (show _<=14 by omega) (by decide)),←List.map_append];rfl
 have c7:dY 1 [4] (bV 0) mYes (aq (af (ae 0) (af (ae 1) ax)) dU) [.sh (aB w),.sh (aB v),.sh (gp w v),.sh (.str w.la),.sh (fG w v),b5,.sh (.ob .pl ((J w v).ps.map D.str)),.no,.no] (v.ts.map aP)=.ok (.lst ((v.ts.map (cT w v)).map aP)):=sA V rfl λt ht=>by
  open_line with[y9 (V.ts t ht)]
 have a2:kj (.lst (w.ts.map aP)) (.lst ((v.ts.map (cT w v)).map aP))=.ok (.lst ((J w v).ts.map aP)):=by
  show(if(w.ts.map aP).length+((v.ts.map (cT w v)).map aP).length<=line then _ else _)=_;rw[if_pos (by rw[List.length_map,List.length_map,List.length_map];exact Nat.le_trans (show _<=28 by omega) (by decide)),←List.map_append];rfl
 have un:unown 4 [.sh (aB w),.sh (aB v),.sh (gp w v),.sh (.str w.la),.ow (fG w v),b5,.sh (.ob .pl ((J w v).ps.map D.str)),.no,.no]=[.sh (aB w),.sh (aB v),.sh (gp w v),.sh (.str w.la),.sh (fG w v),b5,.sh (.ob .pl ((J w v).ps.map D.str)),.no,.no]:=rfl;have hd:jL (af (EH (ae 8)) ax) m_look_at_web [.sh (aB w),.sh (aB v),.sh (gp w v),.sh (.str w.la),.sh (fG w v),b5,.sh (.ob .pl ((J w v).ps.map D.str)),.sh (.ob .pl ((J w v).ts.map aP)),.sh (ir (J w v))]=(Nwb.m_look_at_web [aB (J w v)]).bind λ_=>.ok (.nx [.sh (aB w),.sh (aB v),.sh (gp w v),.sh (.str w.la),.sh (fG w v),b5,.sh (.ob .pl ((J w v).ps.map D.str)),.sh (.ob .pl ((J w v).ts.map aP)),.sh (ir (J w v))]):=by
  rw[←tW (J w v)];rfl
 constructor
 .intro h
  obtain⟨p,n,hl⟩:=AQ W V h;rw[hl]at hd;have ht:lr (jL (af (EH (ae 8)) ax) m_look_at_web) (j9 j7) "NoJoin" (af (dC (.str "the two have a name in both, or are too much for one web")) ax) [.sh (aB w),.sh (aB v),.sh (gp w v),.sh (.str w.la),.sh (fG w v),b5,.sh (.ob .pl ((J w v).ps.map D.str)),.sh (.ob .pl ((J w v).ts.map aP)),.sh (ir (J w v))]=.exn ⟨"NoJoin",[]⟩:=by
   unfold lr;rw[hd];rfl
  open_line with[gA,og,kW,jl,fv0,hf,Fm,fw0,c9,c6,a1,Bl,un,fw1,fv1,c7,a2,fw2]
  exact(congrArg (λr=>(ao.bind r (Ac (ar (bx (ae 8)) au))).bind oH) ht).trans rfl
 .intro h
  have hl:=Nwb.webX (Kb W V h);rw[hl]at hd;have ht:lr (jL (af (EH (ae 8)) ax) m_look_at_web) (j9 j7) "NoJoin" (af (dC (.str "the two have a name in both, or are too much for one web")) ax) [.sh (aB w),.sh (aB v),.sh (gp w v),.sh (.str w.la),.sh (fG w v),b5,.sh (.ob .pl ((J w v).ps.map D.str)),.sh (.ob .pl ((J w v).ts.map aP)),.sh (ir (J w v))]=.ok (.nx [.sh (aB w),.sh (aB v),.sh (gp w v),.sh (.str w.la),.sh (fG w v),b5,.sh (.ob .pl ((J w v).ps.map D.str)),.sh (.ob .pl ((J w v).ts.map aP)),.sh (ir (J w v))]):=by
   unfold lr;rw[hd];rfl
  open_line with[gA,og,kW,jl,fv0,hf,Fm,fw0,c9,c6,a1,Bl,un,fw1,fv1,c7,a2,fw2]
  exact(congrArg (λr=>(ao.bind r (Ac (ar (bx (ae 8)) au))).bind oH) ht).trans rfl
def Hg{f:am}{ρ:Ev}{ks:List Str}{ds:ac}(h:f ρ=.ok (.dic ks ds)):yY f ρ=.ok (.dic ks ds):=by
 unfold yY;rw[h];rfl
def p9{w v:eG}(W:bF w)(V:bF v):(E3 w v->cM [aB w,aB v]=.exn ⟨"NoJoin",[]⟩)/\(¬E3 w v->cM [aB w,aB v]=.ok (ir (J w v))):=by
 have lw:=Nwb.webX W;have lv:=Nwb.webX V;have fw3:aD (aB w) (.int 3)=.ok (.str w.la):=rfl;have hr:yY (rq (aa (ae 1) (dC (.int 2)) aD) (aa (ae 0) (dC (.int 2)) aD) (aa (ae 1) (dC (.int 3)) aD) (aa (ae 0) (dC (.int 3)) aD)) [.sh (aB w),.sh (aB v)]=.ok (gp w v):=Hg (by
  show BC (.str v.fi) (.str w.fi) (.str v.la) (.str w.la)=_;exact if_neg V.ne)
 constructor
 .intro h
  have hj:=(pH W V).1 h;open_line with[cM,gf,lw,lv,hr,fw3,hj,fB]
 .intro h
  have hj:=(pH W V).2 h;open_line with[cM,gf,lw,lv,hr,fw3,hj]
end K65
namespace K65
open PySem L2 DL Com
theorem iJ:∀ds:ac,cH ds ds=ds.map λd=>.tup [d,d]
 |[]=>rfl
 |d::ds=>by rw[List.map_cons,←iJ ds];rfl
theorem n6:∀ds:ac,eC (ds.map λ_=>.bl true)=some (ds.map λ_=>true)
 |[]=>rfl
 |d::ds=>by rw[List.map_cons,eC,n6 ds];rfl
def uB{ds:ac}:vZ (.lst (ds.map λ_=>.bl true))=.ok (.bl true):=by
 unfold vZ;simp only[n6]
 congr 2
 rw[List.all_eq_true];intro b hb;obtain⟨_,_,rfl⟩:=List.mem_map.mp hb;rfl
def oo{n:Nat}{ds:ac}(hl:ds.length<=1000)(h:∀d∈ds,aS n [d,d]=.ok (.bl true)){ρ:Ev}:dY 2 [] (eV [0,1]) mYes (aq (af (ae 0) (af (ae 1) ax)) (aS n)) ρ (ds.map λd=>.tup [d,d])=.ok (.lst (ds.map λ_=>.bl true)):=by
 rw[gJ (F:=λ_=>.bl true) (by rw[List.length_map];omega)]
 .rw[List.map_map];rfl
 .intro d hd
  obtain⟨e,he,rfl⟩:=List.mem_map.mp hd;refine⟨[.sh e,.sh e],rfl,rfl,?_⟩;have:=h e he;open_line with[this]
def lj{n:Nat}{ds:ac}(hl:ds.length<=1000)(h:∀d∈ds,aS n [d,d]=.ok (.bl true)):aS (n+1) [.tup ds,.tup ds]=.ok (.bl true):=by
 have hc:=λρ=>oo hl h (ρ:=ρ);have hz:∀ρ:Ev,ρ[0]?=some (.sh (.tup ds))->ρ[1]?=some (.sh (.tup ds))->mG (ae 0) (ae 1) ρ=.ok (ds.map λd=>.tup [d,d]):=λρ h0 h1=>by
  unfold mG ae;rw[h0,h1,←iJ];rfl
 have t1:uk ["tuple","list"] (.tup ds)=.ok (.bl true):=rfl;have t2:du "tuple" (.tup ds)=.ok (.bl true):=rfl;have t3:du "list" (.tup ds)=.ok (.bl false):=rfl;have n1:gI (.bl true) (.bl true)=.ok (.bl false):=rfl;have n2:gI (.bl false) (.bl false)=.ok (.bl false):=rfl;rw[aS];open_line with[df,t1,t2,t3,n1,n2,c9,hz,hc,uB]
def qh{n:Nat}{ds:ac}(hl:ds.length<=1000)(h:∀d∈ds,aS n [d,d]=.ok (.bl true)):aS (n+1) [.lst ds,.lst ds]=.ok (.bl true):=by
 have hc:=λρ=>oo hl h (ρ:=ρ);have hz:∀ρ:Ev,ρ[0]?=some (.sh (.lst ds))->ρ[1]?=some (.sh (.lst ds))->mG (ae 0) (ae 1) ρ=.ok (ds.map λd=>.tup [d,d]):=λρ h0 h1=>by
  unfold mG ae;rw[h0,h1,←iJ];rfl
 have t1:uk ["tuple","list"] (.lst ds)=.ok (.bl true):=rfl;have t2:du "tuple" (.lst ds)=.ok (.bl false):=rfl;have t3:du "list" (.lst ds)=.ok (.bl true):=rfl;have n1:gI (.bl true) (.bl true)=.ok (.bl false):=rfl;have n2:gI (.bl false) (.bl false)=.ok (.bl false):=rfl;rw[aS];open_line with[df,t1,t2,t3,n1,n2,c9,hz,hc,uB]
def fg{n:Nat}{z:Str}:aS (n+1) [.str z,.str z]=.ok (.bl true):=by
 have t1:uk ["tuple","list"] (.str z)=.ok (.bl false):=rfl;have t2:du "str" (.str z)=.ok (.bl true):=rfl;have n1:iD (.bl true) (.bl true)=.ok (.bl true):=rfl;rw[aS];open_line with[df,t1,t2,jf,beq_self_eq_true z,n1]
def zf{n:Nat}{i:Int}:aS (n+1) [.int i,.int i]=.ok (.bl true):=by
 have t1:uk ["tuple","list"] (.int i)=.ok (.bl false):=rfl;rw[aS];open_line with[df,t1,beq_self_eq_true i]
def ze{n:Nat}:aS (n+1) [.non,.non]=.ok (.bl true):=by
 rw[aS];rfl
def uC{n:Nat}{x:gN}:aS (n+2) [fr x,fr x]=.ok (.bl true):=lj (ds:=[.int x.1,.int x.2]) (by simp) λd hd=>by
 simp only[List.mem_cons,List.not_mem_nil,or_false]at hd;rcases hd with rfl|rfl<;>exact zf
def zd{n:Nat}{t:oq}:aS (n+3) [aP t,aP t]=.ok (.bl true):=lj (ds:=[.str t.a,.str t.b,.str t.w,fr t.l,fq t.o]) (by simp) λd hd=>by
 simp only[List.mem_cons,List.not_mem_nil,or_false]at hd;rcases hd with rfl|rfl|rfl|rfl|rfl
 .exact fg
 .exact fg
 .exact fg
 .exact uC
 .cases t.o with
  |none=>exact ze
  |some x=>exact uC
def zc{u:eG}(U:bF u):gU [aB u,aB u]=.ok (.bl true):=lj (n:=4) (ds:=[.lst (u.ps.map D.str),.lst (u.ts.map aP),.str u.fi,.str u.la]) (by simp) λd hd=>by
 have h7:=U.n7;have h14:=U.t14;simp only[List.mem_cons,List.not_mem_nil,or_false]at hd;rcases hd with rfl|rfl|rfl|rfl
 .exact qh (n:=3) (by rw[List.length_map];omega) λd hd=>by
   obtain⟨z,_,rfl⟩:=List.mem_map.mp hd;exact fg
 .exact qh (n:=3) (by rw[List.length_map];omega) λd hd=>by
   obtain⟨t,_,rfl⟩:=List.mem_map.mp hd;exact zd
 .exact fg
 .exact fg
theorem mT:∀(zs:List Str),plainDs (zs.map D.str)=true
 |[]=>rfl
 |z::zs=>by
  show(plainD (.str z)&&plainDs (zs.map D.str))=true;rw[mT zs];rfl
def yg(t:oq):plainD (aP t)=true:=by
 obtain⟨a,b,w,l,o⟩:=t;cases o<;>rfl
theorem mS:∀(ts:List oq),plainDs (ts.map aP)=true
 |[]=>rfl
 |t::ts=>by
  show(plainD (aP t)&&plainDs (ts.map aP))=true;rw[mS ts,yg];rfl
def pq(w:eG):plainD (aB w)=true:=by
 show(plainD (.lst (w.ps.map D.str))&&(plainD (.lst (w.ts.map aP))&&(plainD (.str w.fi)&&(plainD (.str w.la)&&true))))=true;rw[show plainD (.lst (w.ps.map D.str))=true from mT _,show plainD (.lst (w.ts.map aP))=true from mS _];rfl
def Bk{i:Nat}{r:bd}{ρ:Ev}{u:eG}{d:D}(U:bF u)(h:ρ[i]?=some (.sh (ir u)))(hr:r (ρ.map λ_=>.no)=.ok (.rt d)):kN i r ρ=.ok (.rt d):=by
 unfold kN;rw[h];show(if(u.ts.map aP).length<line then(r (ρ.map λ_=>.no)).bind LB else .stuck)=_;have:=U.t14;rw[if_pos (by rw[List.length_map];exact Nat.lt_of_le_of_lt this (by decide)),hr];rfl
set_option maxHeartbeats 1000000 in
def Ct{w v:eG}(W:bF w)(V:bF v):eE [aB w,aB v]=.ok (.bl true):=by
 have key:bH 6 fS [aB w,aB v]=.ok (.bl true):=by
  by_cases h:E3 w v
  .have d1:=(Bv W V).1 h
   have b1:=(p9 W V).1 h;have q1:j9 gV "NoJoin"=true:=by decide
   have t1:zP "NoJoin"=some true:=by decide
   have t2:zN "NoJoin"=some true:=by decide
   have t3:zL "NoJoin"=some false:=by decide
   have n1:oX .non .non=.ok (.bl true):=rfl;open_line with[fS,d1,Bi,xo,ub,b1,fB,DQ q1,G8,n1,vP t1,vP t2,vP t3]
  .have U:=Kb W V h
   have d1:=(Bv W V).2 h;have b1:=(p9 W V).2 h;have a1:=zc U;have n1:oX (aB (J w v)) .non=.ok (.bl false):=rfl;have n2:xB .non .non=.ok (.bl false):=rfl;have hg:∀ρ:Ev,ρ[4]?=some (.sh (ir (J w v)))->EH (ae 4) ρ=.ok (aB (J w v)):=λρ h4=>by
    unfold EH ae;rw[h4];show ao.ok (fgt (ir (J w v)))=_;rw[tW]
   have hs:∀ρ:Ev,ρ[4]?=some (.sh (ir (J w v)))->kN 4 (ar (bx (dC (.bl true))) au) ρ=.ok (.rt (.bl true)):=λρ h4=>Bk U h4 rfl;open_line with[fS,d1,Bi,xo,ub,b1,DR,n1,n2,hg,a1,hs]
 unfold eE nv;have hp:plainDs [aB w,aB v]=true:=by
  show(plainD (aB w)&&(plainD (aB v)&&true))=true;rw[pq,pq];rfl
 rw[if_pos hp,key];rfl
def sI{w:eG}:aT 39 (aB w)=true:=by
 have h1:aT 38 (.lst (w.ps.map D.str))=true:=iZ;have h2:aT 38 (.lst (w.ts.map aP))=true:=List.all_eq_true.mpr λd hd=>by
  obtain⟨t,_,rfl⟩:=List.mem_map.mp hd;exact zZ
 show(aT 38 (.lst (w.ps.map D.str))&&(aT 38 (.lst (w.ts.map aP))&&(aT 38 (.str w.fi)&&(aT 38 (.str w.la)&&true))))=true;rw[h1,h2];rfl
def GB{w v:eG}:gI (.tup [aB w,aB v]) (.tup [aB w,aB v])=.ok (.bl false):=by
 have hs:aT 40 (.tup [aB w,aB v])=true:=by
  show(aT 39 (aB w)&&(aT 39 (aB v)&&true))=true;rw[sI,sI];rfl
 unfold gI;rw[if_pos ⟨hs,hs⟩,iO 40 _ hs];rfl
def Kq:bd :=
 (ar (dO (gM (bZ (aq (af (aa (ae 7) (dC (.int 0)) aD) (af (aa (ae 7) (dC (.int 1)) aD) ax)) eE)) (aa (aq (af (ae 4) (af (ae 5) ax)) dm) (ae 6) gI))
 (ar (bx (dC (.bl false)))
 au)
 au)
 au)
def Ju{x0 x1 x2 x3:D}{w u:eG}(W:bF w)(U:bF u){a7:Sl}:∃b7,bW (bV 7) Kq [.tup [aB w,aB u],.tup [aB u,aB w],.tup [aB w,aB w],.tup [aB w,aB u]] [.sh x0,.sh x1,.sh x2,.sh x3,.sh (aB w),.sh (aB u),.sh (.tup [aB w,aB u]),a7]=.ok (.nx [.sh x0,.sh x1,.sh x2,.sh x3,.sh (aB w),.sh (aB u),.sh (.tup [aB w,aB u]),b7]):=by
 obtain⟨ρ',hf,b7,hP⟩:=je (tg:=bV 7) (body:=Kq) (ds:=[.tup [aB w,aB u],.tup [aB u,aB w],.tup [aB w,aB w],.tup [aB w,aB u]]) (λk ρ=>∃b7,ρ=[.sh x0,.sh x1,.sh x2,.sh x3,.sh (aB w),.sh (aB u),.sh (.tup [aB w,aB u]),b7]) (λk d hd ρ z9=>by
   obtain⟨b7,hρ⟩:=z9;subst hρ;obtain⟨p,q,P,Q,rfl⟩:∃p q:eG,bF p/\bF q/\d=.tup [aB p,aB q]:=by
    have:=List.mem_of_getElem? hd;simp only[List.mem_cons,List.not_mem_nil,or_false]at this;rcases this with rfl|rfl|rfl|rfl
    .exact⟨w,u,W,U,rfl⟩
    .exact⟨u,w,U,W,rfl⟩
    .exact⟨w,w,W,W,rfl⟩
    .exact⟨w,u,W,U,rfl⟩
   refine⟨_,[.sh x0,.sh x1,.sh x2,.sh x3,.sh (aB w),.sh (aB u),.sh (.tup [aB w,aB u]),.sh (.tup [aB p,aB q])],rfl,?_,_,rfl⟩;have t:=Ct P Q;have i0:aD (.tup [aB p,aB q]) (.int 0)=.ok (aB p):=rfl;have i1:aD (.tup [aB p,aB q]) (.int 1)=.ok (aB q):=rfl;open_line with[Kq,i0,i1,t,GB]) (ρ:=[.sh x0,.sh x1,.sh x2,.sh x3,.sh (aB w),.sh (aB u),.sh (.tup [aB w,aB u]),a7]) ⟨_,rfl⟩
 exact⟨b7,by rw[hf,hP]⟩
def CT{ws:List eG}(h:∀w∈ws,bF w){k:Nat}(hk:k<ws.length):∃v,bF v/\aD (.lst (ws.map aB)) (.int ((k:Int)-1))=.ok (aB v):=by
 cases k with
 |zero=>
  have hne:ws≠[]:=λe=>by rw[e]at hk;exact nomatch hk
  refine⟨ws.getLast hne,h _ (List.getLast_mem hne),?_⟩;have e:ws.map aB=ws.dropLast.map aB++[aB (ws.getLast hne)]:=by
   conv=>lhs;rw[←List.dropLast_concat_getLast hne]
   rw[List.map_append];rfl
  rw[e];exact xg
 |succ k=>
  refine⟨ws[k],h _ (List.getElem_mem ..),?_⟩;rw[show((k+1:Nat):Int)-1=(k:Int) by omega];exact eL (by rw[List.getElem?_map,List.getElem?_eq_getElem (by omega)];rfl)
noncomputable def Gs:bd :=
 (ar (aN 4 (aa (ae 1) (ae 3) aD))
 (ar (aN 5 (aq (af (ae 4) (af (aa (ae 1) (aa (ae 3) (dC (.int 1)) fM) aD) (af (aa (ae 2) (aa (dC (.int 8)) (ae 3) bK) aD) ax))) bC))
 (ar (aN 6 (aq (af (aa (aq (af (ae 0) ax) cq) (ae 3) aD) (af (aq (af (ae 4) (af (aa (ae 1) (aa (ae 3) (dC (.int 1)) fM) aD) (af (aa (ae 2) (aa (dC (.int 8)) (ae 3) bK) aD) ax))) bC) ax)) dm))
 (ar (oG (aq (af (aq (af (ae 4) (af (ae 5) ax)) dm) (af (aq (af (ae 5) (af (ae 4) ax)) dm) (af (aq (af (ae 4) (af (ae 4) ax)) dm) (af (aq (af (ae 4) (af (ae 5) ax)) dm) ax)))) bG) (bV 7) Kq)
 au))))
set_option maxHeartbeats 1000000 in
def AR(ns:List Int)(h:ns.length<=63):m_law [.lst (ns.map D.int)]=.ok (.bl true):=by
 obtain⟨ws,hg,hall,h8,h1,hcl⟩:=yI h;have hl:=BK h;obtain⟨ρ',hf,b3,b4,b5,b6,b7,hP⟩:=qW (i:=3) (body:=Gs) (n:=ws.length) (λk ρ=>∃b3 b4 b5 b6 b7,ρ=[.sh (.lst (ns.map D.int)),.sh (.lst (ws.map aB)),.sh (.lst ((cl ns).map D.int)),b3,b4,b5,b6,b7]) (λk hk ρ z9=>by
   obtain⟨b3,b4,b5,b6,b7,hρ⟩:=z9;subst hρ;obtain⟨v,V,jv⟩:=CT hall hk;have W:=hall ws[k] (List.getElem_mem hk);have jw:aD (.lst (ws.map aB)) (.int (k:Int))=.ok (aB ws[k]):=eL (by rw[List.getElem?_map,List.getElem?_eq_getElem hk];rfl);have hc:=hcl k hk;have m8:bK (.int 8) (.int (k:Int))=.ok (.int ((8*k:Nat):Int)):=by
    rw[cu (show dS 8 (k:Int)=true from ?_)]
    .congr 2
    .unfold dS
     rw[decide_eq_true (Dq (i:=8) (by decide)),decide_eq_true (Dq (i:=(k:Int)) (by omega))];rfl
   have jc:aD (.lst ((cl ns).map D.int)) (.int ((8*k:Nat):Int))=.ok (.int (cl ns)[8*k]):=eL (by rw[List.getElem?_map,List.getElem?_eq_getElem hc];rfl);obtain⟨u,hu,U⟩:=vB W V (cl ns)[8*k];obtain⟨c7,hin⟩:=Ju (x0:=.lst (ns.map D.int)) (x1:=.lst (ws.map aB)) (x2:=.lst ((cl ns).map D.int)) (x3:=.int (k:Int)) W U (a7:=b7);refine⟨[.sh (.lst (ns.map D.int)),.sh (.lst (ws.map aB)),.sh (.lst ((cl ns).map D.int)),.sh (.int (k:Int)),.sh (aB ws[k]),.sh (aB u),.sh (.tup [aB ws[k],aB u]),c7],?_,_,_,_,_,_,rfl⟩;open_line with[Gs,jw,fM,jv,m8,jc,hu,hg,hin]) (ρ:=[.sh (.lst (ns.map D.int)),.sh (.lst (ws.map aB)),.sh (.lst ((cl ns).map D.int)),.no,.no,.no,.no,.no]) ⟨_,_,_,_,_,rfl⟩
 subst hP;have hb:Fu=ar (aN 1 (aq (af (ae 0) ax) cq)) (ar (aN 2 (ez (aa (ae 0) (aq (af (dC (.int 0)) ax) bG) bo) dA (bM (dC (.int 63))))) (ar (pf (aq (af (ae 1) ax) (m1 cN)) (bV 3) Gs) (ar (bx (dC (.bl true))) au))):=rfl;rw[m_law,hb];open_line with[hg,pU h,pT,ma,List.length_map,nA (show ws.length<=1000000 by omega),hf]
end K65
namespace K65
open PySem L2 DL
def sp_law(K:W.Frag)(H:Hp)(a:Addr)(ns:List Int)(hl:ns.length<=63)(hS:eh K H a (ns.map V.int)):spD K 1 m_law [.ref a] H (λv _=>v=.bl true) λ_ _ _=>False:=by
 refine⟨rfl,H,[.lst (ns.map D.int)],aE.refl _,Reps.cons (aC.mpr ⟨a,_,rfl,hS,qj ns⟩) Reps.nil,?_⟩;rw[AR ns hl];exact λv H' Ha' _ r=>aF.mp r
end K65
structure PySem.W.Fast:Prop where(tw7068617349997279861 tw1552468227237389836 tw12225599012502934645 tw17553099556862254253 tw15671604815029688922 tw11035183926353907082 tw12269636443234172679 tw5000492011238351857 tw8727799645680876699 tw16359382648378769901 tw6899613473315560965 tw8077265696319026623 tw10771911527105437173 tw1103794566764863219 tw10100925412186677465 tw7229216716951238527 tw10375536434115859982 tw18202331211140148312 tw2090845755057332088 tw14632175654583390591 tw11945271038796502592 tw2355881357481329542 tw11268230370808148314 tw12250214232851199966 tw17410829512328148510 tw2518148875716943497 tw7828179008934658049 tw2319339255002319003 tw18324386475660471397 tw962780461964907487 tw17971562626582234120 tw7066412772787010162 tw3234584708399339900 tw15899694875588980883 tw17264371418020900363 tw5895832949811065632 tw17667901300064385235 tw12416884308417030644 tw10514452923002967308 tw10523027236208988963 tw14993493265970820899 tw4163143548035119327 tw7426066511779538582 tw1845974174233620051 tw10101660206435337683 tw16534012751020856086 tw18262419665173757025 tw378960806691040578 tw596480801626464050 tw6691931531793698437 tw4050405408181773369 tw15448608440148627532 tw15797509974646079160 tw17632466433933866656 tw17757450833707055426 tw8077996327090628645 tw12023577707562321245 tw17509131631319091955 tw530050456803498859 tw14239031622706676383 tw15261813545278216855 tw15551860793498697394 tw4237505499025304548 tw13990406870694679515 tw16451454575613207193 tw12715099039206982505 tw13097917154486515306 tw7849006956526122517 tw10307024032671721836 tw12050154752678600276 tw7290960255292120151 tw15093090226892774516:True)
open PySem PySem.W PyProof.Rows
set_option maxRecDepth 100000 in
set_option maxHeartbeats 0 in
theorem PySem.Challenge.cw_farthestcut_k65_webs_beside_one_another_holds : PySem.Challenge.rw_farthestcut_k65_webs_beside_one_another.Holds := by
 w_on;o_law;k_head;(case hw=>w_witness2)
 k_fill
 refine L2.walk_ofK (l:=PySem.Challenge.rw_farthestcut_k65_webs_beside_one_another) (n:=63) (k:=10) (x:="_law_script") (CX:=L2.CX0) (sp:=fun K=>DL.spD K 1 K65.m_law) ?I rfl (by decide) rfl ⟨rfl,by decide,by decide,rfl⟩ (fun w h Y=>W.kIn_of Y) ?F ?S ?C
 case S=>exact fun K H a ns hl _ hS=>K65.sp_law K H a ns hl hS
 case C=>exact fun _ _ _ _ h=>h
 case I=>rfl
 case F =>
  intro w mg fa h KX G hmg;have T:∃ t:K65.Adr,K65.Txt (L2.KOf KX) mg t/\mg "law"=some (.ref (t.A 25))/\∃ kV doc pm an cdv ct,t.Q 25=W.fnOf "law" "law" (L2.defArgs (K65.top 51)) (L2.defBody (K65.top 51)) (L2.defScope (K65.top 51)) .none kV doc pm an cdv ct:=by
   dsimp only[L2.KOf];refine' K65.txt_wr (K65.txt_mk KX G ?QS ?_ ?_ ?_ ?_ ?_ ?_ ?_ ?_ ?_ ?_ ?_ ?_ ?_ ⟨?_,?_,?_,?_⟩ ⟨⟨?_,?_,?_,?_⟩,?_,?_,?_,?_,?_,?_,?_,?_,?_,?_,?_,?_,?_⟩ ⟨?_,?_,?_,?_⟩ ⟨⟨?_,?_,?_,?_⟩,?_,?_,?_,?_,?_,?_,?_,?_,?_,?_,?_,?_⟩ ?_ ?_ ?_ ?_ ?_ ?_ ?_ ?_ ?_ ?_ ?_ ?_ ?_ ?_ ?_ ?_ (K65.sbc ?_ (K65.sbc ?_ (K65.sbc ?_ (K65.sbc ?_ trivial)))) (K65.sbc ?_ (K65.sbc ?_ (K65.sbc ?_ (K65.sbc ?_ trivial)))) ?_ ?_ ?_ ?_ ?_ ?_ ?_ ?_ ?_ ?_ ?_ ?_ ?_ ?_ ?_ ?_ ?_)
   case' QS=>iterate 26 refine DL.QAs.cons ⟨by k_is,by k_is,_,_,_,_,_,_,_,_,_,by k_is,by k_is⟩ ?_
   case QS=>trivial
   all_goals try first |k_is |k_exc |rfl
   exact⟨_,_,_,_,[.str "one",.str "both"],rfl,.cons ⟨_,rfl⟩ (.cons ⟨_,rfl⟩ (.nil)),by decide,fun H=>DL.Reps.cons (DL.Rep.str_iff.mpr rfl) (DL.Reps.cons (DL.Rep.str_iff.mpr rfl) (DL.Reps.nil))⟩
  obtain⟨t,T,e0,kV,doc,pm,an,cdv,ct,ed⟩:=T;have e1:=hmg.symm.trans e0;cases e1;refine⟨t.Q 25,fun s u=>?_,fun base kb nb=>(K65.ok_law T).F⟩;rw[ed];exact .of_eq rfl
