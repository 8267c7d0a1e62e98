import PyProof.Rows.All
import Wide.All
import OpenK.AllK
import Wide.FinOn
import PyProof.EqAt
import PyProof.EqKinds
import PyProof.NeKinds
import PyProof.TupleCall
import PyProof.StrWalks
import PyProof.EnumMake
import PyProof.WalksEnum
import PyProof.ZipIter
import PyProof.Rows.ZipGen
import PyProof.Rows.SortWalk
import KE.KSortedM
import PyProof.ExcInit
import PyProof.InstStoreFacts
import PyProof.AttrMissHeap
import PyProof.FactsAll.enumerate
import PyProof.FactsAll.dict_1
import KE.KDictOf
import KE.KItemsList
import PyProof.ReprRoads
import PyProof.StrLawsIdx
import PyProof.StrLawsNeg
import PyProof.FitsInt
import PySem.Challenge.RW_farthestcut_k12_lengths_and_places
set_option Elab.async false
set_option linter.all false
set_option maxRecDepth 100000
set_option maxHeartbeats 4000000
namespace L2
open PySem PySem.Spec PyProof.Rows
abbrev Key:=Sum Int Str
def zwS:Key->Value->Bool
 | .inl k,v=>Value.isInt k v
 | .inr x,v=>Value.isStrOf x v
def zzT (w:World):Key->Int
 | .inl k=>hashInt k
 | .inr x=>hashStr w x
theorem zbz:∀ {k:Key}{v:Value},zwS k v=true->(∃ i t,k=Sum.inl i/\v=Value.int i t)∨(∃ x t,k=Sum.inr x/\v=Value.str x t)
 | .inl i,v,h=>by
  obtain⟨t,e⟩:=Value.isInt_shape (k:=i) (v:=v) h
  exact .inl ⟨i,t,rfl,e⟩
 | .inr x,v,h=>by
  obtain⟨t,e⟩:=Value.isStrOf_shape (x:=x) (v:=v) h
  exact .inr ⟨x,t,rfl,e⟩
theorem zwR (a b:Int):decide ((Sum.inl a:Key)=Sum.inl b)=(a==b):=by
 by_cases e:a=b
 ·subst e;simp
 ·have h:¬ (Sum.inl a:Key)=Sum.inl b:=fun q=>e (Sum.inl.inj q)
  rw[decide_eq_false h]
  exact(beq_eq_false_iff_ne.mpr e).symm
theorem zwO (a b:Str):decide ((Sum.inr a:Key)=Sum.inr b)=decide (a=b):=by
 by_cases e:a=b
 ·subst e;simp
 ·have h:¬ (Sum.inr a:Key)=Sum.inr b:=fun q=>e (Sum.inr.inj q)
  rw[decide_eq_false h,decide_eq_false e]
theorem zwQ (a:Int)(b:Str):decide ((Sum.inl a:Key)=Sum.inr b)=false:=decide_eq_false (fun q=>nomatch q)
theorem zwP (a:Str)(b:Int):decide ((Sum.inr a:Key)=Sum.inl b)=false:=decide_eq_false (fun q=>nomatch q)
def zj8 (prog:Program)(w:World):PySem.KeyKind prog w Key where
 is:=zwS
 hash:=zzT w
 inj:=fun v a b ha hb=>by
  rcases zbz ha with⟨i,t,rfl,rfl⟩ | ⟨x,t,rfl,rfl⟩
  ·rcases zbz hb with⟨j,u,rfl,e⟩ | ⟨y,u,rfl,e⟩
   ·injection e with e1 _;rw[e1]
   ·exact nomatch e
  ·rcases zbz hb with⟨j,u,rfl,e⟩ | ⟨y,u,rfl,e⟩
   ·exact nomatch e
   ·injection e with e1 _;rw[e1]
 byValue:=fun k v h=>by
  rcases zbz h with⟨i,t,rfl,rfl⟩ | ⟨x,t,rfl,rfl⟩<;>rfl
 pyHash:=fun hv h=>by
  rcases zbz hv with⟨i,t,rfl,rfl⟩ | ⟨x,t,rfl,rfl⟩
  ·exact wpAny_pyHash_int h
  ·exact wpAny_pyHash_str h
 eqBool:=fun hu hv h=>by
  rcases zbz hu with⟨i,t,rfl,rfl⟩ | ⟨x,t,rfl,rfl⟩
  ·rcases zbz hv with⟨j,u,rfl,rfl⟩ | ⟨y,u,rfl,rfl⟩
   ·rw[zwR] at h;exact wpAny_eqBool_int h
   ·rw[zwQ] at h;exact SeqAt.EqAt.int_str i t y u _ _ _ _ h
  ·rcases zbz hv with⟨j,u,rfl,rfl⟩ | ⟨y,u,rfl,rfl⟩
   ·rw[zwP] at h;exact SeqAt.EqAt.str_int x t j u _ _ _ _ h
   ·rw[zwO] at h;exact wpAny_eqBool_str h
 «strs»:=fun k x t v h=>by
  rcases zbz h with⟨i,u,rfl,e⟩ | ⟨y,u,rfl,e⟩
  ·exact nomatch e
  ·injection e with e1 _
   subst e1
   cases v<;>rfl
inductive V where
 | non | bl (b:Bool) | int (i:Int) | str (x:Str) | byt (b:Array UInt8) | flt (b:UInt64) | ref (a:Addr) | ty (n:String)
 deriving DecidableEq
def zbP:V->Value->Prop
 | .non,u=>u=Value.none
 | .bl b,u=>u=Value.bool b
 | .int i,u=>∃ t,u=Value.int i t
 | .str x,u=>∃ t,u=Value.str x t
 | .byt b,u=>∃ t,u=Value.bytes b t
 | .flt b,u=>∃ t,u=Value.float b t
 | .ref a,u=>u=Value.ref a
 | .ty n,u=>u=Value.type n
abbrev zbK:List V->List Value->Prop:=Paired zbP
theorem zbK.length {xs:List V}{us:List Value}(r:zbK xs us):xs.length=us.length:=Paired.length r
theorem zbK.get:∀ {xs:List V}{us:List Value}{i:Nat}{x:V},zbK xs us->xs[i]?=some x->∃ u,us[i]?=some u/\zbP x u
 | _,_,_,_,.nil,e=>by simp at e
 | _,_,0,_,.cons r _,e=>by simp at e;subst e;exact⟨_,rfl,r⟩
 | _,_,i+1,x,.cons _ t,e=>by
  obtain⟨u,h1,h2⟩:=zbK.get (i:=i) (x:=x) t (by simpa using e)
  exact⟨u,by simpa using h1,h2⟩
theorem zbK.set {x:V}{u:Value}(r:zbP x u):∀ {xs:List V}{us:List Value}(i:Nat),zbK xs us->zbK (xs.set i x) (us.set i u)
 | _,_,_,.nil=>.nil
 | _,_,0,.cons _ t=>.cons r t
 | _,_,i+1,.cons q t=>.cons q (zbK.set r i t)
theorem zbK.append:∀ {xs ys:List V}{us ws:List Value},zbK xs us->zbK ys ws->zbK (xs++ys) (us++ws)
 | _,_,_,_,.nil,s=>s
 | _,_,_,_,.cons r t,s=>.cons r (zbK.append t s)
theorem zbK.take:∀ {xs:List V}{us:List Value}(n:Nat),zbK xs us->zbK (xs.take n) (us.take n)
 | _,_,0,_=>.nil
 | _,_,_+1,.nil=>.nil
 | _,_,n+1,.cons r t=>.cons r (zbK.take n t)
theorem zbK.drop:∀ {xs:List V}{us:List Value}(n:Nat),zbK xs us->zbK (xs.drop n) (us.drop n)
 | _,_,0,r=>r
 | _,_,_+1,.nil=>.nil
 | _,_,n+1,.cons _ t=>zbK.drop n t
def ztr:Option V->Option Value->Prop
 | some v,some u=>zbP v u
 | none,none=>True
 | _,_=>False
def KV {κ:Type}:List (κ×V)->List (κ×Value)->Prop:=Paired fun(p:κ×V) (q:κ×Value)=>p.1=q.1/\zbP p.2 q.2
def kV:Key->V
 | .inl i=>.int i
 | .inr x=>.str x
inductive HO where
 | lst (xs:List V)
 | tup (xs:List V)
 | dK (kvs:List (Key×V)) | dT (kvs:List (List Key×V))
 | set (S:Int->Bool) (n:Nat)
 | ins (C dx:Addr) (fs:List (Str×V))
 | own (x:Addr)
 | xd (fs:List (Str×V))
 | met (f x:Addr)
 | rng (lo hi:Int)
 | frz (o:Obj) (u:HO)
 | tbl (ps:Array Value)
 | ext (φ:Heap->Prop)
abbrev Hp:=Addr->Option HO
def upd (H:Hp)(a:Addr)(o:HO):Hp:=fun b=>if b=a then some o else H b
theorem zak {H:Hp}{a:Addr}{o:HO}:upd H a o a=some o:=by unfold upd;rw[if_pos rfl]
theorem zah {H:Hp}{a b:Addr}{o:HO}(h:b≠a):upd H a o b=H b:=by unfold upd;rw[if_neg h]
theorem zaB {H:Hp}{a b:Addr}{o:HO}(h:H a=some o)(h':H b=none):a≠b:=by
 intro e;subst e;rw[h] at h';cases h'
section
variable (P:Program) (w:World)
def zb6 (H:Hp)(h:Heap)(a:Addr):HO->Prop
 | .lst xs=>xs.length<=sizeLine/\∃ (its:List Value) (n:Nat),zbK xs its/\h.get? a=some { cls:=.type "list",data:=.seq its.toArray n }
 | .tup xs=>xs.length<=sizeLine/\∃ its:List Value,zbK xs its/\IsTup h a its.toArray
 | .dK kvs=>kvs.length<=sizeLine/\(a==sysModules)=false/\∃ vs,KV kvs vs/\h.DictOf (zj8 P w) a vs
 | .dT kvs=>kvs.length<=sizeLine/\(a==sysModules)=false/\∃ xs:List (List Key×Addr×Value),
   Paired (fun(p:List Key×V) (q:List Key×Addr×Value)=>p.1=q.1/\H q.2.1=some (.tup (p.1.map kV))/\zbP p.2 q.2.2) kvs xs /\
   ∃ o es ep,h.get? a=some o/\o.ExactDict/\o.data=.dict es ep/\es.toList=xs.map (entryOfKey (tupleKind (zj8 P w)))/\(xs.map (·.1)).Nodup
 | .set S n=>h.SetOf (intKind P w) a S n
 | .ins C dx fs=>H dx=some (.own a)/\fs.length<=1000/\dx≠a/\h.get? a=some (W.instObj C dx) /\
   ∃ mA,h.Ns1 dx mA/\(∀ f,ztr (fs.lookup f) (mA f))/\PySem.Within mA (fs.map (·.1))
 | .own _=>∃ o,h.get? a=some o
 | .xd fs=>∃ mA,h.Ns1 a mA/\∀ f,ztr (fs.lookup f) (mA f)
 | .rng lo hi=>∃ t u v,h.get? a=some { cls:=.type "range",data:=.fields #[.int lo t,.int hi u,.int 1 v] }
 | .frz o u=>h.get? a=some o/\zb6 H h a u
 | .tbl ps=>h.get? a=some { cls:=.none,data:=.fields ps }
 | .met f x=>h.get? a=some (W.methodObj (.ref f) (.ref x))
 | .ext φ=>φ h/\(∃ o,h.get? a=some o)/\∀ h1 h2:Heap,φ h1->(∀ o,h1.get? a=some o->h2.get? a=some o)->φ h2
def HOk (H:Hp)(h:Heap):Prop:=∀ a o,H a=some o->zb6 P w H h a o
end
section
variable {P:Program}{w:World}{H H':Hp}{h h':Heap}{a:Addr}{o:HO}
theorem zb6.lt (x:zb6 P w H h a o):a < h.objs.size:=by
 cases o with
 | lst xs=>obtain⟨_,_,_,_,e⟩:=x;exact Heap.lt_size e
 | tup xs=>obtain⟨_,_,_,p⟩:=x;exact p.lt
 | dK kvs=>obtain⟨_,_,_,_,o,_,_,e,_⟩:=x;exact Heap.lt_size e
 | dT kvs=>obtain⟨_,_,_,_,o,_,_,e,_⟩:=x;exact Heap.lt_size e
 | set S n=>obtain⟨o,_,_,_,e,_⟩:=x;exact Heap.lt_size e
 | ins C dx fs=>obtain⟨_,_,_,e,_⟩:=x;exact Heap.lt_size e
 | own y=>obtain⟨_,e⟩:=x;exact Heap.lt_size e
 | xd fs=>obtain⟨_,⟨_,_,_,e,_⟩,_⟩:=x;exact Heap.lt_size e
 | rng lo hi=>obtain⟨_,_,_,e⟩:=x;exact Heap.lt_size e
 | frz ob u=>obtain⟨e,_⟩:=x;exact Heap.lt_size e
 | tbl ps=>exact Heap.lt_size (show h.get? a=some _ from x)
 | met f y=>exact Heap.lt_size (show h.get? a=some _ from x)
 | ext φ=>obtain⟨_,⟨_,e⟩,_⟩:=x;exact Heap.lt_size e
theorem Paired.mapP {α β:Type}{F G:α->β->Prop}:∀ {l₁:List α}{l₂:List β},Paired F l₁ l₂->(∀ a b,F a b->G a b)->Paired G l₁ l₂
 | _,_,.nil,_=>.nil
 | _,_,.cons r t,f=>.cons (f _ _ r) (Paired.mapP t f)
theorem zb6.stay (x:zb6 P w H h a o)(k:∀ b u,(b=a∨H b=some (.own a))->h.get? b=some u->h'.get? b=some u)
  (ho:∀ b,H b=some (.own a)->H' b=some (.own a))(ht:∀ b xs,H b=some (.tup xs)->H' b=some (.tup xs)):zb6 P w H' h' a o:=by
 induction o with
 | lst xs=>obtain⟨z,its,n,r,e⟩:=x;exact⟨z,its,n,r,k _ _ (.inl rfl) e⟩
 | tup xs=>obtain⟨z,its,r,ob,e,c⟩:=x;exact⟨z,its,r,ob,k _ _ (.inl rfl) e,c⟩
 | dK kvs=>obtain⟨z,y,vs,r,ob,es,ep,e,c⟩:=x;exact⟨z,y,vs,r,ob,es,ep,k _ _ (.inl rfl) e,c⟩
 | dT kvs =>
  obtain⟨z,y,xs,r,ob,es,ep,e,c⟩:=x
  exact⟨z,y,xs,Paired.mapP r fun p q z=>⟨z.1,ht _ _ z.2.1,z.2.2⟩,ob,es,ep,k _ _ (.inl rfl) e,c⟩
 | set S n=>obtain⟨ob,es,ep,t,e,c⟩:=x;exact⟨ob,es,ep,t,k _ _ (.inl rfl) e,c⟩
 | ins C dx fs =>
  obtain⟨d,z,ne,e,mA,⟨od,es,ep,e2,c⟩,r⟩:=x
  exact⟨ho _ d,z,ne,k _ _ (.inl rfl) e,mA,⟨od,es,ep,k _ _ (.inr d) e2,c⟩,r⟩
 | own y=>obtain⟨ob,e⟩:=x;exact⟨ob,k _ _ (.inl rfl) e⟩
 | xd fs=>obtain⟨mA,⟨od,es,ep,e,c⟩,r⟩:=x;exact⟨mA,⟨od,es,ep,k _ _ (.inl rfl) e,c⟩,r⟩
 | rng lo hi=>obtain⟨t,u,v,e⟩:=x;exact⟨t,u,v,k _ _ (.inl rfl) e⟩
 | frz ob u ih=>obtain⟨e,q⟩:=x;exact⟨k _ _ (.inl rfl) e,ih q⟩
 | tbl ps =>
  have e:h.get? a=some { cls:=.none,data:=.fields ps }:=x
  show h'.get? a=some { cls:=.none,data:=.fields ps }
  exact k a _ (.inl rfl) e
 | met f y =>
  have e:h.get? a=some (W.methodObj (.ref f) (.ref y)):=x
  show h'.get? a=some (W.methodObj (.ref f) (.ref y))
  exact k a _ (.inl rfl) e
 | ext φ=>obtain⟨p,⟨o,e⟩,st⟩:=x;exact⟨st _ _ p fun o q=>k _ _ (.inl rfl) q,⟨o,k _ _ (.inl rfl) e⟩,st⟩
theorem HOk.lt (x:HOk P w H h)(e:H a=some o):a < h.objs.size:=(x a o e).lt
theorem HOk.fresh (x:HOk P w H h)(e:h.objs.size<=a):H a=none:=by
 cases q:H a with
 | none=>rfl
 | some u=>exact absurd (Nat.lt_of_lt_of_le (x.lt q) e) (Nat.lt_irrefl _)
theorem HOk.kept (x:HOk P w H h)(k:∀ b u,h.get? b=some u->h'.get? b=some u):HOk P w H h':=fun a o e =>
 (x a o e).stay (fun b u _ q=>k b u q) (fun _ q=>q) fun _ _ q=>q
theorem HOk.laid (x:HOk P w H h)(k:∀ b u,h.get? b=some u->h'.get? b=some u)(hp:h.objs.size<=a)(new:zb6 P w (upd H a o) h' a o):HOk P w (upd H a o) h':=fun b u e=>by
 have hn:=x.fresh hp
 by_cases hb:b=a
 ·subst hb;rw[zak] at e;cases e;exact new
 ·rw[zah hb] at e
  exact(x b u e).stay (fun c v _ q=>k c v q) (fun c q=>by rw[zah (zaB q hn)];exact q) fun c xs q=>by rw[zah (zaB q hn)];exact q
end
def Rd (H:Hp)(a:Addr)(u:HO):Prop:=H a=some u∨∃ o,H a=some (.frz o u)
theorem Rd.ok {P:Program}{w:World}{H:Hp}{h:Heap}{a:Addr}{u:HO}(r:Rd H a u)(x:HOk P w H h):zb6 P w H h a u:=by
 rcases r with r | ⟨o,r⟩
 ·exact x a u r
 ·obtain⟨_,q⟩:=x a _ r
  exact q
def Mut:Option HO->Prop
 | some (.lst _)=>True
 | some (.dK _)=>True
 | some (.dT _)=>True
 | some (.set _ _)=>True
 | some (.ins _ _ _)=>True
 | some (.ext _)=>True
 | _=>False
section
variable {P:Program}{w:World}{H:Hp}{h h':Heap}{x e:Addr}{o':HO}
theorem HOk.write (ok:HOk P w H h)(mu:Mut (H x))(he:e=x∨H e=some (.own x))(k:∀ b u,b≠e->h.get? b=some u->h'.get? b=some u)(heo:∃ u,h'.get? e=some u)
  (new:zb6 P w (upd H x o') h' x o'):HOk P w (upd H x o') h':=fun b u q=>by
 have nown:∀ c y,H c=some (.own y)->c≠x:=fun c y r z=>by subst z;rw[r] at mu;exact mu
 have ntup:∀ c xs,H c=some (.tup xs)->c≠x:=fun c xs r z=>by subst z;rw[r] at mu;exact mu
 by_cases hb:b=x
 ·subst hb;rw[zak] at q;cases q;exact new
 ·rw[zah hb] at q
  by_cases hbe:b=e
  ·have q':H b=some (.own x):=by
    rcases he with z | z
    ·exact absurd (hbe.trans z) hb
    ·rw[hbe];exact z
   rw[q] at q';cases q'
   obtain⟨v,hv⟩:=heo
   exact⟨v,by rw[hbe];exact hv⟩
  ·refine(ok b u q).stay (fun c v hc r=>k c v ?_ r) (fun c r=>by rw[zah (nown c b r)];exact r) fun c xs r=>by rw[zah (ntup c xs r)];exact r
   rcases hc with rfl | hc
   ·exact hbe
   ·rintro rfl
    rcases he with z | z
    ·exact nown c b hc z
    ·rw[hc] at z;cases z;exact hb rfl
end
structure Un (fs ex:List Addr) (H H':Hp) (h h':Heap):Prop where
 keep:∀ b o,h.get? b=some o->H b=none->b∉fs->b∉ex->h'.get? b=some o
 slot:∀ b o,h.get? b=some o->H b=none->b∈fs->b∉ex->∃ sl,h'.get? b=some { o with slots:=sl }
 free:∀ b o,h.get? b=some o->H b=none->b∉ex->H' b=none
 there:∀ b o,h.get? b=some o->b∉ex->∃ o',h'.get? b=some o'
 tups:∀ b xs,H b=some (.tup xs)->H' b=some (.tup xs)
 frzs:∀ b o u,H b=some (.frz o u)->H' b=some (.frz o u)
 tbls:∀ b ps,H b=some (.tbl ps)->∃ more,H' b=some (.tbl (ps++more))
section
variable {fs fs' ex ex':List Addr}{H H1 H2:Hp}{h h1 h2 h':Heap}{a x e:Addr}{o:HO}
theorem Un.any (u:Un fs ex H H1 h h1){b:Addr}{ob:Obj}(q:h.get? b=some ob)(n:H b=none)(hx:b∉ex):∃ sl,h1.get? b=some { ob with slots:=sl }:=by
 by_cases hb:b∈fs
 ·exact u.slot b ob q n hb hx
 ·exact⟨ob.slots,u.keep b ob q n hb hx⟩
theorem Un.trans (a:Un fs ex H H1 h h1)(b:Un fs ex H1 H2 h1 h2):Un fs ex H H2 h h2 where
 keep:=fun c ob q n hc hx=>b.keep c ob (a.keep c ob q n hc hx) (a.free c ob q n hx) hc hx
 slot:=fun c ob q n hc hx=>by
  obtain⟨sl,e1⟩:=a.slot c ob q n hc hx
  obtain⟨sl',e2⟩:=b.slot c _ e1 (a.free c ob q n hx) hc hx
  exact⟨sl',e2⟩
 free:=fun c ob q n hx=>by
  obtain⟨o',e1⟩:=a.there c ob q hx
  exact b.free c o' e1 (a.free c ob q n hx) hx
 there:=fun c ob q hx=>by
  obtain⟨o',e1⟩:=a.there c ob q hx
  exact b.there c o' e1 hx
 tups:=fun c xs q=>b.tups c xs (a.tups c xs q)
 frzs:=fun c ob xs q=>b.frzs c ob xs (a.frzs c ob xs q)
 tbls:=fun c ps q=>by
  obtain⟨m1,e1⟩:=a.tbls c ps q
  obtain⟨m2,e2⟩:=b.tbls c _ e1
  exact⟨m1++m2,by rw[e2,Array.append_assoc]⟩
theorem Un.kept (k:∀ b u,h.get? b=some u->h'.get? b=some u):Un fs ex H H h h' :=
 ⟨fun b ob q _ _ _=>k b ob q,fun b ob q _ _ _=>⟨ob.slots,k b ob q⟩,fun _ _ _ n _=>n,fun b ob q _=>⟨ob,k b ob q⟩,fun _ _ q=>q,fun _ _ _ q=>q,fun _ ps q=>⟨#[],by rw[q];simp⟩⟩
theorem Un.refl:Un fs ex H H h h:=Un.kept fun _ _ q=>q
theorem Un.laid (k:∀ b u,h.get? b=some u->h'.get? b=some u)(hp:h.objs.size<=a)(hn:H a=none):Un fs ex H (upd H a o) h h' where
 keep:=fun b u q _ _ _=>k b u q
 slot:=fun b u q _ _ _=>⟨u.slots,k b u q⟩
 free:=fun b u q n _=>by rw[zah (Nat.ne_of_lt (Nat.lt_of_lt_of_le (Heap.lt_size q) hp))];exact n
 there:=fun b u q _=>⟨u,k b u q⟩
 tups:=fun b xs q=>by rw[zah (zaB q hn)];exact q
 frzs:=fun b u xs q=>by rw[zah (zaB q hn)];exact q
 tbls:=fun b ps q=>⟨#[],by rw[zah (zaB q hn),q];simp⟩
theorem Un.write (mu:Mut (H x))(he:e=x∨H e=some (.own x))(k:∀ b u,b≠e->h.get? b=some u->h'.get? b=some u)(heo:∃ u,h'.get? e=some u):Un fs ex H (upd H x o) h h':=by
 have hx:∀ b,H b=none->b≠x:=fun b n z=>by subst z;rw[n] at mu;exact mu
 have hb:∀ b,H b=none->b≠e:=fun b n z=>by
  subst z
  rcases he with r | r
  ·exact hx b n r
  ·rw[n] at r;cases r
 have hm:∀ b u,H b=some u->¬ Mut (some u)->b≠x:=fun b u q nm z=>by subst z;rw[q] at mu;exact nm mu
 refine⟨fun b u q n _ _=>k b u (hb b n) q,fun b u q n _ _=>⟨u.slots,k b u (hb b n) q⟩,fun b u q n _=>by rw[zah (hx b n)];exact n,fun b u q _=>?_,
  fun b xs q=>by rw[zah (hm b _ q fun z=>z)];exact q,fun b u xs q=>by rw[zah (hm b _ q fun z=>z)];exact q,fun b ps q=>⟨#[],by rw[zah (hm b _ q fun z=>z),q];simp⟩⟩
 by_cases hbe:b=e
 ·subst hbe;exact heo
 ·exact⟨u,k b u hbe q⟩
end
def trk (h:Heap)(H:Hp):List Addr:=(List.range h.objs.size).filter fun a=>(H a).isSome
def zsc (h:Heap)(H:Hp):Heap:=W.hideAll h (trk h H)
theorem zqi (h:Heap)(H:Hp):(zsc h H).objs.size=h.objs.size:=W.hideAll_size _ _
theorem zsb {h:Heap}{H:Hp}{b:Addr}{o:Obj}(e:h.get? b=some o)(n:H b=none):(zsc h H).get? b=some o :=
 W.hideAll_get _ e fun hm=>by
  have q:(H b).isSome=true:=(List.mem_filter.mp hm).2
  rw[n] at q;simp at q
theorem zuk {h:Heap}{H:Hp}{b:Addr}{o:Obj}(e:(zsc h H).get? b=some o):h.get? b=some o/\H b=none:=by
 have e':h.get? b=some o:=W.of_hideAll (trk h H) e
 refine⟨e',?_⟩
 cases q:H b with
 | none=>rfl
 | some x =>
  have hm:b∈trk h H:=List.mem_filter.mpr ⟨List.mem_range.mpr (Heap.lt_size e'),by simp [q]⟩
  have z:(zsc h H).get? b=none:=W.hideAll_none (trk h H) hm
  rw[z] at e;cases e
structure Mod (K:W.Frag) (mg:Str->Option Value) (base:Heap):Prop where
 kin:K.In base
 glob:base.Ns mainGlobals mg
 blt:∃ mb,base.Ns builtinsNs mb/\∀ x:Str,x≠"__name__"->mb x=bootBuiltins x
 nolimit:base.NoLimit
 sm:∃ mm,base.Ns sysModules mm
structure Cx where
 prog:Program
 w:World
 K:W.Frag
 mg:Str->Option Value
 base:Heap
 A:Around
 N:List Str
 s₀:Shared
 H₀:Hp
 env:Env
 outer:List Env
 stack:List Env
 ex:List Addr
 fn:Str->Bool
 calm:Bool
 pn:List (Addr×Obj)
 xe:Value->Shared->Prop
def frs (l:List Env):List Addr:=l.filterMap (·.frame)
abbrev Cx.fs (X:Cx):List Addr:=frs X.outer
def Vis (sc:Scope)(x:Str):Prop:=sc.names.lookup x=some .local ∨ sc.names.lookup x=some .cell∨sc.names.lookup x=some .free
def Loc (sc:Scope)(x:Str):Prop:=sc.names.lookup x=some .local ∨ sc.names.lookup x=some .cell
def zzt (env:Env)(h:Heap)(m:Str->Option Value)(x:Str)(u:Value):Prop :=
 (env.kindOf x=some .local /\ m x=some u)∨((env.kindOf x=some .cell∨env.kindOf x=some .free)/\∃ c,env.cells.lookup x=some c/\h.IsCell c (some u))
structure Cx.Ok (X:Cx):Prop where
 mod:Mod X.K X.mg X.base
 kind:X.env.scope.kind=.function
 glob:X.env.globals=mainGlobals
 blt:X.env.builtins=builtinsNs
 above:X.s₀.heap.objs.size<=X.env.locals
 inj:∀ x y c,X.env.cells.lookup x=some c->X.env.cells.lookup y=some c->x=y
 has:∀ x,(X.env.kindOf x=some .cell∨X.env.kindOf x=some .free)->∃ c,X.env.cells.lookup x=some c
 cab:∀ x c,X.fn x=true->X.env.cells.lookup x=some c->X.s₀.heap.objs.size<=c
 hd:X.calm=true->X.A.handled=none
 frames:X.A.frames=some X.stack
 stk:X.stack=X.outer∨(X.stack=X.env::X.outer/\X.env.frame=some X.env.locals)
 exf:∀ b∈X.ex,b≠X.env.locals/\∀ x c,X.env.cells.lookup x=some c->c≠b
 bs:∀ b o,X.base.get? b=some o->X.s₀.heap.get? b=some o/\X.H₀ b=none
 bsz:X.base.objs.size<=X.s₀.heap.objs.size
 noex:∀ b o,X.base.get? b=some o->b∉X.ex
 exfs:∀ b∈X.ex,b∉X.fs
 funs:X.s₀.heap.FunFrames X.base X.outer
 frf:∀ b∈X.fs,X.H₀ b=none
structure Inv (X:Cx) (pins:List (Addr×Obj)) (σ:List (Option V)) (H:Hp) (s:Shared):Prop where
 ok:X.Ok
 os:s.os=X.s₀.os
 bare:AllBare s.gens
 base:Un X.fs X.ex X.H₀ H X.s₀.heap s.heap
 loc:∃ m,s.heap.Ns X.env.locals m/\∀ (i:Nat) (x:Str) (v:V),X.N[i]?=some x->σ[i]?=some (some v)->Vis X.env.scope x->∃ u,zbP v u/\zzt X.env s.heap m x u
 cell:∀ x c,X.env.cells.lookup x=some c->∃ v,s.heap.IsCell c v
 free:H X.env.locals=none
 freeC:∀ x c,X.env.cells.lookup x=some c->H c=none
 pin:∀ p∈X.pn++pins,s.heap.get? p.1=some p.2/\H p.1=none/\p.1≠X.env.locals/\p.1∉X.fs/\∀ v,p.2.data≠.cell v
 hok:HOk X.prog X.w H s.heap
 len:σ.length=X.N.length
section
variable {X:Cx}{pins:List (Addr×Obj)}{σ:List (Option V)}{H H':Hp}{s:Shared}{h':Heap}
theorem Cx.Ok.nofr (ok:X.Ok){b:Addr}{o:Obj}(e:X.base.get? b=some o):b∉X.fs:=fun hb=>by
 have:=(ok.funs.mem hb).1
 rw[e] at this;cases this
theorem Inv.bs (I:Inv X pins σ H s):∀ b o,X.base.get? b=some o->s.heap.get? b=some o/\H b=none:=fun b o e =>
 ⟨I.base.keep b o (I.ok.bs b o e).1 (I.ok.bs b o e).2 (I.ok.nofr e) (I.ok.noex b o e),I.base.free b o (I.ok.bs b o e).1 (I.ok.bs b o e).2 (I.ok.noex b o e)⟩
theorem Inv.bk (I:Inv X pins σ H s):∀ b o,X.base.get? b=some o->s.heap.get? b=some o:=fun b o e=>(I.bs b o e).1
theorem Inv.mod (I:Inv X pins σ H s):Mod X.K X.mg X.base:=I.ok.mod
theorem Inv.kIn (I:Inv X pins σ H s):X.K.In s.heap:=I.ok.mod.kin.keeps I.bk
theorem Inv.lt (I:Inv X pins σ H s):X.env.locals < s.heap.objs.size:=let ⟨_,hn,_⟩:=I.loc;hn.lt
theorem Inv.sz (I:Inv X pins σ H s):X.s₀.heap.objs.size<=s.heap.objs.size:=Nat.le_trans I.ok.above (Nat.le_of_lt I.lt)
theorem Inv.nofs (I:Inv X pins σ H s){a:Addr}(h:s.heap.objs.size<=a):a∉X.fs:=fun hb=>by
 obtain⟨_,o,ho,_⟩:=I.ok.funs.mem hb
 exact absurd (Nat.lt_of_lt_of_le (Heap.lt_size ho) (Nat.le_trans I.sz h)) (Nat.lt_irrefl _)
theorem Inv.cne (I:Inv X pins σ H s):∀ x c,X.env.cells.lookup x=some c->c≠X.env.locals:=fun x c e z=>by
 obtain⟨v,o,ho,hd⟩:=I.cell x c e
 obtain⟨m,⟨o',es,ep,ho',hd',_⟩,_⟩:=I.loc
 rw[z,ho'] at ho;cases ho;rw[hd'] at hd;cases hd
theorem Inv.funs (I:Inv X pins σ H s):s.heap.FunFrames X.base X.outer:=by
 have all:∀ (l:List Env),(∀ b∈frs l,b∈X.fs)->X.s₀.heap.FunFrames X.base l->s.heap.FunFrames X.base l:=by
  intro l
  induction l with
  | nil=>intro _ _;trivial
  | cons env r ih =>
   intro hs hl
   obtain⟨hk,⟨L,o,hf,hn,ho,hd⟩,hr⟩:=hl
   have hL:L∈X.fs:=hs L (by unfold frs;rw[List.filterMap_cons,hf];exact List.mem_cons_self)
   obtain⟨sl,e⟩:=I.base.slot L o ho (I.ok.frf L hL) hL fun z=>I.ok.exfs L z hL
   exact⟨hk,⟨L,_,hf,hn,e,hd⟩,ih (fun b hb=>hs b (by unfold frs;rw[List.filterMap_cons,hf];exact List.mem_cons_of_mem _ hb)) hr⟩
 exact all X.outer (fun _ hb=>hb) I.ok.funs
theorem Inv.stack (I:Inv X pins σ H s):s.heap.FunFrames X.base X.stack:=by
 rcases I.ok.stk with e | ⟨e,hf⟩
 ·rw[e];exact I.funs
 ·rw[e]
  obtain⟨m,hn,_⟩:=I.loc
  refine .cons (by rw[I.ok.kind];decide) hf hn ?_ I.funs
  exact Heap.get?_none_of_le (Nat.le_trans I.ok.bsz I.ok.above)
theorem Inv.stkSub (I:Inv X pins σ H s):∀ b∈frs X.stack,b∈X.env.locals::X.fs:=fun b hb=>by
 rcases I.ok.stk with e | ⟨e,hf⟩
 ·rw[e] at hb;exact List.mem_cons_of_mem _ hb
 ·rw[e] at hb
  unfold frs at hb
  rw[List.filterMap_cons,hf] at hb
  exact hb
theorem Inv.stkFree (I:Inv X pins σ H s):∀ b∈frs X.stack,H b=none:=fun b hb=>by
 rcases List.mem_cons.mp (I.stkSub b hb) with e | hb
 ·rw[e];exact I.free
 ·obtain⟨_,o,ho,_⟩:=I.ok.funs.mem hb
  exact I.base.free b o ho (I.ok.frf b hb) fun z=>I.ok.exfs b z hb
theorem Inv.step {g':Array GenState}{t':Nat}{d':Drawn}{ch:List Addr}(I:Inv X pins σ H s)
  (hch:∀ b∈ch,(b∈X.ex∨X.s₀.heap.objs.size<=b)/\b≠X.env.locals/\(∀ x c,X.env.cells.lookup x=some c->c≠b)/\∀ p∈X.pn++pins,p.1≠b)
  (keep:∀ b o,b≠X.env.locals->b∉X.fs->b∉ch->s.heap.get? b=some o->H b=none->h'.get? b=some o)
  (slot:∀ b o,b≠X.env.locals->b∈X.fs->b∉ch->s.heap.get? b=some o->H b=none->∃ sl,h'.get? b=some { o with slots:=sl })(free:∀ b o,b∉ch->s.heap.get? b=some o->H b=none->H' b=none)
  (there:∀ b o,b∉ch->s.heap.get? b=some o->∃ o',h'.get? b=some o')
  (tups:∀ b xs,H b=some (.tup xs)->H' b=some (.tup xs))(frzs:∀ b o u,H b=some (.frz o u)->H' b=some (.frz o u))(tbls:∀ b ps,H b=some (.tbl ps)->∃ more,H' b=some (.tbl (ps++more)))
  (ns:∀ m,s.heap.Ns X.env.locals m->h'.Ns X.env.locals m)(hok:HOk X.prog X.w H' h')(hg:AllBare g') :
  Inv X pins σ H' { s with heap:=h',gens:=g',drawn:=d',toks:=t' }:=by
 have neL:∀ b o,X.s₀.heap.get? b=some o->b≠X.env.locals:=fun b o e=>Nat.ne_of_lt (Nat.lt_of_lt_of_le (Heap.lt_size e) I.ok.above)
 have neC:∀ b o,X.s₀.heap.get? b=some o->b∉X.ex->b∉ch:=fun b o e hx hb=>by
  rcases(hch b hb).1 with z | z
  ·exact hx z
  ·exact absurd (Nat.lt_of_lt_of_le (Heap.lt_size e) z) (Nat.lt_irrefl _)
 have cellK:∀ x c,X.env.cells.lookup x=some c->∀ v,s.heap.IsCell c v->h'.IsCell c v:=fun x c e v ⟨o,ho,hd⟩=>by
  have nch:c∉ch:=fun z=>(hch c z).2.2.1 x c e rfl
  by_cases hc:c∈X.fs
  ·obtain⟨sl,q⟩:=slot c o (I.cne x c e) hc nch ho (I.freeC x c e)
   exact⟨_,q,hd⟩
  ·exact⟨o,keep c o (I.cne x c e) hc nch ho (I.freeC x c e),hd⟩
 refine⟨I.ok,I.os,hg,⟨fun b o e n hb hx=>?_,fun b o e n hb hx=>?_,fun b o e n hx=>?_,fun b o e hx=>?_,fun b xs e=>tups b xs (I.base.tups b xs e),fun b o xs e=>frzs b o xs (I.base.frzs b o xs e),fun b ps e=>?_⟩,?_,fun x c e=>?_,?_,fun x c e=>?_,fun p hp=>?_,hok,I.len⟩
 ·exact keep b o (neL b o e) hb (neC b o e hx) (I.base.keep b o e n hb hx) (I.base.free b o e n hx)
 ·obtain⟨sl,e1⟩:=I.base.slot b o e n hb hx
  obtain⟨sl',e2⟩:=slot b _ (neL b o e) hb (neC b o e hx) e1 (I.base.free b o e n hx)
  exact⟨sl',e2⟩
 ·obtain⟨o',e1⟩:=I.base.there b o e hx
  exact free b o' (neC b o e hx) e1 (I.base.free b o e n hx)
 ·obtain⟨o',e1⟩:=I.base.there b o e hx
  exact there b o' (neC b o e hx) e1
 ·obtain⟨m1,e1⟩:=I.base.tbls b ps e
  obtain⟨m2,e2⟩:=tbls b _ e1
  exact⟨m1++m2,by rw[e2,Array.append_assoc]⟩
 ·obtain⟨m,hn,hl⟩:=I.loc
  refine⟨m,ns m hn,fun i x v e1 e2 e3=>?_⟩
  obtain⟨u,r,l⟩:=hl i x v e1 e2 e3
  refine⟨u,r,?_⟩
  rcases l with l | ⟨k,c,e,z⟩
  ·exact .inl l
  ·exact .inr ⟨k,c,e,cellK x c e _ z⟩
 ·obtain⟨v,z⟩:=I.cell x c e
  exact⟨v,cellK x c e v z⟩
 ·obtain⟨m,⟨o,_,_,ho,_⟩,_⟩:=I.loc
  exact free _ o (fun z=>(hch _ z).2.1 rfl) ho I.free
 ·obtain⟨v,o,ho,hd⟩:=I.cell x c e
  exact free c o (fun z=>(hch c z).2.2.1 x c e rfl) ho (I.freeC x c e)
 ·obtain⟨e,n,ne,nf,d⟩:=I.pin p hp
  have nch:p.1∉ch:=fun z=>(hch p.1 z).2.2.2 p hp rfl
  exact⟨keep p.1 p.2 ne nf nch e n,free p.1 p.2 nch e n,ne,nf,d⟩
theorem Inv.un {t':Nat}(I:Inv X pins σ H s)(u:Un X.fs [] H H' s.heap h')(hok:HOk X.prog X.w H' h'):Inv X pins σ H' { s with heap:=h',toks:=t' }:=by
 obtain⟨m,⟨o,es,ep,ho,r⟩,_⟩:=id I.loc
 obtain⟨sl,hL⟩:=u.any ho I.free (by simp)
 exact I.step (g':=s.gens) (d':=s.drawn) (ch:=[]) (fun _ z=>nomatch z) (fun b o _ hb _ e n=>u.keep b o e n hb (by simp)) (fun b o _ hb _ e n=>u.slot b o e n hb (by simp)) (fun b o _ e n=>u.free b o e n (by simp)) (fun b o _ e=>u.there b o e (by simp)) u.tups u.frzs u.tbls (fun m' hm=>by
  obtain⟨o',es',ep',ho',r'⟩:=hm
  rw[ho] at ho';cases ho'
  exact⟨_,es',ep',hL,r'⟩) hok I.bare
theorem Inv.call {g':Array GenState}{t':Nat}{d':Drawn}{ch:List Addr}(I:Inv X pins σ H s)(u:Un (frs X.stack) ch H H' s.heap h')(hok:HOk X.prog X.w H' h')(hg:AllBare g')
  (hch:∀ b∈ch,(b∈X.ex∨X.s₀.heap.objs.size<=b)/\b≠X.env.locals/\(∀ x c,X.env.cells.lookup x=some c->c≠b)/\∀ p∈X.pn++pins,p.1≠b) :
  Inv X pins σ H' { s with heap:=h',gens:=g',drawn:=d',toks:=t' }:=by
 obtain⟨m,⟨o,es,ep,ho,r⟩,_⟩:=id I.loc
 obtain⟨sl,hL⟩:=u.any ho I.free fun z=>(hch _ z).2.1 rfl
 exact I.step (ch:=ch) hch (fun b o hL hb hc e n=>u.keep b o e n (fun z=>(List.mem_cons.mp (I.stkSub b z)).elim hL hb) hc) (fun b o _ _ hc e n=>u.any e n hc) (fun b o hc e n=>u.free b o e n hc) (fun b o hc e=>u.there b o e hc) u.tups u.frzs u.tbls (fun m' hm=>by
  obtain⟨o',es',ep',ho',r'⟩:=hm
  rw[ho] at ho';cases ho'
  exact⟨_,es',ep',hL,r'⟩) hok hg
theorem Inv.turned {t':Nat}{it:Addr}(I:Inv X pins σ H s)(k:∀ b o,b≠it->s.heap.get? b=some o->h'.get? b=some o)(hn:H it=none)(hL:it≠X.env.locals)
  (h1:it∈X.ex∨X.s₀.heap.objs.size<=it)(h2:∀ x c,X.env.cells.lookup x=some c->c≠it)(h3:∀ p∈X.pn++pins,p.1≠it):Inv X pins σ H { s with heap:=h',toks:=t' }:=by
 have nit:∀ b u,H b=some u->b≠it:=fun b u e z=>by rw[z,hn] at e;cases e
 refine I.step (g':=s.gens) (d':=s.drawn) (ch:=[it]) (fun b hb=>?_) (fun b o _ _ hc e _=>k b o (fun z=>hc (by simp [z])) e) (fun b o _ _ hc e _=>⟨o.slots,k b o (fun z=>hc (by simp [z])) e⟩) (fun _ _ _ _ n=>n)
  (fun b o hc e=>⟨o,k b o (fun z=>hc (by simp [z])) e⟩) (fun _ _ e=>e) (fun _ _ _ e=>e) (fun b ps e=>⟨#[],by rw[e];simp⟩) (fun m hm=>?_) (fun b u e=>?_) I.bare
 ·have e:b=it:=by simpa using hb
  subst e
  exact⟨h1,hL,h2,h3⟩
 ·obtain⟨o,es,ep,ho,r⟩:=hm
  exact⟨o,es,ep,k _ o (Ne.symm hL) ho,r⟩
 ·refine(I.hok b u e).stay (fun c v hc q=>k c v ?_ q) (fun _ q=>q) fun _ _ q=>q
  rcases hc with z | z
  ·rw[z];exact nit b u e
  ·exact nit c _ z
theorem Inv.tok (I:Inv X pins σ H s)(t:Nat):Inv X pins σ H { s with toks:=t }:=I.un (h':=s.heap) (t':=t) Un.refl I.hok
theorem Inv.kept {t':Nat}(I:Inv X pins σ H s)(k:∀ b u,s.heap.get? b=some u->h'.get? b=some u):Inv X pins σ H { s with heap:=h',toks:=t' }:=I.un (Un.kept k) (I.hok.kept k)
theorem Inv.laid {a:Addr}{o:HO}{t':Nat}(I:Inv X pins σ H s)(k:∀ b u,s.heap.get? b=some u->h'.get? b=some u)(hp:s.heap.objs.size<=a)(new:zb6 X.prog X.w (upd H a o) h' a o) :
  Inv X pins σ (upd H a o) { s with heap:=h',toks:=t' }:=I.un (Un.laid k hp (I.hok.fresh hp)) (I.hok.laid k hp new)
theorem Inv.write {x e:Addr}{o:HO}{t':Nat}(I:Inv X pins σ H s)(mu:Mut (H x))(he:e=x∨H e=some (.own x))(k:∀ b u,b≠e->s.heap.get? b=some u->h'.get? b=some u)(heo:∃ u,h'.get? e=some u)
  (new:zb6 X.prog X.w (upd H x o) h' x o):Inv X pins σ (upd H x o) { s with heap:=h',toks:=t' }:=I.un (Un.write mu he k heo) (I.hok.write mu he k heo new)
theorem Inv.pins_of {pins':List (Addr×Obj)}(I:Inv X pins σ H s)(h:∀ p∈pins',s.heap.get? p.1=some p.2/\H p.1=none/\p.1≠X.env.locals/\p.1∉X.fs/\∀ v,p.2.data≠.cell v):Inv X pins' σ H s :=
 ⟨I.ok,I.os,I.bare,I.base,I.loc,I.cell,I.free,I.freeC,fun p hp=>(List.mem_append.mp hp).elim (fun z=>I.pin p (List.mem_append_left _ z)) (h p),I.hok,I.len⟩
theorem zj7 {N:List Str}(hN:N.Nodup){i j:Nat}{x:Str}(a:N[i]?=some x)(b:N[j]?=some x):i=j:=by
 obtain⟨h1,e1⟩:=List.getElem?_eq_some_iff.mp a
 obtain⟨h2,e2⟩:=List.getElem?_eq_some_iff.mp b
 exact(List.getElem_inj hN).mp (e1.trans e2.symm)
theorem zhS {M:Model}{A:Around}{E:Value->Shared->Prop}{i:Nat}{x:Str}{v:V}{u:Value}{Q:Unit->Shared->Prop}(I:Inv X pins σ H s)(hN:X.N.Nodup)(hi:X.N[i]?=some x)(hx:Loc X.env.scope x)(r:zbP v u)
  (h:∀ s',Inv X pins (σ.set i (some v)) H s'->(∃ a,Heap.SameBut a s.heap s'.heap/\(a=X.env.locals∨X.env.cells.lookup x=some a))->Q () s')(hf:X.fn x=true∨X.env.scope.names.lookup x=some .local := by first | exact .inl rfl | exact .inr rfl | assumption):wpAny M A (storeName X.env x u) Q E s:=by
 obtain⟨m,hn,hl⟩:=id I.loc
 have hcls:(X.env.scope.kind==.class||(X.env.scope.kind==.module&&X.env.locals != X.env.globals))=false:=by rw[I.ok.kind];rfl
 have hiσ:i < σ.length:=by rw[I.len];exact(List.getElem?_eq_some_iff.mp hi).1
 have cne:=I.cne
 have tracked:∀ {a:Addr}{h':Heap},(∃ o,s.heap.get? a=some o/\H a=none)->Heap.SameBut a s.heap h'->HOk X.prog X.w H h':=fun {a h'} ha hs b ob e=>by
  obtain⟨_,_,hfree⟩:=ha
  refine(I.hok b ob e).stay (fun c w' hc q=>(hs.2 c ?_).trans q) (fun _ q=>q) fun _ _ q=>q
  rintro rfl
  rcases hc with rfl | hc
  ·rw[hfree] at e;cases e
  ·rw[hfree] at hc;cases hc
 rcases hx with hk | hk
 ·refine wpAny_storeName_local hk hn (fun h' hn' hs=>?_) hcls
  obtain⟨oL,_,_,hoL,_⟩:=id hn
  refine h _ ⟨I.ok,I.os,I.bare,⟨fun b o e n hb hx=>?_,fun b o e n hb hx=>?_,I.base.free,fun b o e hx=>?_,I.base.tups,I.base.frzs,I.base.tbls⟩,⟨_,hn',fun j y v' e1 e2 e3=>?_⟩,fun y c e=>?_,I.free,I.freeC,fun p hp=>?_,tracked ⟨oL,hoL,I.free⟩ hs,by simpa using I.len⟩ ⟨_,hs,.inl rfl⟩
  ·exact(hs.2 b (Nat.ne_of_lt (Nat.lt_of_lt_of_le (Heap.lt_size e) I.ok.above))).trans (I.base.keep b o e n hb hx)
  ·obtain⟨sl,e1⟩:=I.base.slot b o e n hb hx
   exact⟨sl,(hs.2 b (Nat.ne_of_lt (Nat.lt_of_lt_of_le (Heap.lt_size e) I.ok.above))).trans e1⟩
  ·obtain⟨o',e1⟩:=I.base.there b o e hx
   exact⟨o',(hs.2 b (Nat.ne_of_lt (Nat.lt_of_lt_of_le (Heap.lt_size e) I.ok.above))).trans e1⟩
  ·by_cases hj:j=i
   ·subst hj
    rw[hi] at e1;cases e1
    rw[List.getElem?_set_self hiσ] at e2
    cases e2
    exact⟨u,r,.inl ⟨hk,by simp⟩⟩
   ·rw[List.getElem?_set_ne (Ne.symm hj)] at e2
    obtain⟨u',r',q⟩:=hl j y v' e1 e2 e3
    refine⟨u',r',?_⟩
    rcases q with⟨k,e⟩ | ⟨k,c,e,z⟩
    ·refine .inl ⟨k,?_⟩
     have:y≠x:=fun e=>hj (zj7 hN e1 (e▸hi))
     simp [this,e]
    ·exact .inr ⟨k,c,e,z.sameBut hs (cne y c e)⟩
  ·obtain⟨w',z⟩:=I.cell y c e
   exact⟨w',z.sameBut hs (cne y c e)⟩
  ·obtain⟨e,n,ne,nf,d⟩:=I.pin p hp
   exact⟨(hs.2 p.1 ne).trans e,n,ne,nf,d⟩
 ·have hfn:X.fn x=true:=by
   rcases hf with z | z
   ·exact z
   ·rw[z] at hk;cases hk
  obtain⟨c,hc⟩:=I.ok.has x (.inl hk)
  obtain⟨w',z⟩:=I.cell x c hc
  refine wpAny_storeName_cell I.ok.kind hk hc z (fun h' hc' hs=>?_)
  obtain⟨oc,hoc,hocd⟩:=id z
  refine h { s with heap:=h' } ⟨I.ok,I.os,I.bare,⟨fun b o e n hb hx=>?_,fun b o e n hb hx=>?_,I.base.free,fun b o e hx=>?_,I.base.tups,I.base.frzs,I.base.tbls⟩,⟨m,hn.sameBut hs (Ne.symm (cne x c hc)),fun j y v' e1 e2 e3=>?_⟩,fun y c' e=>?_,I.free,I.freeC,fun p hp=>?_,tracked ⟨oc,hoc,I.freeC x c hc⟩ hs,by simpa using I.len⟩ ⟨c,hs,.inr hc⟩
  ·exact(hs.2 b (Nat.ne_of_lt (Nat.lt_of_lt_of_le (Heap.lt_size e) (I.ok.cab x c hfn hc)))).trans (I.base.keep b o e n hb hx)
  ·obtain⟨sl,e1⟩:=I.base.slot b o e n hb hx
   exact⟨sl,(hs.2 b (Nat.ne_of_lt (Nat.lt_of_lt_of_le (Heap.lt_size e) (I.ok.cab x c hfn hc)))).trans e1⟩
  ·obtain⟨o',e1⟩:=I.base.there b o e hx
   exact⟨o',(hs.2 b (Nat.ne_of_lt (Nat.lt_of_lt_of_le (Heap.lt_size e) (I.ok.cab x c hfn hc)))).trans e1⟩
  ·by_cases hj:j=i
   ·subst hj
    rw[hi] at e1;cases e1
    rw[List.getElem?_set_self hiσ] at e2
    cases e2
    exact⟨u,r,.inr ⟨.inl hk,c,hc,hc'⟩⟩
   ·rw[List.getElem?_set_ne (Ne.symm hj)] at e2
    obtain⟨u',r',q⟩:=hl j y v' e1 e2 e3
    refine⟨u',r',?_⟩
    rcases q with q | ⟨k,c',e,z'⟩
    ·exact .inl q
    ·refine .inr ⟨k,c',e,z'.sameBut hs ?_⟩
     rintro rfl
     exact hj (zj7 hN e1 (I.ok.inj _ _ _ e hc▸hi))
  ·by_cases hcc:c'=c
   ·subst hcc;exact⟨_,hc'⟩
   ·obtain⟨w2,z2⟩:=I.cell y c' e
    exact⟨w2,z2.sameBut hs hcc⟩
  ·obtain⟨e,n,ne,nf,d⟩:=I.pin p hp
   refine⟨(hs.2 p.1 ?_).trans e,n,ne,nf,d⟩
   intro q
   rw[q,hoc] at e
   have q':oc=p.2:=Option.some.inj e
   exact d w' (by rw[← q'];exact hocd)
theorem zfV {M:Model}{A:Around}{E:Value->Shared->Prop}{i:Nat}{x:Str}{v:V}{u:Value}{Q:Unit->Shared->Prop}(I:Inv X pins σ H s)(hN:X.N.Nodup)(hi:X.N[i]?=some x)(hx:Loc X.env.scope x)(r:zbP v u)
  (h:∀ s',Inv X pins (σ.set i (some v)) H s'->Q () s')(hf:X.fn x=true∨X.env.scope.names.lookup x=some .local := by first | exact .inl rfl | exact .inr rfl | assumption):wpAny M A (storeName X.env x u) Q E s :=
 zhS I hN hi hx r (fun s' I' _=>h s' I') hf
theorem Inv.call' {s':Shared}{ch:List Addr}(I:Inv X pins σ H s)(ho:s'.os=s.os)(u:Un (frs X.stack) ch H H' s.heap s'.heap)(hok:HOk X.prog X.w H' s'.heap)(hg:AllBare s'.gens)
  (hch:∀ b∈ch,(b∈X.ex∨X.s₀.heap.objs.size<=b)/\b≠X.env.locals/\(∀ x c,X.env.cells.lookup x=some c->c≠b)/\∀ p∈X.pn++pins,p.1≠b):Inv X pins σ H' s':=by
 obtain⟨h',g',d',t',o'⟩:=s'
 have e:o'=s.os:=ho
 subst e
 exact I.call (g':=g') (t':=t') (d':=d') u hok hg hch
end
abbrev XK:=Value->Option Addr->Hp->Prop
abbrev St:=List (Option V)
abbrev VK:=V->Hp->Prop
abbrev TE:=St->Hp->VK->Prop
abbrev TT:=St->Hp->(Bool->Hp->Prop)->Prop
abbrev TA:=St->Hp->(List V->Hp->Prop)->Prop
structure zg4 where
 nx:St->Hp->Prop
 rt:VK
 bk:St->Hp->Prop:=fun _ _=>False
 ct:St->Hp->Prop:=fun _ _=>False
abbrev TS:=zg4->St->Hp->Prop
def EP (X:Cx)(pins:List (Addr×Obj))(σ:St)(Q:VK)(u:Value)(s':Shared):Prop:=∃ v H',Inv X pins σ H' s'/\zbP v u/\Q v H'
def TP (X:Cx)(pins:List (Addr×Obj))(σ:St)(Q:Bool->Hp->Prop)(b:Bool)(s':Shared):Prop:=∃ H',Inv X pins σ H' s'/\Q b H'
def AP (X:Cx)(pins:List (Addr×Obj))(σ:St)(Q:List V->Hp->Prop)(us:List Value)(s':Shared):Prop:=∃ vs H',Inv X pins σ H' s'/\zbK vs us/\Q vs H'
def SP (X:Cx)(pins:List (Addr×Obj))(D:zg4)(f:Flow)(s':Shared):Prop :=
 match f with
 | .next=>∃ σ' H',Inv X pins σ' H' s'/\D.nx σ' H'
 | .brk=>∃ σ' H',Inv X pins σ' H' s'/\D.bk σ' H'
 | .cont=>∃ σ' H',Inv X pins σ' H' s'/\D.ct σ' H'
 | .ret u=>∃ v σ' H',Inv X pins σ' H' s'/\zbP v u/\D.rt v H'
def PE (X:Cx)(e:Expr)(t:TE):Prop :=
 ∀ (pins:List (Addr×Obj)) (s:Shared) (σ:St) (H:Hp) (Q:VK),Inv X pins σ H s->t σ H Q->wpAny (model X.prog X.w) X.A (eval e X.env) (EP X pins σ Q) X.xe s
def PT (X:Cx)(e:Expr)(t:TT):Prop :=
 ∀ (pins:List (Addr×Obj)) (s:Shared) (σ:St) (H:Hp) (Q:Bool->Hp->Prop),Inv X pins σ H s->t σ H Q->wpAny (model X.prog X.w) X.A (isTrue e X.env (eval e X.env)) (TP X pins σ Q) X.xe s
def PW (X:Cx)(e:Expr)(t:TT):Prop :=
 ∀ (whole:Sem Value) (pins:List (Addr×Obj)) (s:Shared) (σ:St) (H:Hp) (Q:Bool->Hp->Prop),Inv X pins σ H s->t σ H Q->wpAny (model X.prog X.w) X.A (isTrue e X.env whole) (TP X pins σ Q) X.xe s
theorem PW.pt {X:Cx}{e:Expr}{t:TT}(h:PW X e t):PT X e t:=h _
def PA (X:Cx)(es:List Expr)(t:TA):Prop :=
 ∀ (pos:Pos) (pins:List (Addr×Obj)) (s:Shared) (σ:St) (H:Hp) (Q:List V->Hp->Prop),Inv X pins σ H s->t σ H Q->wpAny (model X.prog X.w) X.A (spliced (backTo pos (starEach es X.env))) (AP X pins σ Q) X.xe s
def PS (X:Cx)(st:Stmt)(t:TS):Prop :=
 ∀ (pins:List (Addr×Obj)) (s:Shared) (σ:St) (H:Hp) (D:zg4),Inv X pins σ H s->t D σ H->wpAny (model X.prog X.w) X.A (exec st X.env) (SP X pins D) X.xe s
def PSs (X:Cx)(st:List Stmt)(t:TS):Prop :=
 ∀ (pins:List (Addr×Obj)) (s:Shared) (σ:St) (H:Hp) (D:zg4),Inv X pins σ H s->t D σ H->wpAny (model X.prog X.w) X.A (execs st X.env) (SP X pins D) X.xe s
theorem thn {α:Type}{t:Sem α}{Q Q':α->Shared->Prop}{M:Model}{A:Around}{E:Value->Shared->Prop}{s:Shared}(h:wpAny M A t Q E s)(hQ:∀ a s,Q a s->Q' a s):wpAny M A t Q' E s:=wpAny_mono h hQ fun _ _ x=>x
section
variable {X:Cx}
theorem bin {a b:Expr}{ta tb:TE}(ha:PE X a ta)(hb:PE X b tb){pins:List (Addr×Obj)}{s:Shared}{σ:St}{H:Hp}{R:V->V->Hp->Prop}(I:Inv X pins σ H s)(h:ta σ H fun x H1=>tb σ H1 fun y H2=>R x y H2)
  {α:Type}{Q:α->Shared->Prop}{f:Value->Value->Sem α}
  (hf:∀ v u s2 x y H2,Inv X pins σ H2 s2->zbP x v->zbP y u->R x y H2->wpAny (model X.prog X.w) X.A (f v u) Q X.xe s2) :
  wpAny (model X.prog X.w) X.A (eval a X.env) (fun v s₁=>wpAny (model X.prog X.w) X.A (eval b X.env) (fun u s₂=>wpAny (model X.prog X.w) X.A (f v u) Q X.xe s₂) X.xe s₁) X.xe s:=by
 refine thn (ha pins s σ H _ I h) fun v s1 ⟨x,H1,I1,r1,q1⟩=>?_
 refine thn (hb pins s1 σ H1 _ I1 q1) fun u s2 ⟨y,H2,I2,r2,q2⟩=>?_
 exact hf v u s2 x y H2 I2 r1 r2 q2
def zzx (i:Nat):TE:=fun σ H Q=>∃ v,σ[i]?=some (some v)/\Q v H
def tC (v:V):TE:=fun _ H Q=>Q v H
theorem zfk {i:Nat}{x:Str}{pos:Pos}(hN:X.N[i]?=some x)(hv:Vis X.env.scope x)(hd:(x==("__debug__" : Str))=false:=by decide)(hcd:(x==("__classdict__" : Str))=false:=by decide):PE X (.Name x pos) (zzx i):=by
 intro pins s σ H Q I h
 obtain⟨v,e,h⟩:=h
 obtain⟨m,hn,hl⟩:=I.loc
 obtain⟨u,r,l⟩:=hl i x v hN e hv
 have fin:EP X pins σ Q u s:=⟨v,H,I,r,h⟩
 rcases l with⟨hk,hm⟩ | ⟨hk,c,hc,hcell⟩
 ·exact wpAny_Name (wpAny_loadName_local I.ok.kind hk hn hm fin) hd
 ·rcases hk with hk | hk
  ·exact wpAny_Name (wpAny_loadName_cell I.ok.kind hk hc hcell fin) hd
  ·exact wpAny_Name (wpAny_loadName_free I.ok.kind hk hc hcell fin hcd) hd
theorem zwv {i j pos}:PE X (.Constant (.int i) j pos) (tC (.int i)):=fun _ _ _ H _ I h=>wpAny_Constant_int ⟨.int i,H,I.tok _,⟨_,rfl⟩,h⟩
theorem zyo {b j pos}:PE X (.Constant (.bool b) j pos) (tC (.bl b)):=fun _ _ _ H _ I h=>Constant_bool ⟨.bl b,H,I,rfl,h⟩
theorem zwt {j pos}:PE X (.Constant .none j pos) (tC .non):=fun _ _ _ H _ I h=>Constant_none ⟨.non,H,I,rfl,h⟩
theorem zwq {x j pos}:PE X (.Constant (.str x) j pos) (tC (.str x)):=fun _ _ _ H _ I h=>Calls.Constant_str ⟨.str x,H,I.tok _,⟨_,rfl⟩,h⟩
def Gl (X:Cx)(x:Str):Prop:=X.env.kindOf x=some .globalImplicit
theorem zgP {E:Value->Shared->Prop}{pins:List (Addr×Obj)}{s:Shared}{σ:St}{H:Hp}{x:Str}{u:Value}{pos:Pos}{Q:Value->Shared->Prop}(I:Inv X pins σ H s)(hg:Gl X x)(hm:X.mg x=some u)(h:Q u s)
  (hd:(x==("__debug__" : Str))=false:=by decide):wpAny (model X.prog X.w) X.A (eval (.Name x pos) X.env) Q E s :=
 Calls.Name_function_global I.ok.kind hg (Calls.loadGlobal_global (by rw[I.ok.glob];exact I.mod.glob.keeps I.bk) hm h) hd
theorem zk7 {E:Value->Shared->Prop}{pins:List (Addr×Obj)}{s:Shared}{σ:St}{H:Hp}{x:Str}{u:Value}{pos:Pos}{Q:Value->Shared->Prop}(I:Inv X pins σ H s)(hg:Gl X x)(hm:X.mg x=none)(hv:bootBuiltins x=some u)(h:Q u s)
  (hn:x≠"__name__":=by decide)(hd:(x==("__debug__" : Str))=false:=by decide):wpAny (model X.prog X.w) X.A (eval (.Name x pos) X.env) Q E s:=by
 obtain⟨mb,h1,h2⟩:=I.mod.blt
 exact Calls.Name_function_global I.ok.kind hg (Calls.loadGlobal_builtin (by rw[I.ok.glob];exact I.mod.glob.keeps I.bk) hm (by rw[I.ok.blt];exact h1.keeps I.bk) ((h2 x hn).trans hv) h) hd
theorem zub {x:Str}{v:V}{u:Value}{pos:Pos}(hg:Gl X x)(hm:X.mg x=some u)(r:zbP v u)(hd:(x==("__debug__" : Str))=false:=by decide):PE X (.Name x pos) (tC v) :=
 fun _ _ _ H _ I h=>zgP I hg hm ⟨v,H,I,r,h⟩ hd
theorem zue {x:Str}{v:V}{u:Value}{pos:Pos}(hg:Gl X x)(hm:X.mg x=none)(hv:bootBuiltins x=some u)(r:zbP v u)(hn:x≠"__name__":=by decide)(hd:(x==("__debug__" : Str))=false:=by decide):PE X (.Name x pos) (tC v) :=
 fun _ _ _ H _ I h=>zk7 I hg hm hv ⟨v,H,I,r,h⟩ hn hd
variable {a b:Expr}{ta tb:TE}{pos:Pos}
def PC (X:Cx)(op:CmpOp)(a b:Expr)(t:TE):Prop :=
 ∀ (pins:List (Addr×Obj)) (s:Shared) (σ:St) (H:Hp) (Q:VK),Inv X pins σ H s->t σ H Q ->
  wpAny (model X.prog X.w) X.A (eval a X.env) (fun v s₁=>wpAny (model X.prog X.w) X.A (eval b X.env) (fun u s₂=>wpAny (model X.prog X.w) X.A (compareOp op v u) (EP X pins σ Q) X.xe s₂) X.xe s₁) X.xe s
theorem zng (b:Expr){op:CmpOp}(h:op≠.In)(h2:op≠.NotIn):behindInMarks op b=false:=by
 have e1:(op==CmpOp.In)=false:=by cases op<;>first | rfl | exact absurd rfl h
 have e2:(op==CmpOp.NotIn)=false:=by cases op<;>first | rfl | exact absurd rfl h2
 cases b<;>simp [behindInMarks,e1,e2]
def tB (t:TE):TT:=fun σ H Q=>t σ H fun x H1=>∃ c,x=.bl c/\Q c H1
theorem zzb {op:CmpOp}{t:TE}(h:PC X op a b t)(h1:behindInMarks op b=false:=by first | exact zng _ (by decide) (by decide) | rfl):PT X (.Compare a [op] [b] pos) (tB t):=by
 intro pins s σ H Q I hw
 refine wpAny_isTrue_Compare1 (thn (h pins s σ H _ I hw) fun v s1 h1=>thn h1 fun u s2 h2=>thn h2 fun c s3 ⟨x,H1,I1,r1,q1⟩=>?_) h1
 obtain⟨d,rfl,q⟩:=q1
 cases r1
 exact wpAny_truthy_bool ⟨H1,I1,q⟩
theorem zs4 {e:Expr}{t:TE}(h:PE X e t)(he:∀ whole,isTrue e X.env whole=(do let v ← whole;standAt e.pos;holding [v] (truthy v)):=by intro _;rfl):PT X e (tB t):=by
 intro pins s σ H Q I hw
 refine isTrue_plain (thn (h pins s σ H _ I hw) fun v s1 ⟨x,H1,I1,r1,q1⟩=>?_) (he _)
 obtain⟨d,rfl,q⟩:=q1
 cases r1
 exact wpAny_truthy_bool ⟨H1,I1,q⟩
variable {tA tB':TT}{rest:List Expr}
def zzI (t u:TT):TT:=fun σ H Q=>t σ H fun c H1=>if c=true then u σ H1 Q else Q false H1
def tOr (t u:TT):TT:=fun σ H Q=>t σ H fun c H1=>if c=true then Q true H1 else u σ H1 Q
def zzD (t:TT):TT:=fun σ H Q=>t σ H fun c H1=>Q (!c) H1
theorem zt3 (ha:PT X a tA):PW X (.BoolOp .And [a] pos) tA:=by
 intro wh pins s σ H Q I h
 refine isTrue_and (thn (ha pins s σ H Q I h) fun c s1 e=>?_)
 cases c with
 | true=>exact isTrue_and_nil e
 | false=>exact e
theorem zs2 (ha:PT X a tA):PW X (.BoolOp .Or [a] pos) tA:=by
 intro wh pins s σ H Q I h
 refine isTrue_or (thn (ha pins s σ H Q I h) fun c s1 e=>?_)
 cases c with
 | false=>exact isTrue_or_nil e
 | true=>exact e
theorem zwh (ha:PT X a tA)(hb:PW X (.BoolOp .And (b::rest) pos) tB'):PW X (.BoolOp .And (a::b::rest) pos) (zzI tA tB'):=by
 intro wh pins s σ H Q I h
 refine isTrue_and (thn (ha pins s σ H _ I h) fun c s1 ⟨H1,I1,q1⟩=>?_)
 cases c with
 | true=>exact hb wh pins s1 σ H1 Q I1 q1
 | false=>exact⟨H1,I1,q1⟩
theorem zwg (ha:PT X a tA)(hb:PW X (.BoolOp .Or (b::rest) pos) tB'):PW X (.BoolOp .Or (a::b::rest) pos) (tOr tA tB'):=by
 intro wh pins s σ H Q I h
 refine isTrue_or (thn (ha pins s σ H _ I h) fun c s1 ⟨H1,I1,q1⟩=>?_)
 cases c with
 | true=>exact⟨H1,I1,q1⟩
 | false=>exact hb wh pins s1 σ H1 Q I1 q1
theorem zs5 (ha:PT X a tA):PT X (.UnaryOp .Not a pos) (zzD tA):=by
 intro pins s σ H Q I h
 exact isTrue_not (ha pins s σ H (fun c H1=>Q (!c) H1) I h)
def zx6 (ta tb:TE):TE:=fun σ H Q=>ta σ H fun x H1=>∃ c,x=.bl c/\if c=true then tb σ H1 Q else Q (.bl false) H1
def zzC (ta tb:TE):TE:=fun σ H Q=>ta σ H fun x H1=>∃ c,x=.bl c/\if c=true then Q (.bl true) H1 else tb σ H1 Q
def zx0 (ta:TE):TE:=fun σ H Q=>ta σ H fun x H1=>∃ c,x=.bl c/\Q (.bl (!c)) H1
theorem zwr {op}{t:TE}(h:PE X a t):PE X (.BoolOp op [a] pos) t:=fun pins s σ H Q I hw=>BoolOp_one (h pins s σ H Q I hw)
theorem zww (ha:PE X a ta)(hb:PE X (.BoolOp .And (b::rest) pos) tb):PE X (.BoolOp .And (a::b::rest) pos) (zx6 ta tb):=by
 intro pins s σ H Q I h
 refine BoolOp_and (thn (ha pins s σ H _ I h) fun v s1 ⟨x,H1,I1,r1,q1⟩=>?_)
 obtain⟨c,rfl,q1⟩:=q1
 cases r1
 refine wpAny_truthy_bool ?_
 cases c with
 | true=>exact hb pins s1 σ H1 Q I1 q1
 | false=>exact⟨.bl false,H1,I1,rfl,q1⟩
theorem zyn (ha:PE X a ta)(hb:PE X (.BoolOp .Or (b::rest) pos) tb):PE X (.BoolOp .Or (a::b::rest) pos) (zzC ta tb):=by
 intro pins s σ H Q I h
 refine BoolOp_or (thn (ha pins s σ H _ I h) fun v s1 ⟨x,H1,I1,r1,q1⟩=>?_)
 obtain⟨c,rfl,q1⟩:=q1
 cases r1
 refine wpAny_truthy_bool ?_
 cases c with
 | false=>exact hb pins s1 σ H1 Q I1 q1
 | true=>exact⟨.bl true,H1,I1,rfl,q1⟩
theorem zws (ha:PE X a ta):PE X (.UnaryOp .Not a pos) (zx0 ta):=by
 intro pins s σ H Q I h
 refine UnaryOp_ (thn (ha pins s σ H _ I h) fun v s1 ⟨x,H1,I1,r1,q1⟩=>?_)
 obtain⟨c,rfl,q1⟩:=q1
 cases r1
 exact not_of (wpAny_truthy_bool ⟨.bl (!c),H1,I1,rfl,q1⟩)
end
def SqL (K:W.Frag)(H:Hp)(a:Addr)(xs:List V):Prop :=
 Rd H a (.lst xs) ∨
  ∃ (o:Obj) (its:Array Value) (n:Nat),K.lookup a=some o/\o.cls=.type "list"/\o.dict=none/\o.data=.seq its n/\its.size<=sizeLine/\zbK xs its.toList
def SqT (K:W.Frag)(H:Hp)(a:Addr)(xs:List V):Prop :=
 Rd H a (.tup xs) ∨
  ∃ (o:Obj) (its:Array Value) (n:Nat),K.lookup a=some o/\o.cls=.type "tuple"/\o.data=.seq its n/\its.size<=sizeLine/\zbK xs its.toList
def zz2:Value->Option V
 | .none=>some .non
 | .bool b=>some (.bl b)
 | .int i _=>some (.int i)
 | .str x _=>some (.str x)
 | .bytes b _=>some (.byt b)
 | .float b _=>some (.flt b)
 | .ref a=>some (.ref a)
 | .type n=>some (.ty n)
 | _=>none
theorem zbP.abs {x:V}{u:Value}(r:zbP x u):zz2 u=some x:=by
 cases x with
 | non=>cases r;rfl
 | bl _=>cases r;rfl
 | int _=>obtain⟨t,rfl⟩:=r;rfl
 | str _=>obtain⟨t,rfl⟩:=r;rfl
 | byt _=>obtain⟨t,rfl⟩:=r;rfl
 | flt _=>obtain⟨t,rfl⟩:=r;rfl
 | ref _=>cases r;rfl
 | ty _=>cases r;rfl
theorem zbP.inj {x y:V}{u:Value}(r:zbP x u)(q:zbP y u):x=y:=Option.some.inj (r.abs.symm.trans q.abs)
theorem zbK.inj:∀ {xs ys:List V}{us:List Value},zbK xs us->zbK ys us->xs=ys
 | _,_,_,.nil,.nil=>rfl
 | _,_,_,.cons r t,.cons r' t'=>by rw[r.inj r',zbK.inj t t']
section
variable {X:Cx}{pins:List (Addr×Obj)}{σ:St}{H:Hp}{s:Shared}{a:Addr}{xs ys:List V}
theorem SqL.of {K:W.Frag}(h:H a=some (.lst xs)):SqL K H a xs:=.inl (.inl h)
theorem SqT.of {K:W.Frag}(h:H a=some (.tup xs)):SqT K H a xs:=.inl (.inl h)
theorem Inv.list (I:Inv X pins σ H s)(h:SqL X.K H a xs):∃ its:List Value,zbK xs its/\PlainL s.heap a its.toArray/\xs.length<=sizeLine:=by
 rcases h with h | ⟨o,its,n,hk,hc,hd,hs,hz,r⟩
 ·obtain⟨z,its,n,r,e⟩:=h.ok I.hok
  exact⟨its,r,⟨_,n,e,rfl,rfl,rfl⟩,z⟩
 ·refine⟨its.toList,r,⟨o,n,I.kIn a o hk,hc,hd,by simpa using hs⟩,?_⟩
  have e:=r.length
  simp only[Array.length_toList] at e
  omega
theorem Inv.tuple (I:Inv X pins σ H s)(h:SqT X.K H a xs):∃ its:List Value,zbK xs its/\IsTup s.heap a its.toArray/\xs.length<=sizeLine:=by
 rcases h with h | ⟨o,its,n,hk,hc,hs,hz,r⟩
 ·obtain⟨z,its,r,p⟩:=h.ok I.hok
  exact⟨its,r,p,z⟩
 ·refine⟨its.toList,r,⟨o,I.kIn a o hk,hc,n,by simpa using hs⟩,?_⟩
  have e:=r.length
  simp only[Array.length_toList] at e
  omega
theorem Inv.list_inj (I:Inv X pins σ H s)(h:SqL X.K H a xs)(h':SqL X.K H a ys):xs=ys:=by
 obtain⟨its,r,⟨o,n,e,_,_,d⟩,_⟩:=I.list h
 obtain⟨its',r',⟨o',n',e',_,_,d'⟩,_⟩:=I.list h'
 rw[e] at e';cases e'
 rw[d] at d'
 injection d' with d1 _
 have:its=its':=by simpa using congrArg Array.toList d1
 subst this
 exact r.inj r'
theorem Inv.tuple_inj (I:Inv X pins σ H s)(h:SqT X.K H a xs)(h':SqT X.K H a ys):xs=ys:=by
 obtain⟨its,r,⟨o,e,_,n,d⟩,_⟩:=I.tuple h
 obtain⟨its',r',⟨o',e',_,n',d'⟩,_⟩:=I.tuple h'
 rw[e] at e';cases e'
 rw[d] at d'
 injection d' with d1 _
 have:its=its':=by simpa using congrArg Array.toList d1
 subst this
 exact r.inj r'
end
abbrev Cx.wish (X:Cx)(E:Value->Shared->Prop):Cx:={ X with xe:=E }
abbrev Cx.nox (X:Cx):Cx:=X.wish fun _ _=>False
theorem Cx.Ok.wish {X:Cx}(ok:X.Ok)(E:Value->Shared->Prop):(X.wish E).Ok :=
 ⟨ok.mod,ok.kind,ok.glob,ok.blt,ok.above,ok.inj,ok.has,ok.cab,ok.hd,ok.frames,ok.stk,ok.exf,ok.bs,ok.bsz,ok.noex,ok.exfs,ok.funs,ok.frf⟩
theorem Cx.Ok.unwish {X:Cx}{E:Value->Shared->Prop}(ok:(X.wish E).Ok):X.Ok :=
 ⟨ok.mod,ok.kind,ok.glob,ok.blt,ok.above,ok.inj,ok.has,ok.cab,ok.hd,ok.frames,ok.stk,ok.exf,ok.bs,ok.bsz,ok.noex,ok.exfs,ok.funs,ok.frf⟩
section
variable {X:Cx}{pins:List (Addr×Obj)}{σ:St}{H:Hp}{s:Shared}{E:Value->Shared->Prop}
theorem Inv.wish (I:Inv X pins σ H s)(E:Value->Shared->Prop):Inv (X.wish E) pins σ H s:=⟨I.ok.wish E,I.os,I.bare,I.base,I.loc,I.cell,I.free,I.freeC,I.pin,I.hok,I.len⟩
theorem Inv.unwish (I:Inv (X.wish E) pins σ H s):Inv X pins σ H s:=⟨I.ok.unwish,I.os,I.bare,I.base,I.loc,I.cell,I.free,I.freeC,I.pin,I.hok,I.len⟩
theorem SP.unwish {D:zg4}{f:Flow}{s':Shared}(h:SP (X.wish E) pins D f s'):SP X pins D f s':=by
 cases f with
 | next=>obtain⟨σ',H',I,q⟩:=h;exact⟨σ',H',I.unwish,q⟩
 | brk=>obtain⟨σ',H',I,q⟩:=h;exact⟨σ',H',I.unwish,q⟩
 | cont=>obtain⟨σ',H',I,q⟩:=h;exact⟨σ',H',I.unwish,q⟩
 | ret u=>obtain⟨v,σ',H',I,r,q⟩:=h;exact⟨v,σ',H',I.unwish,r,q⟩
theorem PSs.nox {st:List Stmt}{t:TS}(h:PSs X.nox st t):PSs X st t:=fun pins s σ H D I hw =>
 wpAny_mono (h pins s σ H D (I.wish _) hw) (fun _ _ q=>q.unwish) fun _ _ z=>False.elim z
end
section
variable {X:Cx}{st:Stmt}{rest:List Stmt}{t u:TS}{e:Expr}{te:TE}{pos:Pos}
def zx1:TS:=fun D σ H=>D.nx σ H
def zzz (t u:TS):TS:=fun D σ H=>t { D with nx:=u D } σ H
theorem zh6:PSs X [] zx1:=fun _ _ σ H _ I h=>wpAny_execs_nil ⟨σ,H,I,h⟩
theorem zdk (h1:PS X st t)(h2:PSs X rest u):PSs X (st::rest) (zzz t u):=by
 intro pins s σ H D I h
 refine wpAny_execs_cons (thn (h1 pins s σ H { D with nx:=u D } I h) fun f s1 q=>?_)
 cases f with
 | next =>
  obtain⟨σ',H',I',q⟩:=q
  exact h2 pins s1 σ' H' D I' q
 | ret v=>exact q
 | brk=>exact q
 | cont=>exact q
theorem Inv.quiet {pins:List (Addr×Obj)}{σ:St}{H:Hp}{s:Shared}(I:Inv X pins σ H s):interactive X.env=false:=by simp [interactive,I.ok.kind]
def zx3 (te:TE):TS:=fun D σ H=>te σ H fun _ H1=>D.nx σ H1
theorem zj2 (he:PE X e te)(hs:swapsWith e none pos.line X.env=pure false:=by rfl):PS X (.Expr e pos) (zx3 te):=by
 intro pins s σ H D I h
 exact wpAny_Expr_any (thn (he pins s σ H _ I h) fun v s1 ⟨x,H1,I1,r1,q1⟩=>⟨σ,H1,I1,q1⟩) I.quiet hs
def zzA (te:TE):TS:=fun D σ H=>te σ H D.rt
theorem zkW (he:PE X e te):PS X (.Return (some e) pos) (zzA te):=by
 intro pins s σ H D I h
 exact wpAny_Return_some (thn (he pins s σ H _ I h) fun v s1 ⟨x,H1,I1,r1,q1⟩=>⟨x,σ,H1,I1,r1,q1⟩)
def zzG (c:TT)(t u:TS):TS:=fun D σ H=>c σ H fun b H1=>if b=true then t D σ H1 else u D σ H1
theorem zwl {c:Expr}{a b:List Stmt}{tc:TT}(hc:PT X c tc)(ha:PSs X a t)(hb:PSs X b u):PS X (.If c a b pos) (zzG tc t u):=by
 intro pins s σ H D I h
 refine wpAny_If (thn (hc pins s σ H _ I h) fun d s1 ⟨H1,I1,q1⟩=>?_)
 cases d with
 | true=>exact ha pins s1 σ H1 D I1 q1
 | false=>exact hb pins s1 σ H1 D I1 q1
def zvQ:TS:=fun _ _ _=>False
theorem zrF:PS X st zvQ:=fun _ _ _ _ _ _ h=>h.elim
end
abbrev TG:=V->St->Hp->(St->Hp->Prop)->Prop
abbrev TGs:=List V->St->Hp->(St->Hp->Prop)->Prop
def PG (X:Cx)(target:Expr)(t:TG):Prop :=
 ∀ (pins:List (Addr×Obj)) (s:Shared) (σ:St) (H:Hp) (v:V) (u:Value) (Q:St->Hp->Prop),Inv X pins σ H s->zbP v u->t v σ H Q ->
  wpAny (model X.prog X.w) X.A (assign target X.env u) (fun _ s'=>∃ σ' H',Inv X pins σ' H' s'/\Q σ' H') X.xe s
def PGs (X:Cx)(ts:List Expr)(t:TGs):Prop :=
 ∀ (pins:List (Addr×Obj)) (s:Shared) (σ:St) (H:Hp) (vs:List V) (us:List Value) (Q:St->Hp->Prop),Inv X pins σ H s->zbK vs us->t vs σ H Q ->
  wpAny (model X.prog X.w) X.A (assignInOrder ((assignEach ts X.env).map (·.2)) us) (fun _ s'=>∃ σ' H',Inv X pins σ' H' s'/\Q σ' H') X.xe s
abbrev zyS:=V->V->V->Hp->(Hp->Prop)->Prop
def zzq (X:Cx)(t:zyS):Prop :=
 ∀ (pins:List (Addr×Obj)) (s:Shared) (σ:St) (H:Hp) (o i v:V) (ov iv u:Value) (Q:Hp->Prop),Inv X pins σ H s->zbP o ov->zbP i iv->zbP v u->t o i v H Q ->
  wpAny (model X.prog X.w) X.A (setItem ov iv u) (fun _ s'=>∃ H',Inv X pins σ H' s'/\Q H') X.xe s
section
variable {X:Cx}{pos:Pos}
def zse (i:Nat):TG:=fun v σ H Q=>Q (σ.set i (some v)) H
theorem zpG {i:Nat}{x:Str}(hN:X.N.Nodup)(hi:X.N[i]?=some x)(hx:Loc X.env.scope x)(hf:X.fn x=true∨X.env.scope.names.lookup x=some .local := by first | exact .inl rfl | exact .inr rfl | assumption):PG X (.Name x pos) (zse i):=by
 intro pins s σ H v u Q I r h
 exact wpAny_assign_Name (zfV I hN hi hx r (fun s' I'=>⟨_,H,I',h⟩) hf)
def zzZ:TGs:=fun vs σ H Q=>vs=[]/\Q σ H
def zyA (t:TG)(u:TGs):TGs:=fun vs σ H Q=>∃ v r,vs=v::r/\t v σ H fun σ' H'=>u r σ' H' Q
theorem zt8:PGs X [] zzZ:=by
 intro pins s σ H vs us Q I r h
 obtain⟨e,h⟩:=h
 subst e
 cases r
 exact assignInOrder_nil ⟨σ,H,I,h⟩
theorem zrH {e:Expr}{es:List Expr}{t:TG}{u:TGs}(h1:PG X e t)(h2:PGs X es u)
  (hs:(assignEach (e::es) X.env).map (·.2)=assign e X.env::(assignEach es X.env).map (·.2):=by rfl):PGs X (e::es) (zyA t u):=by
 intro pins s σ H vs us Q I r h
 obtain⟨v,vr,e1,h⟩:=h
 subst e1
 cases r with
 | cons r rr =>
  rw[hs]
  refine assignInOrder_cons (thn (h1 pins s σ H _ _ _ I r h) fun _ s1 ⟨σ1,H1,I1,q1⟩=>?_)
  exact h2 pins s1 σ1 H1 _ _ Q I1 rr q1
def zzX (K:W.Frag)(n:Nat)(t:TGs):TG:=fun v σ H Q=>∃ a xs,v=.ref a/\SqT K H a xs/\xs.length=n/\t xs σ H Q
theorem zwn {es:List Expr}{k:Nat}{t:TGs}{n:Nat}(hc:X.calm=true)(h:PGs X es t)
  (hn:(assignEach es X.env).length=n:=by rfl)(hst:(assignEach es X.env).findIdx? (·.1)=none:=by rfl):PG X (.Tuple es k pos) (zzX X.K n t):=by
 intro pins s σ H v u Q I r hw
 obtain⟨a,xs,e1,hq,hl,hw⟩:=hw
 subst e1
 cases r
 obtain⟨its,rv,ht,hz⟩:=I.tuple hq
 refine assign_Tuple_tuple (I.ok.hd hc) ht (by simp [hn,← hl,rv.length]) hst fun h' hx=>?_
 have I1:Inv X pins σ H { s with heap:=h' }:=I.kept (t':=s.toks) fun b o e=>hx b o (Nat.ne_of_lt (Heap.lt_size e)) e
 exact h pins _ σ H xs _ Q I1 (by simpa using rv) hw
def zzY (to ti:TE)(t:zyS):TG:=fun v σ H Q=>to σ H fun o H1=>ti σ H1 fun i H2=>t o i v H2 fun H3=>Q σ H3
theorem zs7 {o i:Expr}{to ti:TE}{t:zyS}(ho:PE X o to)(hi:PE X i ti)(hs:zzq X t)
  (ha:∀ v,assign (.Subscript o i pos) X.env v=(do
   let ov ← holding [v] (eval o X.env)
   let iv ← holding [v,ov] (eval i X.env)
   standAt pos
   holding [v,ov,iv] (setItem ov iv v)
   release [v,ov,iv] []):=by intro _;rfl):PG X (.Subscript o i pos) (zzY to ti t):=by
 intro pins s σ H v u Q I r h
 rw[ha]
 refine wpAny_bind (wpAny_holding (thn (ho pins s σ H _ I h) fun ov s1 ⟨x,H1,I1,r1,q1⟩=>?_))
 refine wpAny_bind (wpAny_holding (thn (hi pins s1 σ H1 _ I1 q1) fun iv s2 ⟨y,H2,I2,r2,q2⟩=>?_))
 refine wpAny_bind (wpAny_standAt (wpAny_bind (wpAny_holding (thn (hs pins s2 σ H2 x y v ov iv u _ I2 r1 r2 r q2) fun _ s3 ⟨H3,I3,q3⟩=>?_))))
 exact wpAny_release ⟨σ,H3,I3,q3⟩
def zxC (te:TE)(g:TG):TS:=fun D σ H=>te σ H fun x H1=>g x σ H1 D.nx
theorem zs6 {tg e:Expr}{te:TE}{g:TG}(he:PE X e te)(hg:PG X tg g)(hs:swapsWithSole [tg] e pos.line X.env=pure false:=by rfl)(hw:swappedStores [tg] e X.env=pure none:=by rfl)
  (h1:(assignEach [tg] X.env).map (·.2)=[assign tg X.env]:=by rfl):PS X (.Assign [tg] e pos) (zxC te g):=by
 intro pins s σ H D I h
 refine wpAny_Assign_stores (thn (he pins s σ H _ I h) fun v s1 ⟨x,H1,I1,r1,q1⟩=>?_) hs hw
 rw[h1]
 exact thn (hg pins s1 σ H1 x v _ I1 r1 q1) fun _ s2 q=>q
theorem zkV {i:Nat}{x:Str}{e:Expr}{te:TE}{pos':Pos}(hN:X.N.Nodup)(hi:X.N[i]?=some x)(hx:Loc X.env.scope x)(he:PE X e te)(hs:swapsWith e (some (.Name x pos')) pos.line X.env=pure false:=by rfl)(hf:X.fn x=true∨X.env.scope.names.lookup x=some .local := by first | exact .inl rfl | exact .inr rfl | assumption) :
  PS X (.Assign [.Name x pos'] e pos) (zxC te (zse i)):=by
 intro pins s σ H D I h
 refine wpAny_Assign_Name (thn (he pins s σ H _ I h) fun v s1 ⟨y,H1,I1,r1,q1⟩=>?_) hs
 exact zfV I1 hN hi hx r1 (fun s2 I2=>⟨_,H1,I2,q1⟩) hf
def zzB (i j:Nat)(ta:TA):TS:=fun D σ H=>ta σ H fun vs H1=>∃ v w,vs=[v,w]/\D.nx ((σ.set i (some v)).set j (some w)) H1
theorem zwk {i j:Nat}{x y:Str}{a b:Expr}{ta:TA}{px py pt:Pos}{kt k2 pt2}(hc:X.calm=true)(hN:X.N.Nodup)(hi:X.N[i]?=some x)(hj:X.N[j]?=some y)(hij:i≠j)
  (hx:X.env.scope.names.lookup x=some .local)(hy:X.env.scope.names.lookup y=some .local)(ha:PA X [a,b] ta)
  (hw:swappedStores [.Tuple [.Name x px,.Name y py] kt pt] (.Tuple [a,b] k2 pt2) X.env=pure (some [x,y]))
  (hs:swapsWithSole [.Tuple [.Name x px,.Name y py] kt pt] (.Tuple [a,b] k2 pt2) pos.line X.env=pure false:=by rfl) :
  PS X (.Assign [.Tuple [.Name x px,.Name y py] kt pt] (.Tuple [a,b] k2 pt2) pos) (zzB i j ta):=by
 intro pins s σ H D I h
 rw[exec_Assign_arm]
 refine wpAny_bind (wpAny_standAt ?_)
 rw[hs]
 refine wpAny_bind (wpAny_pure ?_)
 rw[if_neg (by decide)]
 refine wpAny_bind (Tuple_ (thn (ha _ pins s σ H _ I h) fun us s1 ⟨vs,H1,I1,r1,q1⟩=>?_))
 obtain⟨v,w,e1,q1⟩:=q1
 subst e1
 obtain⟨u1,u2,rfl,rv,rw'⟩:∃ u1 u2,us=[u1,u2]/\zbP v u1/\zbP w u2:=by
  cases r1 with
  | cons p q =>
   cases q with
   | cons p' q' =>
    cases q'
    exact⟨_,_,rfl,p,p'⟩
 refine wpAny_newObj_type ?_ (by show 2<=sizeLine;decide)
 have I2:Inv X pins σ H1 { s1 with heap:=s1.heap.push { cls:=.type "tuple",data:=.seq [u1,u2].toArray } }:=I1.kept (t':=s1.toks) fun b o e=>Heap.get?_push_of_some _ e
 rw[hw]
 refine wpAny_bind (wpAny_pure ?_)
 show wpAny (model X.prog X.w) X.A (do rule "assign.swapped-stores";let items ← unpackItems (.ref s1.heap.objs.size) 2 none;assignInOrder [fun v=>bindName X.env y v,fun v=>bindName X.env x v] items.reverse;pure Flow.next) _ _ _
 refine wpAny_bind (wpAny_rule (wpAny_bind (unpackItems_tuple (items:=#[u1,u2]) (I.ok.hd hc) (IsTup.new s1.heap _) fun h' hx'=>?_)))
 have I3:=I2.kept (h':=h') (t':=s1.toks) fun b o e=>hx' b o (Nat.ne_of_lt (Heap.lt_size e)) e
 show wpAny _ _ (assignInOrder [fun v=>bindName X.env y v,fun v=>bindName X.env x v] [u2,u1] >>= fun _=>pure Flow.next) _ _ _
 refine wpAny_bind (assignInOrder_cons (wpAny_bindName (zfV I3 hN hj (.inl hy) rw' (fun s2 I4=>?_) (.inr hy))))
 refine assignInOrder_cons (wpAny_bindName (zfV I4 hN hi (.inl hx) rv (fun s3 I5=>assignInOrder_nil (wpAny_pure ?_)) (.inr hx)))
 rw[List.set_comm _ _ (Ne.symm hij)] at I5
 exact⟨_,H1,I5,q1⟩
end
section
variable {X:Cx}{pos:Pos}
def zvO (c:TT)(tb:TS):TS:=fun D σ H=>∃ W:Nat->St->Hp->Prop,(∃ m,W m σ H)/\∀ m σ H,W m σ H ->
 c σ H fun b H1=>if b=true then ∃ N:St->Hp->Prop,(∀ σ' H',N σ' H'->∃ m',m' < m/\W m' σ' H')/\tb { D with nx:=N,ct:=N,bk:=D.nx } σ H1 else D.nx σ H1
theorem zm4 {c:Expr}{body:List Stmt}{tc:TT}{tb:TS}(hp:PassesOwn (model X.prog X.w) X.A X.env X.xe)(hc:PT X c tc)(hb:PSs X body tb):PS X (.While c body [] pos) (zvO tc tb):=by
 intro pins s σ H D I h
 obtain⟨W,⟨m0,w0⟩,turn⟩:=h
 refine wpAny_While (codeAny_whileLoop (fun n s'=>∃ σ' H',Inv X pins σ' H' s'/\W n σ' H') ?_ m0 ⟨σ,H,I,w0⟩)
 rintro n s1 ⟨σ1,H1,I1,w1⟩
 refine wpAny_passesOwn hp (thn (hc pins s1 σ1 H1 _ I1 (turn n σ1 H1 w1)) fun b s2 ⟨H2,I2,q2⟩=>?_)
 cases b with
 | true =>
  obtain⟨N,hN,q2⟩:=q2
  rw[if_pos rfl]
  refine wpAny_passesOwn hp (thn (hb pins s2 σ1 H2 _ I2 q2) fun f s3 q3=>?_)
  cases f with
  | next =>
   obtain⟨σ3,H3,I3,n3⟩:=q3
   obtain⟨m',hm,w3⟩:=hN σ3 H3 n3
   exact⟨m',hm,σ3,H3,I3,w3⟩
  | cont =>
   obtain⟨σ3,H3,I3,n3⟩:=q3
   obtain⟨m',hm,w3⟩:=hN σ3 H3 n3
   exact⟨m',hm,σ3,H3,I3,w3⟩
  | brk=>exact q3
  | ret v=>exact q3
 | false =>
  rw[if_neg Bool.false_ne_true]
  exact wpAny_execs_nil ⟨σ1,H2,I2,q2⟩
end
structure It where
 go:Nat->Hp->Prop
 yld:Nat->Hp->V->Hp->Prop
 stop:Nat->Hp->Prop
def znR (X:Cx)(pins:List (Addr×Obj))(H:Hp)(b:Addr):Prop :=
 H b=none/\b≠X.env.locals/\b∉X.fs/\(b∈X.ex∨X.s₀.heap.objs.size<=b)/\(∀ x c,X.env.cells.lookup x=some c->c≠b)/\∀ p∈X.pn++pins,p.1≠b
theorem Inv.fpOk {X:Cx}{pins:List (Addr×Obj)}{σ:St}{H H':Hp}{s:Shared}{b:Addr}(I:Inv X pins σ H s)(hb:s.heap.objs.size<=b)(hn:H' b=none):znR X pins H' b:=by
 refine⟨hn,Nat.ne_of_gt (Nat.lt_of_lt_of_le I.lt hb),I.nofs hb,.inr (Nat.le_trans I.sz hb),fun x c e z=>?_,fun p hp z=>?_⟩
 ·obtain⟨v,q⟩:=I.cell x c e
  exact absurd (Nat.lt_of_lt_of_le q.lt (by rw[z];exact hb)) (Nat.lt_irrefl _)
 ·exact absurd (Nat.lt_of_lt_of_le (Heap.lt_size (I.pin p hp).1) (by rw[z];exact hb)) (Nat.lt_irrefl _)
structure zvt (P:Program) (w:World) (K:W.Frag) (tg:Expr) (J:It) (fp:List Addr) (it:Addr) (tn:Nat->Heap->Prop):Prop where
 mem:it∈fp
 obj:∀ i h,tn i h->∀ b∈fp,∃ o,h.get? b=some o/\∀ v,o.data≠.cell v
 keep:∀ i h h',tn i h->(∀ b∈fp,∀ o,h.get? b=some o->h'.get? b=some o)->tn i h'
 item:∀ (X:Cx),X.prog=P->X.w=w->X.K=K->X.calm=true->∀ (i:Nat) (pins:List (Addr×Obj)) (s:Shared) (σ:St) (H:Hp) (E:Value->Shared->Prop),Inv X pins σ H s->(∀ b∈fp,znR X pins H b)->tn i s.heap->J.go i H ->
  wpAny (model P w) X.A (pyNext (.ref it)) (fun r s1=>∃ u,r=some u /\
   wpAny (model P w) X.A (letOwnedTupleGo tg (.ref it) u) (fun _ s2=>∃ x H',Inv X pins σ H' s2/\zbP x u/\J.yld i H x H'/\tn (i+1) s2.heap/\∀ b∈fp,H' b=none) E s1) E s
 done:∀ (X:Cx),X.prog=P->X.w=w->X.K=K->X.calm=true->∀ (i:Nat) (pins:List (Addr×Obj)) (s:Shared) (σ:St) (H:Hp) (E:Value->Shared->Prop),Inv X pins σ H s->(∀ b∈fp,znR X pins H b)->tn i s.heap->J.stop i H ->
  wpAny (model P w) X.A (pyNext (.ref it)) (fun r s1=>r=none/\Inv X pins σ H s1) E s
 self:∀ (A:Around) (i:Nat) (s:Shared) (Q:Value->Shared->Prop) (E:Value->Shared->Prop),tn i s.heap->Q (.ref it) s->wpAny (model P w) A (pyIter (.ref it)) Q E s
abbrev TI:=St->Hp->(It->Hp->Prop)->Prop
def PIE (X:Cx)(pins:List (Addr×Obj))(σ:St)(tg:Expr)(R:It->Hp->Prop)(itv:Value)(s2:Shared):Prop :=
 ∃ (it:Addr) (fp:List Addr) (tn:Nat->Heap->Prop) (J:It) (H':Hp),itv=.ref it/\Inv X pins σ H' s2/\zvt X.prog X.w X.K tg J fp it tn/\tn 0 s2.heap/\(∀ b∈fp,znR X pins H' b)/\R J H'
def PI (X:Cx)(tg iter:Expr)(wi:TI):Prop :=
 ∀ (pins:List (Addr×Obj)) (s:Shared) (σ:St) (H:Hp) (R:It->Hp->Prop),Inv X pins σ H s->wi σ H R ->
  wpAny (model X.prog X.w) X.A (eval iter X.env) (fun v s1=>wpAny (model X.prog X.w) X.A (pyIter v) (PIE X pins σ tg R) X.xe s1) X.xe s
theorem zsd {M:Model}{A:Around}{E:Value->Shared->Prop}{s:Shared}{tg:Expr}{it:Addr}{u:Value}{o:Obj}{n:String}{vs:Array Value}{Q:Unit->Shared->Prop}(ho:s.heap.get? it=some o)(hc:o.cls=.type n)(hd:o.data=.fields vs)
  (hn:["enumerate","zip","dict_itemiterator","dict_reverseitemiterator","odict_iterator","itertools.zip_longest","itertools.pairwise"].contains n=false)(hQ:Q () s):wpAny M A (letOwnedTupleGo tg (.ref it) u) Q E s:=by
 unfold letOwnedTupleGo
 cases tg<;>first
  | exact wpAny_pure hQ
  | (cases u<;>first
    | exact wpAny_pure hQ
    | (refine wpAny_bind (wpAny_load ho ?_);rw[hc,hd];show wpAny M A (if(["enumerate","zip","dict_itemiterator","dict_reverseitemiterator","odict_iterator","itertools.zip_longest","itertools.pairwise"].contains n&&vs[0]?==some (rawInt _))=true then _ else _) Q E s;rw[if_neg (by intro h;rw[hn,Bool.false_and] at h;cases h)];exact wpAny_pure hQ))
def Itl (K:W.Frag)(a:Addr):It :=
 ⟨fun i H=>∃ xs x,SqL K H a xs/\xs[i]?=some x,fun i H x H'=>H'=H/\∀ xs,SqL K H a xs->xs[i]?=some x,fun i H=>∃ xs,SqL K H a xs/\xs.length<=i⟩
def Itr (lo:Int)(n:Nat):It:=⟨fun i _=>i < n,fun i H x H'=>H'=H/\x=.int (lo+i),fun i _=>n<=i⟩
theorem zo8 {P:Program}{w:World}{K:W.Frag}{tg:Expr}(a it:Addr):zvt P w K tg (Itl K a) [it] it (fun i h=>h.IsListIter it a i) where
 mem:=by simp
 obj:=fun i h st b hb=>by
  have e:b=it:=by simpa using hb
  subst e
  obtain⟨o,e,c,d⟩:=st
  exact⟨o,e,fun v z=>by rw[d] at z;cases z⟩
 keep:=fun i h h' st k=>st.at fun o e=>k it (by simp) o e
 item:=by
  intro X hP hw hK hc i pins s σ H E I hf st hg
  subst hP hw hK
  obtain⟨xs,x,hq,hx⟩:=hg
  obtain⟨its,rv,p,hz⟩:=I.list hq
  obtain⟨u,hu,ru⟩:=rv.get hx
  obtain⟨f0,f1,f2,f3,f4,f5⟩:=hf it (by simp)
  refine wpAny_pyNext_list_item st p.isList (x:=u) (by simpa using hu) fun h' st' sb=>?_
  have I1:Inv X pins σ H { s with heap:=h' }:=I.turned (t':=s.toks) (fun b o hb e=>(sb.2 b hb).trans e) f0 f1 f3 f4 f5
  obtain⟨o,e,c,d⟩:=id st'
  exact⟨u,rfl,zsd (s:={ s with heap:=h' }) e c d (by decide) ⟨x,H,I1,ru,⟨rfl,fun ys hy=>by rw[I.list_inj hy hq];exact hx⟩,st',fun b hb=>(hf b hb).1⟩⟩
 done:=by
  intro X hP hw hK hc i pins s σ H E I hf st hg
  subst hP hw hK
  obtain⟨xs,hq,hx⟩:=hg
  obtain⟨its,rv,p,hz⟩:=I.list hq
  obtain⟨f0,f1,f2,f3,f4,f5⟩:=hf it (by simp)
  have hl:=rv.length
  exact wpAny_pyNext_list_end (I.ok.hd hc) st p.isList (by simp;omega) fun h' eb=>⟨rfl,I.turned (t':=s.toks) (fun b o hb e=>eb b o hb e) f0 f1 f3 f4 f5⟩
 self:=fun _ _ _ _ _ st h=>wpAny_pyIter_listiter st h
theorem znY {P:Program}{w:World}{K:W.Frag}{tg:Expr}(it:Addr)(lo:Int)(n:Nat):zvt P w K tg (Itr lo n) [it] it (fun i h=>IsRangeIter h it (lo+(i:Nat)*1) ((n:Int)-(i:Nat)) 1) where
 mem:=by simp
 obj:=fun i h st b hb=>by
  have e:b=it:=by simpa using hb
  subst e
  exact⟨_,st,fun v z=>by
   have z':Data.fields _=Data.cell v:=z
   cases z'⟩
 keep:=fun i h h' st k=>k it (by simp) _ st
 item:=by
  intro X hP hw hK hc i pins s σ H E I hf st hg
  subst hP hw hK
  obtain⟨f0,f1,f2,f3,f4,f5⟩:=hf it (by simp)
  have W:=Walks.range (prog:=X.prog) (w:=X.w) (I.ok.hd hc) it lo 1 n
  refine W.item i s _ _ hg st fun v h' tk hv st' kk=>?_
  obtain⟨t,rfl⟩:=hv
  have I1:Inv X pins σ H { s with heap:=h',toks:=tk }:=I.turned (fun b o hb e=>kk b o (by simpa using hb) e) f0 f1 f3 f4 f5
  refine⟨_,rfl,zsd (s:={ s with heap:=h',toks:=tk }) (n:="range_iterator") st' rfl rfl (by decide) ⟨.int (lo+i),H,I1,⟨t,?_⟩,⟨rfl,rfl⟩,st',fun b hb=>(hf b hb).1⟩⟩
  rw[Int.mul_one]
 done:=by
  intro X hP hw hK hc i pins s σ H E I hf st hg
  subst hP hw hK
  obtain⟨f0,f1,f2,f3,f4,f5⟩:=hf it (by simp)
  exact wpAny_pyNext_range_end (I.ok.hd hc) st (by have:n<=i:=hg;omega) fun h' eb=>⟨rfl,I.turned (t':=s.toks) (fun b o hb e=>eb b o hb e) f0 f1 f3 f4 f5⟩
 self:=fun _ _ _ _ _ st h=>wpAny_pyIter_rangeiter st h
section
variable {X:Cx}{tg:Expr}
def zyy (K:W.Frag)(tl:TE):TI:=fun σ H R=>tl σ H fun x H1=>∃ a,x=.ref a/\(∃ xs,SqL K H1 a xs)/\R (Itl K a) H1
theorem zpF {l:Expr}{tl:TE}(hl:PE X l tl):PI X tg l (zyy X.K tl):=by
 intro pins s σ H R I h
 refine thn (hl pins s σ H _ I h) fun v s1 ⟨x,H1,I1,r1,q1⟩=>?_
 obtain⟨a,e,⟨xs,hq⟩,q⟩:=q1
 subst e
 cases r1
 obtain⟨its,rv,p,hz⟩:=I1.list hq
 refine wpAny_pyIter_list p.isList ?_
 refine⟨s1.heap.objs.size,[s1.heap.objs.size],_,_,H1,rfl,I1.kept (t':=s1.toks) fun b o e=>Heap.get?_push_of_some _ e,zo8 a _,⟨_,Heap.get?_push_size _ rfl,rfl,rfl⟩,fun b hb=>?_,q⟩
 have e:b=s1.heap.objs.size:=by simpa using hb
 subst e
 exact I1.fpOk (Nat.le_refl _) (I1.hok.fresh (Nat.le_refl _))
theorem zrA {pins:List (Addr×Obj)}{σ:St}{H:Hp}{s:Shared}{R:It->Hp->Prop}{E:Value->Shared->Prop}{lo hi:Int}{t u v:Tok}{tk:Nat}(I:Inv X pins σ H s)(h1:-(2 ^ 62)<=lo)(h2:lo < 2 ^ 62)(h3:-(2 ^ 62)<=hi)(h4:hi < 2 ^ 62)
  (q:R (Itr lo (hi-lo).toNat) H):wpAny (model X.prog X.w) X.A (pyIter (.ref s.heap.objs.size)) (PIE X pins σ tg R) E { s with heap:=s.heap.push { cls:=.type "range",data:=.fields #[.int lo t,.int hi u,.int 1 v] },toks:=tk }:=by
 refine wpAny_pyIter_range (IsRange.new ..) (small_one h1 h2 h3 h4) ?_
 have I1:Inv X pins σ H { s with heap:=s.heap.push { cls:=.type "range",data:=.fields #[.int lo t,.int hi u,.int 1 v] },toks:=tk }:=I.kept fun b o e=>Heap.get?_push_of_some _ e
 refine⟨(s.heap.push { cls:=.type "range",data:=.fields #[.int lo t,.int hi u,.int 1 v] }).objs.size,[(s.heap.push { cls:=.type "range",data:=.fields #[.int lo t,.int hi u,.int 1 v] }).objs.size],_,_,H,rfl,
  I1.kept (t':=tk) fun b o e=>Heap.get?_push_of_some _ e,znY _ lo (hi-lo).toNat,?_,fun b hb=>?_,q⟩
 ·have e1:lo+((0:Nat):Int)*1=lo:=by simp
  have e2:(((hi-lo).toNat:Nat):Int)-((0:Nat):Int)=Builtin.Range.rangeSize lo hi 1:=by rw[rangeSize_one];split<;>omega
  show IsRangeIter _ _ (lo+((0:Nat):Int)*1) ((((hi-lo).toNat:Nat):Int)-((0:Nat):Int)) 1
  rw[e1,e2]
  exact Heap.get?_push_size _ rfl
 ·have e:b=(s.heap.push { cls:=.type "range",data:=.fields #[.int lo t,.int hi u,.int 1 v] }).objs.size:=by simpa using hb
  subst e
  exact I1.fpOk (Nat.le_refl _) (I1.hok.fresh (Nat.le_refl _))
def zyx (ta:TA):TI:=fun σ H R=>ta σ H fun vs H1=>∃ j:Int,vs=[.int j]/\-(2 ^ 62)<=j/\j < 2 ^ 62/\R (Itr 0 j.toNat) H1
theorem zh8 {a:Expr}{ta:TA}{p pos:Pos}(hg:Gl X "range")(hm:X.mg "range"=none)(ha:PA X [a] ta)(hs:starEach [a] X.env=[(false,eval a X.env)]:=by rfl):PI X tg (.Call (.Name "range" p) [a] [] pos) (zyx ta):=by
 intro pins s σ H R I h
 refine Call_ (zk7 I hg hm boot_range (PyProof.Rows.callWith_type1 (thn (ha pos pins s σ H _ I h) fun us s1 ⟨vs,H1,I1,r1,q1⟩=>?_) hs rfl))
 obtain⟨j,e,q1,q2,q⟩:=q1
 subst e
 cases r1 with
 | cons r rr =>
  cases rr
  obtain⟨t,rfl⟩:=r
  exact call_range_1 (zrA I1 (by omega) (by omega) q1 q2 (by simpa using q))
def zzH (wi:TI)(g:TG)(tb:TS):TS:=fun D σ H=>wi σ H fun J H1=>∃ W:Nat->Nat->St->Hp->Prop,(∃ m,W 0 m σ H1)/\∀ i m σ H,W i m σ H ->
 (J.stop i H/\D.nx σ H)∨(J.go i H/\∃ N:St->Hp->Prop,(∀ σ' H',N σ' H'->∃ m',m' < m/\W (i+1) m' σ' H')/\∀ x H',J.yld i H x H'->g x σ H' fun σ2 H2=>tb { D with nx:=N,ct:=N,bk:=D.nx } σ2 H2)
def zkX (fp:List Addr)(h:Heap):List (Addr×Obj):=fp.filterMap fun b=>(h.get? b).map fun o=>(b,o)
theorem ze5 {fp:List Addr}{h:Heap}{b:Addr}{o:Obj}(hb:b∈fp)(e:h.get? b=some o):(b,o)∈zkX fp h:=List.mem_filterMap.mpr ⟨b,hb,by rw[e];rfl⟩
theorem zpT {fp:List Addr}{h:Heap}{p:Addr×Obj}(hp:p∈zkX fp h):p.1∈fp/\h.get? p.1=some p.2:=by
 obtain⟨b,hb,e⟩:=List.mem_filterMap.mp hp
 cases q:h.get? b with
 | none=>rw[q] at e;cases e
 | some o =>
  rw[q] at e
  have e':(b,o)=p:=Option.some.inj e
  subst e'
  exact⟨hb,q⟩
theorem Inv.pinned {pins:List (Addr×Obj)}{σ:St}{H:Hp}{s:Shared}{fp:List Addr}(I:Inv X pins σ H s)(hf:∀ b∈fp,znR X pins H b)(ho:∀ b∈fp,∃ o,s.heap.get? b=some o/\∀ v,o.data≠.cell v):Inv X (pins++zkX fp s.heap) σ H s :=
 I.pins_of fun p hp=>(List.mem_append.mp hp).elim (fun z=>I.pin p (List.mem_append_right _ z)) fun z=>by
  obtain⟨hb,e⟩:=zpT z
  obtain⟨f0,f1,f2,_⟩:=hf p.1 hb
  obtain⟨o,e',d⟩:=ho p.1 hb
  rw[e] at e';cases e'
  exact⟨e,f0,f1,f2,d⟩
theorem Inv.unpinned {pins pl:List (Addr×Obj)}{σ:St}{H:Hp}{s:Shared}(I:Inv X (pins++pl) σ H s):Inv X pins σ H s:=I.pins_of fun p hp=>I.pin p (List.mem_append_right _ (List.mem_append_left _ hp))
theorem zm5 {iter:Expr}{body:List Stmt}{wi:TI}{g:TG}{tb:TS}{pos:Pos}(hp:PassesOwn (model X.prog X.w) X.A X.env X.xe)(hc:X.calm=true)(hi:PI X tg iter wi)(hg:PG X tg g)(hb:PSs X body tb)
  (hs:∀ x,foldedSetIterable iter X.env x=pure x:=by intro _;rfl):PS X (.For tg iter body [] pos) (zzH wi g tb):=by
 intro pins s σ H D I h
 refine wpAny_For (thn (hi pins s σ H _ I h) fun v s1 h1=>thn h1 fun itv s2 h2=>?_) hs
 obtain⟨it,fp,tn,J,H2,e,I2,T,st2,f2,W,⟨m0,w0⟩,turn⟩:=h2
 subst e
 have stat:∀ {H':Hp},(∀ b∈fp,H' b=none)->∀ b∈fp,znR X pins H' b:=fun hn b hb=>⟨hn b hb,(f2 b hb).2⟩
 refine codeAny_forLoop_any (fun n s'=>∃ i σ' H',Inv X pins σ' H' s'/\tn i s'.heap/\(∀ b∈fp,H' b=none)/\W i n σ' H') ?_ m0 ⟨0,σ,H2,I2,st2,fun b hb=>(f2 b hb).1,w0⟩
 rintro n s3 ⟨i,σ3,H3,I3,st3,fr3,w3⟩
 rcases turn i n σ3 H3 w3 with⟨stop,qn⟩ | ⟨go,N,hN,step⟩
 ·refine wpAny_passesOwn hp (thn (T.done X rfl rfl rfl hc i pins s3 σ3 H3 X.xe I3 (stat fr3) st3 stop) fun r s4 ⟨hr,I4⟩=>?_)
  subst hr
  exact wpAny_execs_nil ⟨σ3,H3,I4,qn⟩
 ·refine wpAny_passesOwn hp (thn (T.item X rfl rfl rfl hc i pins s3 σ3 H3 X.xe I3 (stat fr3) st3 go) fun r s4 ⟨u,hr,h4⟩=>?_)
  subst hr
  refine wpAny_passesOwn hp (thn h4 fun _ s5 ⟨x,H5,I5,r5,y5,st5,fr5⟩=>?_)
  have I5':=I5.pinned (stat fr5) (T.obj _ _ st5)
  refine wpAny_passesOwn hp (thn (hg _ s5 σ3 H5 x u _ I5' r5 (step x H5 y5)) fun _ s6 ⟨σ6,H6,I6,q6⟩=>?_)
  refine wpAny_passesOwn hp (thn (hb _ s6 σ6 H6 _ I6 q6) fun f s7 q7=>?_)
  have again:∀ {σ7:St}{H7:Hp},Inv X (pins++zkX fp s5.heap) σ7 H7 s7->N σ7 H7->∃ m,m < n/\∃ i σ' H',Inv X pins σ' H' s7/\tn i s7.heap/\(∀ b∈fp,H' b=none)/\W i m σ' H':=fun {σ7 H7} I7 n7=>by
   obtain⟨m',hm,w7⟩:=hN σ7 H7 n7
   refine⟨m',hm,i+1,σ7,H7,I7.unpinned,T.keep _ _ _ st5 fun b hb o e=>(I7.pin (b,o) (List.mem_append_right _ (List.mem_append_right _ (ze5 hb e)))).1,fun b hb=>?_,w7⟩
   obtain⟨o,e,d⟩:=T.obj _ _ st5 b hb
   exact(I7.pin (b,o) (List.mem_append_right _ (List.mem_append_right _ (ze5 hb e)))).2.1
  cases f with
  | next=>obtain⟨σ7,H7,I7,n7⟩:=q7;exact again I7 n7
  | cont=>obtain⟨σ7,H7,I7,n7⟩:=q7;exact again I7 n7
  | brk=>obtain⟨σ7,H7,I7,q7⟩:=q7;exact⟨σ7,H7,I7.unpinned,q7⟩
  | ret v=>obtain⟨x7,σ7,H7,I7,r7,q7⟩:=q7;exact⟨x7,σ7,H7,I7.unpinned,r7,q7⟩
end
theorem zsh {K:W.Frag}{a:Addr}{xs:List V}{g:TG}{tb:TS}{D:zg4}{σ:St}{H:Hp}(Pv:Nat->St->Hp->Prop)(h0:Pv 0 σ H)(hl:∀ i σ H,i<=xs.length->Pv i σ H->SqL K H a xs)
  (hs:∀ i x σ H,xs[i]?=some x->Pv i σ H->g x σ H fun σ2 H2=>tb { D with nx:=Pv (i+1),ct:=Pv (i+1),bk:=D.nx } σ2 H2)(hd:∀ σ H,Pv xs.length σ H->D.nx σ H) :
  ∃ W:Nat->Nat->St->Hp->Prop,(∃ m,W 0 m σ H)/\∀ i m σ H,W i m σ H ->
   ((Itl K a).stop i H/\D.nx σ H)∨((Itl K a).go i H/\∃ N:St->Hp->Prop,(∀ σ' H',N σ' H'->∃ m',m' < m/\W (i+1) m' σ' H')/\∀ x H',(Itl K a).yld i H x H'->g x σ H' fun σ2 H2=>tb { D with nx:=N,ct:=N,bk:=D.nx } σ2 H2):=by
 refine⟨fun i m σ H=>m=xs.length-i/\i<=xs.length/\Pv i σ H,⟨xs.length,by simp,Nat.zero_le _,h0⟩,?_⟩
 rintro i m σ H ⟨rfl,hi,p⟩
 have q:=hl i σ H hi p
 by_cases hlt:i < xs.length
 ·refine .inr ⟨⟨xs,xs[i],q,by simp [hlt]⟩,Pv (i+1),fun σ' H' p'=>⟨xs.length-(i+1),by omega,rfl,hlt,p'⟩,fun x H' y=>?_⟩
  obtain⟨e,y⟩:=y
  subst e
  exact hs i x σ _ (y xs q) p
 ·have e:i=xs.length:=by omega
  subst e
  exact .inl ⟨⟨xs,q,Nat.le_refl _⟩,hd σ H p⟩
theorem zql {lo:Int}{n:Nat}{g:TG}{tb:TS}{D:zg4}{σ:St}{H:Hp}(Pv:Nat->St->Hp->Prop)(h0:Pv 0 σ H)
  (hs:∀ i σ H,i < n->Pv i σ H->g (.int (lo+i)) σ H fun σ2 H2=>tb { D with nx:=Pv (i+1),ct:=Pv (i+1),bk:=D.nx } σ2 H2)(hd:∀ σ H,Pv n σ H->D.nx σ H) :
  ∃ W:Nat->Nat->St->Hp->Prop,(∃ m,W 0 m σ H)/\∀ i m σ H,W i m σ H ->
   ((Itr lo n).stop i H/\D.nx σ H)∨((Itr lo n).go i H/\∃ N:St->Hp->Prop,(∀ σ' H',N σ' H'->∃ m',m' < m/\W (i+1) m' σ' H')/\∀ x H',(Itr lo n).yld i H x H'->g x σ H' fun σ2 H2=>tb { D with nx:=N,ct:=N,bk:=D.nx } σ2 H2):=by
 refine⟨fun i m σ H=>m=n-i/\i<=n/\Pv i σ H,⟨n,by simp,Nat.zero_le _,h0⟩,?_⟩
 rintro i m σ H ⟨rfl,hi,p⟩
 by_cases hlt:i < n
 ·refine .inr ⟨hlt,Pv (i+1),fun σ' H' p'=>⟨n-(i+1),by omega,rfl,hlt,p'⟩,fun x H' y=>?_⟩
  obtain⟨e,y⟩:=y
  subst e y
  exact hs i σ _ hlt p
 ·have e:i=n:=by omega
  subst e
  exact .inl ⟨Nat.le_refl _,hd σ H p⟩
abbrev R2:=V->V->Hp->VK->Prop
def OpR (X:Cx)(f:Value->Value->Sem Value)(r:R2):Prop :=
 ∀ (pins:List (Addr×Obj)) (s:Shared) (σ:St) (H:Hp) (x y:V) (v u:Value) (Q:VK),Inv X pins σ H s->zbP x v->zbP y u->r x y H Q ->
  wpAny (model X.prog X.w) X.A (f v u) (EP X pins σ Q) X.xe s
def UnR (X:Cx)(f:Value->Sem Value)(r:V->Hp->VK->Prop):Prop :=
 ∀ (pins:List (Addr×Obj)) (s:Shared) (σ:St) (H:Hp) (x:V) (v:Value) (Q:VK),Inv X pins σ H s->zbP x v->r x H Q ->
  wpAny (model X.prog X.w) X.A (f v) (EP X pins σ Q) X.xe s
def zhF (X:Cx)(f:Value)(r:List V->Hp->VK->Prop):Prop :=
 ∀ (pins:List (Addr×Obj)) (s:Shared) (σ:St) (H:Hp) (xs:List V) (us:List Value) (Q:VK),Inv X pins σ H s->zbK xs us->r xs H Q ->
  wpAny (model X.prog X.w) X.A (call f us) (EP X pins σ Q) X.xe s
def zz5 (X:Cx)(r:V->Hp->(Bool->Hp->Prop)->Prop):Prop :=
 ∀ (pins:List (Addr×Obj)) (s:Shared) (σ:St) (H:Hp) (x:V) (v:Value) (Q:Bool->Hp->Prop),Inv X pins σ H s->zbP x v->r x H Q ->
  wpAny (model X.prog X.w) X.A (truthy v) (TP X pins σ Q) X.xe s
def tOp (r:R2)(ta tb:TE):TE:=fun σ H Q=>ta σ H fun x H1=>tb σ H1 fun y H2=>r x y H2 Q
def tUn (r:V->Hp->VK->Prop)(ta:TE):TE:=fun σ H Q=>ta σ H fun x H1=>r x H1 Q
def rI (C:Int->Int->Prop)(g:Int->Int->V):R2:=fun x y H Q=>∃ i j,x=.int i/\y=.int j/\C i j/\Q (g i j) H
def rI0 (g:Int->Int->V):R2:=fun x y H Q=>∃ i j,x=.int i/\y=.int j/\Q (g i j) H
def rU (g:Int->V):V->Hp->VK->Prop:=fun x H Q=>∃ i,x=.int i/\Q (g i) H
section
variable {X:Cx}{a b c:Expr}{ta tb tc:TE}{pos:Pos}
theorem zyQ (ha:PE X a ta)(hb:PE X b tb){pins:List (Addr×Obj)}{s:Shared}{σ:St}{H:Hp}{R:V->V->Hp->Prop}(I:Inv X pins σ H s)
  (h:ta σ H fun x H1=>tb σ H1 fun y H2=>R x y H2){Q:Value->Shared->Prop}{f:Value->Value->Sem Value}
  (hf:∀ v u s2 x y H2,Inv X pins σ H2 s2->zbP x v->zbP y u->R x y H2->wpAny (model X.prog X.w) X.A (f v u) Q X.xe s2) :
  wpAny (model X.prog X.w) X.A (eval a X.env) (fun v s₁=>wpAny (model X.prog X.w) X.A (eval b X.env) (fun u s₂=>wpAny (model X.prog X.w) X.A (f v u) Q X.xe s₂) X.xe s₁) X.xe s:=by
 refine thn (ha pins s σ H _ I h) fun v s1 ⟨x,H1,I1,r1,q1⟩=>?_
 refine thn (hb pins s1 σ H1 _ I1 q1) fun u s2 ⟨y,H2,I2,r2,q2⟩=>?_
 exact hf v u s2 x y H2 I2 r1 r2 q2
theorem zua {op:Operator}{r:R2}(ho:OpR X (binaryOp op) r)(ha:PE X a ta)(hb:PE X b tb):PE X (.BinOp a op b pos) (tOp r ta tb):=by
 intro pins s σ H Q I h
 exact wpAny_BinOp (zyQ ha hb I h fun v u s2 x y H2 I2 rx ry q=>ho pins s2 σ H2 x y v u Q I2 rx ry q)
theorem zym {op:UnaryOp}{r:V->Hp->VK->Prop}(ho:UnR X (unaryOp op) r)(ha:PE X a ta):PE X (.UnaryOp op a pos) (tUn r ta):=by
 intro pins s σ H Q I h
 exact UnaryOp_ (thn (ha pins s σ H _ I h) fun v s1 ⟨x,H1,I1,r1,q1⟩=>ho pins s1 σ H1 x v Q I1 r1 q1)
theorem opI {f:Value->Value->Sem Value}{C:Int->Int->Prop}{g:Int->Int->Int}
  (rule:∀ (i j:Int) (t u:Tok) (s:Shared) (Q:Value->Shared->Prop) (E:Value->Shared->Prop),C i j->Q (.int (g i j) s.toks) { s with toks:=s.toks+1 }->wpAny (model X.prog X.w) X.A (f (.int i t) (.int j u)) Q E s) :
  OpR X f (rI C fun i j=>.int (g i j)):=by
 intro pins s σ H x y v u Q I rx ry h
 obtain⟨i,j,rfl,rfl,hc,q⟩:=h
 obtain⟨t,rfl⟩:=rx
 obtain⟨t',rfl⟩:=ry
 exact rule i j t t' s _ _ hc ⟨.int (g i j),H,I.tok _,⟨_,rfl⟩,q⟩
theorem zzg {f:Value->Value->Sem Value}{g:Int->Int->Int}
  (rule:∀ (i j:Int) (t u:Tok) (s:Shared) (Q:Value->Shared->Prop) (E:Value->Shared->Prop),Q (.int (g i j) s.toks) { s with toks:=s.toks+1 }->wpAny (model X.prog X.w) X.A (f (.int i t) (.int j u)) Q E s) :
  OpR X f (rI0 fun i j=>.int (g i j)):=by
 intro pins s σ H x y v u Q I rx ry h
 obtain⟨i,j,rfl,rfl,q⟩:=h
 obtain⟨t,rfl⟩:=rx
 obtain⟨t',rfl⟩:=ry
 exact rule i j t t' s _ _ ⟨.int (g i j),H,I.tok _,⟨_,rfl⟩,q⟩
theorem zxH {f:Value->Value->Sem Value}{g:Int->Int->Bool}
  (rule:∀ (i j:Int) (t u:Tok) (s:Shared) (Q:Value->Shared->Prop) (E:Value->Shared->Prop),Q (.bool (g i j)) s->wpAny (model X.prog X.w) X.A (f (.int i t) (.int j u)) Q E s) :
  OpR X f (rI0 fun i j=>.bl (g i j)):=by
 intro pins s σ H x y v u Q I rx ry h
 obtain⟨i,j,rfl,rfl,q⟩:=h
 obtain⟨t,rfl⟩:=rx
 obtain⟨t',rfl⟩:=ry
 exact rule i j t t' s _ _ ⟨.bl (g i j),H,I,rfl,q⟩
def zz8 (i j:Int):Prop:=0<=j/\j<=1000000/\i.natAbs < 2 ^ 64
def zzv (i j:Int):Prop:=(-(2 ^ 64) < i/\i < 2 ^ 64)∨(-(2 ^ 64) < j/\j < 2 ^ 64)
theorem zzv.ok {i j:Int}(h:zzv i j):IntMulOk i j:=by
 rcases h with⟨h1,h2⟩ | ⟨h1,h2⟩
 ·exact .of_left (intBits_le_64 h1 h2)
 ·exact .of_right (intBits_le_64 h1 h2)
theorem zs9:OpR X (binaryOp .Add) (rI0 fun i j=>.int (i+j)):=zzg fun _ _ _ _ _ _ _ q=>add_int q
theorem zwA:OpR X (binaryOp .Sub) (rI0 fun i j=>.int (i-j)):=zzg fun _ _ _ _ _ _ _ q=>sub_int q
theorem zpM:OpR X (binaryOp .Mod) (rI (fun _ j=>j≠0) fun i j=>.int (i.fmod j)):=opI fun _ _ _ _ _ _ _ hc q=>mod_int' hc q
theorem zwB:OpR X (binaryOp .Pow) (rI zz8 fun i j=>.int (i ^ j.toNat)):=opI fun _ _ _ _ _ _ _ hc q=>pow_int_small hc.1 hc.2.1 hc.2.2 q
theorem unI {f:Value->Sem Value}{g:Int->Int}
  (rule:∀ (i:Int) (t:Tok) (s:Shared) (Q:Value->Shared->Prop) (E:Value->Shared->Prop),Q (.int (g i) s.toks) { s with toks:=s.toks+1 }->wpAny (model X.prog X.w) X.A (f (.int i t)) Q E s) :
  UnR X f (rU fun i=>.int (g i)):=by
 intro pins s σ H x v Q I rx h
 obtain⟨i,rfl,q⟩:=h
 obtain⟨t,rfl⟩:=rx
 exact rule i t s _ _ ⟨.int (g i),H,I.tok _,⟨_,rfl⟩,q⟩
theorem zvG:UnR X (unaryOp .USub) (rU fun i=>.int (-i)):=unI fun _ _ _ _ _ q=>neg_int q
end
section
variable {X:Cx}{a b c:Expr}{ta tb tc:TE}{pos:Pos}
theorem zqo {pins:List (Addr×Obj)}{σ:St}{H:Hp}{s:Shared}{Q:VK}{k k':Bool}(I:Inv X pins σ H s)(q:Q (.bl k) H)(e:k=k'):EP X pins σ Q (.bool k') s:=by
 subst e
 exact⟨.bl k,H,I,rfl,q⟩
theorem zrK:OpR X (compareOp .Lt) (rI0 fun i j=>.bl (decide (i < j))):=zxH fun _ _ _ _ _ _ _ q=>lt_int q
theorem zl6:OpR X (compareOp .LtE) (rI0 fun i j=>.bl (decide (i<=j))):=zxH fun _ _ _ _ _ _ _ q=>le_int q
theorem zrL:OpR X (compareOp .Gt) (rI0 fun i j=>.bl (decide (j < i))):=zxH fun _ _ _ _ _ _ _ q=>gt_int q
theorem zuh:OpR X (compareOp .GtE) (rI0 fun i j=>.bl (decide (j<=i))):=zxH fun _ _ _ _ _ _ _ q=>ge_int q
theorem zpN:OpR X (compareOp .In) (fun x y H Q=>∃ i j,x=.str i/\y=.str j/\Q (.bl (!(Builtin.Str.occurrences j i 0 j.length 1).isEmpty)) H):=by
 intro pins s σ H x y v u Q I rx ry h
 obtain⟨i,j,rfl,rfl,q⟩:=h
 obtain⟨t,rfl⟩:=rx
 obtain⟨t',rfl⟩:=ry
 exact in_str (zqo I q rfl)
theorem znb:OpR X (compareOp .Is) (fun x y H Q=>y=.non/\Q (.bl (decide (x=.non))) H):=by
 intro pins s σ H x y v u Q I rx ry h
 obtain⟨rfl,q⟩:=h
 cases ry
 refine is_none_gen (zqo I q ?_)
 cases x<;>first
  | (cases rx;rfl)
  | (obtain⟨t,rfl⟩:=rx;rfl)
theorem zuf:OpR X (compareOp .IsNot) (fun x y H Q=>y=.non/\Q (.bl (!decide (x=.non))) H):=by
 intro pins s σ H x y v u Q I rx ry h
 obtain⟨rfl,q⟩:=h
 cases ry
 refine isnot_none_gen (zqo I q ?_)
 cases x<;>first
  | (cases rx;rfl)
  | (obtain⟨t,rfl⟩:=rx;rfl)
theorem OpR.or {f:Value->Value->Sem Value}{r r':R2}(h:OpR X f r)(h':OpR X f r'):OpR X f (fun x y H Q=>r x y H Q∨r' x y H Q):=by
 intro pins s σ H x y v u Q I rx ry q
 rcases q with q | q
 ·exact h pins s σ H x y v u Q I rx ry q
 ·exact h' pins s σ H x y v u Q I rx ry q
theorem zpH {op:CmpOp}{r:R2}(ho:OpR X (compareOp op) r)(ha:PE X a ta)(hb:PE X b tb)(hm:behindInMarks op b=false):PE X (.Compare a [op] [b] pos) (tOp r ta tb):=by
 intro pins s σ H Q I h
 exact wpAny_Compare1 (zyQ ha hb I h fun v u s2 x y H2 I2 rx ry q=>ho pins s2 σ H2 x y v u Q I2 rx ry q) hm
def zvP (t:TE):TT:=fun σ H Q=>t σ H fun x H'=>∃ k,x=.bl k/\Q k H'
theorem zpA {op:CmpOp}{r:R2}(ho:OpR X (compareOp op) r)(ha:PE X a ta)(hb:PE X b tb)(hm:behindInMarks op b=false):PT X (.Compare a [op] [b] pos) (zvP (tOp r ta tb)):=by
 intro pins s σ H Q I h
 refine wpAny_isTrue_Compare1 (thn (ha pins s σ H _ I h) fun v s1 ⟨x,H1,I1,r1,q1⟩=>thn (hb pins s1 σ H1 _ I1 q1) fun u s2 ⟨y,H2,I2,r2,q2⟩ =>
  thn (ho pins s2 σ H2 x y v u _ I2 r1 r2 q2) fun c s3 ⟨z,H3,I3,r3,k,e,q3⟩=>?_) hm
 subst e
 cases r3
 exact wpAny_truthy_bool ⟨H3,I3,q3⟩
def zpc (r r':R2)(ta tb tc:TE):TE:=fun σ H Q=>ta σ H fun x H1=>tb σ H1 fun y H2=>r x y H2 fun z H3=>∃ k,z=.bl k /\
 (if k=true then tc σ H3 fun w' H4=>r' y w' H4 Q else Q (.bl false) H3)
theorem zrJ {op op':CmpOp}{r r':R2}(ho:OpR X (compareOp op) r)(ho':OpR X (compareOp op') r')(ha:PE X a ta)(hb:PE X b tb)(hc:PE X c tc)
  (hm:lastMarks [op,op'] [b,c]=false:=by with_unfolding_all rfl):PE X (.Compare a [op,op'] [b,c] pos) (zpc r r' ta tb tc):=by
 intro pins s σ H Q I h
 refine Compare_chain (thn (ha pins s σ H _ I h) fun v s1 ⟨x,H1,I1,r1,q1⟩=>chain_link (thn (hb pins s1 σ H1 _ I1 q1) fun u s2 ⟨y,H2,I2,r2,q2⟩ =>
  thn (ho pins s2 σ H2 x y v u _ I2 r1 r2 q2) fun d s3 ⟨z,H3,I3,r3,k,e,q3⟩=>?_)) hm
 subst e
 cases r3
 refine wpAny_truthy_bool ?_
 cases k with
 | false=>exact ite_ff ⟨.bl false,H3,I3,rfl,q3⟩
 | true=>exact ite_tt (chain_last (thn (hc pins s3 σ H3 _ I3 q3) fun w' s4 ⟨z',H4,I4,r4,q4⟩=>ho' pins s4 σ H4 y z' u w' Q I4 r2 r4 q4))
theorem zrE {op op':CmpOp}{r r':R2}(ho:OpR X (compareOp op) r)(ho':OpR X (compareOp op') r')(ha:PE X a ta)(hb:PE X b tb)(hc:PE X c tc)
  (hm:lastMarks [op,op'] [b,c]=false:=by with_unfolding_all rfl):PT X (.Compare a [op,op'] [b,c] pos) (zvP (zpc r r' ta tb tc)):=by
 intro pins s σ H Q I h
 refine isTrue_chain (thn (ha pins s σ H _ I h) fun v s1 ⟨x,H1,I1,r1,q1⟩=>test_link (thn (hb pins s1 σ H1 _ I1 q1) fun u s2 ⟨y,H2,I2,r2,q2⟩ =>
  thn (ho pins s2 σ H2 x y v u _ I2 r1 r2 q2) fun d s3 ⟨z,H3,I3,r3,k,e,q3⟩=>?_)) hm
 subst e
 cases r3
 refine wpAny_truthy_bool ?_
 cases k with
 | false =>
  obtain⟨k',e',q'⟩:=q3
  cases e'
  exact ite_ff ⟨H3,I3,q'⟩
 | true =>
  refine ite_tt (test_last (thn (hc pins s3 σ H3 _ I3 q3) fun w' s4 ⟨z',H4,I4,r4,q4⟩=>thn (ho' pins s4 σ H4 y z' u w' _ I4 r2 r4 q4) fun d' s5 ⟨z2,H5,I5,r5,k2,e2,q5⟩=>?_))
  subst e2
  cases r5
  exact wpAny_truthy_bool ⟨H5,I5,q5⟩
def zz4 (K:W.Frag)(x:V)(H:Hp)(k:Bool):Prop :=
 match x with
 | .non=>k=false
 | .bl b=>k=b
 | .int i=>k=(i != 0)
 | .str y=>y.length<=sizeLine/\k=((y.length:Int) != 0)
 | .byt y=>y.size<=sizeLine/\k=((y.size:Int) != 0)
 | .ref p=>(∃ xs,SqL K H p xs/\k=!xs.isEmpty)∨(∃ xs,SqT K H p xs/\k=!xs.isEmpty)∨∃ kvs,H p=some (.dK kvs)/\k=!kvs.isEmpty
 | _=>False
theorem zom {κ:Type}{kvs:List (κ×V)}{vs:List (κ×Value)}(r:KV kvs vs):(!vs.isEmpty)=!kvs.isEmpty:=by
 cases r<;>rfl
theorem zjr {xs:List V}{its:List Value}(r:zbK xs its):(!its.toArray.isEmpty)=!xs.isEmpty:=by
 cases r<;>simp
theorem zjn:(sizeLine:Nat) < 2 ^ 63:=by rw[sizeLine_eq];decide
theorem zyY:zz5 X (fun x H Q=>∃ k,zz4 X.K x H k/\Q k H):=by
 intro pins s σ H x v Q I rx h
 obtain⟨k,e,q⟩:=h
 have hl:=zjn
 have hs:sizeLine=16777216:=sizeLine_eq
 cases x with
 | non =>
  cases rx
  have e':k=false:=e
  subst e'
  exact truthy_none ⟨H,I,q⟩
 | bl b =>
  cases rx
  have e':k=b:=e
  subst e'
  exact wpAny_truthy_bool ⟨H,I,q⟩
 | int i =>
  obtain⟨t,rfl⟩:=rx
  have e':k=(i != 0):=e
  subst e'
  exact PySem.P.truthy_int ⟨H,I,q⟩
 | str y =>
  obtain⟨t,rfl⟩:=rx
  obtain⟨hy,e'⟩:y.length<=sizeLine/\k=((y.length:Int) != 0):=e
  subst e'
  exact PySem.P.truthy_str (by omega) ⟨H,I.tok _,q⟩
 | byt y =>
  obtain⟨t,rfl⟩:=rx
  obtain⟨hy,e'⟩:y.size<=sizeLine/\k=((y.size:Int) != 0):=e
  subst e'
  exact W.truthy_bytes (by omega) ⟨H,I.tok _,q⟩
 | ref p =>
  cases rx
  have e':(∃ xs,SqL X.K H p xs/\k=!xs.isEmpty)∨(∃ xs,SqT X.K H p xs/\k=!xs.isEmpty)∨∃ kvs,H p=some (.dK kvs)/\k=!kvs.isEmpty:=e
  rcases e' with⟨xs,hx,e'⟩ | ⟨xs,hx,e'⟩ | ⟨kvs,hx,e'⟩
  ·subst e'
   obtain⟨its,r,pl,hz⟩:=I.list hx
   have hlen:=r.length
   exact wpAny_truthy_list pl.isList (by simp only[List.size_toArray];omega) ⟨H,I.tok _,by rw[zjr r];exact q⟩
  ·subst e'
   obtain⟨its,r,pl,hz⟩:=I.tuple hx
   have hlen:=r.length
   exact truthy_tuple pl (by simp only[List.size_toArray];omega) ⟨H,I.tok _,by rw[zjr r];exact q⟩
  ·subst e'
   obtain⟨hz,hS,vs,r,m⟩:kvs.length<=sizeLine/\(p==sysModules)=false/\∃ vs,KV kvs vs/\s.heap.DictOf (zj8 X.prog X.w) p vs:=I.hok p _ hx
   have hlen:kvs.length=vs.length:=Paired.length r
   exact wpAny_truthy_dict hS m (by omega) ⟨H,I.tok _,by rw[zom r];exact q⟩
 | _=>exact(show False from e).elim
theorem zjk:OpR X (binaryOp .Add) (fun x y H Q=>∃ i j,x=.str i/\y=.str j/\i.length+j.length<=sizeLine/\Q (.str (i++j)) H):=by
 intro pins s σ H x y v u Q I rx ry h
 obtain⟨i,j,rfl,rfl,hz,q⟩:=h
 obtain⟨t,rfl⟩:=rx
 obtain⟨t',rfl⟩:=ry
 exact add_str (fun t' tk=>⟨.str (i++j),H,I.tok _,⟨_,rfl⟩,q⟩) hz
theorem zlS {x:V}{us:List Value}(r:zbK [x] us):∃ u,us=[u]/\zbP x u:=by
 cases r with
 | cons r1 r2=>cases r2;exact⟨_,rfl,r1⟩
theorem zvE {x y:V}{us:List Value}(r:zbK [x,y] us):∃ u w',us=[u,w']/\zbP x u/\zbP y w':=by
 cases r with
 | cons r1 r2 =>
  cases r2 with
  | cons r3 r4=>cases r4;exact⟨_,_,rfl,r1,r3⟩
theorem zkw:zhF X (.builtin "abs") (fun xs H Q=>∃ i,xs=[.int i]/\Q (.int (if i < 0 then -i else i)) H):=by
 intro pins s σ H xs us Q I r h
 obtain⟨i,rfl,q⟩:=h
 obtain⟨u,rfl,t,rfl⟩:=zlS r
 exact call_abs_int fun u tk=>⟨.int (if i < 0 then -i else i),H,I.tok _,⟨_,rfl⟩,q⟩
theorem zqQ (hc:X.calm=true):zhF X (.builtin "max") (fun xs H Q=>∃ i j,xs=[.int i,.int j]/\Q (.int (if j > i then j else i)) H):=by
 intro pins s σ H xs us Q I r h
 obtain⟨i,j,rfl,q⟩:=h
 obtain⟨u,w',rfl,⟨t,rfl⟩,⟨t',rfl⟩⟩:=zvE r
 refine max_two_ints (I.ok.hd hc) fun h' tk k=>⟨_,H,I.kept k,?_,q⟩
 by_cases hj:j > i
 ·rw[if_pos hj,if_pos hj];exact⟨_,rfl⟩
 ·rw[if_neg hj,if_neg hj];exact⟨_,rfl⟩
theorem zqP (hc:X.calm=true):zhF X (.builtin "min") (fun xs H Q=>∃ i j,xs=[.int i,.int j]/\Q (.int (if j < i then j else i)) H):=by
 intro pins s σ H xs us Q I r h
 obtain⟨i,j,rfl,q⟩:=h
 obtain⟨u,w',rfl,⟨t,rfl⟩,⟨t',rfl⟩⟩:=zvE r
 refine min_two_ints (I.ok.hd hc) fun h' tk k=>⟨_,H,I.kept k,?_,q⟩
 by_cases hj:j < i
 ·rw[if_pos hj,if_pos hj];exact⟨_,rfl⟩
 ·rw[if_neg hj,if_neg hj];exact⟨_,rfl⟩
theorem zqR:zhF X (.type "int") (fun xs H Q=>(∃ i,xs=[.int i]/\Q (.int i) H)∨∃ k,xs=[.bl k]/\Q (.int (if k then 1 else 0)) H):=by
 intro pins s σ H xs us Q I r h
 rcases h with⟨i,rfl,q⟩ | ⟨k,rfl,q⟩
 ·obtain⟨u,rfl,t,rfl⟩:=zlS r
  exact call_int_int ⟨.int i,H,I,⟨_,rfl⟩,q⟩
 ·obtain⟨u,rfl,r1⟩:=zlS r
  cases r1
  exact call_int_bool ⟨.int (if k then 1 else 0),H,I.tok _,⟨_,rfl⟩,q⟩
def zzu (K:W.Frag)(x:V)(H:Hp)(n:Nat):Prop :=
 match x with
 | .str y=>y.length<=sizeLine/\n=y.length
 | .byt y=>y.size<=sizeLine/\n=y.size
 | .ref p=>(∃ xs,SqL K H p xs/\n=xs.length)∨∃ xs,SqT K H p xs/\n=xs.length
 | _=>False
theorem zbj:zhF X (.builtin "len") (fun xs H Q=>∃ x n,xs=[x]/\zzu X.K x H n/\Q (.int n) H):=by
 intro pins s σ H xs us Q I r h
 obtain⟨x,n,rfl,e,q⟩:=h
 obtain⟨u,rfl,rx⟩:=zlS r
 have hl:=zjn
 have hs:sizeLine=16777216:=sizeLine_eq
 cases x with
 | str y =>
  obtain⟨t,rfl⟩:=rx
  obtain⟨hy,e'⟩:y.length<=sizeLine/\n=y.length:=e
  subst e'
  exact len_str (by omega) ⟨.int _,H,I.tok _,⟨_,rfl⟩,q⟩
 | byt y =>
  obtain⟨t,rfl⟩:=rx
  obtain⟨hy,e'⟩:y.size<=sizeLine/\n=y.size:=e
  subst e'
  exact W.len_bytes (by omega) ⟨.int _,H,I.tok _,⟨_,rfl⟩,q⟩
 | ref p =>
  cases rx
  have e':(∃ xs,SqL X.K H p xs/\n=xs.length)∨∃ xs,SqT X.K H p xs/\n=xs.length:=e
  rcases e' with⟨xs,hx,e'⟩ | ⟨xs,hx,e'⟩
  ·subst e'
   obtain⟨its,r',pl,hz⟩:=I.list hx
   have hlen:=r'.length
   exact Calls.call_len_list pl.isList (by simp only[List.size_toArray];omega) ⟨.int xs.length,H,I.tok _,⟨_,by simp only[List.size_toArray];rw[hlen]⟩,q⟩
  ·subst e'
   obtain⟨its,r',pl,hz⟩:=I.tuple hx
   have hlen:=r'.length
   exact len_tuple pl (by simp only[List.size_toArray];omega) ⟨.int xs.length,H,I.tok _,⟨_,by simp only[List.size_toArray];rw[hlen]⟩,q⟩
 | _=>exact(show False from e).elim
end
structure zyU (h:Heap) (x dx C:Addr) (mA:Str->Option Value):Prop where
 obj:h.get? x=some (W.instObj C dx)
 ns:h.Ns1 dx mA
 ne:dx≠x
theorem zk5 {h:Heap}{dx:Addr}{mA:Str->Option Value}(n:h.Ns1 dx mA):∃ od,h.get? dx=some od/\∀ name,W.lookIn name od=some (mA name):=by
 obtain⟨o,es,ep,ho,hd,hk,_,hm⟩:=n
 refine⟨o,ho,fun name=>?_⟩
 have e:=hm name
 unfold nsFind findBy at e
 rw[← Array.find?_toList] at e
 unfold W.lookIn
 rw[hd]
 dsimp only
 split
 ·rename_i y q
  rw[q] at e
  exact congrArg some e
 ·rename_i q
  rw[q] at e
  have a:es.toList.any (·.refKey)=false:=by
   rw[List.any_eq_false]
   intro y hy
   obtain⟨z,t,hkey⟩:=hk y (Array.mem_toList_iff.mp hy)
   simp [DictEntry.refKey,hkey]
  have a':¬ es.toList.any (·.refKey)=true:=by rw[a];exact Bool.false_ne_true
  rw[if_neg a']
  exact congrArg some e
theorem zyU.look {h:Heap}{x dx C:Addr}{mA:Str->Option Value}(I:zyU h x dx C mA):∃ od,W.InstAt h x (W.instObj C dx) C (some od)/\∀ name,W.lookIn name od=some (mA name) :=
 let ⟨od,ho,hl⟩:=zk5 I.ns
 ⟨od,⟨I.obj,rfl,rfl,ho⟩,hl⟩
section
variable {prog:Program}{w:World}{A:Around}{E:Value->Shared->Prop}{s:Shared}{K:W.Frag}{x dx C f:Addr}{mA:Str->Option Value}{name:Str}{v:Value}
end
def zn4 (f:Str)(v:V):List (Str×V)->List (Str×V)
 | []=>[(f,v)]
 | (g,x)::r=>if g=f then(g,v)::r else(g,x)::zn4 f v r
theorem zii (f g:Str)(v:V):∀ fs:List (Str×V),(zn4 f v fs).lookup g=if g=f then some v else fs.lookup g
 | []=>by
  show List.lookup g [(f,v)]=_
  by_cases h:g=f
  ·have hb:(g==f)=true:=beq_iff_eq.mpr h
   simp only[List.lookup,hb,if_pos h]
  ·have hb:(g==f)=false:=beq_eq_false_iff_ne.mpr h
   simp only[List.lookup,hb,if_neg h]
 | (k,x)::r=>by
  have ih:=zii f g v r
  rw[show zn4 f v ((k,x)::r)=(if k=f then(k,v)::r else(k,x)::zn4 f v r) from rfl]
  by_cases hk:k=f
  ·rw[if_pos hk]
   by_cases h:g=k
   ·have hb:(g==k)=true:=beq_iff_eq.mpr h
    simp only[List.lookup,hb,if_pos (h.trans hk)]
   ·have hb:(g==k)=false:=beq_eq_false_iff_ne.mpr h
    simp only[List.lookup,hb,if_neg (fun e:g=f=>h (e.trans hk.symm))]
  ·rw[if_neg hk]
   by_cases h:g=k
   ·have hb:(g==k)=true:=beq_iff_eq.mpr h
    simp only[List.lookup,hb,if_neg (fun e:g=f=>hk (h.symm.trans e))]
   ·have hb:(g==k)=false:=beq_eq_false_iff_ne.mpr h
    simp only[List.lookup,hb]
    exact ih
theorem zin (f:Str)(v:V):∀ fs:List (Str×V),f∈(zn4 f v fs).map (·.1)/\∀ g,g∈fs.map (·.1)->g∈(zn4 f v fs).map (·.1)
 | []=>⟨by simp [zn4],fun g h=>by simp at h⟩
 | (k,x)::r=>by
  obtain⟨i1,i2⟩:=zin f v r
  rw[show zn4 f v ((k,x)::r)=(if k=f then(k,v)::r else(k,x)::zn4 f v r) from rfl]
  by_cases hk:k=f
  ·rw[if_pos hk]
   subst hk
   exact⟨by simp,fun g h=>by simpa using h⟩
  ·rw[if_neg hk]
   refine⟨?_,fun g h=>?_⟩
   ·rw[List.map_cons]
    exact List.mem_cons_of_mem _ i1
   ·rw[List.map_cons] at h ⊢
    rcases List.mem_cons.mp h with e | e
    ·exact List.mem_cons.mpr (.inl e)
    ·exact List.mem_cons_of_mem _ (i2 g e)
theorem ztr.some_of {v:V}{o:Option Value}(r:ztr (some v) o):∃ u,o=some u/\zbP v u:=by
 cases o with
 | none=>exact(show False from r).elim
 | some u=>exact⟨u,rfl,r⟩
theorem zqj {v:V}{u:Value}(r:zbP v u):W.handedIn u=true:=by
 cases v with
 | non=>cases (show u=Value.none from r);rfl
 | bl b=>cases (show u=Value.bool b from r);rfl
 | int i=>obtain⟨t,e⟩:=(show ∃ t,u=Value.int i t from r);cases e;rfl
 | str x=>obtain⟨t,e⟩:=(show ∃ t,u=Value.str x t from r);cases e;rfl
 | byt b=>obtain⟨t,e⟩:=(show ∃ t,u=Value.bytes b t from r);cases e;rfl
 | flt b=>obtain⟨t,e⟩:=(show ∃ t,u=Value.float b t from r);cases e;rfl
 | ref a=>cases (show u=Value.ref a from r);rfl
 | ty n=>cases (show u=Value.type n from r);rfl
section
variable {P:Program}{w:World}{H H':Hp}{h h':Heap}{a C dx:Addr}{fs fs':List (Str×V)}
theorem zqh (hok:HOk P w H h)(e:H a=some (.ins C dx fs)):∃ mA,zyU h a dx C mA/\(∀ f,ztr (fs.lookup f) (mA f))/\PySem.Within mA (fs.map (·.1))/\fs.length<=1000/\H dx=some (.own a):=by
 obtain⟨d,z,ne,ob,mA,n,r,q⟩:=(show zb6 P w H h a (.ins C dx fs) from hok a _ e)
 exact⟨mA,⟨ob,n,ne⟩,r,q,z,d⟩
end
structure Cls (K:W.Frag) (C:Addr):Prop where
 pg:W.plainGet K C Str.empty=true
 hd:W.hasDictIn K C=true
 po:W.plainOver K C=true
 sa:W.findIn K (.ref C) "__setattr__"=some (some (.builtin "object.__setattr__"))
theorem Cls.get {K:W.Frag}{C:Addr}(c:Cls K C)(f:Str):W.plainGet K C f=true:=c.pg
def zgw (K:W.Frag)(C:Addr)(f:Str):Prop:=W.findIn K (.ref C) f=some none
section
variable {X:Cx}{pins:List (Addr×Obj)}{σ:St}{H:Hp}{s:Shared}{a C dx:Addr}{fs:List (Str×V)}{f:Str}{v:V}{A:Around}{E:Value->Shared->Prop}
theorem zve {prog:Program}{w:World}{env:Env}{e:Expr}{f:Str}{pos:Pos}{s:Shared}{Q:Value->Shared->Prop}(hb:attributeBase e f env (eval e env)=eval e env)
  (h:wpAny (model prog w) A (eval e env) (fun o s₁=>wpAny (model prog w) A (getAttr o f true) Q E s₁) E s):wpAny (model prog w) A (eval (.Attribute e f pos) env) Q E s :=
 Attribute_any_ h (by rw[arm_eval_Attribute,hb])
end
section
variable {X:Cx}{o e value:Expr}{f:Str}{pos pos' tpos:Pos}{ta tv:TE}
end
section
variable {X:Cx}{pins:List (Addr×Obj)}{σ:St}{H:Hp}{s:Shared}{A:Around}{E:Value->Shared->Prop}{Q:Value->Shared->Prop}{c:Value}{b:Bool}
inductive zoN (K:W.Frag) (H:Hp):V->Value->Prop where
 | non:zoN K H .non (.type "NoneType")
 | bl (x:Bool):zoN K H (.bl x) (.type "bool")
 | int (i:Int):zoN K H (.int i) (.type "int")
 | str (x:Str):zoN K H (.str x) (.type "str")
 | flt (x:UInt64):zoN K H (.flt x) (.type "float")
 | lst {a:Addr}{xs:List V}(e:H a=some (.lst xs)):zoN K H (.ref a) (.type "list")
 | frz {a:Addr}{o:Obj}{xs:List V}(e:H a=some (.frz o (.lst xs))):zoN K H (.ref a) (.type "list")
 | tup {a:Addr}{xs:List V}(e:H a=some (.tup xs)):zoN K H (.ref a) (.type "tuple")
 | dK {a:Addr}{kvs:List (Key×V)}(e:H a=some (.dK kvs)):zoN K H (.ref a) (.type "dict")
 | dT {a:Addr}{kvs:List (List Key×V)}(e:H a=some (.dT kvs)):zoN K H (.ref a) (.type "dict")
 | ins {a C dx:Addr}{fs:List (Str×V)}(e:H a=some (.ins C dx fs)) (cl:Cls K C) (ha:W.findIn K (.ref C) "__class__"=some (some (.builtin "object.__class__")))
   (hn:W.specialIn K (.builtin "object.__class__") "__get__"=some (some (.builtin "getset_descriptor.__get__"))) (htk:W.takesIn K (.builtin "object.__class__")=some true)
   (hm:W.mroIn K C (.type "object")=some true):zoN K H (.ref a) (.ref C)
theorem zf3 {x:V}{u t:Value}(I:Inv X pins σ H s)(rx:zbP x u)(ty:zoN X.K H x t)(e:W.kitOne X.K t c=some b)(h:∀ tk,Q (.bool b) { s with toks:=tk }) :
  wpAny (model X.prog X.w) A (call (.builtin "isinstance") [u,c]) Q E s:=by
 cases ty with
 | non=>cases (show u=Value.none from rx);exact W.kia_one W.kitx_none I.kIn True.intro e (fun z=>nomatch z) h
 | bl y=>cases (show u=Value.bool y from rx);exact W.kia_one W.kitx_bool I.kIn True.intro e (fun z=>nomatch z) h
 | int i=>obtain⟨t,q⟩:=(show ∃ t,u=Value.int i t from rx);cases q;exact W.kia_one W.kitx_int I.kIn True.intro e (fun z=>nomatch z) h
 | str y=>obtain⟨t,q⟩:=(show ∃ t,u=Value.str y t from rx);cases q;exact W.kia_one W.kitx_str I.kIn True.intro e (fun z=>nomatch z) h
 | flt y=>obtain⟨t,q⟩:=(show ∃ t,u=Value.float y t from rx);cases q;exact W.kia_one W.kitx_float I.kIn True.intro e (fun z=>nomatch z) h
 | @lst a xs ea =>
  cases (show u=Value.ref a from rx)
  obtain⟨_,_,n,_,h1⟩:=(show zb6 X.prog X.w H s.heap a (.lst xs) from I.hok a _ ea)
  exact W.kia_one W.kitx_list I.kIn ⟨_,h1,rfl⟩ e (fun z=>nomatch z) h
 | @frz a ob xs ea =>
  cases (show u=Value.ref a from rx)
  obtain⟨_,_,_,n,_,h1⟩:=(show zb6 X.prog X.w H s.heap a (.frz ob (.lst xs)) from I.hok a _ ea)
  exact W.kia_one W.kitx_list I.kIn ⟨_,h1,rfl⟩ e (fun z=>nomatch z) h
 | @tup a xs ea =>
  cases (show u=Value.ref a from rx)
  obtain⟨_,_,_,p⟩:=(show zb6 X.prog X.w H s.heap a (.tup xs) from I.hok a _ ea)
  obtain⟨o,h1,h2,_⟩:=p
  exact W.kia_one W.kitx_tuple I.kIn ⟨o,h1,h2⟩ e (fun z=>nomatch z) h
 | @dK a kvs ea =>
  cases (show u=Value.ref a from rx)
  obtain⟨_,_,vs,_,p⟩:=(show zb6 X.prog X.w H s.heap a (.dK kvs) from I.hok a _ ea)
  obtain⟨o,es,ep,h1,h2,_⟩:=p
  exact W.kia_one W.kitx_dict I.kIn ⟨o,h1,h2.1⟩ e (fun z=>nomatch z) h
 | @dT a kvs ea =>
  cases (show u=Value.ref a from rx)
  obtain⟨_,_,xs,_,o,es,ep,h1,h2,_⟩:=(show zb6 X.prog X.w H s.heap a (.dT kvs) from I.hok a _ ea)
  exact W.kia_one W.kitx_dict I.kIn ⟨o,h1,h2.1⟩ e (fun z=>nomatch z) h
 | @ins a C dx fs ea cl ha hn htk hm =>
  cases (show u=Value.ref a from rx)
  obtain⟨mA,O,_⟩:=zqh I.hok ea
  obtain⟨od,J,_⟩:=O.look
  exact W.kia_one (W.kitx_own (cl.get _) cl.hd ha hn htk hm) I.kIn J e (fun z=>nomatch z) h
end
structure zdE (k:Nat) (A:Around):Prop where
 hd:A.handled=none
 dp:A.depth+3*k+5 < recursionLimit
 un:A.units+16*k+200 < cLine
 gd:A.guards=some []
theorem zdE.mono {j k:Nat}{A:Around}(r:zdE k A)(h:j<=k):zdE j A:=⟨r.hd,by have:=r.dp;omega,by have:=r.un;omega,r.gd⟩
theorem zdE.deeper {k:Nat}{A:Around}(r:zdE (k+1) A)(env:Env):zdE k (A.deeper env) :=
 ⟨r.hd,by have:=r.dp;show A.depth+1+3*k+5 < _;omega,by have:=r.un;show A.units+3+16*k+200 < _;omega,r.gd⟩
theorem zof {A:Around}{C:Addr}{us:List Value}{kw:List (Str×Value)}:(A.under (.builtin "type.__call__" ⟨.ref C::us,kw⟩)).depth=A.depth+1:=by
 first | rfl | simp [Around.under,Code.weight,Code.isCreation,Code.isGuard,Code.isCaller,Code.frames,Code.isFrame,guardIds]
theorem zoe {A:Around}{C:Addr}{us:List Value}{kw:List (Str×Value)}:(A.under (.builtin "type.__call__" ⟨.ref C::us,kw⟩)).units=A.units+1:=by
 first | rfl | simp [Around.under,Code.cUnits,Code.frames,Code.isFrame]
theorem zdE.make {k:Nat}{A:Around}(r:zdE (k+1) A)(C:Addr)(us:List Value)(kw:List (Str×Value)):zdE k (A.under (.builtin "type.__call__" ⟨.ref C::us,kw⟩)) :=
 ⟨r.hd,by have:=r.dp;rw[zof];omega,by have:=r.un;rw[zoe];omega,by have:=r.gd;simp [Around.under,Code.guards,Code.isGuard,guardIds,pushGuards,this]⟩
theorem zdE.depth {k:Nat}{A:Around}(r:zdE k A):A.depth < recursionLimit:=by have:=r.dp;omega
theorem zdE.units {k:Nat}{A:Around}(r:zdE k A):A.units+64 < cLine:=by have:=r.un;omega
def zzE:TA:=fun _ H Q=>Q [] H
def zx4 (ta:TE)(tr:TA):TA:=fun σ H Q=>ta σ H fun x H1=>tr σ H1 fun xs H2=>Q (x::xs) H2
section
variable {X:Cx}{e:Expr}{es:List Expr}{te:TE}{t:TA}{pos:Pos}
theorem zfl:PA X [] zzE:=fun _ _ _ _ H Q I h=>Calls.spliced_nil ⟨[],H,I,.nil,h⟩
theorem zcK (ha:PE X e te)(hr:PA X es t)(hs:starEach (e::es) X.env=(false,eval e X.env)::starEach es X.env:=by rfl):PA X (e::es) (zx4 te t):=by
 intro pos pins s σ H Q I h
 rw[hs]
 show wpAny _ _ (spliced ((false,eval e X.env)::backTo pos (starEach es X.env))) _ _ s
 refine Calls.spliced_cons (thn (ha pins s σ H _ I h) fun u s1 ⟨x,H1,I1,r1,q1⟩=>?_)
 exact thn (hr pos pins s1 σ H1 _ I1 q1) fun us s2 ⟨xs,H2,I2,r2,q2⟩=>⟨x::xs,H2,I2,.cons r1 r2,q2⟩
def zzy (t:TA):TE:=fun σ H Q=>t σ H fun xs H1=>xs.length<=sizeLine/\∀ p,H1 p=none->Q (.ref p) (upd H1 p (.tup xs))
def zzF (t:TA):TE:=fun σ H Q=>t σ H fun xs H1=>xs.length<=sizeLine/\∀ p,H1 p=none->Q (.ref p) (upd H1 p (.lst xs))
theorem zwp {x1}(h:PA X es t):PE X (.Tuple es x1 pos) (zzy t):=by
 intro pins s σ H Q I hq
 refine wpAny_Tuple_spliced (thn (h pos pins s σ H _ I hq) fun us s1 ⟨xs,H1,I1,r,z,q⟩=>⟨by rw[← r.length];exact z,?_⟩)
 have hf:H1 s1.heap.objs.size=none:=I1.hok.fresh (Nat.le_refl _)
 refine⟨.ref s1.heap.objs.size,upd H1 s1.heap.objs.size (.tup xs),I1.laid (t':=s1.toks) (fun b u e=>Heap.get?_push_of_some _ e) (Nat.le_refl _) ?_,rfl,q _ hf⟩
 exact⟨z,us,r,⟨_,Heap.get?_push_size _ rfl,rfl,_,rfl⟩⟩
theorem zs8 (h:PA X es t):PE X (.List es pos) (zzF t):=by
 intro pins s σ H Q I hq
 refine wpAny_List_spliced (thn (h pos pins s σ H _ I hq) fun us s1 ⟨xs,H1,I1,r,z,q⟩=>⟨by rw[← r.length];exact z,?_⟩)
 have hf:H1 s1.heap.objs.size=none:=I1.hok.fresh (Nat.le_refl _)
 refine⟨.ref s1.heap.objs.size,upd H1 s1.heap.objs.size (.lst xs),I1.laid (t':=s1.toks) (fun b u e=>Heap.get?_push_of_some _ e) (Nat.le_refl _) ?_,rfl,q _ hf⟩
 exact⟨z,us,0,r,Heap.get?_push_size _ rfl⟩
end
abbrev Sp:=List V->Hp->VK->XK->Prop
abbrev CXT:=List Env->Hp->Shared->XK->Value->Shared->Prop
structure zts (P:Program) (w:World) (K:W.Frag) (mg:Str->Option Value) (base:Heap) (A:Around) (outer:List Env) (s:Shared) (H:Hp):Prop where
 frames:A.frames=some outer
 mod:Mod K mg base
 bs:∀ b o,base.get? b=some o->s.heap.get? b=some o/\H b=none
 bsz:base.objs.size<=s.heap.objs.size
 funs:s.heap.FunFrames base outer
 frf:∀ b∈frs outer,H b=none
 hok:HOk P w H s.heap
 bare:AllBare s.gens
def CE (outer:List Env)(P:Program)(w:World)(H:Hp)(s:Shared)(Q:VK)(u:Value)(s':Shared):Prop :=
 ∃ v H',s'.os=s.os/\AllBare s'.gens/\Un (frs outer) [] H H' s.heap s'.heap/\HOk P w H' s'.heap/\zbP v u/\Q v H'
def CR (CX:CXT)(outer:List Env)(P:Program)(w:World)(H:Hp)(s:Shared)(Q:VK)(E:XK)(r:Result)(s':Shared):Prop :=
 match r with
 | .ok (.ret u)=>CE outer P w H s Q u s'
 | .ok _=>False
 | .error e=>CX outer H s E e s'
structure FnOk (P:Program) (w:World) (K:W.Frag) (mg:Str->Option Value) (base:Heap) (CX:CXT) (k:Nat) (f:Addr) (fd:FuncData) (ps:List Str) (sp:Sp):Prop where
 len:∀ vs H Q E,sp vs H Q E->vs.length=ps.length
 run:∀ (A:Around) (outer:List Env) (s:Shared) (H:Hp) (args:Args) (us:List Value) (vs:List V) (Q:VK) (E:XK),zdE k A->zts P w K mg base A outer s H->BindsTo s fd args (ps.zip us)->zbK vs us->sp vs H Q E ->
  codeAny (model P w) A (.call (.ref f) args) (CR CX outer P w H s Q E) s
theorem FnOk.mono {P:Program}{w:World}{K:W.Frag}{mg:Str->Option Value}{base:Heap}{CX:CXT}{j k:Nat}{f:Addr}{fd:FuncData}{ps:List Str}{sp:Sp}(F:FnOk P w K mg base CX j f fd ps sp)(h:j<=k) :
  FnOk P w K mg base CX k f fd ps sp:=⟨F.len,fun A outer s H args us vs Q E hr=>F.run A outer s H args us vs Q E (hr.mono h)⟩
theorem FnOk.imp {P:Program}{w:World}{K:W.Frag}{mg:Str->Option Value}{base:Heap}{CX:CXT}{k:Nat}{f:Addr}{fd:FuncData}{ps:List Str}{sp sp':Sp}(F:FnOk P w K mg base CX k f fd ps sp)
  (h:∀ vs H Q E,sp' vs H Q E->sp vs H Q E):FnOk P w K mg base CX k f fd ps sp' :=
 ⟨fun vs H Q E q=>F.len vs H Q E (h _ _ _ _ q),fun A outer s H args us vs Q E hr he hb hv hs=>F.run A outer s H args us vs Q E hr he hb hv (h _ _ _ _ hs)⟩
theorem zts.make {P:Program}{w:World}{K:W.Frag}{mg:Str->Option Value}{base:Heap}{A:Around}{outer:List Env}{s:Shared}{H:Hp}(e:zts P w K mg base A outer s H)(C:Addr)(us:List Value)(kw:List (Str×Value)) :
  zts P w K mg base (A.under (.builtin "type.__call__" ⟨.ref C::us,kw⟩)) outer s H:=⟨by first | exact e.frames | (simpa [Around.under,Code.envs,Code.isFrame,pushEnvs] using e.frames),e.mod,e.bs,e.bsz,e.funs,e.frf,e.hok,e.bare⟩
section
variable {X:Cx}{pins:List (Addr×Obj)}{σ:St}{H:Hp}{s s':Shared}
theorem Inv.env0 (I:Inv X pins σ H s):zts X.prog X.w X.K X.mg X.base X.A X.stack s H :=
 ⟨I.ok.frames,I.ok.mod,I.bs,Nat.le_trans I.ok.bsz I.sz,I.stack,I.stkFree,I.hok,I.bare⟩
theorem Inv.after {Q:VK}{u:Value}(I:Inv X pins σ H s)(h:CE X.stack X.prog X.w H s Q u s'):EP X pins σ Q u s':=by
 obtain⟨v,H',os,bare,un,hok,r,q⟩:=h
 obtain⟨hh,g,d,t,os'⟩:=s'
 obtain rfl:os'=s.os:=os
 exact⟨v,H',I.call (h':=hh) (g':=g) (d':=d) (t':=t) (ch:=[]) un hok bare (fun b z=>absurd z (by simp)),r,q⟩
end
def zx5 (sp:Sp)(dvs:List V)(E:XK)(t:TA):TE:=fun σ H Q=>t σ H fun vs H1=>sp (vs++dvs) H1 Q E
def zgx (K:W.Frag)(fd:FuncData)(ps:List Str)(ds:List Value):Prop :=
 ∀ (s:Shared) (us:List Value),K.In s.heap->(us++ds).length=ps.length->BindsTo s fd ⟨us,[]⟩ (ps.zip (us++ds))
theorem zgx.all {K:W.Frag}{fd:FuncData}{ps:List Str}(h:∀ us:List Value,us.length=ps.length->bindArgs fd ⟨us,[]⟩=pure (ps.zip us)):zgx K fd ps []:=fun s us _ hl=>by
 rw[List.append_nil] at hl ⊢
 exact .of_eq (h us hl)
def zdP (CX:CXT)(X:Cx)(E:XK):Prop:=∀ (pins:List (Addr×Obj)) (σ:St) (H:Hp) (s:Shared) (e:Value) (s':Shared),Inv X pins σ H s->CX X.stack H s E e s'->X.xe e s'
section
variable {X:Cx}{CX:CXT}{k:Nat}{f C:Addr}{fd:FuncData}{ps:List Str}{sp:Sp}{dvs:List V}{ds:List Value}{E:XK}{x m:Str}{p pos apos:Pos}{e o:Expr}{es:List Expr}{ta:TE}{t:TA}
theorem zv9 {pins:List (Addr×Obj)}{σ:St}{H:Hp}{s:Shared}{Q:VK}{us:List Value}{vs:List V}(F:FnOk X.prog X.w X.K X.mg X.base CX k f fd ps sp)(hr:zdE k X.A)(hb:zgx X.K fd ps ds)(hd:zbK dvs ds)(hx:zdP CX X E)
  (I:Inv X pins σ H s)(r:zbK vs us)(h:sp (vs++dvs) H Q E):wpAny (model X.prog X.w) X.A (call (.ref f) us) (EP X pins σ Q) X.xe s:=by
 have r2:zbK (vs++dvs) (us++ds):=r.append hd
 have hl:(us++ds).length=ps.length:=by rw[← r2.length];exact F.len _ _ _ _ h
 refine wpAny_call (codeAny_mono (F.run X.A X.stack s H ⟨us,[]⟩ (us++ds) (vs++dvs) Q E hr I.env0 (hb s us I.kIn hl) r2 h) fun r s' hq=>?_)
 cases r with
 | error e=>exact hx pins σ H s e s' I hq
 | ok fl =>
  cases fl with
  | ret u=>exact I.after hq
  | next=>exact False.elim hq
  | brk=>exact False.elim hq
  | cont=>exact False.elim hq
theorem zj3 (F:FnOk X.prog X.w X.K X.mg X.base CX k f fd ps sp)(hr:zdE k X.A)(hg:Gl X x)(hm:X.mg x=some (.ref f))(hk:W.keepIn X.K (.ref f)=true)(hb:zgx X.K fd ps ds)(hd:zbK dvs ds)(hx:zdP CX X E)
  (ha:PA X (e::es) t)(hdb:(x==("__debug__" : Str))=false:=by decide)(he:starEach (e::es) X.env=(false,eval e X.env)::starEach es X.env:=by rfl)(hpl:(backTo pos (starEach es X.env)).any (·.1)=false:=by rfl) :
  PE X (.Call (.Name x p) (e::es) [] pos) (zx5 sp dvs E t):=by
 intro pins s σ H Q I h
 refine wpAny_Call_Name_kw (zgP I hg hm ?_ hdb)
 refine W.callWith_K (h₀:=X.base) I.ok.mod.kin hk (thn (ha pos pins s σ H _ I h) fun us s1 ⟨vs,H1,I1,r,q⟩=>⟨I1.kIn,?_⟩) he hpl
 exact zv9 F hr hb hd hx I1 r q
end
section
variable {X:Cx}{CX:CXT}{k:Nat}{f C:Addr}{fd:FuncData}{ps ks:List Str}{sp:Sp}{E:XK}{x m:Str}{p pos apos kpos:Pos}{e o:Expr}{es:List Expr}{kws:List Keyword}{te ta:TE}{t tk:TA}{nm:Option Str}
variable {g:List Value->List Value->List Value}{gV:List V->List V->List V}
end
structure zaw (N P:List Str) (sc:Scope):Prop where
 kind:sc.kind=.function
 co:sc.isCoroutine=false
 gen:sc.isGenerator=false
 nd:N.Nodup
 pre:N.take P.length=P
 par:∀ x∈P,sc.names.lookup x=some .local ∨ sc.names.lookup x=some .cell
 nofree:∀ y∈sc.names,y.2≠.free
theorem zlB {kindOf:Str->Option NameKind}{x:Str}:∀ {binds:List (Str×Value)}{m:Str->Option Value},(∀ v,(x,v)∉binds)->bindL kindOf binds m x=m x
 | [],_,_=>rfl
 | (n,v)::r,m,h=>by
  unfold bindL
  rw[zlB fun w hw=>h w (List.mem_cons_of_mem _ hw)]
  split
  ·have:x≠n:=by rintro rfl;exact h v List.mem_cons_self
   simp [this]
  ·rfl
theorem zlD {kindOf:Str->Option NameKind}{x:Str}:∀ {binds:List (Str×Value)}{m:Str->Option Value},(∀ v,(x,v)∉binds)->bindC kindOf binds m x=m x
 | [],_,_=>rfl
 | (n,v)::r,m,h=>by
  unfold bindC
  rw[zlD fun w hw=>h w (List.mem_cons_of_mem _ hw)]
  split
  ·rfl
  ·have:x≠n:=by rintro rfl;exact h v List.mem_cons_self
   simp [this]
theorem zlC {kindOf:Str->Option NameKind}{x:Str}{v:Value}:∀ {P:List Str}{vs:List Value}{i:Nat}{m:Str->Option Value},P.Nodup->P[i]?=some x->vs[i]?=some v->kindOf x=some .local ->
  bindL kindOf (P.zip vs) m x=some v
 | [],_,_,_,_,h,_,_=>by simp at h
 | _::_,[],_,_,_,_,h,_=>by simp at h
 | p::P,w::vs,0,m,nd,h1,h2,hk=>by
  simp at h1 h2;subst h1;subst h2
  show bindL kindOf ((p,w)::P.zip vs) m p=_
  unfold bindL
  rw[zlB fun v hv=>(List.nodup_cons.mp nd).1 (List.of_mem_zip hv).1,if_pos hk]
  simp
 | p::P,w::vs,i+1,m,nd,h1,h2,hk=>by
  show bindL kindOf ((p,w)::P.zip vs) m x=_
  unfold bindL
  exact zlC (i:=i) (List.nodup_cons.mp nd).2 (by simpa using h1) (by simpa using h2) hk
theorem zlE {kindOf:Str->Option NameKind}{x:Str}{v:Value}:∀ {P:List Str}{vs:List Value}{i:Nat}{m:Str->Option Value},P.Nodup->P[i]?=some x->vs[i]?=some v->kindOf x≠some .local ->
  bindC kindOf (P.zip vs) m x=some v
 | [],_,_,_,_,h,_,_=>by simp at h
 | _::_,[],_,_,_,_,h,_=>by simp at h
 | p::P,w::vs,0,m,nd,h1,h2,hk=>by
  simp at h1 h2;subst h1;subst h2
  show bindC kindOf ((p,w)::P.zip vs) m p=_
  unfold bindC
  rw[zlD fun v hv=>(List.nodup_cons.mp nd).1 (List.of_mem_zip hv).1,if_neg hk]
  simp
 | p::P,w::vs,i+1,m,nd,h1,h2,hk=>by
  show bindC kindOf ((p,w)::P.zip vs) m x=_
  unfold bindC
  exact zlE (i:=i) (List.nodup_cons.mp nd).2 (by simpa using h1) (by simpa using h2) hk
def start (N:List Str)(vs:List V):St:=vs.map some++List.replicate (N.length-vs.length) none
def zhB (CX:CXT)(P:Program)(w:World)(K:W.Frag)(mg:Str->Option Value)(base:Heap)(N:List Str)(qual:Str)(scope:Scope)(f:Addr)(cd:Value)(A:Around)(outer:List Env)(s:Shared)(H:Hp)(E:XK):Cx where
 prog:=P
 w:=w
 K:=K
 mg:=mg
 base:=base
 A:=A.deeper (envOfC qual scope s.heap.objs.size f cd)
 N:=N
 s₀:=s
 H₀:=H
 env:=envOfC qual scope s.heap.objs.size f cd
 outer:=outer
 stack:=envOfC qual scope s.heap.objs.size f cd::outer
 ex:=[]
 calm:=true
 fn:=fun _=>true
 pn:=[]
 xe:=fun e s'=>wpAny (model P w) (A.deeper (envOfC qual scope s.heap.objs.size f cd)) (leaving (envOfC qual scope s.heap.objs.size f cd) e) (fun _ s''=>CX outer H s E e s'') (fun e' s''=>CX outer H s E e' s'') s'
theorem znL {sc:Scope}{n:Nat}{x:Str}(h:sc.names.lookup x=some .cell):∃ c,(cellsFrom n sc.names []).lookup x=some c:=by
 have q:=W.cellsFrom_some sc.names n [] (.inl h)
 exact Option.isSome_iff_exists.mp q
theorem zqf {CX:CXT}{P:Program}{w:World}{K:W.Frag}{mg:Str->Option Value}{base:Heap}{N ps:List Str}{qual:Str}{scope:Scope}{f:Addr}{cd:Value}{A:Around}{outer:List Env}{s s1:Shared}{H:Hp}{E:XK}{us:List Value}{vs:List V}
  (S:zaw N ps scope)(hd:A.handled=none)(e0:zts P w K mg base A outer s H)(hl:vs.length=ps.length)(r:zbK vs us)
  (x:InCallC s s.heap.objs.size (bindL (envOfC qual scope s.heap.objs.size f cd).kindOf (ps.zip us) fun _=>none) (cellsFrom (s.heap.objs.size+1) scope.names []) (bindC (envOfC qual scope s.heap.objs.size f cd).kindOf (ps.zip us) fun _=>none) s1) :
  Inv (zhB CX P w K mg base N qual scope f cd A outer s H E) [] (start N vs) H s1:=by
 have hpl:ps.length<=N.length:=by have:=congrArg List.length S.pre;rw[List.length_take] at this;omega
 obtain⟨h1,tk,rfl,hk⟩:=x.done
 have noA:∀ b:Addr,b∉(zhB CX P w K mg base N qual scope f cd A outer s H E).ex:=fun b z=>absurd (show b∈([]:List Addr) from z) (by simp)
 refine⟨⟨e0.mod,S.kind,rfl,rfl,Nat.le_refl _,fun y z c h1 h2=>?_,fun y hy=>?_,fun y c _ h=>?_,fun _=>hd,Around.frames_deeper e0.frames,.inr ⟨rfl,rfl⟩,fun b z=>absurd z (noA b),e0.bs,e0.bsz,fun b _ _=>noA b,fun b z=>absurd z (noA b),e0.funs,e0.frf⟩,
  rfl,e0.bare,Un.kept hk,⟨_,x.toInCall.ns,fun i y v h1 h2 h3=>?_⟩,fun y c h=>⟨_,x.cell y c h⟩,e0.hok.fresh (Nat.le_refl _),fun y c h=>?_,fun p hp=>absurd (show p∈([]:List (Addr×Obj)) from hp) (by simp),e0.hok.kept hk,?_⟩
 ·exact name_of_addr x.apart (PySem.mem_of_lookup h1) (PySem.mem_of_lookup h2)
 ·have hy:scope.names.lookup y=some .cell∨scope.names.lookup y=some .free:=hy
  rcases hy with hy | hy
  ·exact znL hy
  ·exact absurd rfl (S.nofree _ (PySem.mem_of_lookup hy))
 ·exact Nat.le_of_lt (x.above y c (PySem.mem_of_lookup h))
 ·have hi:i < vs.length:=by
   unfold start at h2
   by_cases hi:i < vs.length
   ·exact hi
   ·rw[List.getElem?_append_right (by simpa using hi)] at h2
    rw[List.getElem?_replicate] at h2
    split at h2<;>cases h2
  have ha:vs[i]?=some v:=by
   unfold start at h2
   rw[List.getElem?_append_left (by simpa using hi),List.getElem?_map] at h2
   cases e:vs[i]? with
   | none=>rw[e] at h2;cases h2
   | some a=>rw[e] at h2;cases h2;rfl
  obtain⟨u,hu,rv⟩:=r.get ha
  have hp:ps[i]?=some y:=by
   rw[← S.pre,List.getElem?_take_of_lt (by omega)];exact h1
  have ndP:ps.Nodup:=by rw[← S.pre];exact S.nd.sublist (List.take_sublist _ _)
  refine⟨u,rv,?_⟩
  rcases S.par y (List.mem_of_getElem? hp) with k | k
  ·exact .inl ⟨k,zlC ndP hp hu k⟩
  ·obtain⟨c,e⟩:=znL (n:=s.heap.objs.size+1) k
   refine .inr ⟨.inl k,c,e,?_⟩
   have q:=x.cell y c e
   rw[zlE ndP hp hu (by show scope.names.lookup y≠_;rw[k];decide)] at q
   exact q
 ·exact e0.hok.fresh (Nat.le_of_lt (x.above y c (PySem.mem_of_lookup h)))
 ·unfold start
  show _=N.length
  rw[List.length_append,List.length_map,List.length_replicate]
  omega
theorem zuM {CX:CXT}{P:Program}{w:World}{K:W.Frag}{mg:Str->Option Value}{base:Heap}{k:Nat}{f:Addr}{name qual:Str}{params:Arguments}{body:List Stmt}{scope:Scope}{dV kV doc pm cdv ct oc:Value}{an od:Option Addr}
  {osl:Array (Option Value)}{N ps:List Str}{sp:Sp}(lk:K.lookup f=some ⟨oc,od,.func (W.fnOf name qual params body scope dV kV doc pm an cdv ct),osl⟩) (hcd:W.codeIn K cdv qual=true) (S:zaw N ps scope)
  (len:∀ vs H Q E,sp vs H Q E->vs.length=ps.length)
  (hbody:∀ (A:Around) (outer:List Env) (s:Shared) (H:Hp) (vs:List V) (Q:VK) (E:XK),zdE k (A.deeper (envOfC qual scope s.heap.objs.size f cdv))->sp vs H Q E ->
   ∃ t,PSs (zhB CX P w K mg base N qual scope f cdv A outer s H E) body t/\t { nx:=fun _ H'=>Q .non H',rt:=Q } (start N vs) H) :
  FnOk P w K mg base CX (k+1) f (W.fnOf name qual params body scope dV kV doc pm an cdv ct) ps sp:=by
 refine⟨len,fun A outer s H args us vs Q E hr e0 hb r hsp=>?_⟩
 have hl:=len _ _ _ _ hsp
 have KX:K.In s.heap:=e0.mod.kin.keeps fun b o e=>(e0.bs b o e).1
 have lim:s.heap.NoLimit:=e0.mod.nolimit.keeps fun b o e=>(e0.bs b o e).1
 have hkind:∀ y∈ps.zip us,scope.names.lookup y.1=some .local ∨ (scope.names.lookup y.1=some .cell/\((cellsFrom (s.heap.objs.size+1) scope.names []).lookup y.1).isSome=true):=fun⟨n,v⟩ hy=>by
  rcases S.par n (List.of_mem_zip hy).1 with q | q
  ·exact .inl q
  ·exact .inr ⟨q,W.cellsFrom_some _ _ _ (.inl q)⟩
 refine codeAny_call_function hr.depth (KX _ _ lk) rfl S.co S.gen rfl (W.codeRec_of KX hcd) (hb _ _ _ _ ?_)
 refine wpAny_newFunctionEnv_cells S.kind hkind fun env he s1 x=>?_
 subst he
 refine⟨lim.keeps x.toInCall.keep,codeAny_func ?_⟩
 obtain⟨t,ht,hq⟩:=hbody A outer s H vs Q E (hr.deeper _) hsp
 have I:Inv (zhB CX P w K mg base N qual scope f cdv A outer s H E) [] (start N vs) H s1:=zqf S hr.hd e0 hl r x
 refine wpAny_mono (ht [] s1 (start N vs) H _ I hq) (fun fl s' hs=>?_) fun e s' hs=>hs
 have fin:∀ {σ':St}{H':Hp}{v:V}{u:Value},Inv (zhB CX P w K mg base N qual scope f cdv A outer s H E) [] σ' H' s'->zbP v u->Q v H'->CE outer P w H s Q u s' :=
  fun {σ' H' v u} J rv q=>⟨v,H',J.os,J.bare,J.base,J.hok,rv,q⟩
 cases fl with
 | ret u =>
  obtain⟨v,σ',H',J,rv,q⟩:=hs
  exact fin J rv q
 | next =>
  obtain⟨σ',H',J,q⟩:=hs
  exact fin (v:=V.non) (u:=Value.none) J rfl q
 | brk =>
  obtain⟨_,_,_,q⟩:=hs
  exact False.elim q
 | cont =>
  obtain⟨_,_,_,q⟩:=hs
  exact False.elim q
section
variable {X:Cx}{x:Str}{p pos:Pos}{e:Expr}{es:List Expr}{t:TA}{id T:String}{r:List V->Hp->VK->Prop}
def tCB (r:List V->Hp->VK->Prop)(t:TA):TE:=fun σ H Q=>t σ H fun vs H1=>r vs H1 Q
theorem zm8 (hc:zhF X (.builtin id) r)(hg:Gl X x)(hm:X.mg x=none)(hv:bootBuiltins x=some (.builtin id))(ha:PA X (e::es) t)(hn:x≠"__name__":=by decide)(hdb:(x==("__debug__" : Str))=false:=by decide)
  (he:starEach (e::es) X.env=(false,eval e X.env)::starEach es X.env:=by rfl)(hpl:(backTo pos (starEach es X.env)).any (·.1)=false:=by rfl):PE X (.Call (.Name x p) (e::es) [] pos) (tCB r t):=by
 intro pins s σ H Q I h
 refine wpAny_Call_Name_kw (zk7 I hg hm hv ?_ hn hdb)
 exact PyProof.Rows.callWith_builtin1 (thn (ha pos pins s σ H _ I h) fun us s1 ⟨vs,H1,I1,r1,q1⟩=>hc pins s1 σ H1 vs us Q I1 r1 q1) he hpl
theorem zpI (hc:zhF X (.type T) r)(hg:Gl X x)(hm:X.mg x=none)(hv:bootBuiltins x=some (.type T))(ha:PA X (e::es) t)(hn:x≠"__name__":=by decide)(hdb:(x==("__debug__" : Str))=false:=by decide)
  (he:starEach (e::es) X.env=(false,eval e X.env)::starEach es X.env:=by rfl)(hpl:(backTo pos (starEach es X.env)).any (·.1)=false:=by rfl):PE X (.Call (.Name x p) (e::es) [] pos) (tCB r t):=by
 intro pins s σ H Q I h
 refine wpAny_Call_Name_kw (zk7 I hg hm hv ?_ hn hdb)
 exact PyProof.Rows.callWith_type1 (thn (ha pos pins s σ H _ I h) fun us s1 ⟨vs,H1,I1,r1,q1⟩=>hc pins s1 σ H1 vs us Q I1 r1 q1) he hpl
end
end L2
namespace HT
open PySem PyProof.Rows
section
open PySem.SeqAt
open PySem.AutoSeq1 (wpAny_loadPart')
open PySem.MeetsSeq PySem.MeetsSeq2 PySem.MeetsSeq3
end
section
variable {prog:Program}{w:World}{A:Around}{E:Value->Shared->Prop}{s:Shared}
theorem cat_tup {t b:Addr}{vs ws:List Value}{Q:Value->Shared->Prop}(ht:IsTup s.heap t vs.toArray)(hb:IsTup s.heap b ws.toArray)(hv:vs≠[])
  (h1:ws=[]->Q (.ref t) s)(h2:ws≠[]->Q (.ref s.heap.objs.size) { s with heap:=s.heap.push { cls:=.type "tuple",data:=.seq (vs++ws).toArray } })
  (hsz:vs.length+ws.length<=sizeLine):wpAny (model prog w) A (binaryOp .Add (.ref t) (.ref b)) Q E s:=by
 obtain⟨⟨cls,dd,data,sl⟩,ho,hc,n,hd⟩:=id ht
 obtain⟨⟨cls2,dd2,data2,sl2⟩,ho2,hc2,n2,hd2⟩:=id hb
 simp only at hc hd hc2 hd2
 subst hc hd hc2 hd2
 have e:vs.toArray++ws.toArray=(vs++ws).toArray:=by simp
 by_cases hw:ws=[]
 ·exact concat_meets ⟨_,ho,rfl⟩ ⟨_,ho2,rfl⟩ noFill_tuple_add seq_tuple_add PySem.F.slot_tuple_add PySem.F.entry_tuple_add (PySem.F.args_tuple_add_2 _ _)
   (tuple_addW1 t b vs.toArray ws.toArray n n2 dd dd2 sl sl2 (by simpa using hv) (by simp [hw])) ⟨ho,ho2,h1 hw⟩
 ·refine concat_meets ⟨_,ho,rfl⟩ ⟨_,ho2,rfl⟩ noFill_tuple_add seq_tuple_add PySem.F.slot_tuple_add PySem.F.entry_tuple_add (PySem.F.args_tuple_add_2 _ _)
   (tuple_addW2 t b vs.toArray ws.toArray n n2 dd dd2 sl sl2 (by simpa using hv) (by simpa using hw) (by rw[List.size_toArray,List.size_toArray];exact hsz)) ⟨ho,ho2,?_⟩
  rw[e]
  exact h2 hw
def sIx (n d:Nat):Option Int->Nat
 | none=>d
 | some v=>if v < 0 then(v+(n:Int)).toNat else min v.toNat n
theorem sIx_none (n d:Nat):sIx n d none=d:=rfl
theorem sIx_nat (n d k:Nat):sIx n d (some (k:Int))=min k n:=by
 show(if(k:Int) < 0 then((k:Int)+(n:Int)).toNat else min (k:Int).toNat n)=min k n
 rw[if_neg (by omega),Int.toNat_natCast]
theorem zv6 (n d:Nat)(hd:d<=n)(o:Option Int):sIx n d o<=n:=by
 cases o with
 | none=>exact hd
 | some v =>
  show(if v < 0 then(v+(n:Int)).toNat else min v.toNat n)<=n
  by_cases hv:v < 0
  ·rw[if_pos hv];omega
  ·rw[if_neg hv];exact Nat.min_le_right _ _
theorem zqN (v:Int)(n d:Nat):(if v < 0 then max (v+(n:Int)) 0 else min v (n:Int))=((sIx n d (some v):Nat):Int):=by
 show(if v < 0 then max (v+(n:Int)) 0 else min v (n:Int))=(((if v < 0 then(v+(n:Int)).toNat else min v.toNat n):Nat):Int)
 by_cases hv:v < 0
 ·simp only[if_pos hv];omega
 ·simp only[if_neg hv];omega
theorem zoE (lo hi:Option Int)(n:Nat):Builtin.Slice.sliceAdjust lo hi 1 (n:Int)=(((sIx n 0 lo:Nat):Int),((sIx n n hi:Nat):Int)):=by
 have h1:¬ ((1:Int) < 0):=by omega
 unfold Builtin.Slice.sliceAdjust
 simp only[h1,if_false]
 refine Prod.ext ?_ ?_
 ·cases lo with
  | none=>rfl
  | some v=>exact zqN v n 0
 ·cases hi with
  | none=>rfl
  | some v=>exact zqN v n n
theorem zn7 (i j:Nat):Builtin.Slice.slicePlaces (i:Int) (j:Int) 1=j-i:=by
 unfold Builtin.Slice.slicePlaces
 have h1:(1:Int) > 0:=by omega
 simp only[h1,if_true,Int.ediv_one]
 split<;>omega
theorem zjb {v:Value}{o:Option Int}{Q:Option Int->Shared->Prop}(p:IsPart v o)(h:Q o s):wpAny (model prog w) A (Builtin.Slice.slicePartIndex v) Q E s:=by
 cases p with
 | none=>exact slicePart_none h
 | int i t=>exact slicePart_int h
theorem zhz {sl:Addr}{vl vu:Value}{lo hi:Option Int}{n:Nat}{Q:Int×Int×Nat->Shared->Prop}(hs:s.heap.IsSliceOf sl vl vu .none)(pl:IsPart vl lo)(pu:IsPart vu hi)
  (h:Q (((sIx n 0 lo:Nat):Int),1,sIx n n hi-sIx n 0 lo) s):wpAny (model prog w) A (Builtin.Slice.sliceApplied (.ref sl) (pure (n:Int))) Q E s:=by
 obtain⟨os,hos,hcs,hds⟩:=id hs
 unfold Builtin.Slice.sliceApplied Builtin.Slice.sliceFields
 refine wpAny_bind (wpAny_bind (wpAny_field hos hds (x:=vl) rfl (wpAny_bind (wpAny_field hos hds (x:=vu) rfl (wpAny_bind (wpAny_field hos hds (x:=.none) rfl (wpAny_pure ?_)))))))
 refine wpAny_bind (slicePart_none ?_)
 show wpAny _ _ (if((1:Int)==0)=true then _ else _) _ _ s
 rw[if_neg (by decide)]
 refine wpAny_bind (zjb pl (wpAny_bind (zjb pu (wpAny_bind (wpAny_pure ?_)))))
 show wpAny _ _ (match Builtin.Slice.sliceAdjust lo hi 1 (n:Int) with | (lo,hi)=>pure (lo,(1:Int),Builtin.Slice.slicePlaces lo hi 1)) _ _ s
 rw[zoE lo hi n]
 show wpAny _ _ (pure (((sIx n 0 lo:Nat):Int),(1:Int),Builtin.Slice.slicePlaces ((sIx n 0 lo:Nat):Int) ((sIx n n hi:Nat):Int) 1)) _ _ s
 rw[zn7]
 exact wpAny_pure h
theorem zrG (xs:Array Value)(i k:Nat):((List.range k).filterMap fun(m:Nat)=>xs[((i:Int)+(m:Int)*1).toNat]?).toArray=((xs.toList.drop i).take k).toArray:=by
 have e:(fun(m:Nat)=>xs[((i:Int)+(m:Int)*1).toNat]?)=fun m=>xs[i+m]?:=by
  funext m
  have:((i:Int)+(m:Int)*1).toNat=i+m:=by omega
  rw[this]
 rw[e]
 have:=pick_run xs i k
 rw[List.filterMap_map] at this
 have e2:((fun x=>xs[x]?)∘fun x=>i+x)=fun m=>xs[i+m]?:=rfl
 rw[e2] at this
 rw[this]
theorem getItem_tuple_cut {t sl:Addr}{items:Array Value}{vl vu:Value}{lo hi:Option Int}{Q:Value->Shared->Prop}(ht:IsTup s.heap t items)(hs:s.heap.IsSliceOf sl vl vu .none)(pl:IsPart vl lo)(pu:IsPart vu hi)
  (hw:¬ (sIx items.size 0 lo=0/\sIx items.size items.size hi=items.size))
  (h:Q (.ref s.heap.objs.size) { s with heap:=s.heap.push { cls:=.type "tuple",data:=.seq ((items.toList.drop (sIx items.size 0 lo)).take (sIx items.size items.size hi-sIx items.size 0 lo)).toArray } })
  (hsz:items.size<=sizeLine):wpAny (model prog w) A (getItem (.ref t) (.ref sl)) Q E s:=by
 have htake:sizeOk (.seq ((items.toList.drop (sIx items.size 0 lo)).take (sIx items.size items.size hi-sIx items.size 0 lo)).toArray):=by
  show((items.toList.drop (sIx items.size 0 lo)).take (sIx items.size items.size hi-sIx items.size 0 lo)).toArray.size<=sizeLine
  rw[List.size_toArray,List.length_take,List.length_drop,Array.length_toList]
  omega
 have hj:sIx items.size items.size hi<=items.size:=zv6 _ _ (Nat.le_refl _) hi
 obtain⟨os,hos,hcs,hds⟩:=id hs
 have hTs:s.TypeIs (.ref sl) "slice":=⟨os,hos,hcs⟩
 unfold getItem
 try with_reducible refine wpAny_holding ?_
 first | refine wpAny_bind (wpAny_pure ?_) | skip
 refine wpAny_bind (wpAny_sequenceKey ht.typeIs (by decide) ?_)
 refine wpAny_bind (wpAny_callSpecial?_slot (name:=Str.ofString "__getitem__") ht.typeIs PyProof.Rows.slot_tuple_getitem
  (wpAny_call_entry PyProof.Rows.slot_tuple_getitem ht.typeIs entry_tuple_getitem ?_ (args_tuple_getitem _ _)))
 show wpAny _ _ (Builtin.Tuple.tupleItemsOf (.ref t) >>= _) _ _ s
 refine wpAny_bind (tupleItemsOf_ ht ?_)
 refine wpAny_bind (wpAny_typeOf hTs ?_)
 rw[if_pos (by decide)]
 refine wpAny_bind (zhz hs pl pu ?_)
 have hno:¬ ((((sIx items.size 0 lo:Nat):Int)==0&&(1:Int)==1&&(sIx items.size items.size hi-sIx items.size 0 lo)==items.size)=true):=by
  intro q
  rw[Bool.and_eq_true,Bool.and_eq_true] at q
  have q1:((sIx items.size 0 lo:Nat):Int)=0:=eq_of_beq q.1.1
  have q2:sIx items.size items.size hi-sIx items.size 0 lo=items.size:=eq_of_beq q.2
  exact hw ⟨by omega,by omega⟩
 show wpAny _ _ (if(((sIx items.size 0 lo:Nat):Int)==0&&(1:Int)==1&&(sIx items.size items.size hi-sIx items.size 0 lo)==items.size)=true then _ else _) _ _ s
 rw[if_neg hno,zrG]
 first
  | exact wpAny_bind (m:=Builtin.Tuple.tupleExact _) (wpAny_newObj_type (wpAny_pure ⟨_,rfl,wpAny_pure h⟩) htake)
  | exact wpAny_bind (m:=Builtin.Tuple.tupleExact _) (wpAny_newObj_type (wpAny_bind (wpAny_pure (wpAny_pure ⟨_,rfl,wpAny_pure h⟩))) htake)
  | exact wpAny_bind (wpAny_bind (m:=Builtin.Tuple.tupleExact _) (wpAny_newObj_type (wpAny_pure (wpAny_pure ⟨_,rfl,wpAny_pure h⟩)) htake))
  | exact wpAny_bind (wpAny_bind (m:=Builtin.Tuple.tupleExact _) (wpAny_newObj_type (wpAny_pure ⟨_,rfl,wpAny_pure h⟩) htake))
end
end HT
namespace L2
open PySem PySem.Spec PyProof.Rows
abbrev TO:=St->Hp->(Option Int->Hp->Prop)->Prop
def PO (X:Cx)(e:Option Expr)(t:TO):Prop :=
 ∀ (pins:List (Addr×Obj)) (s:Shared) (σ:St) (H:Hp) (Q:Option Int->Hp->Prop),Inv X pins σ H s->t σ H Q ->
  wpAny (model X.prog X.w) X.A (evalPart e X.env) (fun u s'=>∃ o H',Inv X pins σ H' s'/\IsPart u o/\Q o H') X.xe s
def ztU:TO:=fun _ H Q=>Q none H
def zxZ (t:TE):TO:=fun σ H Q=>t σ H fun x H1=>∃ i,x=.int i/\Q (some i) H1
section
variable {X:Cx}{e:Expr}{te:TE}{lo hi:Option Expr}{tl th:TO}{pos p2:Pos}
theorem zt5:PO X none ztU:=by
 intro pins s σ H Q I h
 rw[evalPart_none]
 exact wpAny_pure ⟨none,H,I,.none,h⟩
theorem zt4 (h:PE X e te):PO X (some e) (zxZ te):=by
 intro pins s σ H Q I hw
 rw[evalPart_some]
 refine thn (h pins s σ H _ I hw) fun u s1 ⟨x,H1,I1,r1,q1⟩=>?_
 obtain⟨i,rfl,q⟩:=q1
 obtain⟨t,rfl⟩:=r1
 exact⟨some i,H1,I1,.int i t,q⟩
def SlR (X:Cx)(r:V->Option Int->Option Int->Hp->VK->Prop):Prop :=
 ∀ (pins:List (Addr×Obj)) (s:Shared) (σ:St) (H:Hp) (x:V) (v vl vu:Value) (lo hi:Option Int) (sl:Addr) (Q:VK),Inv X pins σ H s->zbP x v->s.heap.IsSliceOf sl vl vu .none->IsPart vl lo->IsPart vu hi->r x lo hi H Q ->
  ∃ T id,typeLookup (.type T) "__getitem__"=pure (some (.builtin id))/\s.TypeIs v T/\wpAny (model X.prog X.w) X.A (getItem v (.ref sl)) (EP X pins σ Q) X.xe s
theorem SlR.or {r r':V->Option Int->Option Int->Hp->VK->Prop}(h:SlR X r)(h':SlR X r'):SlR X (fun x lo hi H Q=>r x lo hi H Q∨r' x lo hi H Q):=by
 intro pins s σ H x v vl vu lo hi sl Q I rx hs pl pu q
 rcases q with q | q
 ·exact h pins s σ H x v vl vu lo hi sl Q I rx hs pl pu q
 ·exact h' pins s σ H x v vl vu lo hi sl Q I rx hs pl pu q
def tSl (r:V->Option Int->Option Int->Hp->VK->Prop)(te:TE)(tl th:TO):TE:=fun σ H Q=>te σ H fun x H1=>tl σ H1 fun l H2=>th σ H2 fun u H3=>r x l u H3 Q
theorem zm7 {r:V->Option Int->Option Int->Hp->VK->Prop}(hr:SlR X r)(he:PE X e te)(hl:PO X lo tl)(hu:PO X hi th):PE X (.Subscript e (.Slice lo hi none p2) pos) (tSl r te tl th):=by
 intro pins s σ H Q I h
 refine Subscript_ (thn (he pins s σ H _ I h) fun v s1 ⟨x,H1,I1,r1,q1⟩=>?_)
 refine wpAny_Slice (thn (hl pins s1 σ H1 _ I1 q1) fun vl s2 ⟨l,H2,I2,pl,q2⟩=>thn (hu pins s2 σ H2 _ I2 q2) fun vu s3 ⟨u,H3,I3,pu,q3⟩=>?_)
 rw[evalPart_none]
 refine wpAny_pure ?_
 have I4:Inv X pins σ H3 { s3 with heap:=s3.heap.push { cls:=.type "slice",data:=.fields #[vl,vu,.none] } }:=I3.kept (t':=s3.toks) fun b ob q=>Heap.get?_push_of_some _ q
 obtain⟨T,id,hT,ht,hg⟩:=hr pins { s3 with heap:=s3.heap.push { cls:=.type "slice",data:=.fields #[vl,vu,.none] } } σ H3 x v vl vu l u s3.heap.objs.size Q I4 r1 (Heap.IsSliceOf.new ..) pl pu q3
 show wpAny (model X.prog X.w) X.A (subscriptTail e (.Slice lo hi none p2) v (.ref s3.heap.objs.size)) (EP X pins σ Q) X.xe { s3 with heap:=s3.heap.push { cls:=.type "slice",data:=.fields #[vl,vu,.none] } }
 exact tail_any (ops:=[.ref s3.heap.objs.size,v]) ht hT hg (by with_unfolding_all rfl)
def ztn (xs:List V)(lo hi:Option Int):List V:=(xs.drop (HT.sIx xs.length 0 lo)).take (HT.sIx xs.length xs.length hi-HT.sIx xs.length 0 lo)
theorem ziE (xs:List V)(lo hi:Option Int):(ztn xs lo hi).length<=xs.length:=by
 unfold ztn
 rw[List.length_take,List.length_drop]
 omega
def zzM (K:W.Frag):V->Option Int->Option Int->Hp->VK->Prop:=fun x lo hi H Q=>∃ a xs,x=.ref a/\SqT K H a xs /\
 ¬ (HT.sIx xs.length 0 lo=0/\HT.sIx xs.length xs.length hi=xs.length)/\∀ p,H p=none->Q (.ref p) (upd H p (.tup (ztn xs lo hi)))
theorem zvX:SlR X (zzM X.K):=by
 intro pins s σ H x v vl vu lo hi sl Q I rx hs pl pu h
 obtain⟨a,xs,rfl,hx,hw,q⟩:=h
 cases rx
 obtain⟨its,r,ht,hz⟩:=I.tuple hx
 have hlen:its.toArray.size=xs.length:=by rw[List.size_toArray];exact r.length.symm
 refine⟨"tuple",_,PyProof.Rows.slot_tuple_getitem.lookup,ht.typeIs,?_⟩
 refine HT.getItem_tuple_cut ht hs pl pu (by rw[hlen];exact hw) ?_ (by rw[hlen];exact hz)
 rw[hlen]
 refine⟨.ref s.heap.objs.size,_,I.laid (t':=s.toks) (o:=.tup (ztn xs lo hi)) (fun b ob q=>Heap.get?_push_of_some _ q) (Nat.le_refl _) ?_,rfl,q _ (I.hok.fresh (Nat.le_refl _))⟩
 exact⟨Nat.le_trans (ziE xs lo hi) hz,_,(r.drop (HT.sIx xs.length 0 lo)).take (HT.sIx xs.length xs.length hi-HT.sIx xs.length 0 lo),IsTup.new _ _⟩
def zyf (K:W.Frag):R2:=fun x y H Q=>∃ a b xs ys,x=.ref a/\y=.ref b/\SqT K H a xs/\SqT K H b ys/\xs≠[]/\xs.length+ys.length<=sizeLine /\
 (ys=[]->Q (.ref a) H)/\(ys≠[]->∀ p,H p=none->Q (.ref p) (upd H p (.tup (xs++ys))))
theorem zbK.nil_iff {xs:List V}{us:List Value}(r:zbK xs us):us=[]↔xs=[]:=by
 cases r with
 | nil=>simp
 | cons _ _=>simp
theorem zpP:OpR X (binaryOp .Add) (zyf X.K):=by
 intro pins s σ H x y v u Q I rx ry h
 obtain⟨a,b,xs,ys,rfl,rfl,ha,hb,hx,hz,q1,q2⟩:=h
 cases rx
 cases ry
 obtain⟨its,r1,p1,_⟩:=I.tuple ha
 obtain⟨its2,r2,p2,_⟩:=I.tuple hb
 refine HT.cat_tup p1 p2 (fun z=>hx (r1.nil_iff.mp z)) (fun z=>⟨.ref a,H,I,rfl,q1 (r2.nil_iff.mp z)⟩) (fun z=>?_) (by rw[← r1.length,← r2.length];exact hz)
 refine⟨.ref s.heap.objs.size,_,I.laid (t':=s.toks) (o:=.tup (xs++ys)) (fun b ob q=>Heap.get?_push_of_some _ q) (Nat.le_refl _) ?_,rfl,q2 (fun w=>z (r2.nil_iff.mpr w)) _ (I.hok.fresh (Nat.le_refl _))⟩
 exact⟨by rw[List.length_append];exact hz,_,r1.append r2,IsTup.new _ _⟩
end
def ixN (n:Nat)(i:Int):Option Nat:=if 0<=i then(if i < n then some i.toNat else none) else if -(n:Int)<=i then some (i+n).toNat else none
def atI {α:Type}(xs:List α)(i:Int):Option α:=(ixN xs.length i).bind fun j=>xs[j]?
theorem zqb {n:Nat}{i:Int}{j:Nat}(h:ixN n i=some j):seqIndex? i n=some j/\j < n/\-(n:Int)<=i/\i < n:=by
 unfold ixN at h
 by_cases h0:0<=i
 ·rw[if_pos h0] at h
  by_cases h1:i < n
  ·rw[if_pos h1] at h
   have e:i.toNat=j:=Option.some.inj h
   exact⟨by rw[seqIndex_of h0 h1,e],by omega,by omega,h1⟩
  ·rw[if_neg h1] at h;cases h
 ·rw[if_neg h0] at h
  by_cases h1:-(n:Int)<=i
  ·rw[if_pos h1] at h
   have e:(i+n).toNat=j:=Option.some.inj h
   exact⟨by rw[seqIndex_neg (by omega) h1,e],by omega,h1,by omega⟩
  ·rw[if_neg h1] at h;cases h
theorem zmy {α:Type}{xs:List α}{i:Int}{v:α}(h:atI xs i=some v):∃ j,seqIndex? i xs.length=some j/\xs[j]?=some v/\j < xs.length/\-(xs.length:Int)<=i/\i < xs.length:=by
 unfold atI at h
 cases e:ixN xs.length i with
 | none=>rw[e] at h;cases h
 | some j =>
  rw[e] at h
  obtain⟨h1,h2,h3,h4⟩:=zqb e
  exact⟨j,h1,h,h2,h3,h4⟩
theorem zbm {α:Type}{xs:List α}{j:Nat}{v:α}(h:xs[j]?=some v):atI xs (j:Int)=some v:=by
 have hj:j < xs.length:=(List.getElem?_eq_some_iff.mp h).1
 have e:ixN xs.length (j:Int)=some j:=by
  unfold ixN
  rw[if_pos (by omega),if_pos (by omega)];simp
 unfold atI;rw[e];exact h
def ziX (b:Expr):Prop:=∀ o i,subscripted b false o i=operate [o,i] (getItem o i)
def IxR (X:Cx)(r:R2):Prop :=
 ∀ (value slice:Expr) (pins:List (Addr×Obj)) (s:Shared) (σ:St) (H:Hp) (x y:V) (v u:Value) (Q:VK),Inv X pins σ H s->zbP x v->zbP y u->r x y H Q ->
  subscripted slice false v u=operate [v,u] (getItem v u)->wpAny (model X.prog X.w) X.A (subscriptTail value slice v u) (EP X pins σ Q) X.xe s
def MtR (X:Cx)(id:String)(r:V->List V->Hp->VK->Prop):Prop :=
 ∀ (pins:List (Addr×Obj)) (s:Shared) (σ:St) (H:Hp) (x:V) (xs:List V) (v:Value) (us:List Value) (Q:VK),Inv X pins σ H s->zbP x v->zbK xs us->r x xs H Q ->
  wpAny (model X.prog X.w) X.A (call (.builtin id) (v::us)) (EP X pins σ Q) X.xe s
section
variable {X:Cx}{a b:Expr}{ta tb:TE}{pos:Pos}
theorem IxR.or {r r':R2}(h:IxR X r)(h':IxR X r'):IxR X (fun x y H Q=>r x y H Q∨r' x y H Q):=by
 intro value slice pins s σ H x y v u Q I rx ry q hs
 rcases q with q | q
 ·exact h value slice pins s σ H x y v u Q I rx ry q hs
 ·exact h' value slice pins s σ H x y v u Q I rx ry q hs
theorem zwu {r:R2}(hr:IxR X r)(ha:PE X a ta)(hb:PE X b tb)(hs:ziX b):PE X (.Subscript a b pos) (tOp r ta tb):=by
 intro pins s σ H Q I h
 exact Subscript_ (zyQ ha hb I h fun v u s2 x y H2 I2 rx ry q=>hr a b pins s2 σ H2 x y v u Q I2 rx ry q (hs _ _))
def zy8 (K:W.Frag):R2:=fun x y H Q=>∃ p xs i v,x=.ref p/\y=.int i/\SqL K H p xs/\atI xs i=some v/\Q v H
def zy6 (K:W.Frag):R2:=fun x y H Q=>∃ p xs i v,x=.ref p/\y=.int i/\SqT K H p xs/\atI xs i=some v/\Q v H
def zy7:R2:=fun x y H Q=>∃ z i c,x=.str z/\y=.int i/\z.length<=sizeLine/\atI z.cps.toList i=some c/\Q (.str ⟨#[c]⟩) H
theorem zuC:IxR X (zy8 X.K):=by
 intro value slice pins s σ H x y v u Q I rx ry h hs
 obtain⟨p,xs,i,z,rfl,rfl,hq,he,q⟩:=h
 cases rx
 obtain⟨t,rfl⟩:=ry
 obtain⟨its,r,pl,hz⟩:=I.list hq
 obtain⟨j,h1,h2,h3,h4,h5⟩:=zmy he
 obtain⟨w,ew,rw'⟩:=r.get h2
 have hl:=r.length
 have hn:=zjn
 have fin:EP X pins σ Q w s:=⟨z,H,I,rw',q⟩
 by_cases h0:0<=i
 ·have hj:i.toNat=j:=by
   rw[seqIndex_of h0 h5] at h1
   exact Option.some.inj h1
  exact item_listR pl.isList h0 (by omega) (by rw[hj];simpa using ew) fin hs
 ·have hj:(i+(its.toArray.size:Int)).toNat=j:=by
   rw[seqIndex_neg (by omega) h4] at h1
   rw[List.size_toArray,← hl]
   exact Option.some.inj h1
  exact subscriptTail_builtinR (x:=w) pl.isList.typeIs slot_list_getitem.lookup
   (wpAny_getItem_list_neg (Q:=fun r s'=>r=w/\EP X pins σ Q r s') pl.isList (by omega) (by rw[List.size_toArray]<;>omega) (by omega) (by rw[hj];simpa using ew) ⟨rfl,fin⟩) hs
theorem zwU:IxR X (zy6 X.K):=by
 intro value slice pins s σ H x y v u Q I rx ry h hs
 obtain⟨p,xs,i,z,rfl,rfl,hq,he,q⟩:=h
 cases rx
 obtain⟨t,rfl⟩:=ry
 obtain⟨its,r,pl,hz⟩:=I.tuple hq
 obtain⟨j,h1,h2,h3,h4,h5⟩:=zmy he
 obtain⟨w,ew,rw'⟩:=r.get h2
 have hl:=r.length
 have hn:=zjn
 have fin:EP X pins σ Q w s:=⟨z,H,I,rw',q⟩
 exact subscriptTail_builtinR (x:=w) pl.typeIs slot_tuple_getitem.lookup
  (getItem_tuple (j:=j) (Q:=fun r s'=>r=w/\EP X pins σ Q r s') pl (by omega) (by omega) (by rw[List.size_toArray,← hl];exact h1) (by simpa using ew) ⟨rfl,fin⟩) hs
theorem zwV:IxR X zy7:=by
 intro value slice pins s σ H x y v u Q I rx ry h hs
 obtain⟨z,i,c,rfl,rfl,hz,he,q⟩:=h
 obtain⟨t,rfl⟩:=rx
 obtain⟨t',rfl⟩:=ry
 obtain⟨j,h1,h2,h3,h4,h5⟩:=zmy he
 have hl:z.cps.toList.length=z.length:=by simp [Str.length]
 rw[hl] at h1 h4 h5
 have hn:=zjn
 exact tail_any (typeIs_str s z t) slot_str_getitem.lookup (getItem_str (c:=c) (by
  have e1:decide (i < -(2 ^ 63:Int))=false:=decide_eq_false (by omega)
  have e2:decide (i≥2 ^ 63)=false:=decide_eq_false (by omega)
  rw[e1,e2,Bool.or_false]) (by rw[h1];simpa using h2) ⟨.str ⟨#[c]⟩,H,I.tok _,⟨_,rfl⟩,q⟩) hs
def rIx (K:W.Frag):R2:=fun x y H Q=>zy8 K x y H Q∨zy6 K x y H Q∨zy7 x y H Q
theorem ztc:IxR X (rIx X.K):=zuC.or (zwU.or zwV)
theorem zod (its:List Value)(n j:Nat)(u:Value):Obj.mapSeq (·.setIfInBounds j u) { cls:=.type "list",data:=.seq its.toArray n }={ cls:=.type "list",data:=.seq (its.set j u).toArray n }:=by
 simp [Obj.mapSeq]
theorem Inv.lst {pins:List (Addr×Obj)}{σ:St}{H:Hp}{s:Shared}{p:Addr}{xs:List V}(I:Inv X pins σ H s)(h:H p=some (.lst xs)) :
  ∃ (its:List Value) (n:Nat),zbK xs its/\s.heap.get? p=some { cls:=.type "list",data:=.seq its.toArray n }/\xs.length<=sizeLine:=by
 obtain⟨z,its,n,r,e⟩:=I.hok p _ h
 exact⟨its,n,r,e,z⟩
theorem Inv.lstUpd {pins:List (Addr×Obj)}{σ:St}{H:Hp}{s:Shared}{p:Addr}{xs ys:List V}{its its':List Value}{n n':Nat}{f:Obj->Obj}(I:Inv X pins σ H s)(h:H p=some (.lst xs))
  (ho:s.heap.get? p=some { cls:=.type "list",data:=.seq its.toArray n })(hf:f { cls:=.type "list",data:=.seq its.toArray n }={ cls:=.type "list",data:=.seq its'.toArray n' })(r:zbK ys its')(hz:ys.length<=sizeLine)(t:Nat) :
  Inv X pins σ (upd H p (.lst ys)) { s with heap:=s.heap.update p f,toks:=t }:=by
 have e:(s.heap.update p f).get? p=some { cls:=.type "list",data:=.seq its'.toArray n' }:=by
  rw[Heap.get?_update_self f ho (by rw[hf]<;>rfl),hf]
 refine I.write (x:=p) (e:=p) (by rw[h];trivial) (.inl rfl) (fun b u hb q=>(Heap.get?_update_other _ _ (Ne.symm hb)).trans q) ⟨_,e⟩ ?_
 exact⟨hz,its',n',r,e⟩
def zwe:V->V->V->Hp->(Hp->Prop)->Prop:=fun o i v H Q=>∃ p xs k j,o=.ref p/\i=.int k/\H p=some (.lst xs)/\ixN xs.length k=some j/\Q (upd H p (.lst (xs.set j v)))
theorem zmS:zzq X zwe:=by
 intro pins s σ H o i v ov iv u Q I ro ri rv h
 obtain⟨p,xs,k,j,rfl,rfl,hp,hj,q⟩:=h
 cases ro
 obtain⟨t,rfl⟩:=ri
 obtain⟨its,n,r,ho,hz⟩:=I.lst hp
 obtain⟨h1,h2,h3,h4⟩:=zqb hj
 have hl:=r.length
 have hn:=zjn
 have I':Inv X pins σ (upd H p (.lst (xs.set j v))) { s with heap:=s.heap.update p (Obj.mapSeq (·.setIfInBounds j u)) } :=
  I.lstUpd hp ho (zod its n j u) (r.set rv j) (by rw[List.length_set];exact hz) s.toks
 by_cases h0:0<=k
 ·have hk:k.toNat=j:=by
   rw[seqIndex_of h0 h4] at h1
   exact Option.some.inj h1
  exact W.ki_setAt ho h0 (by omega) (by rw[List.size_toArray,← hl];exact h4) (by rw[hk];exact⟨_,I',q⟩)
 ·have hk:(k+(its.toArray.size:Int)).toNat=j:=by
   rw[seqIndex_neg (by omega) h3] at h1
   rw[List.size_toArray,← hl]
   exact Option.some.inj h1
  exact W.ki_setBack ho (by omega) (by rw[List.size_toArray,← hl];exact h3) (by omega) (by rw[hk];exact⟨_,I',q⟩)
theorem zkO (lo hi:Option Int)(n:Nat):(sliceBounds lo hi none n).1=((HT.sIx n 0 lo:Nat):Int)/\(sliceBounds lo hi none n).2.1=((HT.sIx n n hi:Nat):Int)/\(sliceBounds lo hi none n).2.2=1:=by
 refine⟨?_,?_,rfl⟩
 ·cases lo with
  | none=>simp [sliceBounds,HT.sIx]
  | some i =>
   simp only[sliceBounds,HT.sIx,Option.getD_none,show(1:Int) > 0 by decide,if_true]
   by_cases h:i < 0
   ·simp only[h,if_true]<;>omega
   ·simp only[h,if_false]<;>omega
 ·cases hi with
  | none=>simp [sliceBounds,HT.sIx]
  | some i =>
   simp only[sliceBounds,HT.sIx,Option.getD_none,show(1:Int) > 0 by decide,if_true]
   by_cases h:i < 0
   ·simp only[h,if_true]<;>omega
   ·simp only[h,if_false]<;>omega
theorem zjW (its:List Value)(lo hi:Option Int):slicePick its.toArray lo hi none=((its.drop (HT.sIx its.length 0 lo)).take (HT.sIx its.length its.length hi-HT.sIx its.length 0 lo)).toArray:=by
 obtain⟨h1,h2,h3⟩:=zkO lo hi its.toArray.size
 unfold slicePick
 rw[h1,h2,h3]
 simp only[sliceRange_one,pick_run,List.size_toArray]<;>rfl
def zzO (K:W.Frag):V->Option Int->Option Int->Hp->VK->Prop:=fun x lo hi H Q=>∃ a xs,x=.ref a/\SqL K H a xs/\∀ p,H p=none->Q (.ref p) (upd H p (.lst (ztn xs lo hi)))
theorem zpm:SlR X (zzO X.K):=by
 intro pins s σ H x v vl vu lo hi sl Q I rx hs pl pu h
 obtain⟨a,xs,rfl,hx,q⟩:=h
 cases rx
 obtain⟨its,r,ht,hz⟩:=I.list hx
 have hlen:=r.length
 refine⟨"list",_,slot_list_getitem.lookup,ht.isList.typeIs,?_⟩
 refine wpAny_getItem_list_slice ht.isList hs pl pu .none (by simp) ?_ (by rw[List.size_toArray]<;>omega)
 rw[zjW,← hlen]
 refine⟨.ref s.heap.objs.size,_,I.laid (t':=s.toks) (o:=.lst (ztn xs lo hi)) (fun b ob q=>Heap.get?_push_of_some _ q) (Nat.le_refl _) ?_,rfl,q _ (I.hok.fresh (Nat.le_refl _))⟩
 exact⟨Nat.le_trans (ziE xs lo hi) hz,_,0,(r.drop (HT.sIx xs.length 0 lo)).take (HT.sIx xs.length xs.length hi-HT.sIx xs.length 0 lo),Heap.get?_push_size _ rfl⟩
theorem zkY:OpR X (compareOp .NotIn) (fun x y H Q=>∃ i j,x=.str i/\y=.str j/\Q (.bl (!(!(Builtin.Str.occurrences j i 0 j.length 1).isEmpty))) H):=by
 intro pins s σ H x y v u Q I rx ry h
 obtain⟨i,j,rfl,rfl,q⟩:=h
 obtain⟨t,rfl⟩:=rx
 obtain⟨t',rfl⟩:=ry
 exact notIn_str ⟨.bl _,H,I,rfl,q⟩
theorem zkv:zhF X (.type "tuple") (fun xs H Q=>∃ p ys,xs=[.ref p]/\((SqL X.K H p ys/\∀ l,H l=none->Q (.ref l) (upd H l (.tup ys)))∨(SqT X.K H p ys/\Q (.ref p) H))):=by
 intro pins s σ H xs us Q I r h
 obtain⟨p,ys,rfl,h⟩:=h
 obtain⟨u,rfl,rx⟩:=zlS r
 cases rx
 rcases h with⟨hq,q⟩ | ⟨hq,q⟩
 ·obtain⟨its,r',pl,hz⟩:=I.list hq
  have hlen:=r'.length
  refine call_tuple_list pl.isList (fun h' kp=>?_) (by simp only[List.size_toArray]<;>omega)
  have I1:Inv X pins σ H { s with heap:=h' }:=I.kept (t':=s.toks) kp
  have I2:Inv X pins σ (upd H h'.objs.size (.tup ys)) { s with heap:=h'.push { cls:=.type "tuple",data:=.seq its.toArray } } :=
   I1.laid (t':=s.toks) (fun b o e=>Heap.get?_push_of_some _ e) (Nat.le_refl _) (show zb6 X.prog X.w _ _ _ (.tup ys) from⟨hz,its,r',IsTup.new _ _⟩)
  exact⟨.ref h'.objs.size,_,I2,rfl,q _ (I1.hok.fresh (Nat.le_refl _))⟩
 ·obtain⟨its,r',pl,hz⟩:=I.tuple hq
  exact call_tuple_same pl ⟨.ref p,H,I,rfl,q⟩
def tyV (K:W.Frag)(T:String)(x:V)(H:Hp):Prop:=match x with
 | .str _=>T="str"
 | .int _=>T="int"
 | .ref p=>(T="list"/\∃ xs,SqL K H p xs)∨(T="tuple"/\∃ o,K.lookup p=some o/\o.cls=.type "tuple"/\o.dict=none) ∨
   (T="dict"/\((∃ kvs,H p=some (.dK kvs))∨∃ kvs,H p=some (.dT kvs)))∨(T="set"/\∃ S n,H p=some (.set S n))
 | _=>False
theorem zvH {pins:List (Addr×Obj)}{σ:St}{H:Hp}{s:Shared}{T:String}{x:V}{v:Value}(I:Inv X pins σ H s)(r:zbP x v)(ty:tyV X.K T x H) :
  s.TypeIs v T/\∀ a,v=.ref a->∃ ob,s.heap.get? a=some ob/\ob.dict=none:=by
 cases x with
 | str z =>
  obtain⟨t,rfl⟩:=r
  cases (show T="str" from ty)
  exact⟨typeIs_str s z t,fun _ e=>nomatch e⟩
 | int i =>
  obtain⟨t,rfl⟩:=r
  cases (show T="int" from ty)
  exact⟨typeIs_int s i t,fun _ e=>nomatch e⟩
 | ref p =>
  cases r
  rcases ty with⟨rfl,xs,hq⟩ | ⟨rfl,o,hk,hc,hd⟩ | ⟨rfl,hk⟩ | ⟨rfl,S,n,hk⟩
  ·obtain⟨its,_,pl,_⟩:=I.list hq
   refine⟨pl.isList.typeIs,fun a e=>?_⟩
   cases e
   obtain⟨o,n,e,c,hd,_⟩:=pl
   exact⟨o,e,hd⟩
  ·refine⟨⟨o,I.kIn p o hk,hc⟩,fun a e=>?_⟩
   cases e
   exact⟨o,I.kIn _ o hk,hd⟩
  ·have z:∃ o,s.heap.get? p=some o/\o.ExactDict:=by
    rcases hk with⟨kvs,hk⟩ | ⟨kvs,hk⟩
    ·obtain⟨_,_,_,_,o,_,_,e,ex,_⟩:=I.hok p _ hk
     exact⟨o,e,ex⟩
    ·obtain⟨_,_,_,_,o,_,_,e,ex,_⟩:=I.hok p _ hk
     exact⟨o,e,ex⟩
   obtain⟨o,e,ex⟩:=z
   refine⟨⟨o,e,ex.1⟩,fun a e2=>?_⟩
   cases e2
   exact⟨o,e,ex.2.1⟩
  ·obtain⟨o,_,_,_,e,ex,_⟩:=I.hok p _ hk
   refine⟨⟨o,e,ex.1⟩,fun a e2=>?_⟩
   cases e2
   exact⟨o,e,ex.2.1⟩
 | _=>exact False.elim ty
def tBM (K:W.Frag)(T:String)(r:V->List V->Hp->VK->Prop)(to:TE)(t:TA):TE:=fun σ H Q=>to σ H fun x H1=>tyV K T x H1/\t σ H1 fun xs H2=>r x xs H2 Q
variable {o e:Expr}{es:List Expr}{to:TE}{t:TA}{name:Str}{apos cpos:Pos}{T id:String}{r:V->List V->Hp->VK->Prop}
theorem zud (pa:PlainAttrs T)(slot:Slot T name id)(hty:typeOf (.builtin id)=pure (.type "method_descriptor"))(hm:MtR X id r)(ho:PE X o to)(ha:PA X (e::es) t)
  (hbase:attributeBase o name X.env (eval o X.env)=eval o X.env:=by rfl)
  (hfew:((backTo cpos (starEach (e::es) X.env)).all (fun x=>!x.1)&&(backToKw cpos (keywordEach [] X.env)).all (fun x=>x.1.isSome)
  &&decide ((e::es).length+([]:List Keyword).length+(if([]:List Keyword).isEmpty then 0 else 1) < 30))=true:=by rfl)
  (hline:(apos.endLine==cpos.line)=true:=by rfl) (hs:starEach (e::es) X.env=(false,eval e X.env)::starEach es X.env:=by rfl) (hplain:(backTo cpos (starEach es X.env)).any (·.1)=false:=by rfl) :
  PE X (.Call (.Attribute o name apos) (e::es) [] cpos) (tBM X.K T r to t):=by
 intro pins s σ H Q I h
 refine wpAny_Call_method_late hbase hfew hline rfl (thn (ho pins s σ H _ I h) fun v s1 ⟨x,H1,I1,r1,ty,q1⟩=>?_)
 obtain⟨h1,h2⟩:=zvH I1 r1 ty
 refine⟨T,id,pa,slot,hty,h1,h2,?_⟩
 have hA:=ha cpos pins s1 σ H1 _ I1 q1
 rw[hs] at hA ⊢
 refine Calls.callWith_builtin (by show(false||(backTo cpos (starEach es X.env)).any (·.1))=false;rw[hplain]<;>rfl) (Calls.evalArgs_plain ?_)
 exact thn hA fun us s2 ⟨vs,H2,I2,r2,q2⟩=>hm pins s2 σ H2 x vs v us Q I2 r1 r2 q2
end
def MtM (X:Cx)(id:String)(r:V->List V->Hp->VK->Prop):Prop :=
 ∀ (pins:List (Addr×Obj)) (s:Shared) (σ:St) (H:Hp) (x:V) (xs:List V) (v:Value) (us:List Value) (Q:VK),Inv X pins σ H s->zbP x v->zbK xs us->r x xs H Q ->
  wpAny (model X.prog X.w) X.A (call (.builtin id) (v::us)) (EP X pins σ Q) X.xe s
theorem zbK.one:∀ {x:V}{us:List Value},zbK [x] us->∃ u,us=[u]/\zbP x u
 | _,_,.cons r .nil=>⟨_,rfl,r⟩
theorem zbK.dropLast {xs:List V}{us:List Value}(h:zbK xs us):zbK xs.dropLast us.dropLast:=by
 induction h with
 | nil=>exact .nil
 | cons r t ih =>
  cases t with
  | nil=>exact .nil
  | cons q t'=>exact .cons r ih
theorem zvr {α:Type}(l:List α):l.eraseIdx (l.length-1)=l.dropLast:=by
 induction l with
 | nil=>rfl
 | cons a r ih =>
  cases r with
  | nil=>rfl
  | cons b r =>
   have e:(a::b::r).length-1=((b::r).length-1)+1:=by
    have h1:(a::b::r).length=r.length+2:=rfl
    have h2:(b::r).length=r.length+1:=rfl
    omega
   rw[e,List.eraseIdx_cons_succ,ih]
   all_goals rfl
section
variable {X:Cx}{pins:List (Addr×Obj)}{σ:St}{H:Hp}{s:Shared}{l b:Addr}{xs ys zs:List V}
theorem Inv.lset {its its':List Value}{n:Nat}{f:Array Value->Array Value}{t':Nat}(I:Inv X pins σ H s)(hH:H l=some (.lst xs))
  (e:s.heap.get? l=some { cls:=.type "list",data:=.seq its.toArray n })(hf:f its.toArray=its'.toArray)(hv:zbK ys its')(hz:ys.length<=sizeLine) :
  Inv X pins σ (upd H l (.lst ys)) { s with heap:=s.heap.update l (Obj.mapSeq f),toks:=t' }:=by
 have q:=PySem.IsL.update e f
 rw[hf] at q
 refine I.write (x:=l) (e:=l) (by rw[hH];exact trivial) (.inl rfl) (fun b' u hb hu=>(Heap.get?_update_other s.heap (Obj.mapSeq f) (Ne.symm hb)).trans hu) ⟨_,q⟩ ?_
 exact⟨hz,its',_,hv,q⟩
theorem Inv.lnew {its:List Value}{t':Nat}(I:Inv X pins σ H s)(hv:zbK ys its)(hz:ys.length<=sizeLine) :
  Inv X pins σ (upd H s.heap.objs.size (.lst ys)) { s with heap:=s.heap.push { cls:=.type "list",data:=.seq its.toArray },toks:=t' } :=
 I.laid (fun _ _ q=>Heap.get?_push_of_some _ q) (Nat.le_refl _) ⟨hz,its,0,hv,Heap.get?_push_size _ rfl⟩
theorem Inv.fresh (I:Inv X pins σ H s):H s.heap.objs.size=none:=I.hok.fresh (Nat.le_refl _)
theorem Inv.lstM (I:Inv X pins σ H s)(hH:H l=some (.lst xs)):xs.length<=sizeLine/\∃ (its:List Value) (n:Nat),zbK xs its/\xs.length=its.length/\s.heap.get? l=some { cls:=.type "list",data:=.seq its.toArray n }:=by
 obtain⟨z,its,n,r,e⟩:=I.hok l _ hH
 exact⟨z,its,n,r,r.length,e⟩
end
section
variable {X:Cx}
def zt2:V->List V->Hp->VK->Prop:=fun x vs H Q=>∃ l xs y,x=.ref l/\vs=[y]/\H l=some (.lst xs)/\xs.length < sizeLine/\Q .non (upd H l (.lst (xs++[y])))
theorem zih:MtM X "list.append" zt2:=by
 intro pins s σ H x vs v us Q I rx rv h
 obtain⟨l,xs,y,rfl,rfl,hH,hz,q⟩:=h
 cases rx
 obtain⟨u,rfl,ru⟩:=rv.one
 obtain⟨z,its,n,r,hl,e⟩:=I.lstM hH
 refine call_meets F.slot_list_append ⟨_,e,rfl⟩ F.entry_list_append (F.args_list_append_2 _ _) (PySem.list_append l its.toArray n u (by rw[List.size_toArray];omega)) ⟨e,?_⟩
 refine⟨.non,_,I.lset (its':=its++[u]) hH e (by simp) (r.append (.cons ru .nil)) ?_,rfl,q⟩
 rw[List.length_append,List.length_singleton]
 omega
def zz9:V->List V->Hp->VK->Prop:=fun x vs H Q=>∃ l xs y,x=.ref l/\vs=[]/\H l=some (.lst xs)/\xs[xs.length-1]?=some y/\Q y (upd H l (.lst xs.dropLast))
end
section
variable {prog:Program}{w:World}{A:Around}{E:Value->Shared->Prop}{s:Shared}
set_option maxRecDepth 100000 in
end
section
variable {X:Cx}
end
end L2
namespace Att
open PySem PySem.W PySem.Calls PyProof.Rows
theorem zio {P:Params}{h:Heap}:∀ (ns:List Int) (vs:List Value),WellAll P h vs (ns.map WData.int)->IntsAre vs ns:=by
 intro ns
 induction ns with
 | nil =>
  intro vs w
  rw[List.map_nil] at w
  cases w
  exact .nil
 | cons n ns ih =>
  intro vs w
  rw[List.map_cons] at w
  cases w with
  | cons a b =>
   cases a
   exact .cons _ _ (ih _ b)
theorem zpo {l:OpenLaw}{n:Nat}(hn:l.most=some n){P:Params}{h:Heap}{args:List WData}{vals:List Value}
  (hpre:l.row.toRowW.claim.pre args=true)(hwl:WellAll P h vals args) :
  ∃ a vs ns,vals=[Value.ref a]/\args=[WData.list (ns.map WData.int)]/\h.get? a=some { cls:=.type "list",data:=.seq vs.toArray }/\IntsAre vs ns/\ns.length<=n:=by
 have hsh:WShape.hasAll [] args [.list .int]=true:=(pre_splitW hpre).1
 have hc:l.pre.holds [] { args:=args }=true:=(pre_splitW hpre).2
 obtain⟨d,r,rfl,h1,h2⟩:=hasAllW_cons hsh
 obtain rfl:=hasAllW_nil h2
 obtain⟨xs,rfl,h3⟩:=hasW_list h1
 obtain⟨ns,rfl⟩:=items_int h3
 have hlen:ns.length<=n:=by
  unfold OpenLaw.pre at hc
  have h4:(WTm.not (.lt (.lit (.int (n:Int))) (.len (.arg 0)))).holds [] { args:=[.list (ns.map .int)] }=true:=by
   have h4:=(holds_andW hc).1
   rw[hn] at h4
   exact h4
  have h5:=condW_of h4 (w_not (w_lt w_lit (w_len_list (w_arg rfl))))
  rw[List.length_map] at h5
  refine Nat.le_of_not_lt fun q=>?_
  have q':(n:Int) < ((ns.length:Nat):Int):=by omega
  first
   | (rw[decide_eq_true q'] at h5;exact absurd h5 (by decide))
   | (simp at h5;omega)
 cases hwl with
 | cons w1 w2 =>
  cases w2
  cases w1 with
  | list ho hall=>exact⟨_,_,ns,rfl,rfl,ho,zio ns _ hall,hlen⟩
theorem zpB (l:OpenLaw)(args:List WData):l.row.toRowW.claim.post args (.bool true) args=true :=
 postW_of (r:=l.row.toRowW) (X:=(true==true))
  (show WShape.has [] (.bool true) .bool=true by first | rfl | decide | simp [WShape.has,WShape.arms,WShape.armsAll])
  (show(WTm.eq .res (.lit (.bool true))).value [] { args:=args,res:=some (.bool true),after:=args }=some (.bool (true==true)) from w_eq_bool (w_res rfl) w_lit) rfl
theorem attach_call {l:OpenLaw}{n:Nat}{q:Program}{loose:List Str}{XP:(Str->Option Value)->Heap->Prop}{YP:World->Heap->Prop}{d:DefRec}
  (hn:l.most=some n)(hdf:d.params.defaults=[])
  (call:∀ (w:World) (s₀ s₁:Shared) (mg mb:Str->Option Value) (fa:Addr) (o:Obj) (pm cd doc:Value) (a:Addr) (vs:List Value) (ns:List Int),
   Ground q loose [] XP w s₀ mg mb s₁.heap->YP w s₁.heap ->
   s₁.heap.get? fa=some o->o.data=.func (docDef d.name d.params d.body d.scope pm cd doc)->s₁.heap.CodeRec cd d.name->mg d.name=some (.ref fa) ->
   s₁.heap.get? a=some { cls:=.type "list",data:=.seq vs.toArray }->IntsAre vs ns->ns.length<=n->s₁.gens=#[] ->
   codeAny (model l.prog w) callerA (.call (.ref fa) ⟨[.ref a],[]⟩) (fun r s'=>r=.ok (.ret (.bool true))/\OldK s₁.heap s'.heap/\s'.os=s₁.os/\AllBare s'.gens) s₁) :
  WalkO q loose XP YP l.row.toRowW d [] (fun f vs=>PySem.call f vs):=by
 intro w s₀ s₁ mg mb G Y fa o pm cd doc dV kV ho hd hcd hD hmg hg args vals as hpre hlay hrd hwl hlo
 obtain rfl:dV=.none:=Dflts.none hD hdf
 obtain rfl:kV=.none:=Dflts.noKw hD
 obtain⟨a,vs,ns,rfl,rfl,hobj,hints,hlen⟩:=zpo hn hpre hwl
 refine enter_call (codeAny_mono (call w s₀ s₁ mg mb fa o pm cd doc a vs ns G Y ho (fd_plain hd) hcd hmg hobj hints hlen hg) fun r s' hq=>?_)
 obtain⟨rfl,h2,h3,h4⟩:=hq
 exact⟨.inl ⟨.bool true,.bool true,[],rfl,fun _=>rfl,.bool true,zpB l _,fun _=>⟨List.Pairwise.nil,fun _ hm=>(nomatch hm)⟩⟩,h2,h3,h4⟩
section
variable {prog:Program}{w:World}{A:Around}{E:Value->Shared->Prop}{s:Shared}{K:Frag}
end
end Att
namespace L2
open PySem PySem.Spec PyProof.Rows
theorem zkK:∀ {vs:List Value}{ns:List Int},IntsAre vs ns->zbK (ns.map V.int) vs
 | _,_,.nil=>.nil
 | _,_,.cons n t h=>.cons ⟨t,rfl⟩ (zkK h)
def zxP (H:Hp):Prop:=∀ b,H b=none∨∃ o xs,H b=some (.frz o (.lst xs))
theorem zrZ {P:Program}{w:World}{K:W.Frag}{mg mb:Str->Option Value}{CX:CXT}{k:Nat}{fa a:Addr}{fd:FuncData}{x:Str}{sp:Sp}{s₁:Shared}{vs:List Value}{ns:List Int}
  (KX:K.In s₁.heap)(hns:s₁.heap.Ns mainGlobals mg)(hb:s₁.heap.Ns builtinsNs mb)(hbb:∀ x:Str,x≠"__name__"->mb x=bootBuiltins x)(hlim:s₁.heap.NoLimit)(hsm:∃ mm,s₁.heap.Ns sysModules mm)(hg:s₁.gens=#[])
  (ha:s₁.heap.get? a=some { cls:=.type "list",data:=.seq vs.toArray })(hi:IntsAre vs ns)(hl:ns.length<=sizeLine)(hr:zdE k callerA)
  (F:∀ base:Heap,K.In base->base.Ns mainGlobals mg->FnOk P w K mg base CX k fa fd [x] sp)(hbind:∀ (s:Shared) (u:Value),BindsTo s fd ⟨[u],[]⟩ [(x,u)])
  (hsp:∀ H:Hp,zxP H->SqL K H a (ns.map V.int)->sp [.ref a] H (fun v _=>v=.bl true) fun _ _ _=>False)
  (hCX:∀ H e s',CX [] H s₁ (fun _ _ _=>False) e s'->False) :
  codeAny (model P w) callerA (.call (.ref fa) ⟨[.ref a],[]⟩) (fun r s'=>r=.ok (.ret (.bool true))/\OldK s₁.heap s'.heap/\s'.os=s₁.os/\AllBare s'.gens) s₁:=by
 have rv:=zkK hi
 have lenV:=hi.length
 have core:∀ H:Hp,zxP H->SqL K H a (ns.map V.int)->HOk P w H s₁.heap->(∀ b,H b≠none->b=a)->(H a≠none->K.lookup a=none) ->
   codeAny (model P w) callerA (.call (.ref fa) ⟨[.ref a],[]⟩) (fun r s'=>r=.ok (.ret (.bool true))/\OldK s₁.heap s'.heap/\s'.os=s₁.os/\AllBare s'.gens) s₁:=by
  intro H hO hS hok hA hK
  have base_of:∀ {b:Addr}{o:Obj},s₁.heap.get? b=some o->H b=none->(zsc s₁.heap H).get? b=some o:=fun e n=>zsb e n
  have noA:∀ {b:Addr}{o:Obj}{es:Array DictEntry}{ep:Nat},s₁.heap.get? b=some o->o.data=.dict es ep->H b=none:=fun {b o es ep} e d=>by
   cases q:H b with
   | none=>rfl
   | some u =>
    have e':b=a:=hA b (by rw[q];simp)
    subst e'
    rw[ha] at e;cases e
    have d':Data.seq vs.toArray _=Data.dict es ep:=d
    cases d'
  have nsK:∀ {b:Addr}{m:Str->Option Value},s₁.heap.Ns b m->(zsc s₁.heap H).Ns b m:=fun {b m} ⟨o,es,ep,e,d,r⟩=>⟨o,es,ep,base_of e (noA e d),d,r⟩
  have hKb:K.In (zsc s₁.heap H):=fun b o e=>base_of (KX b o e) (by
   cases q:H b with
   | none=>rfl
   | some u =>
    have e':b=a:=hA b (by rw[q];simp)
    subst e'
    rw[hK (by rw[q];simp)] at e;cases e)
  have hM:Mod K mg (zsc s₁.heap H):=⟨hKb,nsK hns,⟨mb,nsK hb,hbb⟩,let ⟨mc,h1,h2⟩:=hlim;⟨mc,nsK h1,h2⟩,let ⟨mm,h1⟩:=hsm;⟨mm,nsK h1⟩⟩
  have e0:zts P w K mg (zsc s₁.heap H) callerA [] s₁ H:=⟨rfl,hM,fun b o e=>zuk e,Nat.le_of_eq (zqi _ _),trivial,fun b hb=>absurd (show b∈([]:List Addr) from hb) (by simp),hok,.of_eq hg⟩
  refine codeAny_mono ((F _ hKb (nsK hns)).run callerA [] s₁ H ⟨[.ref a],[]⟩ [.ref a] [.ref a] _ _ hr e0 (hbind s₁ (.ref a)) (.cons rfl .nil) (hsp H hO hS)) fun r s' h=>?_
  cases r with
  | error e=>exact(hCX H e s' h).elim
  | ok fl =>
   cases fl with
   | next=>exact False.elim h
   | brk=>exact False.elim h
   | cont=>exact False.elim h
   | ret u =>
    obtain⟨v,H',os,bare,un,hok',r',q⟩:=h
    have q':v=.bl true:=q
    subst q'
    obtain rfl:u=Value.bool true:=r'
    refine⟨rfl,OldK.of_keep fun b o e=>?_,os,bare⟩
    cases q:H b with
    | none=>exact un.keep b o e q (by intro z;exact absurd (show b∈([]:List Addr) from z) (by simp)) (by simp)
    | some u =>
     rcases hO b with z | ⟨ob,xs,z⟩
     ·rw[q] at z;cases z
     ·have z2:=un.frzs b ob _ z
      obtain⟨e1,_⟩:=hok b _ z
      obtain⟨e2,_⟩:=hok' b _ z2
      rw[e] at e1;cases e1
      exact e2
 cases hk:K.lookup a with
 | some o =>
  have e:=KX a o hk
  rw[ha] at e
  cases e
  refine core (fun _=>none) (fun _=>.inl rfl) (.inr ⟨_,vs.toArray,_,hk,rfl,rfl,rfl,by rw[List.size_toArray,lenV];exact hl,by simpa using rv⟩) (fun b u z=>by have z':(none:Option HO)=some u:=z;cases z') (fun b z=>absurd rfl z) fun z=>absurd rfl z
 | none =>
  refine core (fun b=>if b=a then some (.frz { cls:=.type "list",data:=.seq vs.toArray } (.lst (ns.map V.int))) else none) (fun b=>?_) (.inl (.inr ⟨{ cls:=.type "list",data:=.seq vs.toArray },if_pos rfl⟩)) (fun b u z=>?_) (fun b z=>?_) fun _=>hk
  ·by_cases hb:b=a
   ·exact .inr ⟨_,_,if_pos hb⟩
   ·exact .inl (if_neg hb)
  ·by_cases hb:b=a
   ·have z':=(if_pos hb).symm.trans z
    cases z'
    subst hb
    exact⟨ha,by rw[List.length_map];exact hl,vs,_,rv,ha⟩
   ·have z':=(if_neg hb).symm.trans z
    cases z'
  ·by_cases hb:b=a
   ·exact hb
   ·exact absurd (if_neg hb) z
abbrev KOf {K:W.Frag}{h:Heap}(_:K.In h):W.Frag:=K
theorem ztJ {l:W.OpenLaw}{n k:Nat}{q:Program}{loose:List Str}{XP:(Str->Option Value)->Heap->Prop}{YP:World->Heap->Prop}{d:DefRec}{K:Params->W.Frag}{CX:World->CXT}{sp:World->Sp}{x:Str}
  (hi:importsNone q=true)(hn:l.most=some n)(hn2:n<=sizeLine)(hdf:d.params.defaults=[])(hr:zdE k callerA)
  (hY:∀ (w:World) (h:Heap),YP w h->(K w.params).In h)
  (F:∀ (w:World) (mg:Str->Option Value) (fa:Addr) (h:Heap),(K w.params).In h->h.Ns mainGlobals mg->mg d.name=some (.ref fa) ->
   ∃ fd:FuncData,(∀ (s:Shared) (u:Value),BindsTo s fd ⟨[u],[]⟩ [(x,u)]) /\
    ∀ base:Heap,(K w.params).In base->base.Ns mainGlobals mg->FnOk l.prog w (K w.params) mg base (CX w) k fa fd [x] (sp w))
  (hsp:∀ (w:World) (H:Hp) (a:Addr) (ns:List Int),ns.length<=n->zxP H->SqL (K w.params) H a (ns.map V.int)->sp w [.ref a] H (fun v _=>v=.bl true) fun _ _ _=>False)
  (hCX:∀ (w:World) (H:Hp) (s:Shared) (e:Value) (s':Shared),CX w [] H s (fun _ _ _=>False) e s'->False) :
  W.WalkO q loose XP YP l.row.toRowW d [] (fun f vs=>PySem.call f vs):=by
 refine Att.attach_call hn hdf fun w s₀ s₁ mg mb fa o pm cd doc a vs ns G Y ho hd hcd hmg hobj hints hlen hg=>?_
 have KX:=hY w _ Y
 obtain⟨fd,hb,hF⟩:=F w mg fa _ KX G.T.g hmg
 exact zrZ KX G.T.g G.T.b G.T.builtins G.T.nolimit (let ⟨mm,h1,_⟩:=(G.T.seer hi).mods;⟨mm,h1⟩) hg hobj hints (Nat.le_trans hlen hn2) hr hF hb (fun H hO hS=>hsp w H a ns hlen hO hS) fun H e s'=>hCX w H s₁ e s'
theorem walk_ofK {l:W.OpenLaw}{n k:Nat}{q:Program}{loose:List Str}{XP:(Str->Option Value)->Heap->Prop}{YP:World->Heap->Prop}{d:DefRec}{K:Params->W.Frag}{CX:CXT}{sp:W.Frag->Sp}{x:Str}
  (hi:importsNone q=true)(hn:l.most=some n)(hn2:n<=sizeLine)(hdf:d.params.defaults=[])(hr:zdE k callerA)
  (hY:∀ (w:World) (h:Heap),YP w h->(K w.params).In h)
  (F:∀ (w:World) (mg:Str->Option Value) (fa:Addr) (h:Heap),(K w.params).In h->h.Ns mainGlobals mg->mg d.name=some (.ref fa) ->
   ∃ fd:FuncData,(∀ (s:Shared) (u:Value),BindsTo s fd ⟨[u],[]⟩ [(x,u)]) /\
    ∀ base:Heap,(K w.params).In base->base.Ns mainGlobals mg->FnOk l.prog w (K w.params) mg base CX k fa fd [x] (sp (K w.params)))
  (hsp:∀ (K:W.Frag) (H:Hp) (a:Addr) (ns:List Int),ns.length<=n->zxP H->SqL K H a (ns.map V.int)->sp K [.ref a] H (fun v _=>v=.bl true) fun _ _ _=>False)
  (hCX:∀ (H:Hp) (s:Shared) (e:Value) (s':Shared),CX [] H s (fun _ _ _=>False) e s'->False) :
  W.WalkO q loose XP YP l.row.toRowW d [] (fun f vs=>PySem.call f vs) :=
 ztJ (K:=K) (CX:=fun _=>CX) (sp:=fun w=>sp (K w.params)) hi hn hn2 hdf hr hY F (fun w H a ns h1 h2 h3=>hsp (K w.params) H a ns h1 h2 h3) fun _ H s e s'=>hCX H s e s'
def zuE (s:Stmt)(j:Nat):Stmt:=match s with
 | .ClassDef _ _ _ body _ _ _ _ _ _ _=>body.getD j (.Pass ⟨0,0,0,0⟩)
 | _=>.Pass ⟨0,0,0,0⟩
def defArgs (s:Stmt):Arguments:=match s with
 | .FunctionDef _ a _ _ _ _ _ _ _ _=>a
 | _=>{ posonlyargs:=[],args:=[],vararg:=none,kwonlyargs:=[],kw_defaults:=[],kwarg:=none,defaults:=[] }
def defBody (s:Stmt):List Stmt:=match s with
 | .FunctionDef _ _ b _ _ _ _ _ _ _=>b
 | _=>[]
def defScope (s:Stmt):Scope:=match s with
 | .FunctionDef _ _ _ _ _ _ sc _ _ _=>sc
 | _=>{ kind:=.function,names:=[],isGenerator:=false,isCoroutine:=false }
abbrev CX0:CXT:=fun _ _ _ _ _ _=>False
abbrev E0:XK:=fun _ _ _=>False
theorem zaH {X:Cx}:zdP CX0 X E0:=fun _ _ _ _ _ _ _ h=>h.elim
structure Fun (K:W.Frag) (x qual:Str) (st:Stmt) (f:Addr) (fd:FuncData):Prop where
 ex:∃ (oc:Value) (od:Option Addr) (kV doc pm:Value) (an:Option Addr) (cdv ct:Value) (osl:Array (Option Value)),
  fd=W.fnOf x qual (defArgs st) (defBody st) (defScope st) .none kV doc pm an cdv ct/\K.lookup f=some ⟨oc,od,.func fd,osl⟩/\W.codeIn K cdv qual=true
 kp:W.keepIn K (.ref f)=true
section
variable {P:Program}{w:World}{K:W.Frag}{mg:Str->Option Value}{base:Heap}
theorem Fun.ok {x qual:Str}{st:Stmt}{f:Addr}{fd:FuncData}{N ps:List Str}{k:Nat}{sp:Sp}(F:Fun K x qual st f fd)(S:zaw N ps (defScope st))(len:∀ vs H Q E,sp vs H Q E->vs.length=ps.length)
  (hbody:∀ (cdv:Value) (A:Around) (outer:List Env) (s:Shared) (H:Hp) (vs:List V) (Q:VK) (E:XK),zdE k (A.deeper (envOfC qual (defScope st) s.heap.objs.size f cdv))->sp vs H Q E ->
   ∃ t,PSs (zhB CX0 P w K mg base N qual (defScope st) f cdv A outer s H E).nox (defBody st) t/\t { nx:=fun _ H'=>Q .non H',rt:=Q } (start N vs) H):FnOk P w K mg base CX0 (k+1) f fd ps sp:=by
 obtain⟨oc,od,kV,doc,pm,an,cdv,ct,osl,rfl,lk,hcd⟩:=F.ex
 refine zuM lk hcd S len fun A outer s H vs Q E hr hsp=>?_
 obtain⟨t,h,q⟩:=hbody cdv A outer s H vs Q E hr hsp
 exact⟨t,h.nox,q⟩
theorem Fun.binds {x qual:Str}{st:Stmt}{f:Addr}{fd:FuncData}{ps:List Str}(F:Fun K x qual st f fd)
  (h:∀ (kV doc pm:Value) (an:Option Addr) (cdv ct:Value) (us:List Value),us.length=ps.length->bindArgs (W.fnOf x qual (defArgs st) (defBody st) (defScope st) .none kV doc pm an cdv ct) ⟨us,[]⟩=pure (ps.zip us)):zgx K fd ps []:=by
 obtain⟨oc,od,kV,doc,pm,an,cdv,ct,osl,rfl,lk,hcd⟩:=F.ex
 exact .all (h kV doc pm an cdv ct)
theorem zno {x qual:Str}{st:Stmt}{f:Addr}{oc:Value}{od an:Option Addr}{osl:Array (Option Value)}{kV doc pm cdv ct:Value}(l:K.lookup f=some ⟨oc,od,.func (W.fnOf x qual (defArgs st) (defBody st) (defScope st) .none kV doc pm an cdv ct),osl⟩)
  (c:W.codeIn K cdv qual=true)(k:W.keepIn K (.ref f)=true):Fun K x qual st f (W.fnOf x qual (defArgs st) (defBody st) (defScope st) .none kV doc pm an cdv ct):=⟨⟨oc,od,kV,doc,pm,an,cdv,ct,osl,rfl,l,c⟩,k⟩
end
section
variable {X:Cx}
end
def zax (H H':Hp):Prop:=∀ b o,H b=some o->H' b=some o
theorem zax.refl (H:Hp):zax H H:=fun _ _ h=>h
theorem zax.trans {H H1 H2:Hp}(a:zax H H1)(b:zax H1 H2):zax H H2:=fun c o h=>b c o (a c o h)
theorem zax.free {H H':Hp}(e:zax H H'){l:Addr}(h:H' l=Option.none):H l=Option.none:=by
 cases q:H l with
 | none=>rfl
 | some o =>
  rw[e l o q] at h
  cases h
end L2
namespace DL
open PySem PySem.Spec PySem.Calls PySem.W PyProof.Rows Builtin Builtin.ObjectAttr Builtin.Getset_descriptor
section
variable {prog:Program}{w:World}{A:Around}{E:Value->Shared->Prop}{h:Heap}{g:Array GenState}{d:Drawn}{t:Nat}{os:OsState}{a C:Addr}{o:Obj}{K:Frag}
structure znS (K:Frag) (C:Addr):Prop where
 cls:findIn K (.ref C) "__class__"=some (some (.builtin "object.__class__"))
 ga:findIn K (.ref C) "__getattribute__"=some (some (.builtin "BaseException.__getattribute__"))
 gt:findIn K (.ref C) "__getattr__"=some none
 ob:mroIn K C (.type "object")=some true
 be:subIn K (.ref C) (.type "BaseException")=some true
theorem zvB {R:Result->Shared->Prop}{tp:Value}(X:K.In h)(Z:znS K C)(hx:h.get? a=some o)(hc:o.cls=.ref C)(hq:R (.ok (.ret (.ref C))) ⟨h,g,d,t,os⟩) :
  codeAny (model prog w) A (.call (.builtin "getset_descriptor.__get__") ⟨[.builtin "object.__class__",.ref a,tp],[]⟩) R ⟨h,g,d,t,os⟩:=by
 have L0:Looks (model prog w) h (typeOf (.ref a)) (.ref C):=hc▸(Looks.ld hx).andThen .now
 have L1:=looks_mroIn (M:=model prog w) X Z.ob
 refine codeAny_call_builtin KF.slot_gs.plain KF.entry_gs (KF.slot_gs.check _ _ _ _ _ _ _ _ KF.type_class (KF.args_gs _ _ _) ?_)
 unfold Builtin.«getset_descriptor.__get__» descrGet
 rw[dga_obj]
 refine wpAny_bind (wpAny_pure ?_)
 unfold descrGetter descrCheckInstance descrNameAndClass isInstance
 simp only[KF.owner_class]
 repeat lk
 refine⟨Code.quiet_builtin _ (by decide +kernel),codeAny_builtin KF.entry_class ?_⟩
 unfold Builtin.«object.__class__» shownTypeOf
 repeat lk
 exact hq
theorem zmJ {M:Model}{nameV:Value}{Q:Unit->Shared->Prop}(X:K.In h)(Z:znS K C)(hx:h.get? a=some o)(hc:o.cls=.ref C)(hq:Q () ⟨h,g,d,t,os⟩):wpAny M A (checkBuiltinCall "BaseException.__getattribute__" ⟨[.ref a,nameV],[]⟩) Q E ⟨h,g,d,t,os⟩:=by
 have hk:builtinKind "BaseException.__getattribute__"=some .slot:=by decide +kernel
 have hsplit:splitId "BaseException.__getattribute__"=some ("BaseException","__getattribute__"):=by decide +kernel
 have ha:=F.args_bexc_ga (.ref a) nameV
 have LS:Looks M h (isSubtype (.ref C) (.type "BaseException")) true:=looks_subIn X Z.be
 simp only[checkBuiltinCall,hk,hsplit]
 refine wpAny_bind ?_
 ·unfold isInstance
  repeat (first | (with_reducible refine wpAny_loadPart_at hx ?_;rw[hc]) | (with_reducible refine LS.at ?_) | wp_step)
  exact hq
theorem zrb {tk:Tok}{Q:Fin->Shared->Prop}(X:K.In h)(Z:znS K C)(hx:h.get? a=some o)(hc:o.cls=.ref C)(hq:Q (.done (.ret (.ref C))) ⟨h,g,d,t,os⟩) :
  wpAny (model prog w) A (Builtin.«object.__getattribute__» ⟨[.ref a,.str "__class__" tk],[]⟩) Q E ⟨h,g,d,t,os⟩:=by
 have hT5:(⟨h,g,d,t,os⟩:Shared).TypeIs (.builtin "object.__class__") "getset_descriptor":=F.typeOf_object_class
 have f5:=F.typeOf_object_class
 have f6:=F.slot_gs_get.lookup
 have f7:=F.slot_gs_set.lookup
 have LC:Looks (model prog w) h (typeLookup (.ref C) "__class__") (some (.builtin "object.__class__")):=looks_findIn X Z.cls
 repeat (any_goals (first | assumption | (with_reducible refine wpAny_loadPart_at hx ?_;rw[hc]) | (with_reducible refine LC.at ?_) | wp_step))
 refine zvB X Z hx hc ?_
 repeat (any_goals (first | assumption | wp_step))
theorem ztD {tk:Tok}{R:Result->Shared->Prop}(X:K.In h)(Z:znS K C)(hx:h.get? a=some o)(hc:o.cls=.ref C)(hq:R (.ok (.ret (.ref C))) ⟨h,g,d,t,os⟩) :
  codeAny (model prog w) A (.call (.builtin "BaseException.__getattribute__") ⟨[.ref a,.str "__class__" tk],[]⟩) R ⟨h,g,d,t,os⟩ :=
 codeAny_call_builtin F.attr_ValueError.ga.plain F.entry_bexc_ga (zmJ X Z hx hc (zrb X Z hx hc hq))
theorem zxS {tk:Tok}{Q:Value->Shared->Prop}(X:K.In h)(Z:znS K C)(hx:h.get? a=some o)(hc:o.cls=.ref C)(hq:Q (.ref C) ⟨h,g,d,t,os⟩) :
  wpAny (model prog w) A (getAttrBy (.ref a) (.str "__class__" tk) false) Q E ⟨h,g,d,t,os⟩:=by
 have f3:=F.attr_ValueError.ga.bind (.ref a)
 have hx2:(Value.builtin "BaseException.__getattribute__"==Value.builtin "object.__getattribute__")=false:=by decide +kernel
 have hx1:(onTheHeap (Value.ref C)&&Value.builtin "BaseException.__getattribute__"==Value.builtin "object.__getattribute__")=false:=by rw[hx2];rfl
 have L1:Looks (model prog w) h (typeLookup (.ref C) "__getattribute__") (some (.builtin "BaseException.__getattribute__")):=looks_findIn X Z.ga
 have L2:Looks (model prog w) h (typeLookup (.ref C) "__getattr__") none:=looks_findIn X Z.gt
 repeat (any_goals (first | assumption | (with_reducible refine wpAny_loadPart_at hx ?_;rw[hc]) | (with_reducible refine L1.at ?_) | (with_reducible refine L2.at ?_) | wp_step))
 refine ztD X Z hx hc ?_
 repeat (any_goals (first | assumption | wp_step))
theorem ztE {Q:Option Value->Shared->Prop}(X:K.In h)(Z:znS K C)(hx:h.get? a=some o)(hc:o.cls=.ref C)(hq:Q (some (.ref C)) ⟨h,g,d,t+1,os⟩):wpAny (model prog w) A (getAttr? (.ref a) "__class__") Q E ⟨h,g,d,t,os⟩:=by
 unfold getAttr? getAttrBy?
 repeat (any_goals (first | assumption | with_reducible apply zxS X Z hx hc | wp_step))
end
def ExD (a C:Addr)(dc:Option Addr):Heap->Prop:=fun h=>∃ o vs,h.get? a=some o/\o.cls=.ref C/\o.data=.fields vs/\o.dict=dc
theorem znl {K:Frag}{a C:Addr}{dc:Option Addr}(Z:znS K C)(hC:(clsIn K C).isSome=true):KitX K (.ref a) (.ref C) (ExD a C dc) where
 ty:=fun _ _ _ ⟨o,_,h1,h2,_⟩=>h2▸(Looks.ld h1).andThen .now
 it:=fun _ _ X _=>by
  obtain⟨cd,hcD⟩:=Option.isSome_iff_exists.mp hC
  unfold clsIn at hcD
  split at hcD
  ·rename_i c' d' cd' sl' ho
   intro A' Q' E' s' k q
   unfold isType loadHead
   exact wpAny_bind (wpAny_loadPart (k _ _ (X _ _ ho)) (wpAny_pure q))
  ·cases hcD
 ne:=fun h tp dd its n sl X htp=>by
  obtain⟨cd,hcD⟩:=Option.isSome_iff_exists.mp hC
  refine Bool.eq_false_iff.mpr fun q=>?_
  have e:C=tp:=Value.ref.inj (beq_iff_eq.mp q)
  subst e
  unfold clsIn at hcD
  split at hcD
  ·rename_i c' d' cd' sl' ho
   have z:=(X _ _ ho).symm.trans htp
   cases z
  ·cases hcD
 ca:=fun {_ _ _ _ _ s} X ⟨o,_,h1,h2,_⟩ k=>by
  obtain⟨h,g,d,t,os⟩:=s
  exact ztE X Z h1 h2 k
theorem znS.isCls {K:Frag}{C:Addr}(Z:znS K C):(clsIn K C).isSome=true:=by
 obtain⟨cd,a,b⟩:=Option.bind_eq_some_iff.mp Z.ob
 rw[a];rfl
def zeX:List String:=["NoneType","bool","int","str","tuple","list","dict"]
structure XC (K:Frag) (x:Str) (C:Addr):Prop where
 ns:nsIn K mainGlobals x=some (some (.ref C))
 ek:znS K C
 bt:∀ T∈zeX,kitOne K (.ref C) (.type T)=some false
end DL
namespace DL
open PySem PySem.Spec PyProof.Rows L2
theorem zi6 (o:Obj)(f:Array Value->Array Value):(o.mapFields f).dict=o.dict:=by unfold Obj.mapFields;split<;>rfl
def zlN (h:Heap)(e:Addr)(dc:Option Addr):Prop:=∃ o,h.get? e=some o/\o.dict=dc
section
variable {M:Model}{A:Around}{E:Value->Shared->Prop}{s:Shared}{base:Heap}{env:PySem.Env}{outer l:List PySem.Env}{L e:Addr}{cls a0 fl:Value}{dc:Option Addr}{Q:Unit->Shared->Prop}
theorem znr {oe:Obj}{vs:Array Value}{head:Value}{b0:Bool}(hfr:A.frames=some (env::outer))(hl:s.heap.FunFrames base (env::outer))(hf:env.frame=some L)(he:s.heap.get? e=some oe)(kb:base.StaysIn s.heap)(hen:base.get? e=none)(hd:oe.data=.fields vs)(hz:1 < vs.size)(h0:vs[0]?=some a0)
  (h:∀ h',Heap.NotedW base (env::outer) e oe.cls a0 (rawInt L) s.heap h'->zlN h' e oe.dict->Q () { s with heap:=h' }) :
  wpAny M A (do
   let a ← frameOf env
   let pl ← entryPlaceOf L b0
   let b ← EntryCells.newEntry head a .none (rawInt L) .none pl
   setField (.ref e) 1 b) Q E s:=by
 have nf:e∉(env::outer).filterMap (·.frame):=fun hm=>by
  obtain⟨_,o,ho,q⟩:=hl.mem hm
  rw[he] at ho;cases ho;exact q vs hd
 refine wpAny_bind (wpAny_frameOf_fun hfr hl hf fun g ⟨_,same,slots⟩=>wpAny_bind (wpAny_entryPlaceOf fun pl hpl=>?_))
 have ge:g.get? e=some oe:=(same e nf).trans he
 have up:∀ (N:Obj) (f:Obj->Obj) (b:Addr) (o:Obj),b≠e->g.get? b=some o->((g.push N).update e f).get? b=some o:=fun N f b o hb q=>(Heap.get?_update_other _ _ (Ne.symm hb)).trans (Heap.get?_push_of_some _ q)
 have ne:∀ b o,s.heap.get? b=some o->(∀ vs,o.data≠.fields vs)->b≠e:=fun b o q z c=>by subst c;rw[he] at q;cases q;exact z vs hd
 have kg:base.StaysIn g:=fun b o q=>(same b fun hm=>by rw[(hl.mem hm).1] at q;cases q).trans (kb b o q)
 unfold EntryCells.newEntry newFields
 refine wpAny_bind (wpAny_newObj_type ?_ (hpl.sizeOk5 _ _ _ _ _))
 have d3:=Obj.data_mapFields hd (·.setIfInBounds 1 (Value.ref g.objs.size))
 have hTe:g.objs.size≠e:=Nat.ne_of_gt (Heap.lt_size ge)
 have at_e:∀ N:Obj,((g.push N).update e (Obj.mapFields (·.setIfInBounds 1 (Value.ref g.objs.size)))).get? e=some (oe.mapFields (·.setIfInBounds 1 (Value.ref g.objs.size))):=fun N=>Heap.get?_update_self _ (Heap.get?_push_of_some _ ge) (Obj.isFreed_of_fields d3)
 refine wpAny_setField (Heap.get?_push_of_some _ ge) hd hz (h _ ⟨fun b o q=>up _ _ b o (fun c=>by subst c;rw[hen] at q;cases q) (kg b o q),hl.of_keeps fun b o q z=>?_,?_,fun b o q z=>?_⟩ ⟨_,at_e _,zi6 _ _⟩)
 ·obtain⟨sl,x⟩:=slots b o q
  exact⟨_,up _ _ b _ (ne b o q z) x,rfl⟩
 ·refine⟨_,_,g.objs.size,_,_,at_e _,⟨Obj.cls_mapFields _ _,?_⟩,d3,?_,kg.fresh,hTe,(Heap.get?_update_other _ _ (Ne.symm hTe)).trans (Heap.get?_push_size g rfl),rfl,?_⟩
  ·rw[Array.getElem?_setIfInBounds_ne (by decide)];exact h0
  ·simp [hz]
  ·first | (simp;done) | (rcases hpl with rfl | ⟨_,_,_,_,_,_,_,rfl⟩<;>simp)
 ·obtain⟨sl,x⟩:=slots b o q
  exact⟨sl,up _ _ b _ (ne b o q z) x⟩
theorem zsi {oe:Obj}{vs:Array Value}(hfr:A.frames=some (env::outer))(hl:s.heap.FunFrames base (env::outer))(hf:env.frame=some L)(he:s.heap.get? e=some oe)(kb:base.StaysIn s.heap)(hen:base.get? e=none)(hd:oe.data=.fields vs)(h1:vs[1]?=some .none)(h0:vs[0]?=some a0)
  (h:∀ h',Heap.NotedW base (env::outer) e oe.cls a0 (rawInt L) s.heap h'->zlN h' e oe.dict->Q () { s with heap:=h' }):wpAny M A (noteFrame (.ref e) env) Q E s:=by
 unfold noteFrame
 simp only[hf]
 refine wpAny_bind (wpAny_field he hd h1 ?_)
 rw[if_neg (by decide)]
 exact znr hfr hl hf he kb hen hd (Array.getElem?_eq_some_iff.mp h1).1 h0 h
theorem zqp (hfr:A.frames=some (env::outer))(hl:s.heap.FunFrames base (env::outer))(hf:env.frame=some L)(ht:s.heap.TracedW base e cls a0)(hc:zlN s.heap e dc)(kb:base.StaysIn s.heap)(hen:base.get? e=none)
  (h:∀ h',Heap.NotedW base (env::outer) e cls a0 (rawInt L) s.heap h'->zlN h' e dc->Q () { s with heap:=h' }):wpAny M A (noteFrame (.ref e) env) Q E s:=by
 obtain⟨oe,vs,T,oT,ts,he,⟨rfl,h0⟩,hd,h1,hnT,hTe,hT,dT,h3⟩:=ht
 obtain⟨o',q,rfl⟩:=hc
 rw[he] at q;cases q
 have oth:∀ (f:Obj->Obj) (b:Addr),b≠T->(s.heap.update T f).get? b=s.heap.get? b:=fun f b hb=>Heap.get?_update_other _ _ (Ne.symm hb)
 have ne:∀ b o,s.heap.get? b=some o->(∀ vs,o.data≠.fields vs)->b≠T:=fun b o q z c=>by subst c;rw[hT] at q;cases q;exact z ts dT
 unfold noteFrame
 simp only[hf]
 refine wpAny_bind (wpAny_field he hd h1 ?_)
 rw[if_pos (by simp)]
 refine wpAny_bind (wpAny_field hT dT h3 ?_)
 rw[if_neg (by simp [rawInt])]
 refine wpAny_bind (wpAny_setField hT dT (Array.getElem?_eq_some_iff.mp h3).1 ?_)
 refine znr hfr (hl.of_keeps fun b o q z=>⟨o,(oth _ b (ne b o q z)).trans q,rfl⟩) hf ((oth _ e (Ne.symm hTe)).trans he) (fun b o q=>(oth _ b fun c=>by subst c;rw[hnT] at q;cases q).trans (kb b o q)) hen hd (Array.getElem?_eq_some_iff.mp h1).1 h0 fun h' ⟨x1,x2,x3,x4⟩ x5=>h h' ⟨x1,x2,x3,fun b o q z=>x4 b o ((oth _ b (ne b o q z)).trans q) z⟩ x5
theorem zf4 (kb:base.StaysIn s.heap)(hl:s.heap.FunFrames base l)(ht:s.heap.TracedAtW base e cls a0 fl)(hc:zlN s.heap e dc)
  (h:∀ h',base.StaysIn h'->h'.FunFrames base l->h'.TracedW base e cls a0->(∀ b o,s.heap.get? b=some o->(∀ vs,o.data≠.fields vs)->h'.get? b=some o)->zlN h' e dc->Q () { s with heap:=h' }):wpAny M A (setFlight (.ref e) none) Q E s:=by
 obtain⟨oe,vs,T,oT,ts,he,hcl,hd,h1,hnT,hTe,hT,dT,h3⟩:=ht
 have z3:3 < ts.size:=(Array.getElem?_eq_some_iff.mp h3).1
 have oth:∀ (f:Obj->Obj) (b:Addr),b≠T->(s.heap.update T f).get? b=s.heap.get? b:=fun f b hb=>Heap.get?_update_other _ _ (Ne.symm hb)
 have ne:∀ b o,s.heap.get? b=some o->(∀ vs,o.data≠.fields vs)->b≠T:=fun b o q z c=>by subst c;rw[hT] at q;cases q;exact z ts dT
 unfold setFlight
 refine wpAny_bind (wpAny_field he hd h1 ?_)
 rw[if_pos (by simp)]
 obtain⟨o',q',rfl⟩:=hc
 refine wpAny_setField hT dT z3 (h _ (fun b o q=>(oth _ b fun c=>by subst c;rw[hnT] at q;cases q).trans (kb b o q)) (hl.of_keeps fun b o q z=>⟨o,(oth _ b (ne b o q z)).trans q,rfl⟩) ?_ (fun b o q z=>(oth _ b (ne b o q z)).trans q) ⟨o',(oth _ e (Ne.symm hTe)).trans q',rfl⟩)
 exact⟨oe,vs,T,_,_,(oth _ e (Ne.symm hTe)).trans he,hcl,hd,h1,hnT,hTe,Heap.get?_update_self _ hT (Obj.isFreed_of_fields (Obj.data_mapFields dT _)),Obj.data_mapFields dT _,by simp [z3]⟩
def zzr (h:Heap)(e:Addr)(ox:Option Addr):Prop:=∃ dc,zlN h e dc/\(ox=none∨ox=dc)
theorem zoq {oe:Obj}{vs:Array Value}(hfr:A.frames=some (env::outer))(hl:s.heap.FunFrames base (env::outer))(hf:env.frame=some L)(he:s.heap.get? e=some oe)(kb:base.StaysIn s.heap)(hen:base.get? e=none)(hd:oe.data=.fields vs)(h1:vs[1]?=some .none)(h0:vs[0]?=some a0)
  (h:∀ h',Heap.FlyingW base outer e oe.cls a0 h'->s.heap.UpToSlots h'->zlN h' e oe.dict->Q () { s with heap:=h' }):wpAny M A (leaving env (.ref e)) Q E s:=by
 unfold leaving
 refine wpAny_bind (zsi hfr hl hf he kb hen hd h1 h0 fun g ⟨k1,k2,k3,k4⟩ dg=>?_)
 refine zf4 (s:={ s with heap:=g }) k1 k2 k3 dg fun h' m1 ⟨_,_,m2⟩ m3 m4 dh=>h h' ⟨m1,hen,m2,m3⟩ (fun b o q z=>?_) dh
 obtain⟨sl,x⟩:=k4 b o q z
 exact⟨sl,m4 b _ x z⟩
theorem zqq (hfr:A.frames=some (env::outer))(hf:env.frame=some L)(hfl:Heap.FlyingW base (env::outer) e cls a0 s.heap)(hc:zlN s.heap e dc)
  (h:∀ h',Heap.FlyingW base outer e cls a0 h'->s.heap.UpToSlots h'->zlN h' e dc->Q () { s with heap:=h' }):wpAny M A (leaving env (.ref e)) Q E s:=by
 obtain⟨f1,f2,f3,f4⟩:=hfl
 unfold leaving
 refine wpAny_bind (zqp hfr f3 hf f4 hc f1 f2 fun g ⟨k1,k2,k3,k4⟩ dg=>?_)
 refine zf4 (s:={ s with heap:=g }) k1 k2 k3 dg fun h' m1 ⟨_,_,m2⟩ m3 m4 dh=>h h' ⟨m1,f2,m2,m3⟩ (fun b o q z=>?_) dh
 obtain⟨sl,x⟩:=k4 b o q z
 exact⟨sl,m4 b _ x z⟩
theorem zsj (hfr:A.frames=some (env::outer))(hf:env.frame=some L)(hfl:Heap.FlyingW base (env::outer) e cls a0 s.heap)(hc:zlN s.heap e dc)
  (h:∀ h',Heap.HeldW base (env::outer) e cls a0 L h'->s.heap.UpToSlots h'->zlN h' e dc->Q () { s with heap:=h' }):wpAny M A (noteFrame (.ref e) env) Q E s:=by
 obtain⟨f1,f2,f3,f4⟩:=hfl
 exact zqp hfr f3 hf f4 hc f1 f2 fun g ⟨k1,k2,k3,k4⟩ dg=>h g ⟨k1,f2,k2,k3⟩ k4 dg
theorem zsk (hh:Heap.HeldW base l e cls a0 L s.heap)(hc:zlN s.heap e dc)(h:∀ h',Heap.FlyingW base l e cls a0 h'->s.heap.UpToSlots h'->zlN h' e dc->Q () { s with heap:=h' }):wpAny M A (setFlight (.ref e) none) Q E s:=by
 obtain⟨f1,f2,f3,f4⟩:=hh
 exact zf4 f1 f3 f4 hc fun h' k1 k2 k3 k4 k5=>h h' ⟨k1,f2,k2,k3⟩ (fun b o q z=>⟨o.slots,k4 b o q z⟩) k5
theorem zsl (hh:Heap.FlyingW base l e cls a0 s.heap)(hc:zlN s.heap e dc)(h:∀ h',Heap.FlyingW base l e cls a0 h'->s.heap.UpToSlots h'->zlN h' e dc->Q () { s with heap:=h' }):wpAny M A (setFlight (.ref e) none) Q E s:=by
 obtain⟨f1,f2,f3,f4⟩:=hh
 exact zf4 f1 f3 f4.at hc fun h' k1 k2 k3 k4 k5=>h h' ⟨k1,f2,k2,k3⟩ (fun b o q z=>⟨o.slots,k4 b o q z⟩) k5
end
end DL
namespace L2
open PySem PySem.Spec PyProof.Rows
section
variable {κ:Type}[DecidableEq κ]
def zyg (kvs:List (κ×V))(k:κ)(v:V):List (κ×V) :=
 if(kvs.any fun kv=>decide (kv.1=k))=true then kvs.map (fun kv=>if kv.1=k then(kv.1,v) else kv) else kvs++[(k,v)]
def zuU (kvs:List (κ×V))(k:κ):List (κ×V):=kvs.filter fun kv=>decide (kv.1≠k)
end
section
variable {P:Program}{w:World}{H:Hp}{h:Heap}{a:Addr}
end
section
variable {X:Cx}{pins:List (Addr×Obj)}{σ:St}{H:Hp}{s:Shared}{a:Addr}{y v:V}{u r:Value}{o:Option V}{A:Around}{E:Value->Shared->Prop}
theorem Inv.big (I:Inv X pins σ H s):sysModules < s.heap.objs.size:=by
 have h:mainGlobals < s.heap.objs.size:=(I.mod.glob.keeps I.bk).lt
 exact Nat.lt_trans (by decide) h
end
section
variable {X:Cx}{pins:List (Addr×Obj)}{σ:St}{H:Hp}{s:Shared}{a:Addr}{kvs:List (Key×V)}{k:Key}{u:Value}{A:Around}{E:Value->Shared->Prop}
end
section
variable {X:Cx}{o i e value:Expr}{pos pos' tpos:Pos}{td ty tv:TE}
end
theorem zsA {P:Program}{w:World}{H:Hp}(h:Heap)(hb:sysModules < h.objs.size):zb6 P w H (h.push { cls:=.type "dict",data:=.dict #[] }) h.objs.size (.dK []) :=
 ⟨Nat.zero_le _,beq_eq_false_iff_ne.mpr (Ne.symm (Nat.ne_of_lt hb)),[],.nil,Heap.DictOf.new h⟩
def zvR:TE:=fun _ H Q=>∀ p,H p=none->Q (.ref p) (upd H p (.dK []))
section
variable {X:Cx}{pos:Pos}
theorem zrI:PE X (.Dict [] [] pos) zvR:=fun pins s σ H Q I h =>
 wpAny_Dict_empty ⟨.ref s.heap.objs.size,_,I.laid (a:=s.heap.objs.size) (o:=.dK []) (t':=s.toks) (fun _ _ q=>Heap.get?_push_of_some _ q) (Nat.le_refl _) (zsA s.heap I.big),rfl,h _ (I.hok.fresh (Nat.le_refl _))⟩
end
section
variable {X:Cx}{pins:List (Addr×Obj)}{σ:St}{H:Hp}{s:Shared}{a:Addr}{y d:V}{u r:Value}{o:Option V}{A:Around}{E:Value->Shared->Prop}
end
section
variable {X:Cx}{o e f:Expr}{apos cpos:Pos}{td ty tx:TE}
end
section
variable {X:Cx}{pins:List (Addr×Obj)}{σ:St}{H:Hp}{s:Shared}{a:Addr}{kvs:List (Key×V)}{A:Around}{E:Value->Shared->Prop}
end
section
variable {X:Cx}{pins:List (Addr×Obj)}{σ:St}{H:Hp}{s:Shared}{a:Addr}{y:V}{u:Value}{A:Around}{E:Value->Shared->Prop}
end
end L2
namespace DL
open PySem PySem.Spec PyProof.Rows L2
def nst:Expr->Bool
 | .Starred _ _=>false
 | _=>true
theorem zaC {e:Expr}{es:List Expr}{env:PySem.Env}(h:nst e=true):starEach (e::es) env=(false,eval e env)::starEach es env:=by
 cases e<;>first | (rw[starEach];intros;contradiction) | rw[starEach] | (cases h)
theorem zdS {e:Expr}{env:PySem.Env}(h:nst e=true):starEach [e] env=[(false,eval e env)]:=by
 rw[zaC h,starEach]
theorem za3 {env:PySem.Env}{pos:Pos}:∀ {es:List Expr},es.all nst=true->(backTo pos (starEach es env)).any (·.1)=false
 | [],_=>by rw[starEach];rfl
 | e::es,h=>by
  rw[List.all_cons,Bool.and_eq_true] at h
  rw[zaC h.1]
  have:=za3 (env:=env) (pos:=pos) h.2
  show(false||(backTo pos (starEach es env)).any (·.1))=false
  rw[this];rfl
theorem zkh {e:Expr}{env:PySem.Env}{pos:Pos}(h:nst e=true):((backTo pos (starEach [e] env)).all (fun x=>!x.1)&&(backToKw pos (keywordEach [] env)).all (fun x=>x.1.isSome)
  &&decide ([e].length+([]:List Keyword).length+(if([]:List Keyword).isEmpty then 0 else 1) < 30))=true:=by
 rw[zdS h,keywordEach];rfl
inductive Kd where
 | ins (c:Str) (ks:List Str) | dint (ks:List Int) | exf (c:Str) (ks:List Str)
inductive D where
 | non | bl (b:Bool) | int (i:Int) | str (x:Str) | tup (xs:List D) | lst (xs:List D) | dic (ks:List Str) (xs:List D) | exc (x:Str) | ob (k:Kd) (xs:List D)
structure zz6 (K:W.Frag) (ks:List Str) (C:Addr):Prop where
 cls:Cls K C
 no:∀ f∈ks,zgw K C f
 gc:W.findIn K (.ref C) "__class__"=some (some (.builtin "object.__class__"))
 gn:W.specialIn K (.builtin "object.__class__") "__get__"=some (some (.builtin "getset_descriptor.__get__"))
 tk:W.takesIn K (.builtin "object.__class__")=some true
 mo:W.mroIn K C (.type "object")=some true
 bt:∀ T∈zeX,W.kitOne K (.ref C) (.type T)=some false
def zxA (K:W.Frag)(H:Hp):Kd->Addr->List V->Prop
 | .ins c ks,a,vs=>∃ C dx,W.nsIn K mainGlobals c=some (some (.ref C))/\zz6 K ks C/\H a=some (.ins C dx (ks.zip vs))/\ks.length=vs.length
 | .dint ks,a,vs=>∃ kvs,Rd H a (.dK kvs)/\kvs=(ks.map Sum.inl).zip vs/\ks.length=vs.length
 | .exf c ks,a,vs=>∃ C dx fs,XC K c C/\Rd H a (.ext (ExD a C (some dx)))/\H dx=some (.xd fs)/\ks.length=vs.length/\∀ (i:Nat) (f:Str) (v:V),ks[i]?=some f->vs[i]?=some v->fs.lookup f=some v
structure Exn where
 cls:Str
 flds:List (Str×D)
inductive Res (α:Type) where
 | ok (a:α) | exn (x:Exn) | stuck
def Res.bind {α β:Type}(r:Res α)(f:α->Res β):Res β:=match r with
 | .ok a=>f a
 | .exn x=>.exn x
 | .stuck=>.stuck
mutual
def Rep (K:W.Frag)(H:Hp):D->V->Prop
 | .non,v=>v=.non
 | .bl b,v=>v=.bl b
 | .int i,v=>v=.int i
 | .str x,v=>v=.str x
 | .tup ds,v=>∃ a vs,v=.ref a/\SqT K H a vs/\Reps K H ds vs
 | .lst ds,v=>∃ a vs,v=.ref a/\SqL K H a vs/\Reps K H ds vs
 | .dic ks ds,v=>∃ a kvs vs,v=.ref a/\Rd H a (.dK kvs)/\kvs=(ks.map Sum.inr).zip vs/\ks.length=vs.length/\Reps K H ds vs
 | .exc x,v=>∃ a C dc,v=.ref a/\XC K x C/\Rd H a (.ext (ExD a C dc))
 | .ob k ds,v=>∃ a vs,v=.ref a/\zxA K H k a vs/\Reps K H ds vs
def Reps (K:W.Frag)(H:Hp):List D->List V->Prop
 | [],vs=>vs=[]
 | d::ds,vs=>∃ v r,vs=v::r/\Rep K H d v/\Reps K H ds r
end
theorem zax.rd {H H':Hp}(e:zax H H'){a:Addr}{o:HO}(h:Rd H a o):Rd H' a o:=by
 rcases h with h | ⟨o',h⟩
 ·exact .inl (e _ _ h)
 ·exact .inr ⟨o',e _ _ h⟩
theorem zax.sqT {K:W.Frag}{H H':Hp}(e:zax H H'){a:Addr}{xs:List V}(h:SqT K H a xs):SqT K H' a xs:=by
 rcases h with h | h
 ·exact .inl (zax.rd e h)
 ·exact .inr h
theorem zax.sqL {K:W.Frag}{H H':Hp}(e:zax H H'){a:Addr}{xs:List V}(h:SqL K H a xs):SqL K H' a xs:=by
 rcases h with h | h
 ·exact .inl (zax.rd e h)
 ·exact .inr h
theorem zxA.mono {K:W.Frag}{H H':Hp}(e:zax H H'):∀ {k:Kd}{a:Addr}{vs:List V},zxA K H k a vs->zxA K H' k a vs
 | .ins c ks,a,vs,⟨C,dx,h0,h1,h2,h3⟩=>⟨C,dx,h0,h1,e _ _ h2,h3⟩
 | .dint ks,a,vs,⟨kvs,h1,h2,h3⟩=>⟨kvs,zax.rd e h1,h2,h3⟩
 | .exf c ks,a,vs,⟨C,dx,fs,h1,h2,h3,h4⟩=>⟨C,dx,fs,h1,zax.rd e h2,e _ _ h3,h4⟩
mutual
theorem Rep.mono {K:W.Frag}{H H':Hp}(e:zax H H'):∀ {d:D}{v:V},Rep K H d v->Rep K H' d v
 | .non,_,h=>by unfold Rep at h ⊢;exact h
 | .bl _,_,h=>by unfold Rep at h ⊢;exact h
 | .int _,_,h=>by unfold Rep at h ⊢;exact h
 | .str _,_,h=>by unfold Rep at h ⊢;exact h
 | .tup ds,_,h=>by
  unfold Rep at h ⊢
  obtain⟨a,vs,e1,e2,e3⟩:=h
  exact⟨a,vs,e1,zax.sqT e e2,Reps.mono e e3⟩
 | .lst ds,_,h=>by
  unfold Rep at h ⊢
  obtain⟨a,vs,e1,e2,e3⟩:=h
  exact⟨a,vs,e1,zax.sqL e e2,Reps.mono e e3⟩
 | .dic ks ds,_,h=>by
  unfold Rep at h ⊢
  obtain⟨a,kvs,vs,e1,e2,e3,e4,e5⟩:=h
  exact⟨a,kvs,vs,e1,zax.rd e e2,e3,e4,Reps.mono e e5⟩
 | .exc x,_,h=>by
  unfold Rep at h ⊢
  obtain⟨a,C,dc,e1,e2,e3⟩:=h
  exact⟨a,C,dc,e1,e2,zax.rd e e3⟩
 | .ob k ds,_,h=>by
  unfold Rep at h ⊢
  obtain⟨a,vs,e1,e2,e3⟩:=h
  exact⟨a,vs,e1,e2.mono e,Reps.mono e e3⟩
theorem Reps.mono {K:W.Frag}{H H':Hp}(e:zax H H'):∀ {ds:List D}{vs:List V},Reps K H ds vs->Reps K H' ds vs
 | [],_,h=>by unfold Reps at h ⊢;exact h
 | d::ds,_,h=>by
  unfold Reps at h ⊢
  obtain⟨v,r,e1,e2,e3⟩:=h
  exact⟨v,r,e1,Rep.mono e e2,Reps.mono e e3⟩
end
section
variable {K:W.Frag}{H:Hp}{v:V}{vs:List V}{d:D}{ds:List D}
theorem Rep.non_iff:Rep K H .non v↔v=.non:=by unfold Rep;exact Iff.rfl
theorem Rep.bl_iff {b}:Rep K H (.bl b) v↔v=.bl b:=by unfold Rep;exact Iff.rfl
theorem Rep.int_iff {i}:Rep K H (.int i) v↔v=.int i:=by unfold Rep;exact Iff.rfl
theorem Rep.str_iff {x}:Rep K H (.str x) v↔v=.str x:=by unfold Rep;exact Iff.rfl
theorem Rep.tup_iff:Rep K H (.tup ds) v↔∃ a vs,v=.ref a/\SqT K H a vs/\Reps K H ds vs:=by rw[Rep]
theorem Rep.lst_iff:Rep K H (.lst ds) v↔∃ a vs,v=.ref a/\SqL K H a vs/\Reps K H ds vs:=by rw[Rep]
theorem Rep.exc_iff {x}:Rep K H (.exc x) v↔∃ a C dc,v=.ref a/\XC K x C/\Rd H a (.ext (ExD a C dc)):=by rw[Rep]
theorem Rep.ob_iff {k}:Rep K H (.ob k ds) v↔∃ a vs,v=.ref a/\zxA K H k a vs/\Reps K H ds vs:=by rw[Rep]
theorem Reps.nil_iff:Reps K H [] vs↔vs=[]:=by unfold Reps;exact Iff.rfl
theorem Reps.cons_iff:Reps K H (d::ds) vs↔∃ v r,vs=v::r/\Rep K H d v/\Reps K H ds r:=by rw[Reps]
theorem Reps.nil:Reps K H [] []:=Reps.nil_iff.mpr rfl
theorem Reps.cons (h:Rep K H d v)(h':Reps K H ds vs):Reps K H (d::ds) (v::vs):=Reps.cons_iff.mpr ⟨_,_,rfl,h,h'⟩
end
theorem Reps.length {K:W.Frag}{H:Hp}:∀ {ds:List D}{vs:List V},Reps K H ds vs->ds.length=vs.length
 | [],_,h=>by rw[Reps.nil_iff.mp h];rfl
 | d::ds,_,h=>by
  obtain⟨v,r,rfl,_,h⟩:=Reps.cons_iff.mp h
  simp [Reps.length h]
theorem Reps.get {K:W.Frag}{H:Hp}:∀ {ds:List D}{vs:List V}{i:Nat}{d:D},Reps K H ds vs->ds[i]?=some d->∃ v,vs[i]?=some v/\Rep K H d v
 | [],_,_,_,h,e=>by simp at e
 | x::ds,_,0,d,h,e=>by
  obtain⟨v,r,rfl,h1,_⟩:=Reps.cons_iff.mp h
  simp at e;subst e;exact⟨v,rfl,h1⟩
 | x::ds,_,i+1,d,h,e=>by
  obtain⟨v,r,rfl,_,h2⟩:=Reps.cons_iff.mp h
  obtain⟨u,e1,e2⟩:=Reps.get (i:=i) h2 (by simpa using e)
  exact⟨u,by simpa using e1,e2⟩
theorem Reps.app {K:W.Frag}{H:Hp}:∀ {ds es:List D}{vs us:List V},Reps K H ds vs->Reps K H es us->Reps K H (ds++es) (vs++us)
 | [],_,_,_,h,h'=>by rw[Reps.nil_iff.mp h];exact h'
 | d::ds,_,_,_,h,h'=>by
  obtain⟨v,r,rfl,h1,h2⟩:=Reps.cons_iff.mp h
  exact Reps.cons h1 (Reps.app h2 h')
theorem Reps.take {K:W.Frag}{H:Hp}:∀ {ds:List D}{vs:List V}(n:Nat),Reps K H ds vs->Reps K H (ds.take n) (vs.take n)
 | _,_,0,_=>by simp;exact Reps.nil
 | [],_,n+1,h=>by rw[Reps.nil_iff.mp h];exact Reps.nil
 | d::ds,_,n+1,h=>by
  obtain⟨v,r,rfl,h1,h2⟩:=Reps.cons_iff.mp h
  exact Reps.cons h1 (Reps.take n h2)
theorem Reps.drop {K:W.Frag}{H:Hp}:∀ {ds:List D}{vs:List V}(n:Nat),Reps K H ds vs->Reps K H (ds.drop n) (vs.drop n)
 | _,_,0,h=>by simpa using h
 | [],_,n+1,h=>by rw[Reps.nil_iff.mp h];exact Reps.nil
 | d::ds,_,n+1,h=>by
  obtain⟨v,r,rfl,h1,h2⟩:=Reps.cons_iff.mp h
  exact Reps.drop n h2
theorem Reps.set {K:W.Frag}{H:Hp}{d:D}{v:V}(h:Rep K H d v):∀ {ds:List D}{vs:List V}(n:Nat),Reps K H ds vs->Reps K H (ds.set n d) (vs.set n v)
 | [],_,n,h'=>by rw[Reps.nil_iff.mp h'];exact Reps.nil
 | x::ds,_,0,h'=>by
  obtain⟨v,r,rfl,h1,h2⟩:=Reps.cons_iff.mp h'
  exact Reps.cons h h2
 | x::ds,_,n+1,h'=>by
  obtain⟨v,r,rfl,h1,h2⟩:=Reps.cons_iff.mp h'
  exact Reps.cons h1 (Reps.set h n h2)
theorem Reps.ints {K:W.Frag}{H:Hp}:∀ (ns:List Int),Reps K H (ns.map D.int) (ns.map V.int)
 | []=>Reps.nil
 | n::r=>Reps.cons (Rep.int_iff.mpr rfl) (Reps.ints r)
structure za4 (H H₀ H' H₀':Hp):Prop where
 s:zax H H'
 z:zax H₀ H₀'
 sub:zax H₀' H'
 nw:∀ a,H₀' a≠none->H₀ a=none->H a=none
theorem za4.refl {H H₀:Hp}(h:zax H₀ H):za4 H H₀ H H₀:=⟨zax.refl _,zax.refl _,h,fun a h1 h2=>absurd h2 h1⟩
theorem za4.trans {H H₀ H1 H01 H2 H02:Hp}(a:za4 H H₀ H1 H01)(b:za4 H1 H01 H2 H02):za4 H H₀ H2 H02 :=
 ⟨a.s.trans b.s,a.z.trans b.z,b.sub,fun x h1 h2=>by
  cases q:H01 x with
  | none=>exact a.s.free (b.nw x h1 q)
  | some o=>exact a.nw x (by rw[q];simp) h2⟩
theorem za4.alloc {H H₀:Hp}{p:Addr}{o:HO}(hs:zax H₀ H)(hp:H p=none):za4 H H₀ (upd H p o) (upd H₀ p o) :=
 ⟨same_new hp o,same_new (hs.free hp) o,fun b u e=>by
  by_cases hb:b=p
  ·subst hb;rw[zak] at e ⊢;exact e
  ·rw[zah hb] at e ⊢;exact hs _ _ e,fun a h1 h2=>by
  by_cases hb:a=p
  ·subst hb;exact hp
  ·rw[zah hb] at h1;exact absurd h2 h1⟩
where
 same_new {H:Hp}{p:Addr}(h:H p=none) (o:HO):zax H (upd H p o):=fun b u q=>by rw[zah (zaB q h)];exact q
inductive Sl where
 | no | sh (d:D) | ow (d:D) | ox (j:Nat) (ds:List D) | pt (a:Addr)
abbrev Ev:=List Sl
def Reads (K:W.Frag)(H₀:Hp)(σ:L2.St)(ρ:Ev):Prop:=∀ (i:Nat) (d:D),ρ[i]?=some (.sh d)->∃ v,σ[i]?=some (some v)/\Rep K H₀ d v
theorem Reads.mono {K:W.Frag}{H H':Hp}{σ:L2.St}{ρ:Ev}(e:zax H H')(r:Reads K H σ ρ):Reads K H' σ ρ:=fun i d h =>
 let ⟨v,h1,h2⟩:=r i d h
 ⟨v,h1,h2.mono e⟩
def ExR (K:W.Frag)(H:Hp)(x:Exn)(C:Value)(ox:Option Addr):Prop :=
 (∃ c,C=.ref c/\XC K x.cls c)/\match ox with
  | none=>x.flds=[]
  | some a=>∃ fs,H a=some (.xd fs)/\∀ n d,x.flds.lookup n=some d->∃ v,fs.lookup n=some v/\Rep K H d v
def post (K:W.Frag)(E:XK)(H H₀:Hp)(r:Res D)(Q:VK):Prop:=match r with
 | .ok d=>∀ v H' H₀',za4 H H₀ H' H₀'->Rep K H₀' d v->Q v H'
 | .exn x=>∀ C ox H' H₀',za4 H H₀ H' H₀'->ExR K H₀' x C ox->E C ox H'
 | .stuck=>False
def zn6 (K:W.Frag)(E:XK)(H H₀:Hp)(r:Res (List D))(Q:List V->Hp->Prop):Prop:=match r with
 | .ok ds=>∀ vs H' H₀',za4 H H₀ H' H₀'->Reps K H₀' ds vs->Q vs H'
 | .exn x=>∀ C ox H' H₀',za4 H H₀ H' H₀'->ExR K H₀' x C ox->E C ox H'
 | .stuck=>False
def zl2 (K:W.Frag)(E:XK)(H H₀:Hp)(r:Res D)(Q:Bool->Hp->Prop):Prop:=match r with
 | .ok (.bl b)=>∀ H' H₀',za4 H H₀ H' H₀'->Q b H'
 | .ok _=>False
 | .exn x=>∀ C ox H' H₀',za4 H H₀ H' H₀'->ExR K H₀' x C ox->E C ox H'
 | .stuck=>False
section
variable {K:W.Frag}{E:XK}{H H₀ H1 H01:Hp}
theorem post.grow {r:Res D}{Q:VK}(h:post K E H H₀ r Q)(g:za4 H H₀ H1 H01):post K E H1 H01 r Q:=by
 cases r with
 | ok d=>exact fun v H' H₀' g'=>h v H' H₀' (g.trans g')
 | exn x=>exact fun C ox H' H₀' g'=>h C ox H' H₀' (g.trans g')
 | stuck=>exact h
theorem zn6.grow {r:Res (List D)}{Q:List V->Hp->Prop}(h:zn6 K E H H₀ r Q)(g:za4 H H₀ H1 H01):zn6 K E H1 H01 r Q:=by
 cases r with
 | ok d=>exact fun v H' H₀' g'=>h v H' H₀' (g.trans g')
 | exn x=>exact fun C ox H' H₀' g'=>h C ox H' H₀' (g.trans g')
 | stuck=>exact h
theorem zl2.grow {r:Res D}{Q:Bool->Hp->Prop}(h:zl2 K E H H₀ r Q)(g:za4 H H₀ H1 H01):zl2 K E H1 H01 r Q:=by
 cases r with
 | ok d =>
  cases d with
  | bl b=>exact fun H' H₀' g'=>h H' H₀' (g.trans g')
  | _=>exact h
 | exn x=>exact fun C ox H' H₀' g'=>h C ox H' H₀' (g.trans g')
 | stuck=>exact h
end
def tD (K:W.Frag)(E:XK)(f:Ev->Res D):TE:=fun σ H Q=>∃ H₀ ρ,zax H₀ H/\Reads K H₀ σ ρ/\post K E H H₀ (f ρ) Q
def tDA (K:W.Frag)(E:XK)(f:Ev->Res (List D)):TA:=fun σ H Q=>∃ H₀ ρ,zax H₀ H/\Reads K H₀ σ ρ/\zn6 K E H H₀ (f ρ) Q
def tDT (K:W.Frag)(E:XK)(f:Ev->Res D):TT:=fun σ H Q=>∃ H₀ ρ,zax H₀ H/\Reads K H₀ σ ρ/\zl2 K E H H₀ (f ρ) Q
structure DE (X:Cx) (E:XK) (e:Expr) (f:Ev->Res D):Prop where
 o:PE X e (tD X.K E f)
structure DA (X:Cx) (E:XK) (es:List Expr) (f:Ev->Res (List D)):Prop where
 o:PA X es (tDA X.K E f)
structure DT (X:Cx) (E:XK) (e:Expr) (f:Ev->Res D):Prop where
 o:PT X e (tDT X.K E f)
structure DW (X:Cx) (E:XK) (e:Expr) (f:Ev->Res D):Prop where
 o:PW X e (tDT X.K E f)
section
variable {X:Cx}{E:XK}{e a b:Expr}{es:List Expr}{f g:Ev->Res D}{fa:Ev->Res (List D)}{pos:Pos}
theorem zaG {t t':TE}(h:PE X e t)(w:∀ σ H Q,t' σ H Q->t σ H Q):PE X e t':=fun pins s σ H Q I q=>h pins s σ H Q I (w σ H Q q)
theorem zj4 {t t':TA}(h:PA X es t)(w:∀ σ H Q,t' σ H Q->t σ H Q):PA X es t':=fun pos pins s σ H Q I q=>h pos pins s σ H Q I (w σ H Q q)
theorem zdY {t t':TT}(h:PT X e t)(w:∀ σ H Q,t' σ H Q->t σ H Q):PT X e t':=fun pins s σ H Q I q=>h pins s σ H Q I (w σ H Q q)
theorem zl1 {t t':TT}(h:PW X e t)(w:∀ σ H Q,t' σ H Q->t σ H Q):PW X e t':=fun wh pins s σ H Q I q=>h wh pins s σ H Q I (w σ H Q q)
def zae (i:Nat):Ev->Res D:=fun ρ=>match ρ[i]? with
 | some (.sh d)=>.ok d
 | _=>.stuck
def dC (d:D):Ev->Res D:=fun _=>.ok d
theorem zxh {i:Nat}{x:Str}(hN:X.N[i]?=some x)(hv:Vis X.env.scope x)(hd:(x==("__debug__" : Str))=false:=by decide)(hcd:(x==("__classdict__" : Str))=false:=by decide):DE X E (.Name x pos) (zae i):=by
 refine⟨?_⟩
 refine zaG (zfk hN hv hd hcd) fun σ H Q ⟨H₀,ρ,hs,hr,q⟩=>?_
 unfold zae at q
 cases e:ρ[i]? with
 | none=>rw[e] at q;exact q.elim
 | some s =>
  rw[e] at q
  cases s with
  | sh d =>
   obtain⟨v,e1,e2⟩:=hr i d e
   exact⟨v,e1,q v H H₀ (za4.refl hs) e2⟩
  | no=>exact q.elim
  | ow d=>exact q.elim
  | ox j ds=>exact q.elim
  | pt a=>exact q.elim
theorem zaf {i j}:DE X E (.Constant (.int i) j pos) (dC (.int i)):=⟨zaG zwv fun σ H Q ⟨H₀,ρ,hs,hr,q⟩=>q _ H H₀ (za4.refl hs) (Rep.int_iff.mpr rfl)⟩
theorem zgc {i j}:DE X E (.Constant (.bool i) j pos) (dC (.bl i)):=⟨zaG zyo fun σ H Q ⟨H₀,ρ,hs,hr,q⟩=>q _ H H₀ (za4.refl hs) (Rep.bl_iff.mpr rfl)⟩
theorem zdf {j}:DE X E (.Constant .none j pos) (dC .non):=⟨zaG zwt fun σ H Q ⟨H₀,ρ,hs,hr,q⟩=>q _ H H₀ (za4.refl hs) (Rep.non_iff.mpr rfl)⟩
theorem zde {x j}:DE X E (.Constant (.str x) j pos) (dC (.str x)):=⟨zaG zwq fun σ H Q ⟨H₀,ρ,hs,hr,q⟩=>q _ H H₀ (za4.refl hs) (Rep.str_iff.mpr rfl)⟩
theorem zu0 {x:Str}{v:V}{u:Value}{d:D}(hg:Gl X x)(hm:X.mg x=some u)(r:zbP v u)(hr:∀ H,Rep X.K H d v)(hd:(x==("__debug__" : Str))=false:=by decide):DE X E (.Name x pos) (dC d) :=
 ⟨zaG (zub hg hm r hd) fun σ H Q ⟨H₀,ρ,hs,hr',q⟩=>q _ H H₀ (za4.refl hs) (hr H₀)⟩
def zac (f g:Ev->Res D)(op:D->D->Res D):Ev->Res D:=fun ρ=>(f ρ).bind fun x=>(g ρ).bind fun y=>op x y
def zbv (f:Ev->Res D)(op:D->Res D):Ev->Res D:=fun ρ=>(f ρ).bind op
def OpD (K:W.Frag)(E:XK)(r:R2)(op:D->D->Res D):Prop:=∀ (x y:D) (v u:V) (H H₀:Hp) (Q:VK),zax H₀ H->Rep K H₀ x v->Rep K H₀ y u->post K E H H₀ (op x y) Q->r v u H Q
theorem zfS {r:R2}{op:D->D->Res D}(ho:OpD X.K E r op)(σ:L2.St)(H:Hp)(Q:VK)(h:tD X.K E (zac f g op) σ H Q):tOp r (tD X.K E f) (tD X.K E g) σ H Q:=by
 obtain⟨H₀,ρ,hs,hr,q⟩:=h
 refine⟨H₀,ρ,hs,hr,?_⟩
 unfold zac at q
 cases e1:f ρ with
 | stuck=>rw[e1] at q;exact q
 | exn x=>rw[e1] at q;exact q
 | ok x =>
  rw[e1] at q
  intro v H1 H01 g1 r1
  refine⟨H01,ρ,g1.sub,hr.mono g1.z,?_⟩
  replace q:post X.K E H H₀ ((g ρ).bind fun y=>op x y) Q:=q
  replace q:=q.grow g1
  cases e2:g ρ with
  | stuck=>rw[e2] at q;exact q
  | exn x=>rw[e2] at q;exact q
  | ok y =>
   rw[e2] at q
   intro u H2 H02 g2 r2
   exact ho x y v u H2 H02 Q g2.sub (r1.mono g2.z) r2 (post.grow (r:=op x y) q g2)
theorem zou {op:Operator}{r:R2}{o:D->D->Res D}(h:OpR X (binaryOp op) r)(ho:OpD X.K E r o)(ha:DE X E a f)(hb:DE X E b g):DE X E (.BinOp a op b pos) (zac f g o) :=
 ⟨zaG (zua h ha.o hb.o) (zfS ho)⟩
theorem zdN {op:CmpOp}{r:R2}{o:D->D->Res D}(h:OpR X (compareOp op) r)(ho:OpD X.K E r o)(ha:DE X E a f)(hb:DE X E b g)(hm:behindInMarks op b=false):DE X E (.Compare a [op] [b] pos) (zac f g o) :=
 ⟨zaG (zpH h ha.o hb.o hm) (zfS ho)⟩
theorem zyN {r:R2}{o:D->D->Res D}(h:IxR X r)(ho:OpD X.K E r o)(ha:DE X E a f)(hb:DE X E b g)(hs:ziX b):DE X E (.Subscript a b pos) (zac f g o) :=
 ⟨zaG (zwu h ha.o hb.o hs) (zfS ho)⟩
def UnD (K:W.Frag)(E:XK)(r:V->Hp->VK->Prop)(op:D->Res D):Prop:=∀ (x:D) (v:V) (H H₀:Hp) (Q:VK),zax H₀ H->Rep K H₀ x v->post K E H H₀ (op x) Q->r v H Q
theorem zyL {op:UnaryOp}{r:V->Hp->VK->Prop}{o:D->Res D}(h:UnR X (unaryOp op) r)(ho:UnD X.K E r o)(ha:DE X E a f):DE X E (.UnaryOp op a pos) (zbv f o):=by
 refine⟨?_⟩
 refine zaG (zym h ha.o) fun σ H Q ⟨H₀,ρ,hs,hr,q⟩=>⟨H₀,ρ,hs,hr,?_⟩
 unfold zbv at q
 cases e1:f ρ with
 | stuck=>rw[e1] at q;exact q
 | exn x=>rw[e1] at q;exact q
 | ok x =>
  rw[e1] at q
  intro v H1 H01 g1 r1
  exact ho x v H1 H01 Q g1.sub r1 (post.grow (r:=o x) q g1)
def zaz:Ev->Res (List D):=fun _=>.ok []
def zad (f:Ev->Res D)(fa:Ev->Res (List D)):Ev->Res (List D):=fun ρ=>(f ρ).bind fun x=>(fa ρ).bind fun xs=>.ok (x::xs)
theorem zaj:DA X E [] zaz:=⟨zj4 zfl fun σ H Q ⟨H₀,ρ,hs,hr,q⟩=>q [] H H₀ (za4.refl hs) Reps.nil⟩
theorem zaa (ha:DE X E e f)(hr:DA X E es fa)(hs:starEach (e::es) X.env=(false,eval e X.env)::starEach es X.env:=by exact zaC rfl):DA X E (e::es) (zad f fa):=by
 refine⟨?_⟩
 refine zj4 (zcK ha.o hr.o hs) fun σ H Q ⟨H₀,ρ,hs,hr,q⟩=>⟨H₀,ρ,hs,hr,?_⟩
 unfold zad at q
 cases e1:f ρ with
 | stuck=>rw[e1] at q;exact q
 | exn x=>rw[e1] at q;exact q
 | ok x =>
  rw[e1] at q
  intro v H1 H01 g1 r1
  refine⟨H01,ρ,g1.sub,hr.mono g1.z,?_⟩
  replace q:zn6 X.K E H H₀ ((fa ρ).bind fun xs=>.ok (x::xs)) Q:=q
  replace q:=q.grow g1
  cases e2:fa ρ with
  | stuck=>rw[e2] at q;exact q
  | exn x=>rw[e2] at q;exact q
  | ok xs =>
   rw[e2] at q
   intro us H2 H02 g2 r2
   exact q (v::us) H2 H02 g2 (Reps.cons (r1.mono g2.z) r2)
def line:Nat:=1000000
theorem zch {n:Nat}(h:n<=line):n<=sizeLine:=Nat.le_trans h (by decide)
def zan (fa:Ev->Res (List D))(m:List D->Res D):Ev->Res D:=fun ρ=>(fa ρ).bind m
def zjl:List D->Res D:=fun ds=>if ds.length<=line then .ok (.tup ds) else .stuck
def zdQ:List D->Res D:=fun ds=>if ds.length<=line then .ok (.lst ds) else .stuck
theorem zgo {m:List D->Res D}{r:List V->Hp->VK->Prop}(ho:∀ (ds:List D) (vs:List V) (H H₀:Hp) (Q:VK),zax H₀ H->Reps X.K H₀ ds vs->post X.K E H H₀ (m ds) Q->r vs H Q)
  (σ:L2.St)(H:Hp)(Q:VK)(h:tD X.K E (zan fa m) σ H Q):tDA X.K E fa σ H fun vs H1=>r vs H1 Q:=by
 obtain⟨H₀,ρ,hs,hr,q⟩:=h
 refine⟨H₀,ρ,hs,hr,?_⟩
 unfold zan at q
 cases e1:fa ρ with
 | stuck=>rw[e1] at q;exact q
 | exn x=>rw[e1] at q;exact q
 | ok x =>
  rw[e1] at q
  intro v H1 H01 g1 r1
  exact ho x v H1 H01 Q g1.sub r1 (post.grow (r:=m x) q g1)
theorem zdr {x1}(h:DA X E es fa):DE X E (.Tuple es x1 pos) (zan fa zjl):=by
 refine⟨?_⟩
 refine zaG (zwp h.o) (zgo (r:=fun xs H1 Q=>xs.length<=sizeLine/\∀ p,H1 p=none->Q (.ref p) (upd H1 p (.tup xs))) fun ds vs H H₀ Q hs hr q=>?_)
 unfold zjl at q
 by_cases hl:ds.length<=line
 ·rw[if_pos hl] at q
  refine⟨by rw[← hr.length];exact zch hl,fun p hp=>q _ _ _ (za4.alloc hs hp) (Rep.tup_iff.mpr ⟨p,vs,rfl,SqT.of zak,hr.mono (za4.alloc hs hp).z⟩)⟩
 ·rw[if_neg hl] at q;exact q.elim
theorem zbV (h:DA X E es fa):DE X E (.List es pos) (zan fa zdQ):=by
 refine⟨?_⟩
 refine zaG (zs8 h.o) (zgo (r:=fun xs H1 Q=>xs.length<=sizeLine/\∀ p,H1 p=none->Q (.ref p) (upd H1 p (.lst xs))) fun ds vs H H₀ Q hs hr q=>?_)
 unfold zdQ at q
 by_cases hl:ds.length<=line
 ·rw[if_pos hl] at q
  refine⟨by rw[← hr.length];exact zch hl,fun p hp=>q _ _ _ (za4.alloc hs hp) (Rep.lst_iff.mpr ⟨p,vs,rfl,SqL.of zak,hr.mono (za4.alloc hs hp).z⟩)⟩
 ·rw[if_neg hl] at q;exact q.elim
def spD (K:W.Frag)(n:Nat)(m:List D->Res D):Sp:=fun vs H Q E=>vs.length=n/\∃ H₀ ds,zax H₀ H/\Reps K H₀ ds vs/\post K E H H₀ (m ds) Q
theorem zu4 {CX:CXT}{k n:Nat}{fn:Addr}{fd:FuncData}{ps:List Str}{m:List D->Res D}{x:Str}{p:Pos}(F:FnOk X.prog X.w X.K X.mg X.base CX k fn fd ps (spD X.K n m))(hr:zdE k X.A)(hg:Gl X x)(hm:X.mg x=some (.ref fn))
  (hk:W.keepIn X.K (.ref fn)=true)(hb:zgx X.K fd ps [])(hx:zdP CX X E)(ha:DA X E (e::es) fa)(hn:(e::es).length=n:=by rfl)(hl:∀ ρ ds,fa ρ=.ok ds->ds.length=(e::es).length)
  (hdb:(x==("__debug__" : Str))=false:=by decide)(he:starEach (e::es) X.env=(false,eval e X.env)::starEach es X.env:=by exact zaC rfl)(hpl:(backTo pos (starEach es X.env)).any (·.1)=false:=by exact za3 rfl) :
  DE X E (.Call (.Name x p) (e::es) [] pos) (zan fa m):=by
 refine⟨?_⟩
 refine zaG (zj3 F hr hg hm hk hb .nil hx ha.o hdb he hpl) fun σ H Q h=>?_
 obtain⟨H₀,ρ,hs,hr,q⟩:=h
 refine⟨H₀,ρ,hs,hr,?_⟩
 unfold zan at q
 cases e1:fa ρ with
 | stuck=>rw[e1] at q;exact q
 | exn x=>rw[e1] at q;exact q
 | ok ds =>
  rw[e1] at q
  intro v H1 H01 g1 r1
  refine⟨?_,H01,ds,g1.sub,by simpa using r1,post.grow (r:=m ds) q g1⟩
  have:=r1.length
  have:=hl ρ ds e1
  simp only[List.append_nil]
  omega
theorem zsN {ρ:Ev}{ds:List D}(h:zaz ρ=.ok ds):ds.length=0:=by cases h;rfl
theorem zgv {ρ:Ev}{ds:List D}{n:Nat}(hr:∀ es,fa ρ=.ok es->es.length=n)(h:zad f fa ρ=.ok ds):ds.length=n+1:=by
 unfold zad at h
 cases e1:f ρ with
 | stuck=>rw[e1] at h;cases h
 | exn x=>rw[e1] at h;cases h
 | ok x =>
  rw[e1] at h
  replace h:((fa ρ).bind fun xs=>Res.ok (x::xs))=.ok ds:=h
  cases e2:fa ρ with
  | stuck=>rw[e2] at h;cases h
  | exn x=>rw[e2] at h;cases h
  | ok xs =>
   rw[e2] at h
   cases h
   simp [hr xs e2]
def zhG (X:Cx)(E:XK)(r:List V->Hp->VK->Prop)(m:List D->Res D):Prop:=∀ (ds:List D) (vs:List V) (H H₀:Hp) (Q:VK),zax H₀ H->Reps X.K H₀ ds vs->post X.K E H H₀ (m ds) Q->r vs H Q
theorem zaK {id:String}{r:List V->Hp->VK->Prop}{m:List D->Res D}{x:Str}{p:Pos}(hc:zhF X (.builtin id) r)(hd:zhG X E r m)(hg:Gl X x)(hm:X.mg x=none)(hv:bootBuiltins x=some (.builtin id))(ha:DA X E (e::es) fa)(hn:x≠"__name__":=by decide)(hdb:(x==("__debug__" : Str))=false:=by decide)
  (he:starEach (e::es) X.env=(false,eval e X.env)::starEach es X.env:=by exact zaC rfl)(hpl:(backTo pos (starEach es X.env)).any (·.1)=false:=by exact za3 rfl):DE X E (.Call (.Name x p) (e::es) [] pos) (zan fa m) :=
 ⟨zaG (zm8 hc hg hm hv ha.o hn hdb he hpl) (zgo hd)⟩
theorem zsu (h:PT X e (tB (tD X.K E f))):DT X E e f:=by
 refine⟨?_⟩
 refine zdY h fun σ H Q ⟨H₀,ρ,hs,hr,q⟩=>⟨H₀,ρ,hs,hr,?_⟩
 cases e1:f ρ with
 | stuck=>rw[e1] at q;exact q
 | exn x=>rw[e1] at q;exact q
 | ok d =>
  rw[e1] at q
  intro v H1 H01 g1 r1
  cases d with
  | bl b=>rw[Rep.bl_iff.mp r1];exact⟨b,rfl,q H1 H01 g1⟩
  | _=>exact q.elim
theorem zbk (h:DE X E e f)(he:∀ whole,isTrue e X.env whole=(do let v ← whole;standAt e.pos;holding [v] (truthy v)):=by intro _;rfl):DT X E e f:=zsu (zs4 h.o he)
theorem zaM {op:CmpOp}{r:R2}{o:D->D->Res D}(h:OpR X (compareOp op) r)(ho:OpD X.K E r o)(ha:DE X E a f)(hb:DE X E b g)(hm:behindInMarks op b=false):DT X E (.Compare a [op] [b] pos) (zac f g o):=by
 refine⟨?_⟩
 refine zdY (zpA h ha.o hb.o hm) fun σ H Q h=>?_
 have w:tD X.K E (zac f g o) σ H fun x H'=>∃ k,x=.bl k/\Q k H':=by
  obtain⟨H₀,ρ,hs,hr,q⟩:=h
  refine⟨H₀,ρ,hs,hr,?_⟩
  cases e1:zac f g o ρ with
  | stuck=>rw[e1] at q;exact q
  | exn x=>rw[e1] at q;exact q
  | ok d =>
   rw[e1] at q
   intro v H1 H01 g1 r1
   cases d with
   | bl b=>rw[Rep.bl_iff.mp r1];exact⟨b,rfl,q H1 H01 g1⟩
   | _=>exact q.elim
 exact zfS ho σ H _ w
def zdD (f:Ev->Res D):Ev->Res D:=zbv f fun x=>match x with
 | .bl b=>.ok (.bl (!b))
 | _=>.stuck
def zhr (f g:Ev->Res D):Ev->Res D:=fun ρ=>(f ρ).bind fun x=>match x with
 | .bl true=>g ρ
 | .bl false=>.ok (.bl false)
 | _=>.stuck
def dOr (f g:Ev->Res D):Ev->Res D:=fun ρ=>(f ρ).bind fun x=>match x with
 | .bl true=>.ok (.bl true)
 | .bl false=>g ρ
 | _=>.stuck
theorem zbq (ha:DT X E a f):DT X E (.UnaryOp .Not a pos) (zdD f):=by
 refine⟨?_⟩
 refine zdY (zs5 ha.o) fun σ H Q ⟨H₀,ρ,hs,hr,q⟩=>⟨H₀,ρ,hs,hr,?_⟩
 unfold zdD zbv at q
 cases e1:f ρ with
 | stuck=>rw[e1] at q;exact q
 | exn x=>rw[e1] at q;exact q
 | ok d =>
  rw[e1] at q
  cases d with
  | bl b=>exact q
  | _=>exact q.elim
theorem zxi (ha:DE X E a f):DE X E (.UnaryOp .Not a pos) (zdD f):=by
 refine⟨?_⟩
 refine zaG (zws ha.o) fun σ H Q ⟨H₀,ρ,hs,hr,q⟩=>⟨H₀,ρ,hs,hr,?_⟩
 unfold zdD zbv at q
 cases e1:f ρ with
 | stuck=>rw[e1] at q;exact q
 | exn x=>rw[e1] at q;exact q
 | ok d =>
  rw[e1] at q
  intro v H1 H01 g1 r1
  cases d with
  | bl b=>rw[Rep.bl_iff.mp r1];exact⟨b,rfl,q (.bl !b) H1 H01 g1 (Rep.bl_iff.mpr rfl)⟩
  | _=>exact q.elim
variable {rest:List Expr}
theorem ze8 (ha:DT X E a f):DW X E (.BoolOp .And [a] pos) f:=⟨zt3 ha.o⟩
theorem zaR (ha:DT X E a f):DW X E (.BoolOp .Or [a] pos) f:=⟨zs2 ha.o⟩
theorem zjw (ha:DT X E a f)(hb:DW X E (.BoolOp .And (b::rest) pos) g):DW X E (.BoolOp .And (a::b::rest) pos) (zhr f g):=by
 refine⟨?_⟩
 refine zl1 (zwh ha.o hb.o) fun σ H Q ⟨H₀,ρ,hs,hr,q⟩=>⟨H₀,ρ,hs,hr,?_⟩
 unfold zhr at q
 cases e1:f ρ with
 | stuck=>rw[e1] at q;exact q
 | exn x=>rw[e1] at q;exact q
 | ok d =>
  rw[e1] at q
  cases d with
  | bl b =>
   cases b with
   | true=>exact fun H1 H01 g1=>⟨H01,ρ,g1.sub,hr.mono g1.z,zl2.grow (r:=g ρ) q g1⟩
   | false=>exact fun H1 H01 g1=>q H1 H01 g1
  | _=>exact q.elim
theorem zc9 (ha:DT X E a f)(hb:DW X E (.BoolOp .Or (b::rest) pos) g):DW X E (.BoolOp .Or (a::b::rest) pos) (dOr f g):=by
 refine⟨?_⟩
 refine zl1 (zwg ha.o hb.o) fun σ H Q ⟨H₀,ρ,hs,hr,q⟩=>⟨H₀,ρ,hs,hr,?_⟩
 unfold dOr at q
 cases e1:f ρ with
 | stuck=>rw[e1] at q;exact q
 | exn x=>rw[e1] at q;exact q
 | ok d =>
  rw[e1] at q
  cases d with
  | bl b =>
   cases b with
   | false=>exact fun H1 H01 g1=>⟨H01,ρ,g1.sub,hr.mono g1.z,zl2.grow (r:=g ρ) q g1⟩
   | true=>exact fun H1 H01 g1=>q H1 H01 g1
  | _=>exact q.elim
theorem DW.dt (h:DW X E e f):DT X E e f:=⟨PW.pt h.o⟩
theorem zgb {op}(h:DE X E a f):DE X E (.BoolOp op [a] pos) f:=⟨zwr h.o⟩
theorem zhl (ha:DE X E a f)(hb:DE X E (.BoolOp .And (b::rest) pos) g):DE X E (.BoolOp .And (a::b::rest) pos) (zhr f g):=by
 refine⟨?_⟩
 refine zaG (zww ha.o hb.o) fun σ H Q ⟨H₀,ρ,hs,hr,q⟩=>⟨H₀,ρ,hs,hr,?_⟩
 unfold zhr at q
 cases e1:f ρ with
 | stuck=>rw[e1] at q;exact q
 | exn x=>rw[e1] at q;exact q
 | ok d =>
  rw[e1] at q
  intro v H1 H01 g1 r1
  cases d with
  | bl b =>
   rw[Rep.bl_iff.mp r1]
   cases b with
   | true=>exact⟨true,rfl,H01,ρ,g1.sub,hr.mono g1.z,post.grow (r:=g ρ) q g1⟩
   | false=>exact⟨false,rfl,q (.bl false) H1 H01 g1 (Rep.bl_iff.mpr rfl)⟩
  | _=>exact q.elim
theorem zyM (ha:DE X E a f)(hb:DE X E (.BoolOp .Or (b::rest) pos) g):DE X E (.BoolOp .Or (a::b::rest) pos) (dOr f g):=by
 refine⟨?_⟩
 refine zaG (zyn ha.o hb.o) fun σ H Q ⟨H₀,ρ,hs,hr,q⟩=>⟨H₀,ρ,hs,hr,?_⟩
 unfold dOr at q
 cases e1:f ρ with
 | stuck=>rw[e1] at q;exact q
 | exn x=>rw[e1] at q;exact q
 | ok d =>
  rw[e1] at q
  intro v H1 H01 g1 r1
  cases d with
  | bl b =>
   rw[Rep.bl_iff.mp r1]
   cases b with
   | false=>exact⟨false,rfl,H01,ρ,g1.sub,hr.mono g1.z,post.grow (r:=g ρ) q g1⟩
   | true=>exact⟨true,rfl,q (.bl true) H1 H01 g1 (Rep.bl_iff.mpr rfl)⟩
  | _=>exact q.elim
def dIf (c f g:Ev->Res D):Ev->Res D:=fun ρ=>(c ρ).bind fun x=>match x with
 | .bl true=>f ρ
 | .bl false=>g ρ
 | _=>.stuck
end
def zz7 (K:W.Frag)(H₀ H:Hp)(a:Addr)(d:D):Prop:=match d with
 | .lst ds=>∃ vs,H a=some (.lst vs)/\Reps K H₀ ds vs
 | _=>False
def OXr (K:W.Frag)(He H₀ H:Hp)(a:Addr)(j:Nat)(ds:List D)(p:Addr):Prop:=∃ vs es us,He a=none/\H a=some (.tup vs)/\He p=none/\H₀ p=none/\ds[j]?=some (.lst es)/\vs[j]?=some (.ref p)/\H p=some (.lst us)/\Reps K H₀ es us/\ds.length=vs.length/\∀ k d v,k≠j->ds[k]?=some d->vs[k]?=some v->Rep K H₀ d v
def OX (K:W.Frag)(He H₀:Hp)(σ:L2.St)(H:Hp)(ρ:Ev):Prop:=(∀ (i j:Nat) (ds:List D),ρ[i]?=some (.ox j ds)->∃ a p,σ[i]?=some (some (.ref a))/\OXr K He H₀ H a j ds p/\(∀ (k:Nat) (d:D),ρ[k]?=some (.ow d)->σ[k]?≠some (some (.ref p)))/\∀ (k j':Nat) (ds':List D),ρ[k]?=some (.ox j' ds')->k=i)/\∀ (i:Nat) (a:Addr),ρ[i]?=some (.pt a)->σ[i]?=some (some (.ref a))
theorem OX.upd {K:W.Frag}{He H₀ H₀' H H':Hp}{σ σ':L2.St}{ρ ρ':Ev}(h:OX K He H₀ σ H ρ)
  (hk:∀ (j:Nat) (s:Sl),ρ'[j]?=some s->(ρ[j]?=some s/\σ'[j]?=σ[j]?)∨(∃ d,s=.sh d)∨s=.no∨∃ d q,s=.ow d/\σ'[j]?=some (some (.ref q))/\∀ (i j:Nat) (ds:List D) (a p:Addr),ρ[i]?=some (.ox j ds)->σ[i]?=some (some (.ref a))->OXr K He H₀ H a j ds p->q≠p)
  (hz:zax H₀ H₀')(ht:∀ a vs,He a=none->H a=some (.tup vs)->H' a=some (.tup vs))
  (hl:∀ p us,He p=none->H₀ p=none->H p=some (.lst us)->(∀ (k:Nat) (d:D),ρ[k]?=some (.ow d)->σ[k]?≠some (some (.ref p)))->H' p=some (.lst us)/\H₀' p=none):OX K He H₀' σ' H' ρ':=by
 refine⟨fun i j ds e=>?_,fun i a e=>?_⟩
 rotate_left
 ·rcases hk i _ e with h1 | ⟨d,h1⟩ | h1 | ⟨d,q,h1,_⟩
  ·rw[h1.2];exact h.2 i a h1.1
  ·cases h1
  ·cases h1
  ·cases h1
 have old:ρ[i]?=some (.ox j ds)/\σ'[i]?=σ[i]?:=by
  rcases hk i _ e with h1 | ⟨d,h1⟩ | h1 | ⟨d,q,h1,_⟩
  ·exact h1
  ·cases h1
  ·cases h1
  ·cases h1
 obtain⟨a,p,h1,h2,h3,h4⟩:=h.1 i j ds old.1
 have h2':=h2
 obtain⟨vs,es,us,r1,r2,r3,r4,r5,r6,r7,r8,r9,r10⟩:=h2
 obtain⟨l1,l2⟩:=hl p us r3 r4 r7 h3
 refine⟨a,p,old.2.trans h1,⟨vs,es,us,r1,ht a vs r1 r2,r3,l2,r5,r6,l1,r8.mono hz,r9,fun k d v hk e1 e2=>(r10 k d v hk e1 e2).mono hz⟩,fun k d ek z=>?_,fun k j' ds' ek=>?_⟩
 ·rcases hk k _ ek with h1' | ⟨d',h1'⟩ | h1' | ⟨d',q,h1',h2'',h3'⟩
  ·exact h3 k d h1'.1 (by rw[← h1'.2];exact z)
  ·cases h1'
  ·cases h1'
  ·rw[h2''] at z
   cases z
   exact h3' i j ds a p old.1 h1 h2' rfl
 ·rcases hk k _ ek with h1' | ⟨d',h1'⟩ | h1' | ⟨d',q,h1',_⟩
  ·exact h4 k j' ds' h1'.1
  ·cases h1'
  ·cases h1'
  ·cases h1'
theorem OX.none {K:W.Frag}{He H₀ H:Hp}{σ:L2.St}{ρ:Ev}(h:∀ (i j:Nat) (ds:List D),ρ[i]?≠some (.ox j ds))(h':∀ (i:Nat) (a:Addr),ρ[i]?=some (.pt a)->σ[i]?=some (some (.ref a))):OX K He H₀ σ H ρ:=⟨fun i j ds e=>absurd e (h i j ds),h'⟩
theorem zpv {K:W.Frag}{H:Hp}:∀ {ds:List D}{vs:List V},ds.length=vs.length->(∀ (k:Nat) (d:D) (v:V),ds[k]?=some d->vs[k]?=some v->Rep K H d v)->Reps K H ds vs
 | [],[],_,_=>Reps.nil
 | d::ds,v::vs,hl,h=>Reps.cons (h 0 d v rfl rfl) (zpv (by simpa using hl) fun k d' v' e1 e2=>h (k+1) d' v' e1 e2)
structure SRx (K:W.Frag) (He H0e H₀:Hp) (σ:L2.St) (H:Hp) (ρ:Ev):Prop where
 g:za4 He H0e H H₀
 rd:Reads K H₀ σ ρ
 ow:∀ (i:Nat) (d:D),ρ[i]?=some (.ow d)->∃ a,σ[i]?=some (some (.ref a))/\He a=none/\H₀ a=none/\zz7 K H₀ H a d
 ap:∀ (i j:Nat) (d d':D),i≠j->ρ[i]?=some (.ow d)->ρ[j]?=some (.ow d')->σ[i]?≠σ[j]?
 ln:ρ.length=σ.length
 ex:OX K He H₀ σ H ρ
inductive Fl where
 | nx (ρ:Ev) | rt (d:D) | bk (ρ:Ev) | ct (ρ:Ev)
def zbI (K:W.Frag)(E:XK)(He H0e H₀:Hp)(r:Res Fl)(D:zg4):Prop:=match r with
 | .ok (.nx ρ)=>∀ σ H H₀',zax H₀ H₀'->SRx K He H0e H₀' σ H ρ->D.nx σ H
 | .ok (.rt d)=>∀ v H H₀',za4 He H0e H H₀'->Rep K H₀' d v->D.rt v H
 | .ok (.bk ρ)=>∀ σ H H₀',zax H₀ H₀'->SRx K He H0e H₀' σ H ρ->D.bk σ H
 | .ok (.ct ρ)=>∀ σ H H₀',zax H₀ H₀'->SRx K He H0e H₀' σ H ρ->D.ct σ H
 | .exn x=>∀ C ox H H₀',za4 He H0e H H₀'->ExR K H₀' x C ox->E C ox H
 | .stuck=>False
theorem zbI.grow {K:W.Frag}{E:XK}{He H0e H₀ H₁:Hp}{r:Res Fl}{D:zg4}(h:zbI K E He H0e H₀ r D)(s:zax H₀ H₁):zbI K E He H0e H₁ r D:=by
 cases r with
 | ok f =>
  cases f with
  | nx ρ=>exact fun σ H H₀' s'=>h σ H H₀' (s.trans s')
  | rt d=>exact h
  | bk ρ=>exact fun σ H H₀' s'=>h σ H H₀' (s.trans s')
  | ct ρ=>exact fun σ H H₀' s'=>h σ H H₀' (s.trans s')
 | exn x=>exact h
 | stuck=>exact h
def tS (K:W.Frag)(E:XK)(He H0e:Hp)(g:Ev->Res Fl):TS:=fun D σ H=>∃ H₀ ρ,SRx K He H0e H₀ σ H ρ/\zbI K E He H0e H₀ (g ρ) D
structure DS (X:Cx) (E:XK) (He H0e:Hp) (st:Stmt) (g:Ev->Res Fl):Prop where
 o:PS X st (tS X.K E He H0e g)
structure DSs (X:Cx) (E:XK) (He H0e:Hp) (st:List Stmt) (g:Ev->Res Fl):Prop where
 o:PSs X st (tS X.K E He H0e g)
def shr (ρ:Ev):Ev:=ρ.map fun s=>match s with
 | .ow d=>.sh d
 | .ox _ ds=>.sh (.tup ds)
 | x=>x
def frz (He H₀ H:Hp):Hp:=fun a=>match He a with
 | none=>H a
 | some _=>H₀ a
section
variable {K:W.Frag}{E:XK}{He H0e H₀ H H1:Hp}{σ:L2.St}{ρ:Ev}
theorem SRx.same (h:SRx K He H0e H₀ σ H ρ)(s:zax H H1):SRx K He H0e H₀ σ H1 ρ :=
 ⟨⟨h.g.s.trans s,h.g.z,h.g.sub.trans s,h.g.nw⟩,h.rd,fun i d e=>by
  obtain⟨a,h1,h2,h3,h4⟩:=h.ow i d e
  refine⟨a,h1,h2,h3,?_⟩
  cases d with
  | lst ds=>obtain⟨vs,h5,h6⟩:=h4;exact⟨vs,s _ _ h5,h6⟩
  | _=>exact h4,h.ap,h.ln,h.ex.upd (fun j s' e=>.inl ⟨e,rfl⟩) (zax.refl _) (fun a vs _ e=>s _ _ e) fun p us _ h0 hp _=>⟨s _ _ hp,h0⟩⟩
theorem SRx.grow {H01:Hp}(h:SRx K He H0e H₀ σ H ρ)(s:za4 H H₀ H1 H01):SRx K He H0e H01 σ H1 ρ :=
 ⟨h.g.trans s,h.rd.mono s.z,fun i d e=>by
  obtain⟨a,h1,h2,h3,h4⟩:=h.ow i d e
  have ha:H01 a=none:=by
   cases q:H01 a with
   | none=>rfl
   | some o =>
    have:=s.nw a (by rw[q];simp) h3
    cases d with
    | lst ds=>obtain⟨vs,h5,_⟩:=h4;rw[h5] at this;cases this
    | _=>exact h4.elim
  refine⟨a,h1,h2,ha,?_⟩
  cases d with
  | lst ds=>obtain⟨vs,h5,h6⟩:=h4;exact⟨vs,s.s _ _ h5,h6.mono s.z⟩
  | _=>exact h4,h.ap,h.ln,h.ex.upd (fun j s' e=>.inl ⟨e,rfl⟩) s.z (fun a vs _ e=>s.s _ _ e) fun p us _ h0 hp _=>⟨s.s _ _ hp,by
   cases q:H01 p with
   | none=>rfl
   | some o=>have:=s.nw p (by rw[q];simp) h0;rw[hp] at this;cases this⟩⟩
theorem SRx.frz_sub (h:SRx K He H0e H₀ σ H ρ):zax H₀ (frz He H₀ H):=fun b o e=>by
 unfold frz
 cases q:He b with
 | none=>exact h.g.sub _ _ e
 | some _=>exact e
theorem SRx.frz_le (h:SRx K He H0e H₀ σ H ρ):zax (frz He H₀ H) H:=fun b o e=>by
 unfold frz at e
 cases q:He b with
 | none=>rw[q] at e;exact e
 | some _=>rw[q] at e;exact h.g.sub _ _ e
theorem SRx.frz_grow (h:SRx K He H0e H₀ σ H ρ):za4 He H0e H (frz He H₀ H) :=
 ⟨h.g.s,h.g.z.trans h.frz_sub,h.frz_le,fun a h1 h2=>by
  cases q:He a with
  | none=>rfl
  | some o =>
   unfold frz at h1
   rw[q] at h1
   have:=h.g.nw a h1 h2
   rw[q] at this;cases this⟩
theorem SRx.looks (h:SRx K He H0e H₀ σ H ρ):Reads K (frz He H₀ H) σ (shr ρ):=fun i d e=>by
 unfold shr at e
 rw[List.getElem?_map] at e
 cases q:ρ[i]? with
 | none=>rw[q] at e;cases e
 | some s =>
  rw[q] at e
  cases s with
  | no=>cases e
  | pt a=>cases e
  | sh d' =>
   cases e
   obtain⟨v,h1,h2⟩:=h.rd i d q
   exact⟨v,h1,h2.mono h.frz_sub⟩
  | ow d' =>
   cases e
   obtain⟨a,h1,h2,h3,h4⟩:=h.ow i d q
   refine⟨_,h1,?_⟩
   cases d with
   | lst ds =>
    obtain⟨vs,h5,h6⟩:=h4
    exact Rep.lst_iff.mpr ⟨a,vs,rfl,SqL.of (by unfold frz;rw[h2];exact h5),h6.mono h.frz_sub⟩
   | _=>exact h4.elim
  | ox j ds =>
   cases e
   obtain⟨a,p,h1,⟨vs,es,us,r1,r2,r3,r4,r5,r6,r7,r8,r9,r10⟩,_⟩:=h.ex.1 i j ds q
   refine⟨_,h1,Rep.tup_iff.mpr ⟨a,vs,rfl,SqT.of (by unfold frz;rw[r1];exact r2),zpv r9 fun k d v e1 e2=>?_⟩⟩
   by_cases hk:k=j
   ·subst hk
    rw[r5] at e1;cases e1
    rw[r6] at e2;cases e2
    exact Rep.lst_iff.mpr ⟨p,us,rfl,SqL.of (by unfold frz;rw[r3];exact r7),r8.mono h.frz_sub⟩
   ·exact(r10 k d v hk e1 e2).mono h.frz_sub
theorem SRx.put (h:SRx K He H0e H₀ σ H ρ){i:Nat}{d:D}{v:V}(r:Rep K H₀ d v):SRx K He H0e H₀ (σ.set i (some v)) H (ρ.set i (.sh d)):=by
 have key:∀ (j:Nat) (s:Sl),(ρ.set i (.sh d))[j]?=some s->(j=i/\s=.sh d/\i < σ.length)∨(j≠i/\ρ[j]?=some s):=fun j s e=>by
  by_cases hj:i=j
  ·subst hj
   rw[List.getElem?_set_self'] at e
   cases q:ρ[i]? with
   | none=>rw[q] at e;cases e
   | some s' =>
    rw[q] at e
    cases e
    refine .inl ⟨rfl,rfl,?_⟩
    rw[← h.ln]
    exact(List.getElem?_eq_some_iff.mp q).1
  ·rw[List.getElem?_set_ne hj] at e
   exact .inr ⟨fun z=>hj z.symm,e⟩
 refine⟨h.g,fun j d' e=>?_,fun j d' e=>?_,fun j k d1 d2 hn e1 e2=>?_,by simp [h.ln],h.ex.upd (fun j s e=>?_) (zax.refl _) (fun a vs _ e=>e) fun p us _ h0 hp _=>⟨hp,h0⟩⟩
 rotate_left 3
 ·rcases key j _ e with⟨rfl,e',hl⟩ | ⟨hj,e'⟩
  ·exact .inr (.inl ⟨d,e'⟩)
  ·exact .inl ⟨e',by rw[List.getElem?_set_ne (Ne.symm hj)]⟩
 ·rcases key j _ e with⟨rfl,e',hl⟩ | ⟨hj,e'⟩
  ·cases e'
   exact⟨v,by rw[List.getElem?_set_self hl],r⟩
  ·obtain⟨v',h1,h2⟩:=h.rd j d' e'
   exact⟨v',by rw[List.getElem?_set_ne (Ne.symm hj)];exact h1,h2⟩
 ·rcases key j _ e with⟨rfl,e',hl⟩ | ⟨hj,e'⟩
  ·cases e'
  ·obtain⟨a,h1,h2⟩:=h.ow j d' e'
   exact⟨a,by rw[List.getElem?_set_ne (Ne.symm hj)];exact h1,h2⟩
 ·rcases key j _ e1 with⟨_,e',_⟩ | ⟨hj,e1'⟩
  ·cases e'
  rcases key k _ e2 with⟨_,e',_⟩ | ⟨hk,e2'⟩
  ·cases e'
  rw[List.getElem?_set_ne (Ne.symm hj),List.getElem?_set_ne (Ne.symm hk)]
  exact h.ap j k d1 d2 hn e1' e2'
theorem SRx.putOwn (h:SRx K He H0e H₀ σ H ρ){i:Nat}{ds:List D}{vs:List V}{p:Addr}(hp:∀ (j:Nat) (a:Addr),σ[j]?=some (some (V.ref a))->a=p->∀ d:D,ρ[j]?≠some (Sl.ow d))(he:He p=none)(h0:H₀ p=none)(hv:H p=some (.lst vs))(r:Reps K H₀ ds vs)(hx:∀ (i j:Nat) (ds:List D) (a q:Addr),ρ[i]?=some (.ox j ds)->σ[i]?=some (some (.ref a))->OXr K He H₀ H a j ds q->p≠q) :
  SRx K He H0e H₀ (σ.set i (some (.ref p))) H (ρ.set i (.ow (.lst ds))):=by
 have key:∀ (j:Nat) (s:Sl),(ρ.set i (.ow (.lst ds)))[j]?=some s->(j=i/\s=.ow (.lst ds)/\i < σ.length)∨(j≠i/\ρ[j]?=some s):=fun j s e=>by
  by_cases hj:i=j
  ·subst hj
   rw[List.getElem?_set_self'] at e
   cases q:ρ[i]? with
   | none=>rw[q] at e;cases e
   | some s' =>
    rw[q] at e
    cases e
    refine .inl ⟨rfl,rfl,?_⟩
    rw[← h.ln]
    exact(List.getElem?_eq_some_iff.mp q).1
  ·rw[List.getElem?_set_ne hj] at e
   exact .inr ⟨fun z=>hj z.symm,e⟩
 have other:∀ (k:Nat) (d2:D),k≠i->ρ[k]?=some (.ow d2)->some (some (V.ref p))≠σ[k]?:=fun k d2 hk e2 z=>by
  obtain⟨a,h1,_⟩:=h.ow k d2 e2
  rw[h1] at z
  cases z
  exact hp k p h1 rfl d2 e2
 refine⟨h.g,fun j d' e=>?_,fun j d' e=>?_,fun j k d1 d2 hn e1 e2=>?_,by simp [h.ln],h.ex.upd (fun j s e=>?_) (zax.refl _) (fun a vs _ e=>e) fun p us _ h0 hp _=>⟨hp,h0⟩⟩
 rotate_left 3
 ·rcases key j _ e with⟨rfl,e',hl⟩ | ⟨hj,e'⟩
  ·exact .inr (.inr (.inr ⟨.lst ds,p,e',by rw[List.getElem?_set_self hl],hx⟩))
  ·exact .inl ⟨e',by rw[List.getElem?_set_ne (Ne.symm hj)]⟩
 ·rcases key j _ e with⟨rfl,e',hl⟩ | ⟨hj,e'⟩
  ·cases e'
  ·obtain⟨v',h1,h2⟩:=h.rd j d' e'
   exact⟨v',by rw[List.getElem?_set_ne (Ne.symm hj)];exact h1,h2⟩
 ·rcases key j _ e with⟨rfl,e',hl⟩ | ⟨hj,e'⟩
  ·cases e'
   exact⟨p,by rw[List.getElem?_set_self hl],he,h0,vs,hv,r⟩
  ·obtain⟨a,h1,h2⟩:=h.ow j d' e'
   exact⟨a,by rw[List.getElem?_set_ne (Ne.symm hj)];exact h1,h2⟩
 ·rcases key j _ e1 with⟨rfl,_,hl⟩ | ⟨hj,e1'⟩
  ·rcases key k _ e2 with⟨rfl,_,_⟩ | ⟨hk,e2'⟩
   ·exact absurd rfl hn
   ·rw[List.getElem?_set_self hl,List.getElem?_set_ne (Ne.symm hk)]
    exact other k d2 hk e2'
  ·rcases key k _ e2 with⟨rfl,_,hl⟩ | ⟨hk,e2'⟩
   ·rw[List.getElem?_set_self hl,List.getElem?_set_ne (Ne.symm hj)]
    exact fun z=>other j d1 hj e1' z.symm
   ·rw[List.getElem?_set_ne (Ne.symm hj),List.getElem?_set_ne (Ne.symm hk)]
    exact h.ap j k d1 d2 hn e1' e2'
theorem SRx.fresh_x {H01:Hp}{p:Addr}(h:SRx K He H0e H₀ σ H ρ)(s:zax H H1)(hp:H p=none):∀ (i j:Nat) (ds:List D) (a q:Addr),ρ[i]?=some (.ox j ds)->σ[i]?=some (some (.ref a))->OXr K He H01 H1 a j ds q->p≠q:=fun i j ds a q x1 x2 x3=>by
 obtain⟨a2,p2,y1,⟨vs2,_,us2,_,z3,_,_,_,z4,z5,_⟩,_⟩:=h.ex.1 i j ds x1
 rw[x2] at y1;cases y1
 obtain⟨vs1,_,_,_,z1,_,_,_,z2,_⟩:=x3
 have:=s _ _ z3
 rw[z1] at this;cases this
 rw[z2] at z4;cases z4
 intro z;subst z
 rw[hp] at z5;cases z5
theorem SRx.write (h:SRx K He H0e H₀ σ H ρ){i:Nat}{d:D}{p:Addr}{ds:List D}{vs:List V}(e:ρ[i]?=some (.ow d))(es:σ[i]?=some (some (.ref p)))(r:Reps K H₀ ds vs) :
  SRx K He H0e H₀ σ (upd H p (.lst vs)) (ρ.set i (.ow (.lst ds))):=by
 obtain⟨a,h1,h2,h3,h4⟩:=h.ow i d e
 rw[h1] at es;cases es
 have hil:i < ρ.length:=(List.getElem?_eq_some_iff.mp e).1
 have key:∀ (j:Nat) (s:Sl),(ρ.set i (.ow (.lst ds)))[j]?=some s->(j=i/\s=.ow (.lst ds))∨(j≠i/\ρ[j]?=some s):=fun j s e=>by
  by_cases hj:i=j
  ·subst hj
   rw[List.getElem?_set_self hil] at e
   cases e
   exact .inl ⟨rfl,rfl⟩
  ·rw[List.getElem?_set_ne hj] at e
   exact .inr ⟨fun z=>hj z.symm,e⟩
 refine⟨⟨fun b o eb=>?_,h.g.z,fun b o eb=>?_,h.g.nw⟩,fun j d' e'=>?_,fun j d' e'=>?_,fun j k d1 d2 hn e1 e2=>?_,by simp [h.ln],h.ex.upd (fun j s e'=>?_) (zax.refl _) (fun b us _ eb=>?_) fun q us _ q0 hq hd=>?_⟩
 rotate_left 5
 ·rcases key j _ e' with⟨rfl,e''⟩ | ⟨hj,e''⟩
  ·exact .inr (.inr (.inr ⟨.lst ds,p,e'',h1,fun i' j' ds' a' p' x1 x2 x3=>by
    obtain⟨a2,p2,y1,y2,y3,_⟩:=h.ex.1 i' j' ds' x1
    rw[x2] at y1;cases y1
    have:p2=p':=by
     obtain⟨vs1,_,_,_,z1,_,_,_,z2,_⟩:=x3
     obtain⟨vs2,_,_,_,z3,_,_,_,z4,_⟩:=y2
     rw[z1] at z3;cases z3
     rw[z2] at z4;cases z4;rfl
    subst this
    intro zz;subst zz
    exact y3 j d e h1⟩))
  ·exact .inl ⟨e'',rfl⟩
 ·rw[zah (by
   intro z;subst z
   cases d with
   | lst ds'=>obtain⟨vs',h5,_⟩:=h4;rw[h5] at eb;cases eb
   | _=>exact h4)];exact eb
 ·have hq':q≠p:=by
   intro z;subst z
   exact hd i d e h1
  exact⟨by rw[zah hq'];exact hq,q0⟩
 ·rw[zah (by intro z;subst z;rw[h2] at eb;cases eb)];exact h.g.s _ _ eb
 ·rw[zah (by intro z;subst z;rw[h3] at eb;cases eb)];exact h.g.sub _ _ eb
 ·rcases key j _ e' with⟨rfl,e''⟩ | ⟨hj,e''⟩
  ·cases e''
  ·exact h.rd j d' e''
 ·rcases key j _ e' with⟨rfl,e''⟩ | ⟨hj,e''⟩
  ·cases e''
   exact⟨p,h1,h2,h3,vs,zak,r⟩
  ·obtain⟨b,k1,k2,k3,k4⟩:=h.ow j d' e''
   refine⟨b,k1,k2,k3,?_⟩
   have hb:b≠p:=by
    intro z;subst z
    exact h.ap j i d' d hj e'' e (by rw[k1,h1])
   cases d' with
   | lst ds' =>
    obtain⟨vs',h5,h6⟩:=k4
    exact⟨vs',by rw[zah hb];exact h5,h6⟩
   | _=>exact k4.elim
 ·rcases key j _ e1 with⟨rfl,e1'⟩ | ⟨hj,e1'⟩
  ·rcases key k _ e2 with⟨rfl,_⟩ | ⟨hk,e2'⟩
   ·exact absurd rfl hn
   ·exact h.ap j k d d2 hn e e2'
  ·rcases key k _ e2 with⟨rfl,_⟩ | ⟨hk,e2'⟩
   ·exact h.ap j k d1 d hn e1' e
   ·exact h.ap j k d1 d2 hn e1' e2'
end
mutual
def zkE:D->Bool
 | .lst _=>false
 | .dic _ _=>false
 | .exc _=>false
 | .ob _ _=>false
 | .tup ds=>flats ds
 | _=>true
def flats:List D->Bool
 | []=>true
 | d::ds=>zkE d&&flats ds
end
mutual
theorem Rep.flat_to {K:W.Frag}{H H':Hp}(e:∀ a vs,Rd H a (.tup vs)->Rd H' a (.tup vs)):∀ {d:D}{v:V},zkE d=true->Rep K H d v->Rep K H' d v
 | .non,_,_,h=>by unfold Rep at h ⊢;exact h
 | .bl _,_,_,h=>by unfold Rep at h ⊢;exact h
 | .int _,_,_,h=>by unfold Rep at h ⊢;exact h
 | .str _,_,_,h=>by unfold Rep at h ⊢;exact h
 | .tup ds,_,f,h=>by
  unfold zkE at f
  obtain⟨a,vs,e1,e2,e3⟩:=Rep.tup_iff.mp h
  refine Rep.tup_iff.mpr ⟨a,vs,e1,?_,Reps.flat_to e f e3⟩
  rcases e2 with e2 | e2
  ·exact .inl (e _ _ e2)
  ·exact .inr e2
 | .lst ds,_,f,h=>by unfold zkE at f;cases f
 | .dic ks ds,_,f,h=>by unfold zkE at f;cases f
 | .exc x,_,f,h=>by unfold zkE at f;cases f
 | .ob k ds,_,f,h=>by unfold zkE at f;cases f
theorem Reps.flat_to {K:W.Frag}{H H':Hp}(e:∀ a vs,Rd H a (.tup vs)->Rd H' a (.tup vs)):∀ {ds:List D}{vs:List V},flats ds=true->Reps K H ds vs->Reps K H' ds vs
 | [],_,_,h=>by unfold Reps at h ⊢;exact h
 | d::ds,_,f,h=>by
  unfold flats at f
  rw[Bool.and_eq_true] at f
  obtain⟨v,r,e1,e2,e3⟩:=Reps.cons_iff.mp h
  exact Reps.cons_iff.mpr ⟨v,r,e1,Rep.flat_to e f.1 e2,Reps.flat_to e f.2 e3⟩
end
def zi8 (H₀ J:Hp):Hp:=fun a=>match H₀ a with
 | some o=>some o
 | none=>match J a with
  | some (.tup vs)=>some (.tup vs)
  | some (.frz o (.tup vs))=>some (.frz o (.tup vs))
  | _=>none
section
variable {K:W.Frag}{E:XK}{He H0e H₀ H H1 J:Hp}{σ:L2.St}{ρ:Ev}
theorem zvf (h:zax H₀ J):∀ a o,zi8 H₀ J a=some o->J a=some o:=fun a o e=>by
 unfold zi8 at e
 cases q:H₀ a with
 | some u=>rw[q] at e;cases e;exact h _ _ q
 | none =>
  rw[q] at e
  cases q2:J a with
  | none=>rw[q2] at e;cases e
  | some u =>
   rw[q2] at e
   cases u with
   | tup vs=>cases e;rfl
   | frz o u' =>
    cases u' with
    | tup vs=>cases e;rfl
    | _=>cases e
   | _=>cases e
theorem zqY (h:zax H₀ J)(a:Addr)(vs:List V)(e:Rd J a (.tup vs)):Rd (zi8 H₀ J) a (.tup vs):=by
 rcases e with e | ⟨o,e⟩
 ·refine .inl ?_
  unfold zi8
  cases q:H₀ a with
  | some u=>have:=h _ _ q;rw[e] at this;cases this;rfl
  | none=>rw[e]
 ·refine .inr ⟨o,?_⟩
  unfold zi8
  cases q:H₀ a with
  | some u=>have:=h _ _ q;rw[e] at this;cases this;rfl
  | none=>rw[e]
theorem SRx.behind (h:SRx K He H0e H₀ σ H ρ)(g:za4 H (frz He H₀ H) H1 J):SRx K He H0e (zi8 H₀ J) σ H1 ρ:=by
 have hJ:zax H₀ J:=h.frz_sub.trans g.z
 have le:=zvf (H₀:=H₀) (J:=J) hJ
 have z:zax H₀ (zi8 H₀ J):=fun b o e=>by unfold zi8;rw[e]
 refine⟨⟨h.g.s.trans g.s,h.g.z.trans z,fun b o e=>g.sub _ _ (le b o e),fun a h1 h2=>?_⟩,h.rd.mono z,fun i d e=>?_,h.ap,h.ln,h.ex.upd (fun j s e=>.inl ⟨e,rfl⟩) z (fun a vs _ e=>g.s _ _ e) fun p us hp h0 hl _=>⟨g.s _ _ hl,by
  have:frz He H₀ H p=some (.lst us):=by unfold frz;rw[hp];exact hl
  have:=g.z _ _ this
  unfold zi8
  rw[h0,this]⟩⟩
 ·cases q:zi8 H₀ J a with
  | none=>exact absurd q h1
  | some o =>
   have hj:=le a o q
   exact(h.frz_grow.trans g).nw a (by rw[hj];simp) h2
 ·obtain⟨a,k1,k2,k3,k4⟩:=h.ow i d e
  refine⟨a,k1,k2,?_,?_⟩
  ·cases d with
   | lst ds =>
    obtain⟨vs,h5,_⟩:=k4
    have:frz He H₀ H a=some (.lst vs):=by unfold frz;rw[k2];exact h5
    have:=g.z _ _ this
    unfold zi8
    rw[k3,this]
   | _=>exact k4.elim
  ·cases d with
   | lst ds=>obtain⟨vs,h5,h6⟩:=k4;exact⟨vs,g.s _ _ h5,h6.mono z⟩
   | _=>exact k4.elim
end
section
variable {X:Cx}{E:XK}{He H0e:Hp}{st:Stmt}{rest:List Stmt}{e a b:Expr}{es:List Expr}{f g:Ev->Res D}{fa:Ev->Res (List D)}{s t:Ev->Res Fl}{pos:Pos}
theorem za5 {t t':TS}(h:PS X st t)(w:∀ D σ H,t' D σ H->t D σ H):PS X st t':=fun pins s σ H D I q=>h pins s σ H D I (w D σ H q)
theorem zcw {t t':TS}(h:PSs X rest t)(w:∀ D σ H,t' D σ H->t D σ H):PSs X rest t':=fun pins s σ H D I q=>h pins s σ H D I (w D σ H q)
def zal:Ev->Res Fl:=fun ρ=>.ok (.nx ρ)
def zar (s t:Ev->Res Fl):Ev->Res Fl:=fun ρ=>(s ρ).bind fun r=>match r with
 | .nx ρ'=>t ρ'
 | r=>.ok r
theorem zag:DSs X E He H0e [] zal:=⟨zcw zh6 fun D σ H ⟨H₀,ρ,h,q⟩=>q σ H H₀ (zax.refl _) h⟩
theorem zab (h1:DS X E He H0e st s)(h2:DSs X E He H0e rest t):DSs X E He H0e (st::rest) (zar s t):=by
 refine⟨?_⟩
 refine zcw (zdk h1.o h2.o) fun D σ H ⟨H₀,ρ,h,q⟩=>⟨H₀,ρ,h,?_⟩
 unfold zar at q
 cases e1:s ρ with
 | stuck=>rw[e1] at q;exact q
 | exn x=>rw[e1] at q;exact q
 | ok r =>
  rw[e1] at q
  cases r with
  | nx ρ'=>exact fun σ' H' H₀' s' h'=>⟨H₀',ρ',h',zbI.grow (r:=t ρ') q s'⟩
  | rt d=>exact q
  | bk ρ'=>exact q
  | ct ρ'=>exact q
def zcl:Ev->Res Fl:=fun _=>.stuck
theorem zb1:DS X E He H0e st zcl:=⟨za5 zrF fun D σ H ⟨H₀,ρ,h,q⟩=>q⟩
theorem plain {K:W.Frag}{H₀ H:Hp}{σ:L2.St}{ρ:Ev}{k:D->Res Fl}{D':zg4}(h:SRx K He H0e H₀ σ H ρ){r:Res D}{Q:VK}
  (q:zbI K E He H0e H₀ (r.bind k) D')(hk:∀ d v H' H₀',r=.ok d->za4 H H₀ H' H₀'->Rep K H₀' d v->zbI K E He H0e H₀' (k d) D'->Q v H'):post K E H H₀ r Q:=by
 cases r with
 | stuck=>exact q
 | exn x=>exact fun C ox H' H₀' g ex=>q C ox H' H₀' (h.g.trans g) ex
 | ok d=>exact fun v H' H₀' g rp=>hk d v H' H₀' rfl g rp (zbI.grow (r:=k d) q g.z)
theorem look {K:W.Frag}{H₀ H:Hp}{σ:L2.St}{ρ:Ev}{k:D->Res Fl}{D':zg4}(h:SRx K He H0e H₀ σ H ρ){r:Res D}{Q:VK}
  (q:zbI K E He H0e H₀ (r.bind k) D')(hk:∀ d v H' J,r=.ok d->za4 H (frz He H₀ H) H' J->Rep K J d v->zbI K E He H0e H₀ (k d) D'->Q v H'):post K E H (frz He H₀ H) r Q:=by
 cases r with
 | stuck=>exact q
 | exn x=>exact fun C ox H' H₀' g ex=>q C ox H' H₀' (h.frz_grow.trans g) ex
 | ok d=>exact fun v H' J g rp=>hk d v H' J rfl g rp q
theorem zwM {K:W.Frag}{H₀ H:Hp}{σ:L2.St}{ρ:Ev}{k:Bool->Res Fl}{D':zg4}(h:SRx K He H0e H₀ σ H ρ){r:Res D}{Q:Bool->Hp->Prop}
  (q:zbI K E He H0e H₀ (r.bind fun x=>match x with | .bl b=>k b | _=>.stuck) D')(hk:∀ b H',zax H H'->zbI K E He H0e H₀ (k b) D'->Q b H'):zl2 K E H (frz He H₀ H) r Q:=by
 cases r with
 | stuck=>exact q
 | exn x=>exact fun C ox H' H₀' g ex=>q C ox H' H₀' (h.frz_grow.trans g) ex
 | ok d =>
  cases d with
  | bl b=>exact fun H' J g=>hk b H' g.s q
  | _=>exact q.elim
def zbN (i:Nat)(f:Ev->Res D):Ev->Res Fl:=fun ρ=>(f ρ).bind fun d=>.ok (.nx (ρ.set i (.sh d)))
def zlX (i:Nat)(f:Ev->Res D):Ev->Res Fl:=fun ρ=>(f (shr ρ)).bind fun d=>if zkE d=true then .ok (.nx (ρ.set i (.sh d))) else .stuck
def zco (f:Ev->Res D):Ev->Res Fl:=fun ρ=>(f (shr ρ)).bind fun d=>.ok (.rt d)
def zh3 (f:Ev->Res D):Ev->Res Fl:=fun ρ=>(f (shr ρ)).bind fun _=>.ok (.nx ρ)
def sIf (c:Ev->Res D)(s t:Ev->Res Fl):Ev->Res Fl:=fun ρ=>(c (shr ρ)).bind fun x=>match x with
 | .bl b=>if b=true then s ρ else t ρ
 | _=>.stuck
theorem zaS {i:Nat}{x:Str}{pos':Pos}(hN:X.N.Nodup)(hi:X.N[i]?=some x)(hx:Loc X.env.scope x)(he:DE X E e f)(hs:swapsWith e (some (.Name x pos')) pos.line X.env=pure false:=by rfl)
  (hf:X.fn x=true∨X.env.scope.names.lookup x=some .local := by first | exact .inl rfl | exact .inr rfl | assumption):DS X E He H0e (.Assign [.Name x pos'] e pos) (zbN i f):=by
 refine⟨?_⟩
 refine za5 (zkV hN hi hx he.o hs hf) fun D σ H ⟨H₀,ρ,h,q⟩=>⟨H₀,ρ,h.g.sub,h.rd,?_⟩
 refine plain h q fun d v H' H₀' _ g rp q'=>?_
 exact q' _ H' H₀' (zax.refl _) ((h.grow g).put rp)
theorem zqz {i:Nat}{x:Str}{pos':Pos}(hN:X.N.Nodup)(hi:X.N[i]?=some x)(hx:Loc X.env.scope x)(he:DE X E e f)(hs:swapsWith e (some (.Name x pos')) pos.line X.env=pure false:=by rfl)
  (hf:X.fn x=true∨X.env.scope.names.lookup x=some .local := by first | exact .inl rfl | exact .inr rfl | assumption):DS X E He H0e (.Assign [.Name x pos'] e pos) (zlX i f):=by
 refine⟨?_⟩
 refine za5 (zkV hN hi hx he.o hs hf) fun D σ H ⟨H₀,ρ,h,q⟩=>⟨frz He H₀ H,shr ρ,h.frz_le,h.looks,?_⟩
 refine look h q fun d v H' J _ g rp q'=>?_
 by_cases fl:zkE d=true
 ·rw[if_pos fl] at q'
  have hJ:zax H₀ J:=h.frz_sub.trans g.z
  refine q' _ H' (zi8 H₀ J) (fun b o e=>by unfold zi8;rw[e]) ((h.behind g).put (rp.flat_to (zqY hJ) fl))
 ·rw[if_neg fl] at q';exact q'.elim
theorem zaQ (he:DE X E e f):DS X E He H0e (.Return (some e) pos) (zco f):=by
 refine⟨?_⟩
 refine za5 (zkW he.o) fun D σ H ⟨H₀,ρ,h,q⟩=>⟨frz He H₀ H,shr ρ,h.frz_le,h.looks,?_⟩
 exact look h q fun d v H' J _ g rp q'=>q' v H' J (h.frz_grow.trans g) rp
def zx8:Ev->Res Fl:=fun _=>.ok (.rt .non)
theorem zfJ (he:DE X E e f)(hs:swapsWith e none pos.line X.env=pure false:=by rfl):DS X E He H0e (.Expr e pos) (zh3 f):=by
 refine⟨?_⟩
 refine za5 (zj2 he.o hs) fun D σ H ⟨H₀,ρ,h,q⟩=>⟨frz He H₀ H,shr ρ,h.frz_le,h.looks,?_⟩
 exact look h q fun d v H' J _ g rp q'=>q' σ H' H₀ (zax.refl _) (h.same g.s)
theorem zbB {c:Expr}{fc:Ev->Res D}{sa sb:List Stmt}(hc:DT X E c fc)(ha:DSs X E He H0e sa s)(hb:DSs X E He H0e sb t):DS X E He H0e (.If c sa sb pos) (sIf fc s t):=by
 refine⟨?_⟩
 refine za5 (zwl hc.o ha.o hb.o) fun D σ H ⟨H₀,ρ,h,q⟩=>⟨frz He H₀ H,shr ρ,h.frz_le,h.looks,?_⟩
 refine zwM (k:=fun b=>if b=true then s ρ else t ρ) h q fun b H' hs q'=>?_
 cases b with
 | true=>rw[if_pos rfl] at q' ⊢;exact⟨H₀,ρ,h.same hs,q'⟩
 | false=>rw[if_neg Bool.false_ne_true] at q' ⊢;exact⟨H₀,ρ,h.same hs,q'⟩
def tF (K:W.Frag)(E:XK)(f:Ev->Res D):TE:=fun σ H Q=>∃ H₀ ρ,zax H₀ H/\Reads K H₀ σ ρ/\match f ρ with
 | .ok (.lst ds)=>∀ p vs H' H₀',za4 H H₀ H' H₀'->H p=none->H₀' p=none->H' p=some (.lst vs)->Reps K H₀' ds vs->Q (.ref p) H'
 | .ok _=>False
 | .exn x=>∀ C ox H' H₀',za4 H H₀ H' H₀'->ExR K H₀' x C ox->E C ox H'
 | .stuck=>False
structure DF (X:Cx) (E:XK) (e:Expr) (f:Ev->Res D):Prop where
 o:PE X e (tF X.K E f)
def zje (i:Nat)(f:Ev->Res D):Ev->Res Fl:=fun ρ=>(f ρ).bind fun d=>match d with
 | .lst ds=>.ok (.nx (ρ.set i (.ow (.lst ds))))
 | _=>.stuck
theorem zem {i:Nat}{x:Str}{pos':Pos}(hN:X.N.Nodup)(hi:X.N[i]?=some x)(hx:Loc X.env.scope x)(he:DF X E e f)(hs:swapsWith e (some (.Name x pos')) pos.line X.env=pure false:=by rfl)
  (hf:X.fn x=true∨X.env.scope.names.lookup x=some .local := by first | exact .inl rfl | exact .inr rfl | assumption):DS X E He H0e (.Assign [.Name x pos'] e pos) (zje i f):=by
 refine⟨?_⟩
 refine za5 (zkV hN hi hx he.o hs hf) fun D σ H ⟨H₀,ρ,h,q⟩=>⟨H₀,ρ,h.g.sub,h.rd,?_⟩
 unfold zje at q
 cases e1:f ρ with
 | stuck=>rw[e1] at q;exact q
 | exn x=>rw[e1] at q;exact fun C ox H' H₀' g ex=>q C ox H' H₀' (h.g.trans g) ex
 | ok d =>
  rw[e1] at q
  cases d with
  | lst ds =>
   intro p vs H' H₀' g hp h0 hv rp
   refine q _ H' H₀' g.z ((h.grow g).putOwn (fun j a ej ea d ed=>?_) (h.g.s.free hp) h0 hv rp (h.fresh_x g.s hp))
   subst ea
   obtain⟨a',k1,_,_,k4⟩:=h.ow j d ed
   rw[ej] at k1;cases k1
   cases d with
   | lst ds'=>obtain⟨vs',h5,_⟩:=k4;rw[hp] at h5;cases h5
   | _=>exact k4.elim
  | _=>exact q.elim
theorem zga (h:DA X E es fa):DF X E (.List es pos) (zan fa zdQ):=by
 refine⟨?_⟩
 refine zaG (zs8 h.o) fun σ H Q h=>?_
 obtain⟨H₀,ρ,hs,hr,q⟩:=h
 refine⟨H₀,ρ,hs,hr,?_⟩
 unfold zan at q
 cases e1:fa ρ with
 | stuck=>rw[e1] at q;exact q
 | exn x=>rw[e1] at q;exact q
 | ok ds =>
  rw[e1] at q
  intro vs H1 H01 g1 r1
  replace q:match zdQ ds with
   | .ok (.lst ds)=>∀ p vs H' H₀',za4 H H₀ H' H₀'->H p=none->H₀' p=none->H' p=some (.lst vs)->Reps X.K H₀' ds vs->Q (.ref p) H'
   | .ok _=>False
   | .exn x=>∀ C ox H' H₀',za4 H H₀ H' H₀'->ExR X.K H₀' x C ox->E C ox H'
   | .stuck=>False:=q
  unfold zdQ at q
  by_cases hl:ds.length<=line
  ·rw[if_pos hl] at q
   refine⟨by rw[← r1.length];exact zch hl,fun p hp=>?_⟩
   have h0:H01 p=none:=g1.sub.free hp
   refine q p vs _ H01 (g1.trans ⟨fun b o q=>by rw[zah (zaB q hp)];exact q,zax.refl _,fun b o q=>?_,fun a h1 h2=>absurd h2 h1⟩) (g1.s.free hp) h0 zak r1
   rw[zah (by intro z;subst z;rw[h0] at q;cases q)];exact g1.sub _ _ q
  ·rw[if_neg hl] at q;exact q.elim
def zn8 (ρ:Ev)(i:Nat)(k:List D->Res Fl):Res Fl:=match ρ[i]? with
 | some (.ow (.lst ds))=>k ds
 | _=>.stuck
def zbX (i:Nat)(f:Ev->Res D):Ev->Res Fl:=fun ρ=>zn8 ρ i fun ds=>(f ρ).bind fun d=>if ds.length < line then .ok (.nx (ρ.set i (.ow (.lst (ds++[d]))))) else .stuck
def zru (i:Nat)(f:Ev->Res D):Ev->Res Fl:=fun ρ=>zn8 ρ i fun ds=>(f (shr ρ)).bind fun d=>if zkE d=true/\ds.length < line then .ok (.nx (ρ.set i (.ow (.lst (ds++[d]))))) else .stuck
theorem zna {K:W.Frag}{H₀ H:Hp}{σ:L2.St}{ρ:Ev}{i:Nat}{k:List D->Res Fl}{D':zg4}(h:SRx K He H0e H₀ σ H ρ)(q:zbI K E He H0e H₀ (zn8 ρ i k) D') :
  ∃ ds p vs,ρ[i]?=some (.ow (.lst ds))/\σ[i]?=some (some (.ref p))/\He p=none/\H₀ p=none/\H p=some (.lst vs)/\Reps K H₀ ds vs/\zbI K E He H0e H₀ (k ds) D':=by
 unfold zn8 at q
 cases e:ρ[i]? with
 | none=>rw[e] at q;exact q.elim
 | some s =>
  rw[e] at q
  cases s with
  | no=>exact q.elim
  | sh d=>exact q.elim
  | ox j ds=>exact q.elim
  | pt a=>exact q.elim
  | ow d =>
   cases d with
   | lst ds =>
    obtain⟨p,h1,h2,h3,vs,h4,h5⟩:=h.ow i _ e
    exact⟨ds,p,vs,rfl,h1,h2,h3,h4,h5,q⟩
   | _=>exact q.elim
theorem zdb {i:Nat}{x:Str}{p1 p2 p3:Pos}(hN:X.N[i]?=some x)(hv:Vis X.env.scope x)(he:DE X E e f)
  (hd:(x==("__debug__" : Str))=false:=by decide)(hcd:(x==("__classdict__" : Str))=false:=by decide)
  (hbase:attributeBase (.Name x p1) "append" X.env (eval (.Name x p1) X.env)=eval (.Name x p1) X.env:=by rfl)
  (hfew:((backTo p3 (starEach [e] X.env)).all (fun x=>!x.1)&&(backToKw p3 (keywordEach [] X.env)).all (fun x=>x.1.isSome)
  &&decide ([e].length+([]:List Keyword).length+(if([]:List Keyword).isEmpty then 0 else 1) < 30))=true:=by exact zkh rfl)
  (hline:(p2.endLine==p3.line)=true:=by rfl) (hs:starEach [e] X.env=(false,eval e X.env)::starEach [] X.env:=by exact zaC rfl) (hplain:(backTo p3 (starEach [] X.env)).any (·.1)=false:=by exact za3 rfl)
  (hw:swapsWith (.Call (.Attribute (.Name x p1) "append" p2) [e] [] p3) none pos.line X.env=pure false:=by rfl) :
  DS X E He H0e (.Expr (.Call (.Attribute (.Name x p1) "append" p2) [e] [] p3) pos) (zbX i f):=by
 refine⟨?_⟩
 refine za5 (zj2 (zud PySem.F.plainAttrs_list PySem.F.slot_list_append PySem.F.type_list_append zih (zfk hN hv hd hcd) (zcK he.o zfl hs) hbase hfew hline hs hplain) hw) fun D σ H ⟨H₀,ρ,h,q⟩=>?_
 obtain⟨ds,p,vs,e1,e2,e3,e4,e5,e6,q⟩:=zna h q
 refine⟨.ref p,e2,.inl ⟨rfl,vs,SqL.of e5⟩,?_⟩
 refine⟨H₀,ρ,h.g.sub,h.rd,plain h q fun d v H' H₀' _ g rp q'=>?_⟩
 by_cases hl:ds.length < line
 ·rw[if_pos hl] at q'
  have e5':H' p=some (.lst vs):=g.s _ _ e5
  refine⟨p,vs,v,rfl,rfl,e5',by rw[← e6.length];exact Nat.lt_of_lt_of_le hl (by decide),?_⟩
  exact q' σ _ H₀' (zax.refl _) ((h.grow g).write e1 e2 ((e6.mono g.z).app (Reps.cons rp Reps.nil)))
 ·rw[if_neg hl] at q';exact q'.elim
def putAt (ρ:Ev)(i:Nat)(ds:List D)(d:D)(j:D):Res Fl:=match j with
 | .int j=>match ixN ds.length j with
  | some n=>.ok (.nx (ρ.set i (.ow (.lst (ds.set n d)))))
  | none=>.stuck
 | _=>.stuck
def zv5 (i:Nat)(f k:Ev->Res D):Ev->Res Fl:=fun ρ=>zn8 ρ i fun ds=>(f ρ).bind fun d=>(k ρ).bind fun j=>putAt ρ i ds d j
def zx9 (i:Nat)(f k:Ev->Res D):Ev->Res Fl:=fun ρ=>zn8 ρ i fun ds=>(f (shr ρ)).bind fun d=>(k (shr ρ)).bind fun j=>if zkE d=true then putAt ρ i ds d j else .stuck
theorem zrD {K:W.Frag}{H₀ H:Hp}{σ:L2.St}{ρ:Ev}{i:Nat}{D':zg4}{ds:List D}{d j:D}{p:Addr}{vs:List V}{v u:V}(h:SRx K He H0e H₀ σ H ρ)(e1:ρ[i]?=some (.ow (.lst ds)))(e2:σ[i]?=some (some (.ref p)))(e5:H p=some (.lst vs))(e6:Reps K H₀ ds vs)
  (rp:Rep K H₀ d v)(rj:Rep K H₀ j u)(q:zbI K E He H0e H₀ (putAt ρ i ds d j) D'):zwe (.ref p) u v H fun H'=>D'.nx σ H':=by
 unfold putAt at q
 cases j with
 | int n =>
  cases en:ixN ds.length n with
  | none=>simp only[en] at q;exact q.elim
  | some m =>
   simp only[en] at q
   refine⟨p,vs,n,m,rfl,Rep.int_iff.mp rj,e5,by rw[← e6.length];exact en,?_⟩
   exact q σ _ H₀ (zax.refl _) (h.write e1 e2 (e6.set rp m))
 | _=>exact q.elim
section
variable {i:Nat}{x:Str}{p1 p2:Pos}{k:Ev->Res D}
theorem zw9 (hN:X.N[i]?=some x)(hv:Vis X.env.scope x)(he:DE X E e f)(hk:DE X E b k)
  (hd:(x==("__debug__" : Str))=false:=by decide)(hcd:(x==("__classdict__" : Str))=false:=by decide)
  (ha:∀ v,assign (.Subscript (.Name x p1) b p2) X.env v=(do
   let ov ← holding [v] (eval (.Name x p1) X.env)
   let iv ← holding [v,ov] (eval b X.env)
   standAt p2
   holding [v,ov,iv] (setItem ov iv v)
   release [v,ov,iv] []):=by intro _;rfl)
  (hs:swapsWithSole [.Subscript (.Name x p1) b p2] e pos.line X.env=pure false:=by rfl) (hw:swappedStores [.Subscript (.Name x p1) b p2] e X.env=pure none:=by rfl)
  (h1:(assignEach [.Subscript (.Name x p1) b p2] X.env).map (·.2)=[assign (.Subscript (.Name x p1) b p2) X.env]:=by rfl) :
  DS X E He H0e (.Assign [.Subscript (.Name x p1) b p2] e pos) (zv5 i f k):=by
 refine⟨?_⟩
 refine za5 (zs6 he.o (zs7 (zfk hN hv hd hcd) hk.o zmS ha) hs hw h1) fun D σ H ⟨H₀,ρ,h,q⟩=>⟨H₀,ρ,h.g.sub,h.rd,?_⟩
 obtain⟨ds,p,vs,e1,e2,e3,e4,e5,e6,q⟩:=zna h q
 refine plain (k:=fun d=>(k ρ).bind fun j=>putAt ρ i ds d j) h q fun d v H1 H01 _ g1 r1 q1=>⟨.ref p,e2,?_⟩
 have h1':=h.grow g1
 refine⟨H01,ρ,h1'.g.sub,h1'.rd,plain (k:=fun j=>putAt ρ i ds d j) h1' q1 fun j u H2 H02 _ g2 r2 q2=>?_⟩
 exact zrD (h1'.grow g2) e1 e2 (g2.s _ _ (g1.s _ _ e5)) ((e6.mono g1.z).mono g2.z) (r1.mono g2.z) r2 q2
end
def zcB (tg:Ev->D->Res Ev)(body:Ev->Res Fl):List D->Ev->Res Fl
 | [],ρ=>.ok (.nx ρ)
 | d::r,ρ=>(tg ρ d).bind fun ρ1=>(body ρ1).bind fun x=>match x with
  | .nx ρ2=>zcB tg body r ρ2
  | .ct ρ2=>zcB tg body r ρ2
  | .bk ρ2=>.ok (.nx ρ2)
  | .rt d=>.ok (.rt d)
def tG (K:W.Frag)(He H0e:Hp)(tg:Ev->D->Res Ev):TG:=fun v σ H Q=>∃ H₀ ρ d,SRx K He H0e H₀ σ H ρ/\Rep K H₀ d v/\match tg ρ d with
  | .ok ρ'=>∀ σ' H' H₀',zax H₀ H₀'->SRx K He H0e H₀' σ' H' ρ'->Q σ' H'
  | _=>False
structure DG (X:Cx) (E:XK) (He H0e:Hp) (target:Expr) (tg:Ev->D->Res Ev):Prop where
 o:PG X target (tG X.K He H0e tg)
def zcV (i:Nat):Ev->D->Res Ev:=fun ρ d=>.ok (ρ.set i (.sh d))
theorem zl3 {tgt:Expr}{t t':TG}(h:PG X tgt t)(w:∀ v σ H Q,t' v σ H Q->t v σ H Q):PG X tgt t':=fun pins s σ H v u Q I r q=>h pins s σ H v u Q I r (w v σ H Q q)
theorem zb4 {i:Nat}{x:Str}(hN:X.N.Nodup)(hi:X.N[i]?=some x)(hx:Loc X.env.scope x)(hf:X.fn x=true∨X.env.scope.names.lookup x=some .local := by first | exact .inl rfl | exact .inr rfl | assumption):DG X E He H0e (.Name x pos) (zcV i) :=
 ⟨zl3 (zpG hN hi hx hf) fun v σ H Q ⟨H₀,ρ,d,h,rp,q⟩=>q _ H H₀ (zax.refl _) (h.put rp)⟩
def zff (K:W.Frag)(E:XK)(He H0e H₁:Hp)(tg:Ev->D->Res Ev)(s:Ev->Res Fl)(ds:List D)(D':zg4)(i:Nat)(σ:L2.St)(H:Hp):Prop :=
 ∃ H₀ ρ,zax H₁ H₀/\SRx K He H0e H₀ σ H ρ/\zbI K E He H0e H₀ (zcB tg s (ds.drop i) ρ) D'
theorem zff.step {K:W.Frag}{H₁:Hp}{tg:Ev->D->Res Ev}{ds:List D}{D':zg4}{i:Nat}{σ:L2.St}{H:Hp}{d:D}{v:V}(h:zff K E He H0e H₁ tg s ds D' i σ H)(hd:ds[i]?=some d)(rv:Rep K H₁ d v)
  (he:∀ ρ,tg ρ d=.stuck∨∃ ρ',tg ρ d=.ok ρ') :
  tG K He H0e tg v σ H fun σ2 H2=>tS K E He H0e s { D' with nx:=zff K E He H0e H₁ tg s ds D' (i+1),ct:=zff K E He H0e H₁ tg s ds D' (i+1),bk:=D'.nx } σ2 H2:=by
 obtain⟨H₀,ρ,z,h,q⟩:=h
 have hi:i < ds.length:=(List.getElem?_eq_some_iff.mp hd).1
 have hdr:ds.drop i=d::ds.drop (i+1):=by
  rw[List.drop_eq_getElem_cons hi]
  rw[List.getElem?_eq_getElem hi] at hd
  cases hd;rfl
 rw[hdr] at q
 refine⟨H₀,ρ,d,h,rv.mono z,?_⟩
 unfold zcB at q
 rcases he ρ with e1 | ⟨ρ1,e1⟩
 ·rw[e1] at q;exact q.elim
 ·rw[e1] at q ⊢
  intro σ' H' H₀' z' h'
  refine⟨H₀',ρ1,h',?_⟩
  replace q:=zbI.grow (r:=(s ρ1).bind fun x=>match x with
   | .nx ρ2=>zcB tg s (ds.drop (i+1)) ρ2
   | .ct ρ2=>zcB tg s (ds.drop (i+1)) ρ2
   | .bk ρ2=>.ok (.nx ρ2)
   | .rt d=>.ok (.rt d)) q z'
  cases e2:s ρ1 with
  | stuck=>rw[e2] at q;exact q
  | exn x=>rw[e2] at q;exact q
  | ok r =>
   rw[e2] at q
   cases r with
   | nx ρ2=>exact fun σ3 H3 H03 z3 h3=>⟨H03,ρ2,(z.trans z').trans z3,h3,zbI.grow (r:=zcB tg s (ds.drop (i+1)) ρ2) q z3⟩
   | ct ρ2=>exact fun σ3 H3 H03 z3 h3=>⟨H03,ρ2,(z.trans z').trans z3,h3,zbI.grow (r:=zcB tg s (ds.drop (i+1)) ρ2) q z3⟩
   | bk ρ2=>exact q
   | rt d=>exact q
theorem zff.done {K:W.Frag}{H₁:Hp}{tg:Ev->D->Res Ev}{ds:List D}{D':zg4}{σ:L2.St}{H:Hp}(h:zff K E He H0e H₁ tg s ds D' ds.length σ H):D'.nx σ H:=by
 obtain⟨H₀,ρ,z,h,q⟩:=h
 rw[List.drop_length] at q
 unfold zcB at q
 exact q σ H H₀ (zax.refl _) h
def zoG (tg:Ev->D->Res Ev):Prop:=∀ ρ d,tg ρ d=.stuck∨∃ ρ',tg ρ d=.ok ρ'
theorem zbZ {i:Nat}:zoG (zcV i):=fun ρ d=>.inr ⟨_,rfl⟩
def zpt (f:Ev->Res D)(tg:Ev->D->Res Ev)(s:Ev->Res Fl):Ev->Res Fl:=fun ρ=>(f ρ).bind fun d=>match d with
 | .lst ds=>zcB tg s ds ρ
 | _=>.stuck
theorem znA {tgt iter:Expr}{body:List Stmt}{tg:Ev->D->Res Ev}(hp:PassesOwn (model X.prog X.w) X.A X.env X.xe)(hc:X.calm=true)(hi:DE X E iter f)(hg:DG X E He H0e tgt tg)(ht:zoG tg)(hb:DSs X E He H0e body s)
  (hs:∀ x,foldedSetIterable iter X.env x=pure x:=by intro _;rfl):DS X E He H0e (.For tgt iter body [] pos) (zpt f tg s):=by
 refine⟨?_⟩
 refine za5 (zm5 hp hc (zpF hi.o) hg.o hb.o hs) fun D' σ H ⟨H₀,ρ,h,q⟩=>⟨H₀,ρ,h.g.sub,h.rd,?_⟩
 refine plain h q fun d v H1 H01 _ g rp q1=>?_
 cases d with
 | lst ds =>
  obtain⟨a,vs,rfl,hv,hr⟩:=Rep.lst_iff.mp rp
  refine⟨a,rfl,⟨vs,zax.sqL g.sub hv⟩,?_⟩
  refine zsh (K:=X.K) (a:=a) (g:=tG X.K He H0e tg) (tb:=tS X.K E He H0e s) (D:=D') (xs:=vs) (zff X.K E He H0e H01 tg s ds D') ⟨H01,ρ,zax.refl _,h.grow g,q1⟩ ?_ ?_ ?_
  ·rintro i σ' H' _ ⟨H₀',ρ',z,h',_⟩
   exact zax.sqL (z.trans h'.g.sub) hv
  ·intro i x σ' H' hx hI
   have hil:i < ds.length:=by rw[hr.length];exact(List.getElem?_eq_some_iff.mp hx).1
   obtain⟨u,e1,e2⟩:=hr.get (List.getElem?_eq_getElem hil)
   rw[hx] at e1;cases e1
   exact hI.step (List.getElem?_eq_getElem hil) e2 fun ρ=>ht ρ _
  ·intro σ' H' hI
   rw[← hr.length] at hI
   exact hI.done
 | _=>exact q1.elim
def intsFrom (lo:Int)(n:Nat):List D:=(List.range n).map fun(k:Nat)=>D.int (lo+(k:Int))
def zlZ (f:Ev->Res D)(tg:Ev->D->Res Ev)(s:Ev->Res Fl):Ev->Res Fl:=fun ρ=>(f (shr ρ)).bind fun d=>match d with
 | .int j=>if -4611686018427387904<=j/\j < 4611686018427387904 then zcB tg s (intsFrom 0 j.toNat) ρ else .stuck
 | _=>.stuck
theorem zkk {tgt iter:Expr}{p pos2:Pos}{body:List Stmt}{tg:Ev->D->Res Ev}(hp:PassesOwn (model X.prog X.w) X.A X.env X.xe)(hc:X.calm=true)(hgl:Gl X "range")(hm:X.mg "range"=none)(hi:DE X E iter f)(hg:DG X E He H0e tgt tg)(ht:zoG tg)(hb:DSs X E He H0e body s)
  (hst:starEach [iter] X.env=[(false,eval iter X.env)]:=by exact zdS rfl)(hs:∀ x,foldedSetIterable (.Call (.Name "range" p) [iter] [] pos2) X.env x=pure x:=by intro _;rfl):DS X E He H0e (.For tgt (.Call (.Name "range" p) [iter] [] pos2) body [] pos) (zlZ f tg s):=by
 refine⟨?_⟩
 refine za5 (zm5 hp hc (zh8 hgl hm (zcK hi.o zfl hst) hst) hg.o hb.o hs) fun D' σ H ⟨H₀,ρ,h,q⟩=>?_
 refine⟨frz He H₀ H,shr ρ,h.frz_le,h.looks,look h q fun d v H1 J _ g rp q1=>?_⟩
 cases d with
 | int j =>
  rw[Rep.int_iff.mp rp]
  replace q1:zbI X.K E He H0e H₀ (if -4611686018427387904<=j/\j < 4611686018427387904 then zcB tg s (intsFrom 0 j.toNat) ρ else .stuck) D':=q1
  by_cases hj:-4611686018427387904<=j/\j < 4611686018427387904
  ·rw[if_pos hj] at q1
   refine⟨j,rfl,by omega,by omega,?_⟩
   have hlen:(intsFrom 0 j.toNat).length=j.toNat:=by unfold intsFrom;simp
   refine zql (lo:=0) (n:=j.toNat) (g:=tG X.K He H0e tg) (tb:=tS X.K E He H0e s) (D:=D') (zff X.K E He H0e H₀ tg s (intsFrom 0 j.toNat) D') ⟨H₀,ρ,zax.refl _,h.same g.s,q1⟩ ?_ ?_
   ·intro i σ' H' hlt hI
    refine hI.step (d:=.int (0+i)) ?_ (Rep.int_iff.mpr rfl) fun ρ=>ht ρ _
    unfold intsFrom
    simp [hlt]
   ·intro σ' H' hI
    exact zff.done (ds:=intsFrom 0 j.toNat) (by rw[hlen];exact hI)
  ·rw[if_neg hj] at q1;exact q1.elim
 | _=>exact q1.elim
def zbY (c:Ev->Res D)(s:Ev->Res Fl):Nat->Ev->Res Fl
 | 0,_=>.stuck
 | n+1,ρ=>(c (shr ρ)).bind fun x=>match x with
  | .bl b=>if b=true then(s ρ).bind fun x=>match x with
    | .nx ρ2=>zbY c s n ρ2
    | .ct ρ2=>zbY c s n ρ2
    | .bk ρ2=>.ok (.nx ρ2)
    | .rt d=>.ok (.rt d)
   else .ok (.nx ρ)
  | _=>.stuck
def zh1 (fuel:Ev->Nat)(c:Ev->Res D)(s:Ev->Res Fl):Ev->Res Fl:=fun ρ=>zbY c s (fuel ρ) ρ
theorem znz (fuel:Ev->Nat){c:Expr}{body:List Stmt}{fc:Ev->Res D}(hp:PassesOwn (model X.prog X.w) X.A X.env X.xe)(hc:DT X E c fc)(hb:DSs X E He H0e body s):DS X E He H0e (.While c body [] pos) (zh1 fuel fc s):=by
 refine⟨?_⟩
 refine za5 (zm4 hp hc.o hb.o) fun D' σ H ⟨H₀,ρ,h,q⟩=>?_
 refine⟨fun m σ H=>∃ H₀ ρ,SRx X.K He H0e H₀ σ H ρ/\zbI X.K E He H0e H₀ (zbY fc s m ρ) D',⟨fuel ρ,H₀,ρ,h,q⟩,?_⟩
 rintro m σ1 H1 ⟨H01,ρ1,h1,q1⟩
 cases m with
 | zero=>exact q1.elim
 | succ m =>
  refine⟨frz He H01 H1,shr ρ1,h1.frz_le,h1.looks,?_⟩
  unfold zbY at q1
  refine zwM (k:=fun b=>if b=true then(s ρ1).bind fun x=>match x with
    | .nx ρ2=>zbY fc s m ρ2
    | .ct ρ2=>zbY fc s m ρ2
    | .bk ρ2=>.ok (.nx ρ2)
    | .rt d=>.ok (.rt d)
   else .ok (.nx ρ1)) h1 q1 fun b H2 hs q2=>?_
  cases b with
  | false =>
   rw[if_neg Bool.false_ne_true] at q2 ⊢
   exact q2 σ1 H2 H01 (zax.refl _) (h1.same hs)
  | true =>
   rw[if_pos rfl] at q2 ⊢
   refine⟨fun σ' H'=>∃ m',m' < m+1/\∃ H₀ ρ,SRx X.K He H0e H₀ σ' H' ρ/\zbI X.K E He H0e H₀ (zbY fc s m' ρ) D',fun σ' H' z=>z,H01,ρ1,h1.same hs,?_⟩
   cases e2:s ρ1 with
   | stuck=>rw[e2] at q2;exact q2
   | exn x=>rw[e2] at q2;exact q2
   | ok r =>
    rw[e2] at q2
    cases r with
    | nx ρ2=>exact fun σ3 H3 H03 z3 h3=>⟨m,Nat.lt_succ_self _,H03,ρ2,h3,zbI.grow (r:=zbY fc s m ρ2) q2 z3⟩
    | ct ρ2=>exact fun σ3 H3 H03 z3 h3=>⟨m,Nat.lt_succ_self _,H03,ρ2,h3,zbI.grow (r:=zbY fc s m ρ2) q2 z3⟩
    | bk ρ2=>exact q2
    | rt d=>exact q2
end
def zdz (n:Nat)(s:Ev->Res Fl)(ds:List D):Res D:=(s (ds.map Sl.sh++List.replicate (n-ds.length) .no)).bind fun r=>match r with
 | .nx _=>.ok .non
 | .rt d=>.ok d
 | _=>.stuck
theorem zdR {K:W.Frag}{H₀:Hp}{N:List Str}{ds:List D}{vs:List V}(h:Reps K H₀ ds vs):Reads K H₀ (start N vs) (ds.map Sl.sh++List.replicate (N.length-ds.length) .no):=by
 intro i d e
 have hl:=h.length
 by_cases hi:i < ds.length
 ·rw[List.getElem?_append_left (by simpa using hi),List.getElem?_map] at e
  cases q:ds[i]? with
  | none=>rw[q] at e;cases e
  | some d' =>
   rw[q] at e;cases e
   obtain⟨v,h1,h2⟩:=h.get q
   refine⟨v,?_,h2⟩
   unfold L2.start
   rw[List.getElem?_append_left (by simp;omega),List.getElem?_map,h1]
   rfl
 ·rw[List.getElem?_append_right (by simpa using hi),List.getElem?_replicate] at e
  split at e<;>cases e
theorem zfW {ds:List D}{n:Nat}(i j:Nat)(es:List D):(ds.map Sl.sh++List.replicate n Sl.no)[i]?≠some (.ox j es):=fun e=>by
 have:=List.mem_of_getElem? e
 rw[List.mem_append] at this
 rcases this with h | h
 ·obtain⟨_,_,h⟩:=List.mem_map.mp h;cases h
 ·have:=List.eq_of_mem_replicate h;cases this
theorem ze2 {ds:List D}{n:Nat}{σ:L2.St}(i:Nat)(a:Addr)(e:(ds.map Sl.sh++List.replicate n Sl.no)[i]?=some (.pt a)):σ[i]?=some (some (.ref a)):=by
 have:=List.mem_of_getElem? e
 rw[List.mem_append] at this
 rcases this with h | h
 ·obtain⟨_,_,h⟩:=List.mem_map.mp h;cases h
 ·have:=List.eq_of_mem_replicate h;cases this
theorem zaD {P:Program}{w:World}{K:W.Frag}{mg:Str->Option Value}{base:Heap}{x qual:Str}{st:Stmt}{f:Addr}{fd:FuncData}{N ps:List Str}{k:Nat}{s:Ev->Res Fl}(F:Fun K x qual st f fd)(S:zaw N ps (defScope st))
  (hbody:∀ (cdv:Value) (A:Around) (outer:List PySem.Env) (s0:Shared) (H H₀:Hp) (E:XK),zdE k (A.deeper (envOfC qual (defScope st) s0.heap.objs.size f cdv)) ->
   DSs (zhB CX0 P w K mg base N qual (defScope st) f cdv A outer s0 H E).nox E H H₀ (defBody st) s):FnOk P w K mg base CX0 (k+1) f fd ps (spD K ps.length (zdz N.length s)):=by
 have hpl:ps.length<=N.length:=by have:=congrArg List.length S.pre;rw[List.length_take] at this;omega
 refine F.ok S (fun vs H Q E h=>h.1) fun cdv A outer s0 H vs Q E hr h=>?_
 obtain⟨hn,H₀,ds,hs,hv,q⟩:=h
 refine⟨_,(hbody cdv A outer s0 H H₀ E hr).o,H₀,ds.map Sl.sh++List.replicate (N.length-ds.length) .no,?_,?_⟩
 ·refine⟨za4.refl hs,zdR hv,fun i d e=>?_,fun i j d d' hij e=>?_,?_,OX.none zfW ze2⟩
  ·by_cases hi:i < ds.length
   ·rw[List.getElem?_append_left (by simpa using hi),List.getElem?_map] at e
    cases q:ds[i]? with
    | none=>rw[q] at e;cases e
    | some d'=>rw[q] at e;cases e
   ·rw[List.getElem?_append_right (by simpa using hi),List.getElem?_replicate] at e
    split at e<;>cases e
  ·by_cases hi:i < ds.length
   ·rw[List.getElem?_append_left (by simpa using hi),List.getElem?_map] at e
    cases q:ds[i]? with
    | none=>rw[q] at e;cases e
    | some d'=>rw[q] at e;cases e
   ·rw[List.getElem?_append_right (by simpa using hi),List.getElem?_replicate] at e
    split at e<;>cases e
  ·unfold L2.start
   have:=hv.length
   simp only[List.length_append,List.length_map,List.length_replicate]
   omega
 ·unfold zdz at q
  cases e1:s (ds.map Sl.sh++List.replicate (N.length-ds.length) .no) with
  | stuck=>rw[e1] at q;exact q
  | exn x=>rw[e1] at q;exact q
  | ok r =>
   rw[e1] at q
   cases r with
   | nx ρ'=>exact fun σ' H' H₀' _ h'=>q .non H' H₀' h'.g (Rep.non_iff.mpr rfl)
   | rt d=>exact fun v H' H₀' g rp=>q v H' H₀' g rp
   | bk ρ'=>exact q.elim
   | ct ρ'=>exact q.elim
mutual
def eqD:D->D->Bool
 | .non,.non=>true
 | .bl a,.bl b=>a==b
 | .bl a,.int b=>(if a then 1 else 0)==b
 | .int a,.bl b=>a==(if b then 1 else 0)
 | .int a,.int b=>a==b
 | .str a,.str b=>a==b
 | .tup xs,.tup ys=>eqDs xs ys
 | .lst xs,.lst ys=>eqDs xs ys
 | _,_=>false
def eqDs:List D->List D->Bool
 | [],[]=>true
 | x::xs,y::ys=>eqD x y&&eqDs xs ys
 | _,_=>false
end
def zbs:Nat->D->Bool
 | _,.non=>true
 | _,.bl _=>true
 | _,.int _=>true
 | _,.str _=>true
 | n+1,.tup ds=>ds.all (zbs n)
 | n+1,.lst ds=>ds.all (zbs n)
 | _,_=>false
theorem zlm {ds:List D}(h:∀ d∈ds,eqD d d=true):eqDs ds ds=true:=by
 induction ds with
 | nil=>simp [eqDs]
 | cons d r ih =>
  unfold eqDs
  rw[h d List.mem_cons_self,ih fun x hx=>h x (List.mem_cons_of_mem _ hx)]
  rfl
theorem zf8:∀ (n:Nat) (d:D),zbs n d=true->eqD d d=true
 | _,.non,_=>by simp [eqD]
 | _,.bl b,_=>by simp [eqD]
 | _,.int b,_=>by simp [eqD]
 | _,.str b,_=>by simp [eqD]
 | n+1,.tup ds,h=>by
  unfold zbs at h
  unfold eqD
  exact zlm fun d hd=>zf8 n d (List.all_eq_true.mp h d hd)
 | n+1,.lst ds,h=>by
  unfold zbs at h
  unfold eqD
  exact zlm fun d hd=>zf8 n d (List.all_eq_true.mp h d hd)
 | 0,.tup ds,h=>by unfold zbs at h;cases h
 | 0,.lst ds,h=>by unfold zbs at h;cases h
 | 0,.dic ks ds,h=>by unfold zbs at h;cases h
 | n+1,.dic ks ds,h=>by unfold zbs at h;cases h
 | 0,.exc x,h=>by unfold zbs at h;cases h
 | 0,.ob k x,h=>by unfold zbs at h;cases h
 | n+1,.ob k x,h=>by unfold zbs at h;cases h
 | n+1,.exc x,h=>by unfold zbs at h;cases h
theorem zuO {xs ys:List D}:eqD (.tup xs) (.tup ys)=eqDs xs ys:=by rw[eqD]
theorem zqv {xs ys:List D}:eqD (.lst xs) (.lst ys)=eqDs xs ys:=by rw[eqD]
theorem zgW:∀ (xs ys:List D),xs.length=ys.length->eqDs xs ys=(List.range xs.length).all fun j=>eqD (xs.getD j .non) (ys.getD j .non)
 | [],[],_=>by simp [eqDs]
 | x::xs,y::ys,h=>by
  have ih:=zgW xs ys (by simpa using h)
  unfold eqDs
  rw[ih,List.length_cons,List.range_succ_eq_map,List.all_cons,List.all_map]
  rfl
 | [],_::_,h=>by simp at h
 | _::_,[],h=>by simp at h
theorem zkj:∀ (xs ys:List D),xs.length≠ys.length->eqDs xs ys=false
 | [],[],h=>absurd rfl h
 | x::xs,y::ys,h=>by
  unfold eqDs
  rw[zkj xs ys (by simpa using h),Bool.and_false]
 | [],_::_,h=>by simp [eqDs]
 | _::_,[],h=>by simp [eqDs]
section
variable {X:Cx}{pins:List (Addr×Obj)}{σ:L2.St}{H:Hp}{s:Shared}
theorem Rep.tup_get (I:Inv X pins σ H s){ds:List D}{v:V}{u:Value}(r:Rep X.K H (.tup ds) v)(rv:zbP v u):∃ a vs its,v=.ref a/\u=.ref a/\SqT X.K H a vs/\Reps X.K H ds vs/\zbK vs its/\IsTup s.heap a its.toArray/\ds.length=its.length:=by
 obtain⟨a,vs,rfl,h1,h2⟩:=Rep.tup_iff.mp r
 obtain rfl:u=Value.ref a:=rv
 obtain⟨its,h3,h4,_⟩:=I.tuple h1
 exact⟨a,vs,its,rfl,rfl,h1,h2,h3,h4,h2.length.trans h3.length⟩
theorem Rep.lst_get (I:Inv X pins σ H s){ds:List D}{v:V}{u:Value}(r:Rep X.K H (.lst ds) v)(rv:zbP v u):∃ a vs its,v=.ref a/\u=.ref a/\SqL X.K H a vs/\Reps X.K H ds vs/\zbK vs its/\s.heap.IsList a its.toArray/\ds.length=its.length:=by
 obtain⟨a,vs,rfl,h1,h2⟩:=Rep.lst_iff.mp r
 obtain rfl:u=Value.ref a:=rv
 obtain⟨its,h3,h4,_⟩:=I.list h1
 exact⟨a,vs,its,rfl,rfl,h1,h2,h3,h4.isList,h2.length.trans h3.length⟩
theorem zj1 {n:Nat}(ih:∀ (d d':D) (v:V),zbs n d=true->zbs n d'=true->Rep X.K H d v->Rep X.K H d' v->d=d'):∀ (ds ds':List D) (vs:List V),ds.all (zbs n)=true->ds'.all (zbs n)=true->Reps X.K H ds vs->Reps X.K H ds' vs->ds=ds'
 | [],ds',vs,_,_,h,h'=>by
  rw[Reps.nil_iff.mp h] at h'
  cases ds' with
  | nil=>rfl
  | cons d r=>obtain⟨_,_,e,_⟩:=Reps.cons_iff.mp h';cases e
 | d::ds,ds',vs,a,a',h,h'=>by
  obtain⟨v,r,rfl,h1,h2⟩:=Reps.cons_iff.mp h
  cases ds' with
  | nil=>cases Reps.nil_iff.mp h'
  | cons d' ds' =>
   obtain⟨v',r',e,h1',h2'⟩:=Reps.cons_iff.mp h'
   cases e
   rw[List.all_cons,Bool.and_eq_true] at a a'
   rw[ih d d' v a.1 a'.1 h1 h1',zj1 ih ds ds' r a.2 a'.2 h2 h2']
theorem Rep.inj (I:Inv X pins σ H s):∀ (n:Nat) (d d':D) (v:V),zbs n d=true->zbs n d'=true->Rep X.K H d v->Rep X.K H d' v->d=d':=by
 have atom:∀ (n:Nat) (d d':D) (v:V),(∀ ds,d≠.tup ds)->(∀ ds,d≠.lst ds)->zbs n d=true->zbs n d'=true->Rep X.K H d v->Rep X.K H d' v->d=d':=by
  intro n d d' v n1 n2 s1 s2 h h'
  have nd:∀ m ks ds,zbs m (.dic ks ds)=true->False:=fun m ks ds h=>by cases m<;>(unfold zbs at h;cases h)
  have nx:∀ m x,zbs m (.exc x)=true->False:=fun m x h=>by cases m<;>(unfold zbs at h;cases h)
  have nb:∀ m k x,zbs m (.ob k x)=true->False:=fun m k x h=>by cases m<;>(unfold zbs at h;cases h)
  cases d with
  | tup ds=>exact absurd rfl (n1 ds)
  | lst ds=>exact absurd rfl (n2 ds)
  | dic ks ds=>exact(nd _ _ _ s1).elim
  | exc x=>exact(nx _ _ s1).elim
  | ob k x=>exact(nb _ _ _ s1).elim
  | non =>
   rw[Rep.non_iff.mp h] at h'
   cases d' with
   | non=>rfl
   | bl b=>cases Rep.bl_iff.mp h'
   | int b=>cases Rep.int_iff.mp h'
   | str b=>cases Rep.str_iff.mp h'
   | tup ds=>obtain⟨_,_,e,_⟩:=Rep.tup_iff.mp h';cases e
   | lst ds=>obtain⟨_,_,e,_⟩:=Rep.lst_iff.mp h';cases e
   | dic ks ds=>exact(nd _ _ _ s2).elim
   | exc x=>exact(nx _ _ s2).elim
   | ob k x=>exact(nb _ _ _ s2).elim
  | bl x =>
   rw[Rep.bl_iff.mp h] at h'
   cases d' with
   | non=>cases Rep.non_iff.mp h'
   | bl b=>cases Rep.bl_iff.mp h';rfl
   | int b=>cases Rep.int_iff.mp h'
   | str b=>cases Rep.str_iff.mp h'
   | tup ds=>obtain⟨_,_,e,_⟩:=Rep.tup_iff.mp h';cases e
   | lst ds=>obtain⟨_,_,e,_⟩:=Rep.lst_iff.mp h';cases e
   | dic ks ds=>exact(nd _ _ _ s2).elim
   | exc x=>exact(nx _ _ s2).elim
   | ob k x=>exact(nb _ _ _ s2).elim
  | int x =>
   rw[Rep.int_iff.mp h] at h'
   cases d' with
   | non=>cases Rep.non_iff.mp h'
   | bl b=>cases Rep.bl_iff.mp h'
   | int b=>cases Rep.int_iff.mp h';rfl
   | str b=>cases Rep.str_iff.mp h'
   | tup ds=>obtain⟨_,_,e,_⟩:=Rep.tup_iff.mp h';cases e
   | lst ds=>obtain⟨_,_,e,_⟩:=Rep.lst_iff.mp h';cases e
   | dic ks ds=>exact(nd _ _ _ s2).elim
   | exc x=>exact(nx _ _ s2).elim
   | ob k x=>exact(nb _ _ _ s2).elim
  | str x =>
   rw[Rep.str_iff.mp h] at h'
   cases d' with
   | non=>cases Rep.non_iff.mp h'
   | bl b=>cases Rep.bl_iff.mp h'
   | int b=>cases Rep.int_iff.mp h'
   | str b=>cases Rep.str_iff.mp h';rfl
   | tup ds=>obtain⟨_,_,e,_⟩:=Rep.tup_iff.mp h';cases e
   | lst ds=>obtain⟨_,_,e,_⟩:=Rep.lst_iff.mp h';cases e
   | dic ks ds=>exact(nd _ _ _ s2).elim
   | exc x=>exact(nx _ _ s2).elim
   | ob k x=>exact(nb _ _ _ s2).elim
 intro n
 induction n with
 | zero =>
  intro d d' v s1 s2 h h'
  exact atom 0 d d' v (fun ds e=>by subst e;unfold zbs at s1;cases s1) (fun ds e=>by subst e;unfold zbs at s1;cases s1) s1 s2 h h'
 | succ n ih =>
  intro d d' v s1 s2 h h'
  by_cases t1:∃ ds,d=.tup ds
  ·obtain⟨ds,rfl⟩:=t1
   by_cases t2:∃ ds',d'=.tup ds'
   ·obtain⟨ds',rfl⟩:=t2
    obtain⟨a,vs,rfl,h1,h2⟩:=Rep.tup_iff.mp h
    obtain⟨a',vs',e,h1',h2'⟩:=Rep.tup_iff.mp h'
    cases e
    rw[I.tuple_inj h1' h1] at h2'
    unfold zbs at s1 s2
    rw[zj1 ih ds ds' vs s1 s2 h2 h2']
   ·by_cases t3:∃ ds',d'=.lst ds'
    ·obtain⟨ds',rfl⟩:=t3
     obtain⟨a0,_,ev,_,_⟩:=Rep.tup_iff.mp h;subst ev
     obtain⟨a,vs,its,ea,_,h1,h2,h3,h4,_⟩:=Rep.tup_get I h rfl;cases ea
     obtain⟨a',vs',its',e,_,h1',h2',h3',h4',_⟩:=Rep.lst_get I h' rfl
     cases e
     exact absurd rfl (SeqAt.ne_of_list_tuple h4' h4)
    ·exact(atom (n+1) d' _ v (fun ds e=>t2 ⟨ds,e⟩) (fun ds e=>t3 ⟨ds,e⟩) s2 s1 h' h).symm
  ·by_cases t1':∃ ds,d=.lst ds
   ·obtain⟨ds,rfl⟩:=t1'
    by_cases t2:∃ ds',d'=.lst ds'
    ·obtain⟨ds',rfl⟩:=t2
     obtain⟨a,vs,rfl,h1,h2⟩:=Rep.lst_iff.mp h
     obtain⟨a',vs',e,h1',h2'⟩:=Rep.lst_iff.mp h'
     cases e
     rw[I.list_inj h1' h1] at h2'
     unfold zbs at s1 s2
     rw[zj1 ih ds ds' vs s1 s2 h2 h2']
    ·by_cases t3:∃ ds',d'=.tup ds'
     ·obtain⟨ds',rfl⟩:=t3
      obtain⟨a0,_,ev,_,_⟩:=Rep.lst_iff.mp h;subst ev
      obtain⟨a,vs,its,ea,_,h1,h2,h3,h4,_⟩:=Rep.lst_get I h rfl;cases ea
      obtain⟨a',vs',its',e,_,h1',h2',h3',h4',_⟩:=Rep.tup_get I h' rfl
      cases e
      exact absurd rfl (SeqAt.ne_of_list_tuple h4 h4')
     ·exact(atom (n+1) d' _ v (fun ds e=>t3 ⟨ds,e⟩) (fun ds e=>t2 ⟨ds,e⟩) s2 s1 h' h).symm
   ·exact atom (n+1) d d' v (fun ds e=>t1 ⟨ds,e⟩) (fun ds e=>t1' ⟨ds,e⟩) s1 s2 h h'
theorem znm {n:Nat}{A:Around}{xs ys:List D}{vs us:List V}{is js:List Value}
  (ih:∀ (x y:D) (v u:V) (a b:Value),zbs n x=true->zbs n y=true->Rep X.K H x v->Rep X.K H y u->zbP v a->zbP u b->SeqAt.EqAt A.in1 s a b (eqD x y))
  (sx:xs.all (zbs n)=true)(sy:ys.all (zbs n)=true)(rx:Reps X.K H xs vs)(ry:Reps X.K H ys us)(qx:zbK vs is)(qy:zbK us js) :
  ∀ j (h1:j < is.toArray.size) (h2:j < js.toArray.size),SeqAt.EqAt A.in1 s is.toArray[j] js.toArray[j] (eqD (xs.getD j .non) (ys.getD j .non)):=by
 intro j h1 h2
 have lx:=rx.length
 have ly:=ry.length
 have kx:=qx.length
 have ky:=qy.length
 have h1':j < is.length:=by simpa using h1
 have h2':j < js.length:=by simpa using h2
 have hx:j < xs.length:=by omega
 have hy:j < ys.length:=by omega
 obtain⟨v,e1,r1⟩:=rx.get (List.getElem?_eq_getElem hx)
 obtain⟨u,e2,r2⟩:=ry.get (List.getElem?_eq_getElem hy)
 obtain⟨a,e3,r3⟩:=qx.get e1
 obtain⟨b,e4,r4⟩:=qy.get e2
 have ea:is.toArray[j]=a:=by
  rw[List.getElem?_eq_getElem h1'] at e3
  simpa using Option.some.inj e3
 have eb:js.toArray[j]=b:=by
  rw[List.getElem?_eq_getElem h2'] at e4
  simpa using Option.some.inj e4
 rw[ea,eb]
 have gx:xs.getD j .non=xs[j]:=by simp [List.getD,List.getElem?_eq_getElem hx]
 have gy:ys.getD j .non=ys[j]:=by simp [List.getD,List.getElem?_eq_getElem hy]
 rw[gx,gy]
 exact ih _ _ v u a b (List.all_eq_true.mp sx _ (List.getElem_mem hx)) (List.all_eq_true.mp sy _ (List.getElem_mem hy)) r1 r2 r3 r4
theorem zmY (I:Inv X pins σ H s){A:Around}(hu:A.units < cLine){x y:D}{v u:V}{a b:Value}(rx:Rep X.K H x v)(ry:Rep X.K H y u)(qx:zbP v a)(qy:zbP u b)
  (n1:∀ ds ds',¬ (x=.lst ds/\y=.lst ds'))(n2:∀ ds ds',¬ (x=.tup ds/\y=.tup ds'))(d1:∀ ks ds,x≠.dic ks ds)(d2:∀ ks ds,y≠.dic ks ds)(x1:∀ c,x≠.exc c)(x2:∀ c,y≠.exc c)(o1:∀ k c,x≠.ob k c)(o2:∀ k c,y≠.ob k c) :
  SeqAt.RcAt A s a b (eqD x y)/\SeqAt.EqAt A s a b (eqD x y)/\SeqAt.RcNeAt A s a b (!(eqD x y)):=by
 cases x with
 | non =>
  cases y with
  | non =>
   obtain rfl:=Rep.non_iff.mp rx;obtain rfl:a=Value.none:=qx
   obtain rfl:=Rep.non_iff.mp ry;obtain rfl:b=Value.none:=qy
   unfold eqD
   exact⟨SeqAt.RcAt.none_none ,SeqAt.EqAt.same _,SeqAt.RcNeAt.none_none ⟩
  | bl y =>
   obtain rfl:=Rep.non_iff.mp rx;obtain rfl:a=Value.none:=qx
   obtain rfl:=Rep.bl_iff.mp ry;obtain rfl:b=Value.bool _:=qy
   unfold eqD
   exact⟨SeqAt.RcAt.none_bool _,SeqAt.EqAt.none_bool _,SeqAt.RcNeAt.none_bool _⟩
  | int y =>
   obtain rfl:=Rep.non_iff.mp rx;obtain rfl:a=Value.none:=qx
   obtain rfl:=Rep.int_iff.mp ry;obtain⟨ty,rfl⟩:∃ t,b=Value.int _ t:=qy
   unfold eqD
   exact⟨SeqAt.RcAt.none_int _ _,SeqAt.EqAt.none_int _ _,SeqAt.RcNeAt.none_int _ _⟩
  | str y =>
   obtain rfl:=Rep.non_iff.mp rx;obtain rfl:a=Value.none:=qx
   obtain rfl:=Rep.str_iff.mp ry;obtain⟨ty,rfl⟩:∃ t,b=Value.str _ t:=qy
   unfold eqD
   exact⟨SeqAt.RcAt.none_str _ _,SeqAt.EqAt.none_str _ _,SeqAt.RcNeAt.none_str _ _⟩
  | lst y =>
   obtain rfl:=Rep.non_iff.mp rx;obtain rfl:a=Value.none:=qx
   obtain⟨ly,_,_,rfl,rfl,_,_,_,hy,_⟩:=Rep.lst_get I ry qy
   unfold eqD
   exact⟨SeqAt.RcAt.none_list  hy hu,SeqAt.EqAt.none_list  hy hu,SeqAt.RcNeAt.none_list  hy hu⟩
  | tup y =>
   obtain rfl:=Rep.non_iff.mp rx;obtain rfl:a=Value.none:=qx
   obtain⟨ly,_,_,rfl,rfl,_,_,_,hy,_⟩:=Rep.tup_get I ry qy
   unfold eqD
   exact⟨SeqAt.RcAt.none_tuple  hy hu,SeqAt.EqAt.none_tuple  hy hu,SeqAt.RcNeAt.none_tuple  hy hu⟩
  | dic ks ds=>exact absurd rfl (d2 ks ds)
  | exc c=>exact absurd rfl (x2 c)
  | ob k c=>exact absurd rfl (o2 k c)
 | bl x =>
  cases y with
  | non =>
   obtain rfl:=Rep.bl_iff.mp rx;obtain rfl:a=Value.bool _:=qx
   obtain rfl:=Rep.non_iff.mp ry;obtain rfl:b=Value.none:=qy
   unfold eqD
   exact⟨SeqAt.RcAt.bool_none _,SeqAt.EqAt.bool_none _,SeqAt.RcNeAt.bool_none _⟩
  | bl y =>
   obtain rfl:=Rep.bl_iff.mp rx;obtain rfl:a=Value.bool _:=qx
   obtain rfl:=Rep.bl_iff.mp ry;obtain rfl:b=Value.bool _:=qy
   unfold eqD
   exact⟨SeqAt.RcAt.bool_bool _ _,SeqAt.EqAt.bool_bool _ _,SeqAt.RcNeAt.bool_bool _ _⟩
  | int y =>
   obtain rfl:=Rep.bl_iff.mp rx;obtain rfl:a=Value.bool _:=qx
   obtain rfl:=Rep.int_iff.mp ry;obtain⟨ty,rfl⟩:∃ t,b=Value.int _ t:=qy
   unfold eqD
   exact⟨SeqAt.RcAt.bool_int _ _ _,SeqAt.EqAt.bool_int _ _ _,SeqAt.RcNeAt.bool_int _ _ _⟩
  | str y =>
   obtain rfl:=Rep.bl_iff.mp rx;obtain rfl:a=Value.bool _:=qx
   obtain rfl:=Rep.str_iff.mp ry;obtain⟨ty,rfl⟩:∃ t,b=Value.str _ t:=qy
   unfold eqD
   exact⟨SeqAt.RcAt.bool_str _ _ _,SeqAt.EqAt.bool_str _ _ _,SeqAt.RcNeAt.bool_str _ _ _⟩
  | lst y =>
   obtain rfl:=Rep.bl_iff.mp rx;obtain rfl:a=Value.bool _:=qx
   obtain⟨ly,_,_,rfl,rfl,_,_,_,hy,_⟩:=Rep.lst_get I ry qy
   unfold eqD
   exact⟨SeqAt.RcAt.bool_list _ hy hu,SeqAt.EqAt.bool_list _ hy hu,SeqAt.RcNeAt.bool_list _ hy hu⟩
  | tup y =>
   obtain rfl:=Rep.bl_iff.mp rx;obtain rfl:a=Value.bool _:=qx
   obtain⟨ly,_,_,rfl,rfl,_,_,_,hy,_⟩:=Rep.tup_get I ry qy
   unfold eqD
   exact⟨SeqAt.RcAt.bool_tuple _ hy hu,SeqAt.EqAt.bool_tuple _ hy hu,SeqAt.RcNeAt.bool_tuple _ hy hu⟩
  | dic ks ds=>exact absurd rfl (d2 ks ds)
  | exc c=>exact absurd rfl (x2 c)
  | ob k c=>exact absurd rfl (o2 k c)
 | int x =>
  cases y with
  | non =>
   obtain rfl:=Rep.int_iff.mp rx;obtain⟨tx,rfl⟩:∃ t,a=Value.int _ t:=qx
   obtain rfl:=Rep.non_iff.mp ry;obtain rfl:b=Value.none:=qy
   unfold eqD
   exact⟨SeqAt.RcAt.int_none _ _,SeqAt.EqAt.int_none _ _,SeqAt.RcNeAt.int_none _ _⟩
  | bl y =>
   obtain rfl:=Rep.int_iff.mp rx;obtain⟨tx,rfl⟩:∃ t,a=Value.int _ t:=qx
   obtain rfl:=Rep.bl_iff.mp ry;obtain rfl:b=Value.bool _:=qy
   unfold eqD
   exact⟨SeqAt.RcAt.int_bool _ _ _,SeqAt.EqAt.int_bool _ _ _,SeqAt.RcNeAt.int_bool _ _ _⟩
  | int y =>
   obtain rfl:=Rep.int_iff.mp rx;obtain⟨tx,rfl⟩:∃ t,a=Value.int _ t:=qx
   obtain rfl:=Rep.int_iff.mp ry;obtain⟨ty,rfl⟩:∃ t,b=Value.int _ t:=qy
   unfold eqD
   exact⟨SeqAt.RcAt.int_int _ _ _ _,SeqAt.EqAt.int_int _ _ _ _,SeqAt.RcNeAt.int_int _ _ _ _⟩
  | str y =>
   obtain rfl:=Rep.int_iff.mp rx;obtain⟨tx,rfl⟩:∃ t,a=Value.int _ t:=qx
   obtain rfl:=Rep.str_iff.mp ry;obtain⟨ty,rfl⟩:∃ t,b=Value.str _ t:=qy
   unfold eqD
   exact⟨SeqAt.RcAt.int_str _ _ _ _,SeqAt.EqAt.int_str _ _ _ _,SeqAt.RcNeAt.int_str _ _ _ _⟩
  | lst y =>
   obtain rfl:=Rep.int_iff.mp rx;obtain⟨tx,rfl⟩:∃ t,a=Value.int _ t:=qx
   obtain⟨ly,_,_,rfl,rfl,_,_,_,hy,_⟩:=Rep.lst_get I ry qy
   unfold eqD
   exact⟨SeqAt.RcAt.int_list _ _ hy hu,SeqAt.EqAt.int_list _ _ hy hu,SeqAt.RcNeAt.int_list _ _ hy hu⟩
  | tup y =>
   obtain rfl:=Rep.int_iff.mp rx;obtain⟨tx,rfl⟩:∃ t,a=Value.int _ t:=qx
   obtain⟨ly,_,_,rfl,rfl,_,_,_,hy,_⟩:=Rep.tup_get I ry qy
   unfold eqD
   exact⟨SeqAt.RcAt.int_tuple _ _ hy hu,SeqAt.EqAt.int_tuple _ _ hy hu,SeqAt.RcNeAt.int_tuple _ _ hy hu⟩
  | dic ks ds=>exact absurd rfl (d2 ks ds)
  | exc c=>exact absurd rfl (x2 c)
  | ob k c=>exact absurd rfl (o2 k c)
 | str x =>
  cases y with
  | non =>
   obtain rfl:=Rep.str_iff.mp rx;obtain⟨tx,rfl⟩:∃ t,a=Value.str _ t:=qx
   obtain rfl:=Rep.non_iff.mp ry;obtain rfl:b=Value.none:=qy
   unfold eqD
   exact⟨SeqAt.RcAt.str_none _ _,SeqAt.EqAt.str_none _ _,SeqAt.RcNeAt.str_none _ _⟩
  | bl y =>
   obtain rfl:=Rep.str_iff.mp rx;obtain⟨tx,rfl⟩:∃ t,a=Value.str _ t:=qx
   obtain rfl:=Rep.bl_iff.mp ry;obtain rfl:b=Value.bool _:=qy
   unfold eqD
   exact⟨SeqAt.RcAt.str_bool _ _ _,SeqAt.EqAt.str_bool _ _ _,SeqAt.RcNeAt.str_bool _ _ _⟩
  | int y =>
   obtain rfl:=Rep.str_iff.mp rx;obtain⟨tx,rfl⟩:∃ t,a=Value.str _ t:=qx
   obtain rfl:=Rep.int_iff.mp ry;obtain⟨ty,rfl⟩:∃ t,b=Value.int _ t:=qy
   unfold eqD
   exact⟨SeqAt.RcAt.str_int _ _ _ _,SeqAt.EqAt.str_int _ _ _ _,SeqAt.RcNeAt.str_int _ _ _ _⟩
  | str y =>
   obtain rfl:=Rep.str_iff.mp rx;obtain⟨tx,rfl⟩:∃ t,a=Value.str _ t:=qx
   obtain rfl:=Rep.str_iff.mp ry;obtain⟨ty,rfl⟩:∃ t,b=Value.str _ t:=qy
   unfold eqD
   exact⟨SeqAt.RcAt.str_str _ _ _ _,SeqAt.EqAt.str_str _ _ _ _,SeqAt.RcNeAt.str_str _ _ _ _⟩
  | lst y =>
   obtain rfl:=Rep.str_iff.mp rx;obtain⟨tx,rfl⟩:∃ t,a=Value.str _ t:=qx
   obtain⟨ly,_,_,rfl,rfl,_,_,_,hy,_⟩:=Rep.lst_get I ry qy
   unfold eqD
   exact⟨SeqAt.RcAt.str_list _ _ hy hu,SeqAt.EqAt.str_list _ _ hy hu,SeqAt.RcNeAt.str_list _ _ hy hu⟩
  | tup y =>
   obtain rfl:=Rep.str_iff.mp rx;obtain⟨tx,rfl⟩:∃ t,a=Value.str _ t:=qx
   obtain⟨ly,_,_,rfl,rfl,_,_,_,hy,_⟩:=Rep.tup_get I ry qy
   unfold eqD
   exact⟨SeqAt.RcAt.str_tuple _ _ hy hu,SeqAt.EqAt.str_tuple _ _ hy hu,SeqAt.RcNeAt.str_tuple _ _ hy hu⟩
  | dic ks ds=>exact absurd rfl (d2 ks ds)
  | exc c=>exact absurd rfl (x2 c)
  | ob k c=>exact absurd rfl (o2 k c)
 | lst x =>
  cases y with
  | non =>
   obtain⟨lx,_,_,rfl,rfl,_,_,_,hx,_⟩:=Rep.lst_get I rx qx
   obtain rfl:=Rep.non_iff.mp ry;obtain rfl:b=Value.none:=qy
   unfold eqD
   exact⟨SeqAt.RcAt.list_none  hx hu,SeqAt.EqAt.list_none  hx hu,SeqAt.RcNeAt.list_none  hx hu⟩
  | bl y =>
   obtain⟨lx,_,_,rfl,rfl,_,_,_,hx,_⟩:=Rep.lst_get I rx qx
   obtain rfl:=Rep.bl_iff.mp ry;obtain rfl:b=Value.bool _:=qy
   unfold eqD
   exact⟨SeqAt.RcAt.list_bool _ hx hu,SeqAt.EqAt.list_bool _ hx hu,SeqAt.RcNeAt.list_bool _ hx hu⟩
  | int y =>
   obtain⟨lx,_,_,rfl,rfl,_,_,_,hx,_⟩:=Rep.lst_get I rx qx
   obtain rfl:=Rep.int_iff.mp ry;obtain⟨ty,rfl⟩:∃ t,b=Value.int _ t:=qy
   unfold eqD
   exact⟨SeqAt.RcAt.list_int _ _ hx hu,SeqAt.EqAt.list_int _ _ hx hu,SeqAt.RcNeAt.list_int _ _ hx hu⟩
  | str y =>
   obtain⟨lx,_,_,rfl,rfl,_,_,_,hx,_⟩:=Rep.lst_get I rx qx
   obtain rfl:=Rep.str_iff.mp ry;obtain⟨ty,rfl⟩:∃ t,b=Value.str _ t:=qy
   unfold eqD
   exact⟨SeqAt.RcAt.list_str _ _ hx hu,SeqAt.EqAt.list_str _ _ hx hu,SeqAt.RcNeAt.list_str _ _ hx hu⟩
  | lst y =>
   exact absurd ⟨rfl,rfl⟩ (n1 x y)
  | tup y =>
   obtain⟨lx,_,_,rfl,rfl,_,_,_,hx,_⟩:=Rep.lst_get I rx qx
   obtain⟨ly,_,_,rfl,rfl,_,_,_,hy,_⟩:=Rep.tup_get I ry qy
   unfold eqD
   exact⟨SeqAt.RcAt.list_tuple  hx hy hu,SeqAt.EqAt.list_tuple  hx hy hu,SeqAt.RcNeAt.list_tuple  hx hy hu⟩
  | dic ks ds=>exact absurd rfl (d2 ks ds)
  | exc c=>exact absurd rfl (x2 c)
  | ob k c=>exact absurd rfl (o2 k c)
 | tup x =>
  cases y with
  | non =>
   obtain⟨lx,_,_,rfl,rfl,_,_,_,hx,_⟩:=Rep.tup_get I rx qx
   obtain rfl:=Rep.non_iff.mp ry;obtain rfl:b=Value.none:=qy
   unfold eqD
   exact⟨SeqAt.RcAt.tuple_none  hx hu,SeqAt.EqAt.tuple_none  hx hu,SeqAt.RcNeAt.tuple_none  hx hu⟩
  | bl y =>
   obtain⟨lx,_,_,rfl,rfl,_,_,_,hx,_⟩:=Rep.tup_get I rx qx
   obtain rfl:=Rep.bl_iff.mp ry;obtain rfl:b=Value.bool _:=qy
   unfold eqD
   exact⟨SeqAt.RcAt.tuple_bool _ hx hu,SeqAt.EqAt.tuple_bool _ hx hu,SeqAt.RcNeAt.tuple_bool _ hx hu⟩
  | int y =>
   obtain⟨lx,_,_,rfl,rfl,_,_,_,hx,_⟩:=Rep.tup_get I rx qx
   obtain rfl:=Rep.int_iff.mp ry;obtain⟨ty,rfl⟩:∃ t,b=Value.int _ t:=qy
   unfold eqD
   exact⟨SeqAt.RcAt.tuple_int _ _ hx hu,SeqAt.EqAt.tuple_int _ _ hx hu,SeqAt.RcNeAt.tuple_int _ _ hx hu⟩
  | str y =>
   obtain⟨lx,_,_,rfl,rfl,_,_,_,hx,_⟩:=Rep.tup_get I rx qx
   obtain rfl:=Rep.str_iff.mp ry;obtain⟨ty,rfl⟩:∃ t,b=Value.str _ t:=qy
   unfold eqD
   exact⟨SeqAt.RcAt.tuple_str _ _ hx hu,SeqAt.EqAt.tuple_str _ _ hx hu,SeqAt.RcNeAt.tuple_str _ _ hx hu⟩
  | lst y =>
   obtain⟨lx,_,_,rfl,rfl,_,_,_,hx,_⟩:=Rep.tup_get I rx qx
   obtain⟨ly,_,_,rfl,rfl,_,_,_,hy,_⟩:=Rep.lst_get I ry qy
   unfold eqD
   exact⟨SeqAt.RcAt.tuple_list  hx hy hu,SeqAt.EqAt.tuple_list  hx hy hu,SeqAt.RcNeAt.tuple_list  hx hy hu⟩
  | tup y =>
   exact absurd ⟨rfl,rfl⟩ (n2 x y)
  | dic ks ds=>exact absurd rfl (d2 ks ds)
  | exc c=>exact absurd rfl (x2 c)
  | ob k c=>exact absurd rfl (o2 k c)
 | dic ks ds=>exact absurd rfl (d1 ks ds)
 | exc c=>exact absurd rfl (x1 c)
 | ob k c=>exact absurd rfl (o1 k c)
theorem zyd (I:Inv X pins σ H s):∀ (n:Nat) (A:Around),A.units+n < cLine->∀ (x y:D) (v u:V) (a b:Value),zbs n x=true->zbs n y=true->Rep X.K H x v->Rep X.K H y u->zbP v a->zbP u b ->
  SeqAt.RcAt A s a b (eqD x y)/\SeqAt.EqAt A s a b (eqD x y)/\SeqAt.RcNeAt A s a b (!(eqD x y)):=by
 have nd:∀ m ks ds,zbs m (.dic ks ds)=true->False:=fun m ks ds h=>by cases m<;>(unfold zbs at h;cases h)
 have nx:∀ m x,zbs m (.exc x)=true->False:=fun m x h=>by cases m<;>(unfold zbs at h;cases h)
 have nb:∀ m k x,zbs m (.ob k x)=true->False:=fun m k x h=>by cases m<;>(unfold zbs at h;cases h)
 intro n
 induction n with
 | zero =>
  intro A hu x y v u a b sx sy rx ry qa qb
  refine zmY I (by omega) rx ry qa qb (fun ds ds' z=>?_) (fun ds ds' z=>?_) (fun ks ds z=>?_) (fun ks ds z=>?_) (fun c z=>nx _ _ (z▸sx)) (fun c z=>nx _ _ (z▸sy)) (fun k c z=>nb _ _ _ (z▸sx)) (fun k c z=>nb _ _ _ (z▸sy))
  ·rw[z.1] at sx;unfold zbs at sx;cases sx
  ·rw[z.1] at sx;unfold zbs at sx;cases sx
  ·rw[z] at sx;exact nd _ _ _ sx
  ·rw[z] at sy;exact nd _ _ _ sy
 | succ n ih =>
  intro A hu x y v u a b sx sy rx ry qa qb
  have ih':∀ (x y:D) (v u:V) (a b:Value),zbs n x=true->zbs n y=true->Rep X.K H x v->Rep X.K H y u->zbP v a->zbP u b->SeqAt.EqAt A.in1 s a b (eqD x y) :=
   fun x y v u a b s1 s2 r1 r2 q1 q2=>(ih A.in1 (by show A.units+1+n < cLine;omega) x y v u a b s1 s2 r1 r2 q1 q2).2.1
  by_cases t1:∃ ds ds',x=.tup ds/\y=.tup ds'
  ·obtain⟨xs,ys,rfl,rfl⟩:=t1
   obtain⟨l,vs,is,rfl,rfl,h1,h2,h3,h4,h5⟩:=Rep.tup_get I rx qa
   obtain⟨m,us,js,rfl,rfl,k1,k2,k3,k4,k5⟩:=Rep.tup_get I ry qb
   have hsx:=sx
   have hsy:=sy
   unfold zbs at sx sy
   have each:=znm (A:=A) ih' sx sy h2 k2 h3 k3
   have eall:eqD (.tup xs) (.tup ys)=((List.range (min is.toArray.size js.toArray.size)).all (fun j=>eqD (xs.getD j .non) (ys.getD j .non))&&is.toArray.size==js.toArray.size):=by
    rw[zuO]
    simp only[List.size_toArray,← h5,← k5]
    by_cases hl:xs.length=ys.length
    ·rw[zgW xs ys hl,← hl,Nat.min_self,beq_self_eq_true,Bool.and_true]
    ·rw[zkj xs ys hl,beq_eq_false_iff_ne.mpr hl,Bool.and_false]
   refine⟨?_,?_,?_⟩
   ·rw[eall];exact SeqAt.RcAt.tuples h4 k4 (by omega) each
   ·by_cases hlm:l=m
    ·subst hlm
     rw[Rep.inj I (n+1) _ _ _ hsx hsy rx ry,zf8 (n+1) _ hsy]
     exact SeqAt.EqAt.same _
    ·refine SeqAt.EqAt.of_refs hlm ?_
     rw[eall];exact SeqAt.RcAt.tuples h4 k4 (by omega) each
   ·rw[eall];exact SeqAt.RcNeAt.tuples h4 k4 (by omega) each
  ·by_cases t2:∃ ds ds',x=.lst ds/\y=.lst ds'
   ·obtain⟨xs,ys,rfl,rfl⟩:=t2
    obtain⟨l,vs,is,rfl,rfl,h1,h2,h3,h4,h5⟩:=Rep.lst_get I rx qa
    obtain⟨m,us,js,rfl,rfl,k1,k2,k3,k4,k5⟩:=Rep.lst_get I ry qb
    have hsx:=sx
    have hsy:=sy
    unfold zbs at sx sy
    have each:=znm (A:=A) ih' sx sy h2 k2 h3 k3
    by_cases hl:xs.length=ys.length
    ·have hsz:is.toArray.size=js.toArray.size:=by simp only[List.size_toArray];omega
     have eall:eqD (.lst xs) (.lst ys)=(List.range is.toArray.size).all (fun j=>eqD (xs.getD j .non) (ys.getD j .non)):=by
      rw[zqv]
      simp only[List.size_toArray,← h5]
      exact zgW xs ys hl
     refine⟨?_,?_,?_⟩
     ·rw[eall];exact SeqAt.RcAt.lists h4 k4 hsz (by omega) each
     ·by_cases hlm:l=m
      ·subst hlm
       rw[Rep.inj I (n+1) _ _ _ hsx hsy rx ry,zf8 (n+1) _ hsy]
       exact SeqAt.EqAt.same _
      ·refine SeqAt.EqAt.of_refs hlm ?_
       rw[eall];exact SeqAt.RcAt.lists h4 k4 hsz (by omega) each
     ·rw[eall];exact SeqAt.RcNeAt.lists h4 k4 hsz (by omega) each
    ·have hsz:(is.toArray.size != js.toArray.size)=true:=by simp only[List.size_toArray,bne_iff_ne,ne_eq];omega
     have eall:eqD (.lst xs) (.lst ys)=false:=by rw[zqv];exact zkj xs ys hl
     rw[eall]
     refine⟨SeqAt.RcAt.lists_lengths h4 k4 hsz (by omega),?_,SeqAt.RcNeAt.lists_lengths h4 k4 hsz (by omega)⟩
     refine SeqAt.EqAt.of_refs (fun e=>?_) (SeqAt.RcAt.lists_lengths h4 k4 hsz (by omega))
     subst e
     have:=Rep.inj I (n+1) _ _ _ hsx hsy rx ry
     cases this
     exact hl rfl
   ·exact zmY I (by omega) rx ry qa qb (fun ds ds' z=>t2 ⟨ds,ds',z⟩) (fun ds ds' z=>t1 ⟨ds,ds',z⟩) (fun ks ds z=>by rw[z] at sx;exact nd _ _ _ sx) (fun ks ds z=>by rw[z] at sy;exact nd _ _ _ sy) (fun c z=>nx _ _ (z▸sx)) (fun c z=>nx _ _ (z▸sy)) (fun k c z=>nb _ _ _ (z▸sx)) (fun k c z=>nb _ _ _ (z▸sy))
end
section
variable {X:Cx}{E:XK}
def dEq (x y:D):Res D:=if zbs 40 x=true/\zbs 40 y=true then .ok (.bl (eqD x y)) else .stuck
def dNe (x y:D):Res D:=if zbs 40 x=true/\zbs 40 y=true then .ok (.bl (!(eqD x y))) else .stuck
def zy9 (K:W.Frag):R2:=fun v u H Q=>∃ x y,Rep K H x v/\Rep K H y u/\zbs 40 x=true/\zbs 40 y=true/\Q (.bl (eqD x y)) H
def zy5 (K:W.Frag):R2:=fun v u H Q=>∃ x y,Rep K H x v/\Rep K H y u/\zbs 40 x=true/\zbs 40 y=true/\Q (.bl (!(eqD x y))) H
theorem zb9 (hu:X.A.units+64 < cLine):OpR X (compareOp .Eq) (zy9 X.K):=by
 intro pins s σ H x y v u Q I rx ry h
 obtain⟨d,d',h1,h2,s1,s2,q⟩:=h
 exact(zyd I 40 X.A (by omega) d d' x y v u s1 s2 h1 h2 rx ry).1 _ _ _ _ ⟨.bl _,H,I,rfl,q⟩
theorem zdI (hu:X.A.units+64 < cLine):OpR X (compareOp .NotEq) (zy5 X.K):=by
 intro pins s σ H x y v u Q I rx ry h
 obtain⟨d,d',h1,h2,s1,s2,q⟩:=h
 exact(zyd I 40 X.A (by omega) d d' x y v u s1 s2 h1 h2 rx ry).2.2 _ _ _ _ ⟨.bl _,H,I,rfl,q⟩
theorem zdK:OpD X.K E (zy9 X.K) dEq:=by
 intro x y v u H H₀ Q hs r1 r2 q
 unfold dEq at q
 by_cases c:zbs 40 x=true/\zbs 40 y=true
 ·rw[if_pos c] at q
  exact⟨x,y,r1.mono hs,r2.mono hs,c.1,c.2,q _ H H₀ (za4.refl hs) (Rep.bl_iff.mpr rfl)⟩
 ·rw[if_neg c] at q;exact q.elim
theorem zgM:OpD X.K E (zy5 X.K) dNe:=by
 intro x y v u H H₀ Q hs r1 r2 q
 unfold dNe at q
 by_cases c:zbs 40 x=true/\zbs 40 y=true
 ·rw[if_pos c] at q
  exact⟨x,y,r1.mono hs,r2.mono hs,c.1,c.2,q _ H H₀ (za4.refl hs) (Rep.bl_iff.mpr rfl)⟩
 ·rw[if_neg c] at q;exact q.elim
open Classical in
noncomputable def zlL (K:W.Frag) (H:Hp) (ds:List D) (x:D) (u:Value):Bool :=
 if h:∃ d,d∈ds/\∃ v,Rep K H d v/\zbP v u then eqD h.choose x else false
theorem zqu {pins:List (Addr×Obj)}{σ:L2.St}{H:Hp}{s:Shared}(I:Inv X pins σ H s){ds:List D}{x d:D}{v:V}{u:Value}(sd:ds.all (zbs 40)=true)(hd:d∈ds)(r:Rep X.K H d v)(q:zbP v u):zlL X.K H ds x u=eqD d x:=by
 have h:∃ d,d∈ds/\∃ v,Rep X.K H d v/\zbP v u:=⟨d,hd,v,r,q⟩
 unfold zlL
 rw[dif_pos h]
 obtain⟨h1,v',h2,h3⟩:=h.choose_spec
 have e:v'=v:=h3.inj q
 subst e
 rw[Rep.inj I 40 _ _ _ (List.all_eq_true.mp sd _ h1) (List.all_eq_true.mp sd _ hd) h2 r]
def zt1 (K:W.Frag)(neg:Bool):R2:=fun v u H Q=>∃ x ds,Rep K H x v/\(Rep K H (.lst ds) u∨Rep K H (.tup ds) u)/\zbs 40 x=true/\ds.all (zbs 40)=true/\Q (.bl (if neg then !(ds.any fun d=>eqD d x) else ds.any fun d=>eqD d x)) H
theorem zgp {pins:List (Addr×Obj)}{σ:L2.St}{H:Hp}{s:Shared}(I:Inv X pins σ H s){x:D}{es:List D}(se:es.all (zbs 40)=true):∀ {ds:List D}{vs:List V}{us:List Value},(∀ d∈ds,d∈es)->Reps X.K H ds vs->zbK vs us->us.any (zlL X.K H es x)=ds.any fun d=>eqD d x
 | [],_,_,_,h,q=>by
  rw[Reps.nil_iff.mp h] at q
  cases q
  rfl
 | d::ds,_,_,hm,h,q=>by
  obtain⟨v,r,rfl,h1,h2⟩:=Reps.cons_iff.mp h
  cases q with
  | cons q1 q2 =>
   rw[List.any_cons,List.any_cons,zqu I se (hm d List.mem_cons_self) h1 q1,zgp I se (fun x hx=>hm x (List.mem_cons_of_mem _ hx)) h2 q2]
theorem zeR {pins:List (Addr×Obj)}{σ:L2.St}{H:Hp}{s:Shared}(I:Inv X pins σ H s)(hu:X.A.units+64 < cLine){x:D}{v:V}{u:Value}(sx:zbs 40 x=true)(rx:Rep X.K H x v)(qx:zbP v u){es:List D}(se:es.all (zbs 40)=true):∀ {ds:List D}{vs:List V}{us:List Value},(∀ d∈ds,d∈es)->Reps X.K H ds vs->zbK vs us->∀ y∈us,SeqAt.EqAt X.A.in1 s y u (zlL X.K H es x y)
 | [],_,_,_,h,q=>fun y hy=>by
  rw[Reps.nil_iff.mp h] at q
  cases q
  cases hy
 | d::ds,_,_,hm,h,q=>fun y hy=>by
  obtain⟨w,r,rfl,h1,h2⟩:=Reps.cons_iff.mp h
  cases q with
  | cons q1 q2 =>
   rcases List.mem_cons.mp hy with rfl | hy
   ·rw[zqu I se (hm d List.mem_cons_self) h1 q1]
    exact(zyd I 40 X.A.in1 (by show X.A.units+1+40 < cLine;omega) d x w v _ u (List.all_eq_true.mp se _ (hm d List.mem_cons_self)) sx h1 rx q1 qx).2.1
   ·exact zeR I hu sx rx qx se (fun x hx=>hm x (List.mem_cons_of_mem _ hx)) h2 q2 y hy
theorem zwC (hu:X.A.units+64 < cLine):OpR X (compareOp .In) (zt1 X.K false):=by
 intro pins s σ H x y v u Q I rx ry h
 obtain⟨d,ds,h1,h2,s1,s2,q⟩:=h
 rcases h2 with h2 | h2
 ·obtain⟨a,vs,its,rfl,rfl,k1,k2,k3,k4,k5⟩:=Rep.lst_get I h2 ry
  refine SeqAt.in_listAt (zlL X.K H ds d) k4 (fun w hw=>zeR I hu s1 h1 rx s2 (fun _ z=>z) k2 k3 w (by simpa using hw)) ⟨.bl _,H,I,rfl,?_⟩
  rw[show its.toArray.any (zlL X.K H ds d)=its.any (zlL X.K H ds d) by simp,zgp I s2 (fun _ z=>z) k2 k3]
  exact q
 ·obtain⟨a,vs,its,rfl,rfl,k1,k2,k3,k4,k5⟩:=Rep.tup_get I h2 ry
  refine SeqAt.in_tupleAt (zlL X.K H ds d) k4 (fun w hw=>zeR I hu s1 h1 rx s2 (fun _ z=>z) k2 k3 w (by simpa using hw)) ⟨.bl _,H,I,rfl,?_⟩
  rw[show its.toArray.any (zlL X.K H ds d)=its.any (zlL X.K H ds d) by simp,zgp I s2 (fun _ z=>z) k2 k3]
  exact q
theorem zpL (hu:X.A.units+64 < cLine):OpR X (compareOp .NotIn) (zt1 X.K true):=by
 intro pins s σ H x y v u Q I rx ry h
 obtain⟨d,ds,h1,h2,s1,s2,q⟩:=h
 rcases h2 with h2 | h2
 ·obtain⟨a,vs,its,rfl,rfl,k1,k2,k3,k4,k5⟩:=Rep.lst_get I h2 ry
  refine SeqAt.notIn_listAt (zlL X.K H ds d) k4 (fun w hw=>zeR I hu s1 h1 rx s2 (fun _ z=>z) k2 k3 w (by simpa using hw)) ⟨.bl _,H,I,rfl,?_⟩
  rw[show its.toArray.any (zlL X.K H ds d)=its.any (zlL X.K H ds d) by simp,zgp I s2 (fun _ z=>z) k2 k3]
  exact q
 ·obtain⟨a,vs,its,rfl,rfl,k1,k2,k3,k4,k5⟩:=Rep.tup_get I h2 ry
  refine SeqAt.notIn_tupleAt (zlL X.K H ds d) k4 (fun w hw=>zeR I hu s1 h1 rx s2 (fun _ z=>z) k2 k3 w (by simpa using hw)) ⟨.bl _,H,I,rfl,?_⟩
  rw[show its.toArray.any (zlL X.K H ds d)=its.any (zlL X.K H ds d) by simp,zgp I s2 (fun _ z=>z) k2 k3]
  exact q
def occ (i j:Str):Bool:=!(Builtin.Str.occurrences j i 0 j.length 1).isEmpty
def inD (x y:D):Option Bool:=match y with
 | .lst ds=>if zbs 40 x=true/\ds.all (zbs 40)=true then some (ds.any fun d=>eqD d x) else none
 | .tup ds=>if zbs 40 x=true/\ds.all (zbs 40)=true then some (ds.any fun d=>eqD d x) else none
 | .str j=>match x with
  | .str i=>some (occ i j)
  | _=>none
 | _=>none
def dIn (x y:D):Res D:=match inD x y with
 | some b=>.ok (.bl b)
 | none=>.stuck
def zbW (x y:D):Res D:=match inD x y with
 | some b=>.ok (.bl (!b))
 | none=>.stuck
def zwf (neg:Bool):R2:=fun x y H Q=>∃ i j,x=.str i/\y=.str j/\Q (.bl (if neg then !(occ i j) else occ i j)) H
theorem zpO (hu:X.A.units+64 < cLine):OpR X (compareOp .In) (fun v u H Q=>zt1 X.K false v u H Q∨zwf false v u H Q):=OpR.or (zwC hu) (by
 intro pins s σ H x y v u Q I rx ry h
 obtain⟨i,j,rfl,rfl,q⟩:=h
 exact zpN pins s σ H _ _ v u Q I rx ry ⟨i,j,rfl,rfl,q⟩)
theorem zd1 (hu:X.A.units+64 < cLine):OpR X (compareOp .NotIn) (fun v u H Q=>zt1 X.K true v u H Q∨zwf true v u H Q):=OpR.or (zpL hu) (by
 intro pins s σ H x y v u Q I rx ry h
 obtain⟨i,j,rfl,rfl,q⟩:=h
 exact zkY pins s σ H _ _ v u Q I rx ry ⟨i,j,rfl,rfl,q⟩)
theorem zne {neg:Bool}{x y:D}{v u:V}{H H₀:Hp}{Q:VK}(hs:zax H₀ H)(r1:Rep X.K H₀ x v)(r2:Rep X.K H₀ y u)
  (q:post X.K E H H₀ (match inD x y with | some b=>.ok (.bl (if neg then !b else b)) | none=>.stuck) Q):zt1 X.K neg v u H Q∨zwf neg v u H Q:=by
 cases y with
 | lst ds =>
  simp only[inD] at q
  by_cases c:zbs 40 x=true/\ds.all (zbs 40)=true
  ·rw[if_pos c] at q
   exact .inl ⟨x,ds,r1.mono hs,.inl (r2.mono hs),c.1,c.2,q _ H H₀ (za4.refl hs) (Rep.bl_iff.mpr rfl)⟩
  ·rw[if_neg c] at q;exact q.elim
 | tup ds =>
  simp only[inD] at q
  by_cases c:zbs 40 x=true/\ds.all (zbs 40)=true
  ·rw[if_pos c] at q
   exact .inl ⟨x,ds,r1.mono hs,.inr (r2.mono hs),c.1,c.2,q _ H H₀ (za4.refl hs) (Rep.bl_iff.mpr rfl)⟩
  ·rw[if_neg c] at q;exact q.elim
 | str j =>
  cases x with
  | str i=>exact .inr ⟨i,j,Rep.str_iff.mp r1,Rep.str_iff.mp r2,q _ H H₀ (za4.refl hs) (Rep.bl_iff.mpr rfl)⟩
  | _=>exact q.elim
 | _=>exact q.elim
theorem zpV:OpD X.K E (fun v u H Q=>zt1 X.K false v u H Q∨zwf false v u H Q) dIn:=fun x y v u H H₀ Q hs r1 r2 q=>zne (neg:=false) (E:=E) hs r1 r2 (by
 unfold dIn at q
 cases e:inD x y with
 | none=>rw[e] at q;exact q
 | some b=>rw[e] at q;exact q)
theorem zd3:OpD X.K E (fun v u H Q=>zt1 X.K true v u H Q∨zwf true v u H Q) zbW:=fun x y v u H H₀ Q hs r1 r2 q=>zne (neg:=true) (E:=E) hs r1 r2 (by
 unfold zbW at q
 cases e:inD x y with
 | none=>rw[e] at q;exact q
 | some b=>rw[e] at q;exact q)
end
@[irreducible] def B9:Nat:=2 ^ 9000
@[irreducible] def B13:Nat:=2 ^ 13500
@[irreducible] def B60:Nat:=2 ^ 60000
theorem zvl:B9=2 ^ 9000:=by unfold B9;rfl
theorem znT:B13=2 ^ 13500:=by unfold B13;rfl
theorem zjR:B60=2 ^ 60000:=by unfold B60;rfl
theorem zjm {n k:Nat}(h:n < 2 ^ k)(hk:0 < k):n.log2 < k:=by
 by_cases h0:n=0
 ·rw[h0]
  have:Nat.log2 0=0:=by decide
  omega
 ·exact(Nat.log2_lt h0).mpr h
theorem zyp {x y:Int}(h:y.natAbs < B9):Builtin.divisionGoesByPylong x y=false:=by
 rw[zvl] at h
 exact PyProof.noPylong_of_log2 (zjm h (by omega))
theorem zwH {x y:Int}(h:x.natAbs < B13):Builtin.divisionGoesByPylong x y=false:=by
 rw[znT] at h
 have hx:x.natAbs.log2 < 13500:=zjm h (by omega)
 show(decide ((if y==0 then 0 else y.natAbs.log2 / 30+1) > 300)&&decide ((if x==0 then 0 else x.natAbs.log2 / 30+1) > (if y==0 then 0 else y.natAbs.log2 / 30+1)+150))=false
 have k:(if x==0 then 0 else x.natAbs.log2 / 30+1)<=450:=by
  by_cases hx0:(x==0)=true
  ·rw[if_pos hx0];omega
  ·rw[if_neg hx0];omega
 by_cases c:(if y==0 then 0 else y.natAbs.log2 / 30+1) > 300
 ·rw[Bool.and_eq_false_iff];right;exact decide_eq_false (by omega)
 ·rw[Bool.and_eq_false_iff];left;exact decide_eq_false c
def zfe (i j:Int):Bool:=decide (j≠0)&&(decide (j.natAbs < B9)||decide (i.natAbs < B13))
def zdA (i j:Int):Bool:=decide (i.natAbs < B60)&&decide (j.natAbs < B60)
theorem zfe.ok {i j:Int}(h:zfe i j=true):j≠0/\Builtin.divisionGoesByPylong i j=false:=by
 unfold zfe at h
 rw[Bool.and_eq_true,Bool.or_eq_true] at h
 refine⟨of_decide_eq_true h.1,?_⟩
 rcases h.2 with h | h
 ·exact zyp (of_decide_eq_true h)
 ·exact zwH (of_decide_eq_true h)
theorem zdA.ok {i j:Int}(h:zdA i j=true):IntMulOk i j:=by
 unfold zdA at h
 rw[Bool.and_eq_true] at h
 have h1:=of_decide_eq_true h.1
 have h2:=of_decide_eq_true h.2
 rw[zjR] at h1 h2
 exact PyProof.Rows.mulOk_of_bits (m:=60000) (n:=60000) (PySem.intBits_le_iff.mpr h1) (PySem.intBits_le_iff.mpr h2) (by decide)
section
variable {X:Cx}{E:XK}{e a b c:Expr}{es:List Expr}{f g k:Ev->Res D}{fa:Ev->Res (List D)}{pos:Pos}
theorem zaX {K:W.Frag}{H H₀:Hp}{d:D}{v:V}{Q:VK}(hs:zax H₀ H)(q:post K E H H₀ (.ok d) Q)(r:Rep K H₀ d v):Q v H:=q v H H₀ (za4.refl hs) r
def iop (c:Int->Int->Bool)(g:Int->Int->D)(x y:D):Res D:=match x,y with
 | .int i,.int j=>if c i j=true then .ok (g i j) else .stuck
 | _,_=>.stuck
theorem znd {C:Int->Int->Prop}{c:Int->Int->Bool}{gv:Int->Int->V}{g:Int->Int->D}(hc:∀ i j,c i j=true->C i j)(hg:∀ K H i j,Rep K H (g i j) (gv i j)):OpD X.K E (rI C gv) (iop c g):=by
 intro x y v u H H₀ Q hs r1 r2 q
 unfold iop at q
 cases x with
 | int i =>
  cases y with
  | int j =>
   by_cases h:c i j=true
   ·simp only[if_pos h] at q
    exact⟨i,j,Rep.int_iff.mp r1,Rep.int_iff.mp r2,hc i j h,zaX hs q (hg _ _ i j)⟩
   ·simp only[if_neg h] at q;exact q.elim
  | _=>exact q.elim
 | _=>exact q.elim
theorem zc1 {gv:Int->Int->V}{g:Int->Int->D}(hg:∀ K H i j,Rep K H (g i j) (gv i j)):OpD X.K E (rI0 gv) (iop (fun _ _=>true) g):=by
 intro x y v u H H₀ Q hs r1 r2 q
 unfold iop at q
 cases x with
 | int i =>
  cases y with
  | int j=>simp only[if_pos] at q;exact⟨i,j,Rep.int_iff.mp r1,Rep.int_iff.mp r2,zaX hs q (hg _ _ i j)⟩
  | _=>exact q.elim
 | _=>exact q.elim
theorem ri {K:W.Frag}{H:Hp}(n:Int):Rep K H (.int n) (.int n):=Rep.int_iff.mpr rfl
theorem rb {K:W.Frag}{H:Hp}(n:Bool):Rep K H (.bl n) (.bl n):=Rep.bl_iff.mpr rfl
abbrev zqH:=iop (fun _ _=>true) fun i j=>.int (i-j)
abbrev zow:=iop zfe fun i j=>.int (i.fdiv j)
abbrev zez:=iop (fun _ j=>decide (j≠0)) fun i j=>.int (i.fmod j)
abbrev znK:=iop (fun i j=>decide (0<=j)&&decide (j<=1000000)&&decide (i.natAbs < 18446744073709551616)) fun i j=>.int (i ^ j.toNat)
abbrev dLt:=iop (fun _ _=>true) fun i j=>.bl (decide (i < j))
abbrev dLe:=iop (fun _ _=>true) fun i j=>.bl (decide (i<=j))
abbrev dGt:=iop (fun _ _=>true) fun i j=>.bl (decide (j < i))
abbrev dGe:=iop (fun _ _=>true) fun i j=>.bl (decide (j<=i))
theorem zug:OpR X (binaryOp .Mult) (rI IntMulOk fun i j=>.int (i*j)):=opI fun _ _ _ _ _ _ _ hc q=>mul_int q hc
theorem zui:OpR X (binaryOp .FloorDiv) (rI (fun i j=>j≠0/\Builtin.divisionGoesByPylong i j=false) fun i j=>.int (i.fdiv j)):=opI fun _ _ _ _ _ _ _ hc q=>floordiv_int hc.1 q (.inl hc.2)
theorem znE (ha:DE X E a f)(hb:DE X E b g):DE X E (.BinOp a .Sub b pos) (zac f g zqH):=zou zwA (zc1 fun _ _ _ _=>ri _) ha hb
theorem zjy (ha:DE X E a f)(hb:DE X E b g):DE X E (.BinOp a .FloorDiv b pos) (zac f g zow):=zou zui (znd (fun _ _ h=>zfe.ok h) fun _ _ _ _=>ri _) ha hb
theorem zen (ha:DE X E a f)(hb:DE X E b g):DE X E (.BinOp a .Mod b pos) (zac f g zez):=zou zpM (znd (fun _ _ h=>of_decide_eq_true h) fun _ _ _ _=>ri _) ha hb
theorem znF (ha:DE X E a f)(hb:DE X E b g):DE X E (.BinOp a .Pow b pos) (zac f g znK):=zou zwB (znd (fun i j h=>by
 rw[Bool.and_eq_true,Bool.and_eq_true] at h
 exact⟨of_decide_eq_true h.1.1,of_decide_eq_true h.1.2,of_decide_eq_true h.2⟩) fun _ _ _ _=>ri _) ha hb
theorem nm {op:CmpOp}{b:Expr}(h1:op≠.In:=by decide)(h2:op≠.NotIn:=by decide):behindInMarks op b=false:=zng _ h1 h2
def zoM (x:D):Res D:=match x with
 | .int i=>.ok (.int (-i))
 | _=>.stuck
theorem zix (ha:DE X E a f):DE X E (.UnaryOp .USub a pos) (zbv f zoM):=zyL zvG (by
 intro x v H H₀ Q hs r q
 cases x with
 | int i=>exact⟨i,Rep.int_iff.mp r,zaX hs q (ri _)⟩
 | _=>exact q.elim) ha
theorem zl7:OpR X (binaryOp .Add) (fun x y H Q=>∃ l b xs zs,x=.ref l/\y=.ref b/\SqL X.K H l xs/\SqL X.K H b zs/\xs.length+zs.length<=sizeLine/\∀ p,H p=none->Q (.ref p) (upd H p (.lst (xs++zs)))):=by
 intro pins s σ H x y v u Q I rx ry h
 obtain⟨l,b,xs,zs,rfl,rfl,hH,hB,hz,q⟩:=h
 cases rx
 cases ry
 obtain⟨its,r,pl,z⟩:=I.list hH
 obtain⟨its2,r2,pl2,z2⟩:=I.list hB
 obtain⟨⟨cls,dd,data,sl⟩,ho,hc,n,hd⟩:=pl.isList
 obtain⟨⟨cls2,dd2,data2,sl2⟩,ho2,hc2,n2,hd2⟩:=pl2.isList
 simp only at hc hd hc2 hd2
 subst hc hd hc2 hd2
 have e:its.toArray++its2.toArray=(its++its2).toArray:=by simp
 have l1:=r.length
 have l2:=r2.length
 refine concat_meets ⟨_,ho,rfl⟩ ⟨_,ho2,rfl⟩ noFill_list_add seq_list_add PySem.F.slot_list_add PySem.F.entry_list_add (PySem.F.args_list_add_2 _ _) (list_addW l b its.toArray its2.toArray n n2 dd dd2 sl sl2 (by simp only[List.size_toArray];omega)) ⟨ho,ho2,?_⟩
 rw[e]
 exact⟨.ref _,_,I.lnew (t':=s.toks) (r.append r2) (by rw[List.length_append];omega),rfl,q _ I.fresh⟩
def zcv (x y:D):Res D:=match x,y with
 | .int i,.int j=>.ok (.int (i+j))
 | .str i,.str j=>if i.length+j.length<=line then .ok (.str (i++j)) else .stuck
 | .lst ds,.lst es=>if ds.length+es.length<=line then .ok (.lst (ds++es)) else .stuck
 | .tup ds,.tup es=>if ds.isEmpty=false/\ds.length+es.length<=line then .ok (.tup (ds++es)) else .stuck
 | _,_=>.stuck
theorem zbC (ha:DE X E a f)(hb:DE X E b g):DE X E (.BinOp a .Add b pos) (zac f g zcv):=zou (OpR.or zs9 (OpR.or zjk (OpR.or zl7 zpP))) (by
 intro x y v u H H₀ Q hs r1 r2 q
 unfold zcv at q
 cases x with
 | int i =>
  cases y with
  | int j=>exact .inl ⟨i,j,Rep.int_iff.mp r1,Rep.int_iff.mp r2,zaX hs q (ri _)⟩
  | _=>exact q.elim
 | str i =>
  cases y with
  | str j =>
   by_cases h:i.length+j.length<=line
   ·simp only[if_pos h] at q
    exact .inr (.inl ⟨i,j,Rep.str_iff.mp r1,Rep.str_iff.mp r2,zch h,zaX hs q (Rep.str_iff.mpr rfl)⟩)
   ·simp only[if_neg h] at q;exact q.elim
  | _=>exact q.elim
 | lst ds =>
  cases y with
  | lst es =>
   by_cases h:ds.length+es.length<=line
   ·simp only[if_pos h] at q
    obtain⟨l,vs,rfl,h1,h2⟩:=Rep.lst_iff.mp r1
    obtain⟨m,us,rfl,k1,k2⟩:=Rep.lst_iff.mp r2
    refine .inr (.inr (.inl ⟨l,m,vs,us,rfl,rfl,zax.sqL hs h1,zax.sqL hs k1,by rw[← h2.length,← k2.length];exact zch h,fun p hp=>?_⟩))
    exact q _ _ _ (za4.alloc hs hp) (Rep.lst_iff.mpr ⟨p,_,rfl,SqL.of zak,(h2.app k2).mono (za4.alloc hs hp).z⟩)
   ·simp only[if_neg h] at q;exact q.elim
  | _=>exact q.elim
 | tup ds =>
  cases y with
  | tup es =>
   by_cases h:ds.isEmpty=false/\ds.length+es.length<=line
   ·simp only[if_pos h] at q
    obtain⟨l,vs,rfl,h1,h2⟩:=Rep.tup_iff.mp r1
    obtain⟨m,us,rfl,k1,k2⟩:=Rep.tup_iff.mp r2
    refine .inr (.inr (.inr ⟨l,m,vs,us,rfl,rfl,zax.sqT hs h1,zax.sqT hs k1,fun z=>?_,by rw[← h2.length,← k2.length];exact zch h.2,fun z=>?_,fun z p hp=>?_⟩))
    ·have:=h2.length
     rw[z] at this
     have e:ds=[]:=List.length_eq_zero_iff.mp this
     rw[e] at h;exact absurd h.1 (by decide)
    ·have:=k2.length
     rw[z] at this
     have e:es=[]:=List.length_eq_zero_iff.mp this
     rw[e,List.append_nil] at q
     exact zaX hs q r1
    ·exact q _ _ _ (za4.alloc hs hp) (Rep.tup_iff.mpr ⟨p,_,rfl,SqT.of zak,(h2.app k2).mono (za4.alloc hs hp).z⟩)
   ·simp only[if_neg h] at q;exact q.elim
  | _=>exact q.elim
 | _=>exact q.elim) ha hb
def dIx (x y:D):Res D:=match y with
 | .int i=>match x with
  | .lst ds=>match atI ds i with
   | some d=>.ok d
   | none=>.stuck
  | .tup ds=>match atI ds i with
   | some d=>.ok d
   | none=>.stuck
  | .str z=>if z.length<=line then match atI z.cps.toList i with
   | some c=>.ok (.str ⟨#[c]⟩)
   | none=>.stuck else .stuck
  | _=>.stuck
 | _=>.stuck
theorem Reps.atI {K:W.Frag}{H:Hp}{ds:List D}{vs:List V}{i:Int}{d:D}(h:Reps K H ds vs)(e:atI ds i=some d):∃ v,L2.atI vs i=some v/\Rep K H d v:=by
 unfold L2.atI at e ⊢
 rw[← h.length]
 cases q:ixN ds.length i with
 | none=>rw[q] at e;cases e
 | some j =>
  rw[q] at e
  exact h.get e
theorem zwE:OpD X.K E (rIx X.K) dIx:=by
 intro x y v u H H₀ Q hs r1 r2 q
 unfold dIx at q
 cases y with
 | int i =>
  cases x with
  | lst ds =>
   obtain⟨l,vs,rfl,h1,h2⟩:=Rep.lst_iff.mp r1
   cases e:atI ds i with
   | none=>simp only[e] at q;exact q.elim
   | some d =>
    simp only[e] at q
    obtain⟨w,e1,e2⟩:=h2.atI e
    exact .inl ⟨l,vs,i,w,rfl,Rep.int_iff.mp r2,zax.sqL hs h1,e1,zaX hs q e2⟩
  | tup ds =>
   obtain⟨l,vs,rfl,h1,h2⟩:=Rep.tup_iff.mp r1
   cases e:atI ds i with
   | none=>simp only[e] at q;exact q.elim
   | some d =>
    simp only[e] at q
    obtain⟨w,e1,e2⟩:=h2.atI e
    exact .inr (.inl ⟨l,vs,i,w,rfl,Rep.int_iff.mp r2,zax.sqT hs h1,e1,zaX hs q e2⟩)
  | str z =>
   by_cases hz:z.length<=line
   ·simp only[if_pos hz] at q
    cases e:atI z.cps.toList i with
    | none=>simp only[e] at q;exact q.elim
    | some c =>
     simp only[e] at q
     exact .inr (.inr ⟨z,i,c,Rep.str_iff.mp r1,Rep.int_iff.mp r2,zch hz,e,zaX hs q (Rep.str_iff.mpr rfl)⟩)
   ·simp only[if_neg hz] at q;exact q.elim
  | _=>exact q.elim
 | _=>exact q.elim
theorem zai (ha:DE X E a f)(hb:DE X E b g)(hs:ziX b:=by intro _ _;rfl):DE X E (.Subscript a b pos) (zac f g dIx):=zyN ztc zwE ha hb hs
def zdi:Ev->Res (Option Int):=fun _=>.ok none
def zc2 (f:Ev->Res D):Ev->Res (Option Int):=fun ρ=>(f ρ).bind fun x=>match x with
 | .int i=>.ok (some i)
 | _=>.stuck
def tDO (K:W.Frag)(E:XK)(f:Ev->Res (Option Int)):TO:=fun σ H Q=>∃ H₀ ρ,zax H₀ H/\Reads K H₀ σ ρ/\match f ρ with
 | .ok o=>∀ H' H₀',za4 H H₀ H' H₀'->Q o H'
 | .exn x=>∀ C ox H' H₀',za4 H H₀ H' H₀'->ExR K H₀' x C ox->E C ox H'
 | .stuck=>False
structure DO (X:Cx) (E:XK) (e:Option Expr) (f:Ev->Res (Option Int)):Prop where
 o:PO X e (tDO X.K E f)
theorem zpC {eo:Option Expr}{t t':TO}(h:PO X eo t)(w:∀ σ H Q,t' σ H Q->t σ H Q):PO X eo t':=fun pins s σ H Q I q=>h pins s σ H Q I (w σ H Q q)
theorem zdd:DO X E none zdi:=⟨zpC zt5 fun σ H Q ⟨H₀,ρ,hs,hr,q⟩=>q H H₀ (za4.refl hs)⟩
theorem zdc (ha:DE X E a f):DO X E (some a) (zc2 f):=by
 refine⟨?_⟩
 refine zpC (zt4 ha.o) fun σ H Q ⟨H₀,ρ,hs,hr,q⟩=>⟨H₀,ρ,hs,hr,?_⟩
 unfold zc2 at q
 cases e1:f ρ with
 | stuck=>rw[e1] at q;exact q
 | exn x=>rw[e1] at q;exact q
 | ok d =>
  rw[e1] at q
  intro v H1 H01 g1 r1
  cases d with
  | int i=>exact⟨i,Rep.int_iff.mp r1,q H1 H01 g1⟩
  | _=>exact q.elim
def zdj (xs:List D)(lo hi:Option Int):List D:=(xs.drop (HT.sIx xs.length 0 lo)).take (HT.sIx xs.length xs.length hi-HT.sIx xs.length 0 lo)
theorem Reps.cut {K:W.Frag}{H:Hp}{ds:List D}{vs:List V}(h:Reps K H ds vs)(lo hi:Option Int):Reps K H (zdj ds lo hi) (ztn vs lo hi):=by
 unfold zdj ztn
 rw[← h.length]
 exact(h.drop _).take _
theorem zlV {r:V->Option Int->Option Int->Hp->VK->Prop}{lo hi:Ev->Res (Option Int)}{m:D->Option Int->Option Int->Res D}
  (ho:∀ x v l h H H₀ Q,zax H₀ H->Rep X.K H₀ x v->post X.K E H H₀ (m x l h) Q->r v l h H Q)(σ:L2.St)(H:Hp)(Q:VK)
  (h:tD X.K E (fun ρ=>(f ρ).bind fun x=>(lo ρ).bind fun l=>(hi ρ).bind fun h=>m x l h) σ H Q):tSl r (tD X.K E f) (tDO X.K E lo) (tDO X.K E hi) σ H Q:=by
 obtain⟨H₀,ρ,hs,hr,q⟩:=h
 refine⟨H₀,ρ,hs,hr,?_⟩
 replace q:post X.K E H H₀ ((f ρ).bind fun x=>(lo ρ).bind fun l=>(hi ρ).bind fun h=>m x l h) Q:=q
 cases e1:f ρ with
 | stuck=>rw[e1] at q;exact q
 | exn x=>rw[e1] at q;exact q
 | ok x =>
  rw[e1] at q
  intro v H1 H01 g1 r1
  refine⟨H01,ρ,g1.sub,hr.mono g1.z,?_⟩
  replace q:post X.K E H H₀ ((lo ρ).bind fun l=>(hi ρ).bind fun h=>m x l h) Q:=q
  replace q:=q.grow g1
  cases e2:lo ρ with
  | stuck=>rw[e2] at q;exact q
  | exn x=>rw[e2] at q;exact q
  | ok l =>
   rw[e2] at q
   intro H2 H02 g2
   refine⟨H02,ρ,g2.sub,(hr.mono g1.z).mono g2.z,?_⟩
   replace q:post X.K E H1 H01 ((hi ρ).bind fun h=>m x l h) Q:=q
   replace q:=q.grow g2
   cases e3:hi ρ with
   | stuck=>rw[e3] at q;exact q
   | exn x=>rw[e3] at q;exact q
   | ok h =>
    rw[e3] at q
    intro H3 H03 g3
    exact ho x v l h H3 H03 Q g3.sub ((r1.mono g2.z).mono g3.z) (post.grow (r:=m x l h) q g3)
def m1 (m:D->Res D)(ds:List D):Res D:=match ds with
 | [x]=>m x
 | _=>.stuck
def m2 (m:D->D->Res D)(ds:List D):Res D:=match ds with
 | [x,y]=>m x y
 | _=>.stuck
theorem zoB {r:List V->Hp->VK->Prop}{m:D->Res D}(h:∀ x v H H₀ Q,zax H₀ H->Rep X.K H₀ x v->post X.K E H H₀ (m x) Q->r [v] H Q):zhG X E r (m1 m):=by
 intro ds vs H H₀ Q hs hr q
 unfold m1 at q
 match ds,hr,q with
 | [x],hr,q =>
  obtain⟨v,r',rfl,h1,h2⟩:=Reps.cons_iff.mp hr
  rw[Reps.nil_iff.mp h2]
  exact h x v H H₀ Q hs h1 q
 | [],_,q=>exact q.elim
 | _::_::_,_,q=>exact q.elim
theorem zxs {r:List V->Hp->VK->Prop}{m:D->D->Res D}(h:∀ x y v u H H₀ Q,zax H₀ H->Rep X.K H₀ x v->Rep X.K H₀ y u->post X.K E H H₀ (m x y) Q->r [v,u] H Q):zhG X E r (m2 m):=by
 intro ds vs H H₀ Q hs hr q
 unfold m2 at q
 match ds,hr,q with
 | [x,y],hr,q =>
  obtain⟨v,r',rfl,h1,h2⟩:=Reps.cons_iff.mp hr
  obtain⟨u,r'',rfl,h3,h4⟩:=Reps.cons_iff.mp h2
  rw[Reps.nil_iff.mp h4]
  exact h x y v u H H₀ Q hs h1 h3 q
 | [],_,q=>exact q.elim
 | [_],_,q=>exact q.elim
 | _::_::_::_,_,q=>exact q.elim
def zvs (x:D):Res D:=match x with
 | .int i=>.ok (.int (if i < 0 then -i else i))
 | _=>.stuck
def zyO (x y:D):Res D:=match x,y with
 | .int i,.int j=>.ok (.int (if j > i then j else i))
 | _,_=>.stuck
def ze9 (x:D):Res D:=match x with
 | .lst ds=>.ok (.int ds.length)
 | .tup ds=>.ok (.int ds.length)
 | .str z=>if z.length<=line then .ok (.int z.length) else .stuck
 | _=>.stuck
def ziD (x:D):Res D:=match x with
 | .int i=>.ok (.int i)
 | .bl b=>.ok (.int (if b then 1 else 0))
 | _=>.stuck
def zxk (x:D):Res D:=match x with
 | .lst ds=>.ok (.lst ds)
 | .tup ds=>.ok (.lst ds)
 | _=>.stuck
theorem zqO:zhG X E (fun xs H Q=>∃ i,xs=[.int i]/\Q (.int (if i < 0 then -i else i)) H) (m1 zvs):=zoB fun x v H H₀ Q hs r q=>by
 cases x with
 | int i=>exact⟨i,by rw[Rep.int_iff.mp r],zaX hs q (ri _)⟩
 | _=>exact q.elim
theorem zxo:zhG X E (fun xs H Q=>∃ i j,xs=[.int i,.int j]/\Q (.int (if j > i then j else i)) H) (m2 zyO):=zxs fun x y v u H H₀ Q hs r r' q=>by
 cases x with
 | int i =>
  cases y with
  | int j=>exact⟨i,j,by rw[Rep.int_iff.mp r,Rep.int_iff.mp r'],zaX hs q (ri _)⟩
  | _=>exact q.elim
 | _=>exact q.elim
theorem zcm:zhG X E (fun xs H Q=>∃ x n,xs=[x]/\zzu X.K x H n/\Q (.int n) H) (m1 ze9):=zoB fun x v H H₀ Q hs r q=>by
 cases x with
 | lst ds =>
  obtain⟨p,vs,rfl,h1,h2⟩:=Rep.lst_iff.mp r
  refine⟨_,vs.length,rfl,.inl ⟨vs,zax.sqL hs h1,rfl⟩,?_⟩
  rw[← h2.length];exact zaX hs q (ri _)
 | tup ds =>
  obtain⟨p,vs,rfl,h1,h2⟩:=Rep.tup_iff.mp r
  refine⟨_,vs.length,rfl,.inr ⟨vs,zax.sqT hs h1,rfl⟩,?_⟩
  rw[← h2.length];exact zaX hs q (ri _)
 | str z =>
  unfold ze9 at q
  by_cases hz:z.length<=line
  ·simp only[if_pos hz] at q
   rw[Rep.str_iff.mp r]
   exact⟨_,z.length,rfl,⟨zch hz,rfl⟩,zaX hs q (ri _)⟩
  ·simp only[if_neg hz] at q;exact q.elim
 | _=>exact q.elim
theorem zxp:zhG X E (fun xs H Q=>(∃ i,xs=[.int i]/\Q (.int i) H)∨∃ k,xs=[.bl k]/\Q (.int (if k then 1 else 0)) H) (m1 ziD):=zoB fun x v H H₀ Q hs r q=>by
 cases x with
 | int i=>exact .inl ⟨i,by rw[Rep.int_iff.mp r],zaX hs q (ri _)⟩
 | bl i=>exact .inr ⟨i,by rw[Rep.bl_iff.mp r],zaX hs q (ri _)⟩
 | _=>exact q.elim
theorem znH {T:String}{r:List V->Hp->VK->Prop}{m:List D->Res D}{x:Str}{p:Pos}(hc:zhF X (.type T) r)(hd:zhG X E r m)(hg:Gl X x)(hm:X.mg x=none)(hv:bootBuiltins x=some (.type T))(ha:DA X E (e::es) fa)(hn:x≠"__name__":=by decide)(hdb:(x==("__debug__" : Str))=false:=by decide)
  (he:starEach (e::es) X.env=(false,eval e X.env)::starEach es X.env:=by exact zaC rfl)(hpl:(backTo pos (starEach es X.env)).any (·.1)=false:=by exact za3 rfl):DE X E (.Call (.Name x p) (e::es) [] pos) (zan fa m) :=
 ⟨zaG (zpI hc hg hm hv ha.o hn hdb he hpl) (zgo hd)⟩
def zuD:D->Bool
 | .non=>true
 | _=>false
def zlM (x y:D):Res D:=match y with
 | .non=>.ok (.bl (zuD x))
 | _=>.stuck
def zgi (x y:D):Res D:=match y with
 | .non=>.ok (.bl (!(zuD x)))
 | _=>.stuck
theorem Rep.is_non {K:W.Frag}{H:Hp}{x:D}{v:V}(r:Rep K H x v):decide (v=.non)=zuD x:=by
 cases x with
 | non=>rw[Rep.non_iff.mp r];rfl
 | bl b=>rw[Rep.bl_iff.mp r];rfl
 | int b=>rw[Rep.int_iff.mp r];rfl
 | str b=>rw[Rep.str_iff.mp r];rfl
 | tup ds=>obtain⟨_,_,e,_⟩:=Rep.tup_iff.mp r;rw[e];rfl
 | lst ds=>obtain⟨_,_,e,_⟩:=Rep.lst_iff.mp r;rw[e];rfl
 | dic ks ds=>rw[Rep] at r;obtain⟨_,_,_,e,_⟩:=r;rw[e];rfl
 | exc x=>obtain⟨_,_,_,e,_⟩:=Rep.exc_iff.mp r;rw[e];rfl
 | ob k x=>obtain⟨_,_,e,_⟩:=Rep.ob_iff.mp r;rw[e];rfl
theorem znc:OpD X.K E (fun x y H Q=>y=.non/\Q (.bl (decide (x=.non))) H) zlM:=by
 intro x y v u H H₀ Q hs r1 r2 q
 unfold zlM at q
 cases y with
 | non=>exact⟨Rep.non_iff.mp r2,by rw[r1.is_non];exact zaX hs q (rb _)⟩
 | _=>exact q.elim
theorem zul:OpD X.K E (fun x y H Q=>y=.non/\Q (.bl (!decide (x=.non))) H) zgi:=by
 intro x y v u H H₀ Q hs r1 r2 q
 unfold zgi at q
 cases y with
 | non =>
  refine⟨Rep.non_iff.mp r2,?_⟩
  rw[r1.is_non]
  exact zaX hs q (rb _)
 | _=>exact q.elim
def tyD:D->String
 | .non=>"NoneType"
 | .bl _=>"bool"
 | .int _=>"int"
 | .str _=>"str"
 | .tup _=>"tuple"
 | .lst _=>"list"
 | .dic _ _=>"dict"
 | .exc _=>"<exc>"
 | .ob (.ins _ _) _=>"<exc>"
 | .ob (.dint _) _=>"dict"
 | .ob (.exf _ _) _=>"<exc>"
def zce (T:String)(x:D):Res D:=.ok (.bl (tyD x==T||(tyD x=="bool"&&T=="int")))
def zmD (K:W.Frag)(T:String):Prop:=∀ S,S∈["NoneType","bool","int","str","tuple","list","dict"]->W.kitOne K (.type S) (.type T)=some (S==T||(S=="bool"&&T=="int"))
theorem zr7 {pins:List (Addr×Obj)}{σ:L2.St}{H:Hp}{s:Shared}{A:Around}{Q:Value->Shared->Prop}{x:D}{v:V}{u:Value}{T:String}(I:Inv X pins σ H s)(r:Rep X.K H x v)(q:zbP v u)(hk:zmD X.K T)(hT:T∈zeX)(h:∀ tk,Q (.bool (tyD x==T||(tyD x=="bool"&&T=="int"))) { s with toks:=tk }) :
  wpAny (model X.prog X.w) A (call (.builtin "isinstance") [u,.type T]) Q X.xe s:=by
 cases x with
 | non=>rw[Rep.non_iff.mp r] at q;exact zf3 I q .non (hk _ (by simp)) h
 | bl b=>rw[Rep.bl_iff.mp r] at q;exact zf3 I q (.bl b) (hk _ (by simp)) h
 | int b=>rw[Rep.int_iff.mp r] at q;exact zf3 I q (.int b) (hk _ (by simp)) h
 | str b=>rw[Rep.str_iff.mp r] at q;exact zf3 I q (.str b) (hk _ (by simp)) h
 | tup ds =>
  obtain⟨a,vs,its,rfl,rfl,h1,h2,h3,h4,_⟩:=Rep.tup_get I r q
  obtain⟨o,k1,k2,_⟩:=h4
  exact W.kia_one W.kitx_tuple I.kIn ⟨o,k1,k2⟩ (hk _ (by simp)) (fun z=>nomatch z) h
 | lst ds =>
  obtain⟨a,vs,its,rfl,rfl,h1,h2,h3,h4,_⟩:=Rep.lst_get I r q
  obtain⟨o,k1,k2,_⟩:=h4
  exact W.kia_one W.kitx_list I.kIn ⟨o,k1,k2⟩ (hk _ (by simp)) (fun z=>nomatch z) h
 | dic ks ds =>
  rw[Rep] at r
  obtain⟨a,kvs,vs,rfl,h1,h2,_⟩:=r
  cases (show u=Value.ref a from q)
  obtain⟨_,_,vs',_,p⟩:=h1.ok I.hok
  obtain⟨o,es,ep,k1,k2,_⟩:=p
  exact W.kia_one W.kitx_dict I.kIn ⟨o,k1,k2.1⟩ (hk _ (by simp)) (fun z=>nomatch z) h
 | exc x =>
  obtain⟨a,C,dc,rfl,hc,h1⟩:=Rep.exc_iff.mp r
  cases (show u=Value.ref a from q)
  obtain⟨p,_,_⟩:=h1.ok I.hok
  have e:(tyD (.exc x)==T||(tyD (.exc x)=="bool"&&T=="int"))=false:=by
   have:∀ T∈zeX,(tyD (.exc x)==T||(tyD (.exc x)=="bool"&&T=="int"))=false:=by show ∀ T∈zeX,("<exc>"==T||("<exc>"=="bool"&&T=="int"))=false;decide
   exact this T hT
  rw[e] at h
  exact W.kia_one (znl hc.ek hc.ek.isCls) I.kIn p (hc.bt T hT) (fun z=>nomatch z) h
 | ob k xs =>
  obtain⟨a,vs,rfl,h1,_⟩:=Rep.ob_iff.mp r
  cases (show u=Value.ref a from q)
  cases k with
  | exf c ks =>
   obtain⟨C,dx,fs,hc,h2,_⟩:=h1
   obtain⟨p,_,_⟩:=h2.ok I.hok
   have e:(tyD (.ob (.exf c ks) xs)==T||(tyD (.ob (.exf c ks) xs)=="bool"&&T=="int"))=false:=by
    have:∀ T∈zeX,("<exc>"==T||("<exc>"=="bool"&&T=="int"))=false:=by decide
    exact this T hT
   rw[e] at h
   exact W.kia_one (znl hc.ek hc.ek.isCls) I.kIn p (hc.bt T hT) (fun z=>nomatch z) h
  | ins c ks =>
   obtain⟨C,dx,_,hc,h2,_⟩:=h1
   obtain⟨mA,O,_⟩:=zqh I.hok h2
   obtain⟨od,O',_⟩:=O.look
   have e:(tyD (.ob (.ins c ks) xs)==T||(tyD (.ob (.ins c ks) xs)=="bool"&&T=="int"))=false:=by
    have:∀ T∈zeX,(tyD (.ob (.ins c ks) xs)==T||(tyD (.ob (.ins c ks) xs)=="bool"&&T=="int"))=false:=by show ∀ T∈zeX,("<exc>"==T||("<exc>"=="bool"&&T=="int"))=false;decide
    exact this T hT
   rw[e] at h
   exact W.kia_one (W.kitx_own (hc.cls.get _) hc.cls.hd hc.gc hc.gn hc.tk hc.mo) I.kIn O' (hc.bt T hT) (fun z=>nomatch z) h
  | dint ks =>
   obtain⟨kvs,h2,_⟩:=h1
   obtain⟨_,_,vs',_,p⟩:=h2.ok I.hok
   obtain⟨o,es,ep,k1,k2,_⟩:=p
   exact W.kia_one W.kitx_dict I.kIn ⟨o,k1,k2.1⟩ (hk _ (by simp)) (fun z=>nomatch z) h
theorem za9 {T:String}{x:Str}{p1 p2:Pos}(hk:zmD X.K T)(hgi:Gl X "isinstance")(hmi:X.mg "isinstance"=none)(hg:Gl X x)(hm:X.mg x=none)(hv:bootBuiltins x=some (.type T))(ha:DE X E a f)
  (hn:x≠"__name__":=by decide)(hdb:(x==("__debug__" : Str))=false:=by decide)(hT:T∈zeX:=by decide)
  (he:starEach [a,.Name x p2] X.env=(false,eval a X.env)::starEach [.Name x p2] X.env:=by exact zaC rfl)(he2:starEach [.Name x p2] X.env=(false,eval (.Name x p2) X.env)::starEach [] X.env:=by exact zaC rfl)(hpl:(backTo pos (starEach [.Name x p2] X.env)).any (·.1)=false:=by exact za3 rfl) :
  DE X E (.Call (.Name "isinstance" p1) [a,.Name x p2] [] pos) (zbv f (zce T)):=by
 refine⟨?_⟩
 refine zaG (zm8 (r:=fun vs H Q=>∃ d v,vs=[v,.ty T]/\Rep X.K H d v/\Q (.bl (tyD d==T||(tyD d=="bool"&&T=="int"))) H) ?_ hgi hmi PyProof.Rows.Boot.«isinstance» (zcK ha.o (zcK (zue (v:=.ty T) hg hm hv rfl hn hdb) zfl he2) he) (by decide) (by decide) he hpl) fun σ H Q ⟨H₀,ρ,hs,hr,q⟩=>⟨H₀,ρ,hs,hr,?_⟩
 ·intro pins s σ H xs us Q I r h
  obtain⟨d,v,rfl,h1,q⟩:=h
  cases r with
  | cons r1 r2 =>
   cases r2 with
   | cons r3 r4 =>
    cases r4
    rename_i u1 u2
    obtain rfl:u2=Value.type T:=r3
    exact zr7 I h1 r1 hk hT fun tk=>⟨.bl _,H,I.tok _,rfl,q⟩
 ·unfold zbv at q
  cases e1:f ρ with
  | stuck=>rw[e1] at q;exact q
  | exn x=>rw[e1] at q;exact q
  | ok d =>
   rw[e1] at q
   intro v H1 H01 g1 r1
   exact⟨d,v,rfl,r1.mono g1.sub,q _ H1 H01 g1 (rb _)⟩
end
theorem zlp {prog:Program}{w:World}{A:Around}{E:Value->Shared->Prop}{it t:Addr}{items:Array Value}(hne:t≠it):∀ (n i:Nat) (s:Shared) (Q:List Value->Shared->Prop),s.heap.IsListIter it t i->s.heap.IsList t items->i+n<=items.size ->
  (∀ h',h'.IsListIter it t (i+n)->Heap.SameBut it s.heap h'->Q ((items.toList.drop i).take n) { s with heap:=h' })->wpAny (model prog w) A (draw (.ref it) n) Q E s
 | 0,i,s,Q,hit,_,_,hQ=>by
  show wpAny _ _ (pure []) Q E s
  exact wpAny_pure (by simpa using hQ s.heap hit (Heap.SameBut.refl ..))
 | n+1,i,s,Q,hit,ht,hle,hQ=>by
  have hlt:i < items.size:=by omega
  show wpAny _ _ (pyNext (.ref it) >>= _) Q E s
  refine wpAny_bind (wpAny_pyNext_list_item hit ht (x:=items[i]) (by simp [hlt]) fun h₁ hit₁ hs₁=>?_)
  have ht₁:h₁.IsList t items:=by
   obtain⟨o,k1,k2⟩:=ht
   exact⟨o,(hs₁.2 t hne).trans k1,k2⟩
  refine wpAny_bind (wpAny_holding (zlp hne n (i+1) _ _ hit₁ ht₁ (by omega) fun h₂ hit₂ hs₂=>wpAny_pure ?_))
  have hd:items.toList.drop i=items[i]::items.toList.drop (i+1):=by simp [List.drop_eq_getElem_cons,hlt]
  have:=hQ h₂ (by rw[show i+(n+1)=i+1+n by omega];exact hit₂) (hs₁.trans hs₂)
  rw[hd,List.take_succ_cons] at this
  exact this
theorem zhy {prog:Program}{w:World}{A:Around}{E:Value->Shared->Prop}{s:Shared}{t:Addr}{items:Array Value}{Q:List Value->Shared->Prop}(hh:A.handled=none)(ht:s.heap.IsList t items)
  (hQ:∀ h',Heap.ExtBut s.heap.objs.size s.heap h'->Q items.toList { s with heap:=h' }):wpAny (model prog w) A (unpackItems (.ref t) items.size none) Q E s:=by
 have hlt:t≠s.heap.objs.size:=by obtain⟨o,ho,_⟩:=ht;exact Nat.ne_of_lt (Heap.lt_size ho)
 unfold unpackItems
 refine wpAny_bind ?_
 ·unfold notIterableAtAll
  refine wpAny_bind (wpAny_specialOf ht.typeIs slot_list_iter.lookup ?_)
  refine wpAny_pure ?_
  simp only[Bool.false_eq_true,if_false]
  refine wpAny_bind (wpAny_holding (wpAny_pyIter_list ht ?_))
  have ht0:(s.heap.push { cls:=.type "list_iterator",data:=.fields #[.ref t,.int 0 0] }).IsList t items:=by
   obtain⟨o,k1,k2⟩:=ht
   exact⟨o,Heap.get?_push_of_some _ k1,k2⟩
  refine wpAny_bind (wpAny_holding (zlp hlt items.size 0 _ _ ⟨_,Heap.get?_push_size _ rfl,rfl,rfl⟩ ht0 (by omega) fun h₁ hit₁ hs₁=>?_))
  have hall:List.take items.size (List.drop 0 items.toList)=items.toList:=by
   rw[List.drop_zero];exact List.take_of_length_le (by simp)
  rw[hall]
  rw[if_neg (by simp)]
  have ht₁:h₁.IsList t items:=by
   obtain⟨o,k1,k2⟩:=ht0
   exact⟨o,(hs₁.2 t hlt).trans k1,k2⟩
  refine wpAny_bind (wpAny_holding (wpAny_pyNext_list_end hh hit₁ ht₁ (by simp) fun h₂ he₂=>?_))
  simp only[Option.isSome_none,Bool.false_eq_true,if_false]
  refine wpAny_pure (hQ h₂ fun b o hb e=>he₂ b o hb (hs₁.extBut b o hb (Heap.get?_push_of_some _ e)))
def zt0 (σ:L2.St):List Nat->List V->L2.St
 | i::is,v::vs=>zt0 (σ.set i (some v)) is vs
 | _,_=>σ
def zcX (ρ:Ev):List Nat->List D->Ev
 | i::is,d::ds=>zcX (ρ.set i (.sh d)) is ds
 | _,_=>ρ
theorem SRx.putAll {K:W.Frag}{He H0e H₀ H:Hp}:∀ {is:List Nat}{ds:List D}{vs:List V}{σ:L2.St}{ρ:Ev},SRx K He H0e H₀ σ H ρ->Reps K H₀ ds vs->SRx K He H0e H₀ (zt0 σ is vs) H (zcX ρ is ds)
 | [],_,_,_,_,h,_=>by unfold zt0 zcX;exact h
 | _::_,[],_,_,_,h,r=>by rw[Reps.nil_iff.mp r];unfold zt0 zcX;exact h
 | i::is,d::ds,_,_,_,h,r=>by
  obtain⟨v,vs,rfl,h1,h2⟩:=Reps.cons_iff.mp r
  unfold zt0 zcX
  exact SRx.putAll (h.put h1) h2
section
variable {X:Cx}{E:XK}{He H0e:Hp}{e a b:Expr}{es:List Expr}{f g:Ev->Res D}{fa:Ev->Res (List D)}{pos:Pos}{is:List Nat}
def tVs (is:List Nat):TGs:=fun vs σ H Q=>vs.length=is.length/\Q (zt0 σ is vs) H
theorem zm6 {t t':TGs}(h:PGs X es t)(w:∀ vs σ H Q,t' vs σ H Q->t vs σ H Q):PGs X es t':=fun pins s σ H vs us Q I r q=>h pins s σ H vs us Q I r (w vs σ H Q q)
theorem zkn:PGs X [] (tVs []):=zm6 zt8 fun vs σ H Q ⟨h,q⟩=>by
 have e:vs=[]:=List.length_eq_zero_iff.mp h
 subst e
 exact⟨rfl,q⟩
theorem zdq {i:Nat}{x:Str}{p:Pos}(hN:X.N.Nodup)(hi:X.N[i]?=some x)(hx:Loc X.env.scope x)(h:PGs X es (tVs is))(hf:X.fn x=true∨X.env.scope.names.lookup x=some .local := by first | exact .inl rfl | exact .inr rfl | assumption)
  (hs:(assignEach (.Name x p::es) X.env).map (·.2)=assign (.Name x p) X.env::(assignEach es X.env).map (·.2):=by rfl):PGs X (.Name x p::es) (tVs (i::is)) :=
 zm6 (zrH (zpG hN hi hx hf) h hs) fun vs σ H Q ⟨h,q⟩=>by
  cases vs with
  | nil=>simp at h
  | cons v vs=>exact⟨v,vs,rfl,by simpa using h,q⟩
theorem zt9 {k:Nat}{t:TGs}{n:Nat}(hc:X.calm=true)(h:PGs X es t)
  (hn:(assignEach es X.env).length=n:=by rfl)(hst:(assignEach es X.env).findIdx? (·.1)=none:=by rfl):PG X (.Tuple es k pos) (fun v σ H Q=>∃ a xs,v=.ref a/\SqL X.K H a xs/\xs.length=n/\t xs σ H Q):=by
 intro pins s σ H v u Q I r hw
 obtain⟨a,xs,e1,hq,hl,hw⟩:=hw
 subst e1
 cases r
 obtain⟨its,rv,ht,hz⟩:=I.list hq
 rw[assign_Tuple]
 refine wpAny_bind (wpAny_standAt ?_)
 unfold unpack
 rw[hn,hst]
 have hsz:n=its.toArray.size:=by rw[List.size_toArray,← rv.length,hl]
 rw[hsz]
 refine wpAny_bind (wpAny_holding (zhy (I.ok.hd hc) ht.isList fun h' hx=>?_))
 have I1:Inv X pins σ H { s with heap:=h' }:=I.kept (t':=s.toks) fun b o e=>hx b o (Nat.ne_of_lt (Heap.lt_size e)) e
 exact h pins _ σ H xs _ Q I1 (by simpa using rv) hw
theorem zyk {tgt:Expr}{t t':TG}(h:PG X tgt t)(h':PG X tgt t'):PG X tgt (fun v σ H Q=>t v σ H Q∨t' v σ H Q):=fun pins s σ H v u Q I r q=>q.elim (h pins s σ H v u Q I r) (h' pins s σ H v u Q I r)
theorem zwo {k:Nat}(hc:X.calm=true)(h:PGs X es (tVs is))(hn:(assignEach es X.env).length=is.length:=by rfl)(hst:(assignEach es X.env).findIdx? (·.1)=none:=by rfl) :
  PG X (.Tuple es k pos) (fun v σ H Q=>∃ a xs,v=.ref a/\(SqT X.K H a xs∨SqL X.K H a xs)/\xs.length=is.length/\Q (zt0 σ is xs) H) :=
 zl3 (zyk (zwn hc h hn hst) (zt9 hc h hn hst)) fun v σ H Q ⟨a,xs,e,hq,hl,q⟩=>hq.elim (fun z=>.inl ⟨a,xs,e,z,hl,hl,q⟩) fun z=>.inr ⟨a,xs,e,z,hl,hl,q⟩
def zdZ (n:Nat)(d:D):Option (List D):=match d with
 | .tup ds=>if ds.length=n then some ds else none
 | .lst ds=>if ds.length=n then some ds else none
 | _=>none
theorem zl5 {K:W.Frag}{H:Hp}{n:Nat}{d:D}{ds:List D}{v:V}(h:zdZ n d=some ds)(r:Rep K H d v):∃ a vs,v=.ref a/\(SqT K H a vs∨SqL K H a vs)/\vs.length=n/\Reps K H ds vs:=by
 unfold zdZ at h
 cases d with
 | tup es =>
  by_cases c:es.length=n
  ·simp only[if_pos c] at h;cases h
   obtain⟨a,vs,rfl,h1,h2⟩:=Rep.tup_iff.mp r
   exact⟨a,vs,rfl,.inl h1,by rw[← h2.length];exact c,h2⟩
  ·simp only[if_neg c] at h;cases h
 | lst es =>
  by_cases c:es.length=n
  ·simp only[if_pos c] at h;cases h
   obtain⟨a,vs,rfl,h1,h2⟩:=Rep.lst_iff.mp r
   exact⟨a,vs,rfl,.inr h1,by rw[← h2.length];exact c,h2⟩
  ·simp only[if_neg c] at h;cases h
 | _=>cases h
theorem zrs {K:W.Frag}{H H':Hp}{a:Addr}{vs:List V}(hs:zax H H')(h:SqT K H a vs∨SqL K H a vs):SqT K H' a vs∨SqL K H' a vs:=h.elim (fun z=>.inl (zax.sqT hs z)) fun z=>.inr (zax.sqL hs z)
def zzK (is:List Nat)(f:Ev->Res D):Ev->Res Fl:=fun ρ=>(f ρ).bind fun d=>match zdZ is.length d with
 | some ds=>.ok (.nx (zcX ρ is ds))
 | none=>.stuck
def zlk (is:List Nat):Ev->D->Res Ev:=fun ρ d=>match zdZ is.length d with
 | some ds=>.ok (zcX ρ is ds)
 | none=>.stuck
theorem zfT:zoG (zlk is):=fun ρ d=>by
 unfold zlk
 cases zdZ is.length d with
 | none=>exact .inl rfl
 | some ds=>exact .inr ⟨_,rfl⟩
theorem znC {k:Nat}(hc:X.calm=true)(h:PGs X es (tVs is))(hn:(assignEach es X.env).length=is.length:=by rfl)(hst:(assignEach es X.env).findIdx? (·.1)=none:=by rfl):DG X E He H0e (.Tuple es k pos) (zlk is) :=
 ⟨zl3 (zwo hc h hn hst) fun v σ H Q ⟨H₀,ρ,d,h,rp,q⟩=>by
  unfold zlk at q
  cases e1:zdZ is.length d with
  | none=>rw[e1] at q;exact q.elim
  | some ds =>
   rw[e1] at q
   obtain⟨a,vs,rfl,k1,k2,k3⟩:=zl5 e1 rp
   exact⟨a,vs,rfl,zrs h.g.sub k1,k2,q _ H H₀ (zax.refl _) (h.putAll k3)⟩⟩
def zq2 (i j:Nat)(fa:Ev->Res (List D)):Ev->Res Fl:=fun ρ=>(fa ρ).bind fun ds=>match ds with
 | [x,y]=>.ok (.nx ((ρ.set i (.sh x)).set j (.sh y)))
 | _=>.stuck
theorem zxa {i j:Nat}{x y:Str}{px py pt pt2:Pos}{kt k2}(hc:X.calm=true)(hN:X.N.Nodup)(hi:X.N[i]?=some x)(hj:X.N[j]?=some y)(hij:i≠j)
  (hx:X.env.scope.names.lookup x=some .local)(hy:X.env.scope.names.lookup y=some .local)(ha:DA X E [a,b] fa)
  (hw:swappedStores [.Tuple [.Name x px,.Name y py] kt pt] (.Tuple [a,b] k2 pt2) X.env=pure (some [x,y]))
  (hs:swapsWithSole [.Tuple [.Name x px,.Name y py] kt pt] (.Tuple [a,b] k2 pt2) pos.line X.env=pure false:=by rfl) :
  DS X E He H0e (.Assign [.Tuple [.Name x px,.Name y py] kt pt] (.Tuple [a,b] k2 pt2) pos) (zq2 i j fa):=by
 refine⟨?_⟩
 refine za5 (zwk hc hN hi hj hij hx hy ha.o hw hs) fun D σ H ⟨H₀,ρ,h,q⟩=>⟨H₀,ρ,h.g.sub,h.rd,?_⟩
 unfold zq2 at q
 cases e1:fa ρ with
 | stuck=>rw[e1] at q;exact q
 | exn x=>rw[e1] at q;exact fun C ox H' H₀' g ex=>q C ox H' H₀' (h.g.trans g) ex
 | ok ds =>
  rw[e1] at q
  intro vs H1 H01 g1 r1
  match ds,r1,q with
  | [x,y],r1,q =>
   obtain⟨v,r',rfl,h1,h2⟩:=Reps.cons_iff.mp r1
   obtain⟨u,r'',rfl,h3,h4⟩:=Reps.cons_iff.mp h2
   rw[Reps.nil_iff.mp h4]
   exact⟨v,u,rfl,q _ H1 H01 g1.z (((h.grow g1).put h1).put h3)⟩
  | [],_,q=>exact q.elim
  | [_],_,q=>exact q.elim
  | _::_::_::_,_,q=>exact q.elim
end
theorem zjp {K:W.Frag}:zmD K "int":=by
 intro S hS
 simp only[List.mem_cons,List.mem_nil_iff,or_false] at hS
 rcases hS with rfl | rfl | rfl | rfl | rfl | rfl | rfl<;>first | rfl | decide +kernel
theorem zim {K:W.Frag}:zmD K "bool":=by
 intro S hS
 simp only[List.mem_cons,List.mem_nil_iff,or_false] at hS
 rcases hS with rfl | rfl | rfl | rfl | rfl | rfl | rfl<;>first | rfl | decide +kernel
theorem zjo {K:W.Frag}:zmD K "str":=by
 intro S hS
 simp only[List.mem_cons,List.mem_nil_iff,or_false] at hS
 rcases hS with rfl | rfl | rfl | rfl | rfl | rfl | rfl<;>first | rfl | decide +kernel
theorem zdm {K:W.Frag}:zmD K "tuple":=by
 intro S hS
 simp only[List.mem_cons,List.mem_nil_iff,or_false] at hS
 rcases hS with rfl | rfl | rfl | rfl | rfl | rfl | rfl<;>first | rfl | decide +kernel
theorem zct {K:W.Frag}:zmD K "list":=by
 intro S hS
 simp only[List.mem_cons,List.mem_nil_iff,or_false] at hS
 rcases hS with rfl | rfl | rfl | rfl | rfl | rfl | rfl<;>first | rfl | decide +kernel
section
variable {X:Cx}{E:XK}{He H0e:Hp}{e a b c:Expr}{f g h:Ev->Res D}{pos:Pos}
theorem dv (i:Nat){x:Str}(hN:X.N[i]?=some x:=by rfl)(hv:Vis X.env.scope x:=by first | exact Or.inl rfl | exact Or.inr (Or.inl rfl) | exact Or.inr (Or.inr rfl))(hd:(x==("__debug__" : Str))=false:=by decide)
  (hcd:(x==("__classdict__" : Str))=false:=by decide):DE X E (.Name x pos) (zae i):=zxh hN hv hd hcd
def Kon (K:W.Frag)(mg:Str->Option Value)(x:Str)(d:D):Prop:=∃ v u,mg x=some u/\zbP v u/\∀ H,Rep K H d v
theorem zaT {x:Str}{d:D}(k:Kon X.K X.mg x d)(hg:Gl X x)(hd:(x==("__debug__" : Str))=false:=by decide):DE X E (.Name x pos) (dC d):=by
 obtain⟨v,u,h1,h2,h3⟩:=k
 exact zu0 hg h1 h2 h3 hd
theorem zcs {K:W.Frag}{mg:Str->Option Value}{x:Str}{i:Int}{t:Tok}(h:mg x=some (.int i t)):Kon K mg x (.int i):=⟨.int i,_,h,⟨t,rfl⟩,fun _=>ri _⟩
theorem zuA {K:W.Frag}{mg:Str->Option Value}{x:Str}{i:Str}{t:Tok}(h:mg x=some (.str i t)):Kon K mg x (.str i):=⟨.str i,_,h,⟨t,rfl⟩,fun _=>Rep.str_iff.mpr rfl⟩
theorem zp7 {K:W.Frag}{mg:Str->Option Value}{x:Str}{a:Addr}{od:Option Addr}{its:Array Value}{n:Nat}{sl:Array (Option Value)}{ds:List D}{vs:List V}(h:mg x=some (.ref a))(l:K.lookup a=some ⟨.type "tuple",od,.seq its n,sl⟩)
  (hv:zbK vs its.toList)(hz:its.size<=sizeLine)(hd:∀ H,Reps K H ds vs):Kon K mg x (.tup ds):=⟨.ref a,_,h,rfl,fun H=>Rep.tup_iff.mpr ⟨a,vs,rfl,.inr ⟨_,its,n,l,rfl,rfl,hz,hv⟩,hd H⟩⟩
def zeT (op op':D->D->Res D)(f g h:Ev->Res D):Ev->Res D:=fun ρ=>(f ρ).bind fun x=>(g ρ).bind fun y=>(op x y).bind fun z=>match z with
 | .bl true=>(h ρ).bind fun w=>op' y w
 | .bl false=>.ok (.bl false)
 | _=>.stuck
def zmB (r:R2)(o:D->D->Res D):Prop:=∀ (K:W.Frag) (x y:D) (v u:V) (H H₀:Hp) (Q:VK) (d:D),zax H₀ H->Rep K H₀ x v->Rep K H₀ y u->o x y=.ok d->(∀ w,Rep K H₀ d w->Q w H)->r v u H Q
theorem zcz {gv:Int->Int->V}{g:Int->Int->D}(hg:∀ K H i j,Rep K H (g i j) (gv i j)):zmB (rI0 gv) (iop (fun _ _=>true) g):=by
 intro K x y v u H H₀ Q d hs r1 r2 e q
 unfold iop at e
 cases x with
 | int i =>
  cases y with
  | int j=>simp only[if_pos] at e;cases e;exact⟨i,j,Rep.int_iff.mp r1,Rep.int_iff.mp r2,q _ (hg _ _ i j)⟩
  | _=>cases e
 | _=>cases e
def zmC (o:D->D->Res D):Prop:=∀ x y,∀ z,o x y≠.exn z
theorem ziJ {r r':R2}{o o':D->D->Res D}(p:zmB r o)(p':zmB r' o')(n:zmC o)(n':zmC o')(σ:L2.St)(H:Hp)(Q:VK)(q:tD X.K E (zeT o o' f g h) σ H Q) :
  zpc r r' (tD X.K E f) (tD X.K E g) (tD X.K E h) σ H Q:=by
 obtain⟨H₀,ρ,hs,hr,q⟩:=q
 refine⟨H₀,ρ,hs,hr,?_⟩
 unfold zeT at q
 cases e1:f ρ with
 | stuck=>rw[e1] at q;exact q
 | exn x=>rw[e1] at q;exact q
 | ok x =>
  rw[e1] at q
  intro v H1 H01 g1 r1
  refine⟨H01,ρ,g1.sub,hr.mono g1.z,?_⟩
  replace q:=post.grow (r:=(g ρ).bind fun y=>(o x y).bind fun z=>match z with
   | .bl true=>(h ρ).bind fun w=>o' y w
   | .bl false=>.ok (.bl false)
   | _=>.stuck) q g1
  cases e2:g ρ with
  | stuck=>rw[e2] at q;exact q
  | exn x=>rw[e2] at q;exact q
  | ok y =>
   rw[e2] at q
   intro u H2 H02 g2 r2
   replace q:=post.grow (r:=(o x y).bind fun z=>match z with
    | .bl true=>(h ρ).bind fun w=>o' y w
    | .bl false=>.ok (.bl false)
    | _=>.stuck) q g2
   cases e3:o x y with
   | stuck=>rw[e3] at q;exact q.elim
   | exn z=>exact absurd e3 (n x y z)
   | ok z =>
    rw[e3] at q
    refine p X.K x y v u H2 H02 _ z g2.sub (r1.mono g2.z) r2 e3 fun w rw'=>?_
    cases z with
    | bl b =>
     rw[Rep.bl_iff.mp rw']
     refine⟨b,rfl,?_⟩
     cases b with
     | false=>rw[if_neg Bool.false_ne_true];exact q _ H2 H02 (za4.refl g2.sub) (rb _)
     | true =>
      rw[if_pos rfl]
      refine⟨H02,ρ,g2.sub,(hr.mono g1.z).mono g2.z,?_⟩
      replace q:post X.K E H2 H02 ((h ρ).bind fun w=>o' y w) Q:=q
      cases e4:h ρ with
      | stuck=>rw[e4] at q;exact q
      | exn x=>rw[e4] at q;exact q
      | ok w2 =>
       rw[e4] at q
       intro v3 H3 H03 g3 r3
       replace q:=post.grow (r:=o' y w2) q g3
       cases e5:o' y w2 with
       | stuck=>rw[e5] at q;exact q.elim
       | exn z=>exact absurd e5 (n' y w2 z)
       | ok d =>
        rw[e5] at q
        exact p' X.K y w2 u v3 H3 H03 Q d g3.sub (r2.mono g3.z) r3 e5 fun w3 r5=>q w3 H3 H03 (za4.refl g3.sub) r5
    | _=>exact q.elim
theorem znG {op op':CmpOp}{r r':R2}{o o':D->D->Res D}(ho:OpR X (compareOp op) r)(ho':OpR X (compareOp op') r')(p:zmB r o)(p':zmB r' o')(n:zmC o)(n':zmC o')(ha:DE X E a f)(hb:DE X E b g)(hc:DE X E c h)
  (hm:lastMarks [op,op'] [b,c]=false:=by with_unfolding_all rfl):DE X E (.Compare a [op,op'] [b,c] pos) (zeT o o' f g h):=⟨zaG (zrJ ho ho' ha.o hb.o hc.o hm) (ziJ p p' n n')⟩
theorem zny {op op':CmpOp}{r r':R2}{o o':D->D->Res D}(ho:OpR X (compareOp op) r)(ho':OpR X (compareOp op') r')(p:zmB r o)(p':zmB r' o')(n:zmC o)(n':zmC o')(ha:DE X E a f)(hb:DE X E b g)(hc:DE X E c h)
  (hm:lastMarks [op,op'] [b,c]=false:=by with_unfolding_all rfl):DT X E (.Compare a [op,op'] [b,c] pos) (zeT o o' f g h):=by
 refine⟨?_⟩
 refine zdY (zrE ho ho' ha.o hb.o hc.o hm) fun σ H Q q=>?_
 have w:tD X.K E (zeT o o' f g h) σ H fun x H'=>∃ k,x=.bl k/\Q k H':=by
  obtain⟨H₀,ρ,hs,hr,q⟩:=q
  refine⟨H₀,ρ,hs,hr,?_⟩
  cases e1:zeT o o' f g h ρ with
  | stuck=>rw[e1] at q;exact q
  | exn x=>rw[e1] at q;exact q
  | ok d =>
   rw[e1] at q
   intro v H1 H01 g1 r1
   cases d with
   | bl b=>rw[Rep.bl_iff.mp r1];exact⟨b,rfl,q H1 H01 g1⟩
   | _=>exact q.elim
 exact ziJ p p' n n' σ H _ w
theorem zcA {c:Int->Int->Bool}{g:Int->Int->D}:zmC (iop c g):=by
 intro x y z
 unfold iop
 cases x<;>cases y<;>simp<;>split<;>simp
end
def zgR (i:Nat):Ev->Nat:=fun ρ=>match ρ[i]? with
 | some (.sh (.int j))=>j.natAbs+1
 | _=>0
section
variable {X:Cx}{E:XK}{a b:Expr}{f g:Ev->Res D}{pos:Pos}
def zb5 (x y:D):Res D:=match x,y with
 | .int i,.int j=>if zdA i j=true then .ok (.int (i*j)) else .stuck
 | _,_=>.stuck
theorem zdM (ha:DE X E a f)(hb:DE X E b g):DE X E (.BinOp a .Mult b pos) (zac f g zb5):=zou zug (by
 intro x y v u H H₀ Q hs r1 r2 q
 unfold zb5 at q
 cases x with
 | int i =>
  cases y with
  | int j =>
   by_cases h:zdA i j=true
   ·simp only[if_pos h] at q
    exact⟨i,j,Rep.int_iff.mp r1,Rep.int_iff.mp r2,zdA.ok h,zaX hs q (ri _)⟩
   ·simp only[if_neg h] at q;exact q.elim
  | _=>exact q.elim
 | _=>exact q.elim) ha hb
end
def zyB (K:W.Frag)(tg:Ev->D->Res Ev):TG:=fun v σ H Q=>∃ He H0e,tG K He H0e tg v σ H Q
section
variable {X:Cx}{E:XK}{a b:Expr}{f g:Ev->Res D}{pos:Pos}
def zxj (x y:D):Res D:=match x,y with
 | .lst ds,.int k=>if ds.length*k.toNat<=line/\-9223372036854775808<=k/\k < 9223372036854775808 then .ok (.lst (List.replicate k.toNat ds).flatten) else .stuck
 | _,_=>.stuck
def zzL (f g:Ev->Res D):Ev->Res D:=fun ρ=>(f ρ).bind fun x=>match x with
 | .lst ds=>(g ρ).bind fun y=>zxj (.lst ds) y
 | _=>.stuck
def zqG (x:D):Res D:=match x with
 | .lst ds=>.ok (.tup ds)
 | .tup ds=>.ok (.tup ds)
 | _=>.stuck
theorem zsH:zhG X E (fun xs H Q=>∃ p ys,xs=[.ref p]/\((SqL X.K H p ys/\∀ l,H l=none->Q (.ref l) (upd H l (.tup ys)))∨(SqT X.K H p ys/\Q (.ref p) H))) (m1 zqG):=zoB fun x v H H₀ Q hs r q=>by
 cases x with
 | lst ds =>
  obtain⟨p,vs,rfl,h1,h2⟩:=Rep.lst_iff.mp r
  exact⟨p,vs,rfl,.inl ⟨zax.sqL hs h1,fun n hn=>q _ _ _ (za4.alloc hs hn) (Rep.tup_iff.mpr ⟨n,_,rfl,SqT.of zak,h2.mono (za4.alloc hs hn).z⟩)⟩⟩
 | tup ds =>
  obtain⟨p,vs,e,h1,h2⟩:=Rep.tup_iff.mp r
  subst e
  exact⟨p,vs,rfl,.inr ⟨zax.sqT hs h1,zaX hs q r⟩⟩
 | _=>exact q.elim
end
def zfh:List D->Option (List Str)
 | []=>some []
 | .str x::r=>(zfh r).map (x::·)
 | _=>none
theorem zmP {K:W.Frag}{H:Hp}:∀ {ds:List D}{ys:List Str}{vs:List V}{us:List Value},zfh ds=some ys->Reps K H ds vs->zbK vs us->StrsAre us ys
 | [],ys,vs,us,h,r,q=>by
  cases h
  rw[Reps.nil_iff.mp r] at q
  cases q
  exact .nil
 | d::ds,ys,vs,us,h,r,q=>by
  obtain⟨v,r',rfl,h1,h2⟩:=Reps.cons_iff.mp r
  cases q with
  | cons q1 q2 =>
   cases d with
   | str x =>
    unfold zfh at h
    cases e:zfh ds with
    | none=>rw[e] at h;cases h
    | some zs =>
     rw[e] at h
     cases h
     rw[Rep.str_iff.mp h1] at q1
     obtain⟨t,rfl⟩:=q1
     exact .cons _ _ (zmP e h2 q2)
   | _=>cases h
section
variable {X:Cx}{E:XK}{o e:Expr}{fo:Ev->Res D}{fa:Ev->Res (List D)}
def zeM (z:Str)(ys:List Str):Bool:=decide (z.length<=16)&&decide ((ys.map (·.length)).sum+ys.length<=1048576)
def zye (K:W.Frag):V->List V->Hp->VK->Prop:=fun x xs H Q=>∃ z p ds ys,x=.str z/\xs=[.ref p]/\Rep K H (.lst ds) (.ref p)/\zfh ds=some ys/\zeM z ys=true/\Q (.str (Txt.join z ys)) H
theorem zuo:MtR X "str.join" (zye X.K):=by
 intro pins s σ H x xs v us Q I rx rs h
 obtain⟨z,p,ds,ys,rfl,rfl,hr,hy,hf,q⟩:=h
 obtain⟨t,rfl⟩:=rx
 obtain⟨u,rfl,ru⟩:=rs.one
 obtain⟨a,vs,its,ea,rfl,h1,h2,h3,h4,_⟩:=Rep.lst_get I hr ru
 unfold zeM at hf
 rw[Bool.and_eq_true] at hf
 exact join_listW h4 (by simpa using zmP hy h2 h3) (of_decide_eq_true hf.1) (of_decide_eq_true hf.2) fun t' k=>⟨.str (Txt.join z ys),H,I.tok _,⟨_,rfl⟩,q⟩
def zka (z:Str)(xs:List D):Res D:=match xs with
 | [.lst ds]=>match zfh ds with
  | some ys=>if zeM z ys=true then .ok (.str (Txt.join z ys)) else .stuck
  | none=>.stuck
 | _=>.stuck
def zov (fo:Ev->Res D)(fa:Ev->Res (List D)):Ev->Res D:=fun ρ=>(fo ρ).bind fun x=>match x with
 | .str z=>(fa ρ).bind fun xs=>zka z xs
 | _=>.stuck
theorem zuZ {apos cpos:Pos}(ho:DE X E o fo)(ha:DA X E [e] fa)
  (hbase:attributeBase o "join" X.env (eval o X.env)=eval o X.env:=by rfl)
  (hfew:((backTo cpos (starEach [e] X.env)).all (fun x=>!x.1)&&(backToKw cpos (keywordEach [] X.env)).all (fun x=>x.1.isSome)
  &&decide ([e].length+([]:List Keyword).length+(if([]:List Keyword).isEmpty then 0 else 1) < 30))=true:=by exact zkh rfl)
  (hline:(apos.endLine==cpos.line)=true:=by rfl) (hs:starEach [e] X.env=(false,eval e X.env)::starEach [] X.env:=by exact zaC rfl) (hplain:(backTo cpos (starEach [] X.env)).any (·.1)=false:=by exact za3 rfl) :
  DE X E (.Call (.Attribute o "join" apos) [e] [] cpos) (zov fo fa):=by
 refine⟨?_⟩
 refine zaG (zud PySem.F.plainAttrs_str PySem.F.slot_str_join PySem.F.type_str_join zuo ho.o ha.o hbase hfew hline hs hplain) fun σ H Q ⟨H₀,ρ,hs,hr,q⟩=>⟨H₀,ρ,hs,hr,?_⟩
 unfold zov at q
 cases e1:fo ρ with
 | stuck=>rw[e1] at q;exact q
 | exn x=>rw[e1] at q;exact q
 | ok x =>
  rw[e1] at q
  intro v H1 H01 g1 r1
  cases x with
  | str z =>
   rw[Rep.str_iff.mp r1]
   refine⟨rfl,H01,ρ,g1.sub,hr.mono g1.z,?_⟩
   replace q:=post.grow (r:=(fa ρ).bind fun xs=>zka z xs) q g1
   cases e2:fa ρ with
   | stuck=>rw[e2] at q;exact q
   | exn x=>rw[e2] at q;exact q
   | ok xs =>
    rw[e2] at q
    intro us H2 H02 g2 r2
    replace q:=post.grow (r:=zka z xs) q g2
    unfold zka at q
    match xs,r2,q with
    | [.lst ds],r2,q =>
     obtain⟨w,r',rfl,k1,k2⟩:=Reps.cons_iff.mp r2
     rw[Reps.nil_iff.mp k2]
     obtain⟨p,vs,rfl,k3,k4⟩:=Rep.lst_iff.mp k1
     cases e3:zfh ds with
     | none=>simp only[e3] at q;exact q.elim
     | some ys =>
      simp only[e3] at q
      by_cases c:zeM z ys=true
      ·rw[if_pos c] at q
       exact⟨z,p,ds,ys,rfl,rfl,k1.mono g2.sub,e3,c,zaX g2.sub q (Rep.str_iff.mpr rfl)⟩
      ·rw[if_neg c] at q;exact q.elim
    | [],_,q=>exact q.elim
    | d1::_::_,_,q=>cases d1<;>exact False.elim q
    | [.non],_,q=>exact q.elim
    | [.bl _],_,q=>exact q.elim
    | [.int _],_,q=>exact q.elim
    | [.str _],_,q=>exact q.elim
    | [.tup _],_,q=>exact q.elim
    | [.dic _ _],_,q=>exact q.elim
    | [.exc _],_,q=>exact q.elim
    | [.ob _ _],_,q=>exact q.elim
  | _=>exact q.elim
end
section
variable {X:Cx}{E:XK}{a:Expr}{f:Ev->Res D}{pos:Pos}
def zzN:V->Option Int->Option Int->Hp->VK->Prop:=fun x lo hi H Q=>∃ z,x=.str z/\z.length<=sizeLine/\Q (.str (Txt.slice z lo hi)) H
theorem zvY:SlR X zzN:=by
 intro pins s σ H x v vl vu lo hi sl Q I rx hs pl pu h
 obtain⟨z,rfl,hz,q⟩:=h
 obtain⟨t,rfl⟩:=rx
 have fin:∀ t' k,EP X pins σ Q (.str (Txt.slice z lo hi) t') { s with toks:=k }:=fun t' k=>⟨.str (Txt.slice z lo hi),H,I.tok _,⟨_,rfl⟩,q⟩
 refine⟨"str",_,PySem.F.slot_str_getitem.lookup,typeIs_str s z t,?_⟩
 cases pl with
 | none =>
  cases pu with
  | none=>exact wpAny_getItem_str_slice (l:=none) (u:=none) (st:=none) hs rfl (post_val_or_str ⟨Nat.le_trans (Txt.slice_le z _ _) hz,fin⟩)
  | int j uj=>exact wpAny_getItem_str_slice (l:=none) (u:=some (j,uj)) (st:=none) hs rfl (post_val_or_str ⟨Nat.le_trans (Txt.slice_le z _ _) hz,fin⟩)
 | int i ui =>
  cases pu with
  | none=>exact wpAny_getItem_str_slice (l:=some (i,ui)) (u:=none) (st:=none) hs rfl (post_val_or_str ⟨Nat.le_trans (Txt.slice_le z _ _) hz,fin⟩)
  | int j uj=>exact wpAny_getItem_str_slice (l:=some (i,ui)) (u:=some (j,uj)) (st:=none) hs rfl (post_val_or_str ⟨Nat.le_trans (Txt.slice_le z _ _) hz,fin⟩)
def zkP (x:D)(l h:Option Int):Res D:=match x with
 | .lst ds=>.ok (.lst (zdj ds l h))
 | .str z=>if z.length<=line then .ok (.str (Txt.slice z l h)) else .stuck
 | .tup ds=>if HT.sIx ds.length 0 l=0/\HT.sIx ds.length ds.length h=ds.length then .stuck else .ok (.tup (zdj ds l h))
 | _=>.stuck
def zoL (f:Ev->Res D)(lo hi:Ev->Res (Option Int)):Ev->Res D:=fun ρ=>(f ρ).bind fun x=>(lo ρ).bind fun l=>(hi ρ).bind fun h=>zkP x l h
theorem zcj {lo hi:Option Expr}{p2:Pos}{fl fh:Ev->Res (Option Int)}(ha:DE X E a f)(hl:DO X E lo fl)(hh:DO X E hi fh):DE X E (.Subscript a (.Slice lo hi none p2) pos) (zoL f fl fh) :=
 ⟨zaG (zm7 (SlR.or zpm (SlR.or zvY zvX)) ha.o hl.o hh.o) (zlV (m:=zkP) fun x v l h H H₀ Q hs r q=>by
  cases x with
  | lst ds =>
   obtain⟨p,vs,rfl,h1,h2⟩:=Rep.lst_iff.mp r
   exact .inl ⟨p,vs,rfl,zax.sqL hs h1,fun n hn=>q _ _ _ (za4.alloc hs hn) (Rep.lst_iff.mpr ⟨n,_,rfl,SqL.of zak,(h2.cut l h).mono (za4.alloc hs hn).z⟩)⟩
  | str z =>
   unfold zkP at q
   by_cases c:z.length<=line
   ·simp only[if_pos c] at q
    exact .inr (.inl ⟨z,Rep.str_iff.mp r,zch c,zaX hs q (Rep.str_iff.mpr rfl)⟩)
   ·simp only[if_neg c] at q;exact q.elim
  | tup ds =>
   unfold zkP at q
   by_cases c:HT.sIx ds.length 0 l=0/\HT.sIx ds.length ds.length h=ds.length
   ·simp only[if_pos c] at q;exact q.elim
   ·simp only[if_neg c] at q
    obtain⟨p,vs,rfl,h1,h2⟩:=Rep.tup_iff.mp r
    exact .inr (.inr ⟨p,vs,rfl,zax.sqT hs h1,by rw[← h2.length];exact c,fun n hn=>q _ _ _ (za4.alloc hs hn) (Rep.tup_iff.mpr ⟨n,_,rfl,SqT.of zak,(h2.cut l h).mono (za4.alloc hs hn).z⟩)⟩)
  | _=>exact q.elim)⟩
end
def Its (z:Str):It:=⟨fun i _=>i < z.cps.size,fun i H x H'=>H'=H/\∃ c,z.cps[i]?=some c/\x=.str ⟨#[c]⟩,fun i _=>z.cps.size<=i⟩
theorem znZ {P:Program}{w:World}{K:W.Frag}{tg:Expr}(z:Str)(t:Tok)(it:Addr):zvt P w K tg (Its z) [it] it (fun i h=>h.IsStrIter it "str_ascii_iterator" z t i) where
 mem:=by simp
 obj:=fun i h st b hb=>by
  have e:b=it:=by simpa using hb
  subst e
  obtain⟨o,e,c,d⟩:=st
  exact⟨o,e,fun v z=>by rw[d] at z;cases z⟩
 keep:=fun i h h' st k=>let ⟨o,ho,r⟩:=st;⟨o,k it (by simp) o ho,r⟩
 item:=by
  intro X hP hw hK hc i pins s σ H E I hf st hg
  subst hP hw hK
  have hg':i < z.cps.size:=hg
  obtain⟨f0,f1,f2,f3,f4,f5⟩:=hf it (by simp)
  refine wpAny_pyNext_ascii_item st (c:=z.cps[i]) (by simp [hg']) fun h' st' sb=>?_
  have I1:Inv X pins σ H { s with heap:=h',toks:=s.toks+1 }:=I.turned (t':=s.toks+1) (fun b o hb e=>(sb.2 b hb).trans e) f0 f1 f3 f4 f5
  obtain⟨o,e,c,d⟩:=id st'
  exact⟨_,rfl,zsd (s:={ s with heap:=h',toks:=s.toks+1 }) e c d (by decide) ⟨.str ⟨#[z.cps[i]]⟩,H,I1,⟨_,rfl⟩,⟨rfl,_,by simp [hg'],rfl⟩,st',fun b hb=>(hf b hb).1⟩⟩
 done:=by
  intro X hP hw hK hc i pins s σ H E I hf st hg
  subst hP hw hK
  have hg':z.cps.size<=i:=hg
  obtain⟨f0,f1,f2,f3,f4,f5⟩:=hf it (by simp)
  exact wpAny_pyNext_ascii_end (I.ok.hd hc) st (by simp [hg']) fun h' eb=>⟨rfl,I.turned (t':=s.toks) (fun b o hb e=>eb b o hb e) f0 f1 f3 f4 f5⟩
 self:=fun _ _ _ _ _ st h=>wpAny_pyIter_striter_ascii st h
theorem zo7 {P:Program}{w:World}{K:W.Frag}{tg:Expr}(z:Str)(t:Tok)(it:Addr):zvt P w K tg (Its z) [it] it (fun i h=>h.IsStrIter it "str_iterator" z t i) where
 mem:=by simp
 obj:=fun i h st b hb=>by
  have e:b=it:=by simpa using hb
  subst e
  obtain⟨o,e,c,d⟩:=st
  exact⟨o,e,fun v z=>by rw[d] at z;cases z⟩
 keep:=fun i h h' st k=>let ⟨o,ho,r⟩:=st;⟨o,k it (by simp) o ho,r⟩
 item:=by
  intro X hP hw hK hc i pins s σ H E I hf st hg
  subst hP hw hK
  have hg':i < z.cps.size:=hg
  obtain⟨f0,f1,f2,f3,f4,f5⟩:=hf it (by simp)
  refine wpAny_pyNext_wide_item st (c:=z.cps[i]) (by simp [hg']) fun h' st' sb=>?_
  have I1:Inv X pins σ H { s with heap:=h',toks:=s.toks+1 }:=I.turned (t':=s.toks+1) (fun b o hb e=>(sb.2 b hb).trans e) f0 f1 f3 f4 f5
  obtain⟨o,e,c,d⟩:=id st'
  exact⟨_,rfl,zsd (s:={ s with heap:=h',toks:=s.toks+1 }) e c d (by decide) ⟨.str ⟨#[z.cps[i]]⟩,H,I1,⟨_,rfl⟩,⟨rfl,_,by simp [hg'],rfl⟩,st',fun b hb=>(hf b hb).1⟩⟩
 done:=by
  intro X hP hw hK hc i pins s σ H E I hf st hg
  subst hP hw hK
  have hg':z.cps.size<=i:=hg
  obtain⟨f0,f1,f2,f3,f4,f5⟩:=hf it (by simp)
  exact wpAny_pyNext_wide_end (I.ok.hd hc) st (by simp [hg']) fun h' eb=>⟨rfl,I.turned (t':=s.toks) (fun b o hb e=>eb b o hb e) f0 f1 f3 f4 f5⟩
 self:=fun _ _ _ _ _ st h=>wpAny_pyIter_striter_wide st h
def zzW (tl:TE):TI:=fun σ H R=>tl σ H fun x H1=>∃ z,x=.str z/\R (Its z) H1
theorem zwm {X:Cx}{tg l:Expr}{tl:TE}(hl:PE X l tl):PI X tg l (zzW tl):=by
 intro pins s σ H R I h
 refine thn (hl pins s σ H _ I h) fun v s1 ⟨x,H1,I1,r1,q1⟩=>?_
 obtain⟨z,rfl,q⟩:=q1
 obtain⟨t,rfl⟩:=r1
 have fpo:∀ b∈[s1.heap.objs.size],znR X pins H1 b:=fun b hb=>by
  have e:b=s1.heap.objs.size:=by simpa using hb
  subst e
  exact I1.fpOk (Nat.le_refl _) (I1.hok.fresh (Nat.le_refl _))
 cases ha:z.cps.all (· < 128) with
 | false=>exact wpAny_pyIter_wide ha ⟨s1.heap.objs.size,[s1.heap.objs.size],_,_,H1,rfl,I1.kept (t':=s1.toks) fun b o e=>Heap.get?_push_of_some _ e,zo7 z t _,⟨_,Heap.get?_push_size _ rfl,rfl,rfl⟩,fpo,q⟩
 | true=>exact wpAny_pyIter_ascii ha ⟨s1.heap.objs.size,[s1.heap.objs.size],_,_,H1,rfl,I1.kept (t':=s1.toks) fun b o e=>Heap.get?_push_of_some _ e,znZ z t _,⟨_,Heap.get?_push_size _ rfl,rfl,rfl⟩,fpo,q⟩
def zg7 (z:Str):List D:=z.cps.toList.map fun c=>.str ⟨#[c]⟩
theorem zgz (z:Str):(zg7 z).length=z.cps.size:=by unfold zg7;simp
section
variable {X:Cx}{E:XK}{He H0e:Hp}{f:Ev->Res D}{s:Ev->Res Fl}{pos:Pos}
end
section
variable {X:Cx}{E:XK}
def zza (K:W.Frag):List V->Hp->VK->Prop:=fun xs H Q=>∃ (p:Addr) (bs:List Bool),xs=[.ref p]/\SqL K H p (bs.map V.bl)/\Q (.bl (bs.all id)) H
theorem zlI:∀ bs:List Bool,(List.range bs.length).all (fun i=>bs.getD i false)=bs.all id
 | []=>rfl
 | b::r=>by
  rw[List.length_cons,List.range_succ_eq_map,List.all_cons,List.all_map,List.all_cons,← zlI r]
  rfl
theorem zsI (hc:X.calm=true):zhF X (.builtin "all") (zza X.K):=by
 intro pins s σ H xs us Q I r h
 obtain⟨p,bs,rfl,hq,q⟩:=h
 obtain⟨u,rfl,rx⟩:=zlS r
 cases rx
 obtain⟨its,rv,pl,hz⟩:=I.list hq
 have hlen:=rv.length
 rw[List.length_map] at hlen
 have hne:p≠s.heap.objs.size:=Nat.ne_of_lt pl.lt
 refine call_all_walk (wpAny_pyIter_list pl.isList ?_)
 have pl2:(s.heap.push { cls:=.type "list_iterator",data:=.fields #[.ref p,.int 0 0] }).IsList p its.toArray:=by
  obtain⟨o,k1,k2⟩:=pl.isList
  exact⟨o,Heap.get?_push_of_some _ k1,k2⟩
 refine⟨s.heap.objs.size,_,_,_,_,_,fun i=>bs.getD i false,rfl,Walks.list (A:=X.A.in1) (I.ok.hd hc) s.heap.objs.size p hne its.toArray,⟨⟨_,Heap.get?_push_size _ rfl,rfl,rfl⟩,pl2⟩,?_,fun h' tk hk=>?_⟩
 ·intro i v s' Q' E' hv hQ
  have hv':its[i]?=some v:=by simpa using hv
  have hi:i < its.length:=(List.getElem?_eq_some_iff.mp hv').1
  obtain⟨w,e1,e2⟩:=rv.get (show(bs.map V.bl)[i]?=some (V.bl (bs.getD i false)) by
   rw[List.getElem?_map,List.getElem?_eq_getElem (by omega)]
   simp [List.getD,List.getElem?_eq_getElem (show i < bs.length by omega)])
  rw[hv'] at e1
  cases e1
  obtain rfl:v=Value.bool _:=e2
  exact wpAny_truthy_bool hQ
 ·have hall:(List.range its.toArray.size).all (fun i=>bs.getD i false)=bs.all id:=by
   rw[List.size_toArray,← hlen]
   exact zlI bs
  rw[hall]
  exact⟨.bl _,H,I.kept (t':=tk) (fun b o e=>hk b o (by simp only[List.mem_singleton];exact Nat.ne_of_lt (Heap.lt_size e)) (Heap.get?_push_of_some _ e)),rfl,q⟩
def zeW:List D->Option (List Bool)
 | []=>some []
 | .bl b::r=>(zeW r).map (b::·)
 | _=>none
theorem zlA {K:W.Frag}{H:Hp}:∀ {ds:List D}{bs:List Bool}{vs:List V},zeW ds=some bs->Reps K H ds vs->vs=bs.map V.bl
 | [],bs,vs,h,r=>by cases h;exact Reps.nil_iff.mp r
 | d::ds,bs,vs,h,r=>by
  obtain⟨v,r',rfl,h1,h2⟩:=Reps.cons_iff.mp r
  cases d with
  | bl x =>
   unfold zeW at h
   cases e:zeW ds with
   | none=>rw[e] at h;cases h
   | some zs =>
    rw[e] at h
    cases h
    rw[Rep.bl_iff.mp h1,zlA e h2]
    rfl
  | _=>cases h
def zxN (x:D):Res D:=match x with
 | .lst ds=>match zeW ds with
  | some bs=>.ok (.bl (bs.all id))
  | none=>.stuck
 | _=>.stuck
theorem zxq:zhG X E (zza X.K) (m1 zxN):=zoB fun x v H H₀ Q hs r q=>by
 cases x with
 | lst ds =>
  unfold zxN at q
  obtain⟨p,vs,rfl,h1,h2⟩:=Rep.lst_iff.mp r
  cases e:zeW ds with
  | none=>simp only[e] at q;exact q.elim
  | some bs =>
   simp only[e] at q
   exact⟨p,bs,rfl,by rw[← zlA e h2];exact zax.sqL hs h1,zaX hs q (rb _)⟩
 | _=>exact q.elim
end
theorem Rep.dic_iff {K:W.Frag}{H:Hp}{ks:List Str}{ds:List D}{v:V}:Rep K H (.dic ks ds) v↔∃ a kvs vs,v=.ref a/\Rd H a (.dK kvs)/\kvs=(ks.map Sum.inr).zip vs/\ks.length=vs.length/\Reps K H ds vs:=by rw[Rep]
section
variable {X:Cx}{E:XK}{e:Expr}{f:Ev->Res D}{pos p1:Pos}
theorem zu2:DE X E (.Dict [] [] pos) (dC (.dic [] [])):=by
 refine⟨?_⟩
 refine zaG zrI fun σ H Q ⟨H₀,ρ,hs,hr,q⟩ p hp=>?_
 exact q _ _ _ (za4.alloc hs hp) (Rep.dic_iff.mpr ⟨p,[],[],rfl,.inl zak,rfl,rfl,Reps.nil⟩)
def dOne (x:Str)(d:D):Res D:=.ok (.dic [x] [d])
end
def ziI (cells:List (Str×Addr)):List (Str×NameKind)->List (Str×Addr)->List (Str×Addr)
 | [],acc=>acc
 | (n,k)::r,acc=>if(k==NameKind.free)=true then ziI cells r ((n,(cells.lookup n).getD 0)::acc) else ziI cells r acc
theorem zgj {scope:Scope}{env:PySem.Env}(h:∀ x∈scope.names,x.2=.free->∃ c,env.cells.lookup x.1=some c):closureFor scope env=pure (ziI env.cells scope.names []):=by
 simp only[closureFor]
 have key:∀ (names:List (Str×NameKind)) (acc:List (Str×Addr)),(∀ x∈names,x.2=.free->∃ c,env.cells.lookup x.1=some c) ->
   (forIn names acc fun(x:Str×NameKind) (z:List (Str×Addr)) =>
      if(x.snd==NameKind.free)=true then do
       let y ← cellOf env x.fst
       pure (ForInStep.yield ((x.fst,y)::z))
      else(pure (ForInStep.yield z):Sem _))=pure (ziI env.cells names acc):=by
  intro names
  induction names with
  | nil=>intro acc _;rfl
  | cons x r ih =>
   intro acc hh
   obtain⟨n,k⟩:=x
   rw[List.forIn_cons]
   by_cases hk:(k==NameKind.free)=true
   ·obtain⟨c,hc⟩:=hh (n,k) List.mem_cons_self (by simpa using hk)
    have hcell:cellOf env n=pure c:=by unfold cellOf;rw[show env.cells.lookup n=some c from hc]
    simp only[hk,if_true]
    rw[hcell]
    have:=ih ((n,c)::acc) (fun y hy=>hh y (List.mem_cons_of_mem _ hy))
    rw[show ziI env.cells ((n,k)::r) acc=ziI env.cells r ((n,c)::acc) by
     show(if(k==NameKind.free)=true then _ else _)=_
     rw[if_pos hk,show env.cells.lookup n=some c from hc];rfl]
    rw[← this]
    rfl
   ·have:=ih acc (fun y hy=>hh y (List.mem_cons_of_mem _ hy))
    rw[if_neg hk]
    rw[show ziI env.cells ((n,k)::r) acc=ziI env.cells r acc by
     show(if(k==NameKind.free)=true then _ else _)=_
     rw[if_neg hk]]
    rw[← this]
    rfl
 rw[key _ _ h]
 rfl
theorem zks {cells:List (Str×Addr)}:∀ {names:List (Str×NameKind)}{acc:List (Str×Addr)}{x:Str}{c:Addr},(∀ y∈names,y.2=.free->∃ c,cells.lookup y.1=some c) ->
  (ziI cells names acc).lookup x=some c->acc.lookup x=some c∨cells.lookup x=some c
 | [],acc,x,c,_,h=>.inl h
 | (n,k)::r,acc,x,c,hh,h=>by
  unfold ziI at h
  by_cases hk:(k==NameKind.free)=true
  ·rw[if_pos hk] at h
   obtain⟨d,hd⟩:=hh (n,k) List.mem_cons_self (by simpa using hk)
   rcases zks (fun y hy=>hh y (List.mem_cons_of_mem _ hy)) h with h | h
   ·rw[List.lookup_cons] at h
    cases e:x==n with
    | true =>
     rw[e] at h
     rw[show cells.lookup n=some d from hd] at h
     cases h
     rw[eq_of_beq e];exact .inr hd
    | false=>rw[e] at h;exact .inl h
   ·exact .inr h
  ·rw[if_neg hk] at h
   exact zks (fun y hy=>hh y (List.mem_cons_of_mem _ hy)) h
theorem zij {α:Type}{x:Str}:∀ {l:List (Str×α)},(∃ v,(x,v)∈l)->∃ v,l.lookup x=some v
 | [],⟨v,h⟩=>by cases h
 | (n,w)::r,⟨v,h⟩=>by
  rw[List.lookup_cons]
  cases e:x==n with
  | true=>exact⟨w,rfl⟩
  | false =>
   rcases List.mem_cons.mp h with h | h
   ·cases h;simp at e
   ·exact zij ⟨v,h⟩
theorem zku {cells:List (Str×Addr)}{x:Str}{c:Addr}:∀ {names:List (Str×NameKind)}{acc:List (Str×Addr)},(x,c)∈acc->(x,c)∈ziI cells names acc
 | [],acc,h=>h
 | (n,k)::r,acc,h=>by
  unfold ziI
  by_cases hk:(k==NameKind.free)=true
  ·rw[if_pos hk];exact zku (List.mem_cons_of_mem _ h)
  ·rw[if_neg hk];exact zku h
theorem zkt {cells:List (Str×Addr)}{x:Str}:∀ {names:List (Str×NameKind)}{acc:List (Str×Addr)},(x,NameKind.free)∈names->∃ c,(ziI cells names acc).lookup x=some c:=by
 intro names
 induction names with
 | nil=>intro acc h;cases h
 | cons y r ih =>
  intro acc h
  obtain⟨n,k⟩:=y
  unfold ziI
  rcases List.mem_cons.mp h with h | h
  ·cases h
   rw[if_pos (by rfl)]
   exact zij ⟨_,zku List.mem_cons_self⟩
  ·by_cases hk:(k==NameKind.free)=true
   ·rw[if_pos hk];exact ih h
   ·rw[if_neg hk];exact ih h
def zck (X:Cx)(N:List Str)(scope:Scope)(s:Shared)(H:Hp)(C:Addr)(fp:List Addr)(pn:List (Addr×Obj)):Cx :=
 { X with N:=N,s₀:=s,H₀:=H,env:=compEnvC scope (ziI X.env.cells scope.names []) C X.env,outer:=X.stack,stack:=X.stack,ex:=fp,fn:=fun _=>false,pn:=pn,xe:=fun _ _=>False }
def zhC (n:Nat)(fr:List Nat)(σ:L2.St):L2.St:=List.replicate n none++fr.map fun(i:Nat)=>(σ[i]?).getD none
def zvk (X:Cx)(N:List Str)(n:Nat)(fr:List Nat)(scope:Scope):Prop :=
 N.length=n+fr.length/\((N.drop n).zip fr).all (fun p=>X.N[p.2]?==some p.1&&X.env.scope.names.lookup p.1==some .cell&&scope.names.lookup p.1==some .free&&(relabel scope X.env).names.lookup p.1==some .cell)=true
theorem zvk.at {X:Cx}{N:List Str}{n:Nat}{fr:List Nat}{scope:Scope}(h:zvk X N n fr scope){k:Nat}{x:Str}{v:V}{σ:L2.St}(hx:N[k]?=some x)(hv:(zhC n fr σ)[k]?=some (some v)) :
  ∃ i:Nat,X.N[i]?=some x/\σ[i]?=some (some v)/\X.env.scope.names.lookup x=some .cell/\scope.names.lookup x=some .free/\(relabel scope X.env).names.lookup x=some .cell:=by
 unfold zhC at hv
 by_cases hk:k < n
 ·rw[List.getElem?_append_left (by simpa using hk),List.getElem?_replicate,if_pos hk] at hv
  cases hv
 ·rw[List.getElem?_append_right (by simpa using hk),List.length_replicate,List.getElem?_map] at hv
  cases hi:fr[k-n]? with
  | none=>rw[hi] at hv;cases hv
  | some i =>
   rw[hi] at hv
   have hz:((N.drop n).zip fr)[k-n]?=some (x,i):=by
    rw[List.getElem?_zip_eq_some]
    exact⟨by rw[List.getElem?_drop,show n+(k-n)=k by omega];exact hx,hi⟩
   have:=List.all_eq_true.mp h.2 _ (List.mem_of_getElem? hz)
   simp only[Bool.and_eq_true,beq_iff_eq] at this
   refine⟨i,this.1.1.1,?_,this.1.1.2,this.1.2,this.2⟩
   simp only[Option.map_some,Option.some.injEq] at hv
   cases hs:σ[i]? with
   | none=>rw[hs] at hv;cases hv
   | some u=>rw[hs] at hv;exact congrArg some hv
def PIf (X:Cx)(ifs:List Expr)(t:TT):Prop :=
 ∀ (pins:List (Addr×Obj)) (s:Shared) (σ:L2.St) (H:Hp) (Q:Bool->Hp->Prop),Inv X pins σ H s->t σ H Q ->
  wpAny (model X.prog X.w) X.A (forIn ifs true fun c r=>if r=true then do let ok ← isTrue c X.env (eval c X.env);pure (ForInStep.yield ok) else pure (ForInStep.yield r)) (TP X pins σ Q) X.xe s
def zvN:TT:=fun _ H Q=>Q true H
theorem zpE {X:Cx}:PIf X [] zvN:=fun _ _ _ H _ I h=>wpAny_tests_nil ⟨H,I,h⟩
theorem zi7 {prog:Program}{w:World}{A:Around}{R:Result->Shared->Prop}{s:Shared}{elt target iter:Expr}{ifs:List Expr}{scope:Scope}{pos:Pos}{it acc:Value}{env:PySem.Env}(I:Nat->Shared->Prop)
  (turn:∀ n s,I n s->wpAny (model prog w) A (pyNext it) (fun r s₁=>match r with
   | none=>R (.ok .next) s₁
   | some v=>wpAny (model prog w) A (letOwnedTupleGo target it v) (fun _ s₁'=>wpAny (model prog w) A (assign target env v) (fun _ s₂ =>
     wpAny (model prog w) A (forIn ifs true fun c r=>if r=true then do let ok ← isTrue c env (eval c env);pure (ForInStep.yield ok) else pure (ForInStep.yield r)) (fun ok s₃ =>
      if ok=true then wpAny (model prog w) A (eval elt env) (fun x s₄ =>
       wpAny (model prog w) A (call (.builtin "list.append") [acc,x]) (fun _ s₅=>∃ m,m < n/\I m s₅) (fun _ _=>False) s₄) (fun _ _=>False) s₃
      else ∃ m,m < n/\I m s₃) (fun _ _=>False) s₂) (fun _ _=>False) s₁') (fun _ _=>False) s₁) (fun _ _=>False) s)
  (n:Nat) (h:I n s) :
  codeAny (model prog w) A (.compLoop (.ListComp elt [⟨target,iter,ifs,0⟩] scope pos) 0 it acc env) R s:=by
 refine codeAny_loop rfl I (fun n s hI=>?_) n h
 show wpAny _ A ((compTurn (.ListComp elt [⟨target,iter,ifs,0⟩] scope pos) 0 it acc env).onRaise (fun x=>do noteFrame x env;theTreesLotGoes x)) _ _ s
 refine wpAny_noted ?_
 rw[compTurn_list]
 refine wpAny_bind (wpAny_standAt (wpAny_bind (wpAny_mono (turn n s hI) (fun r s₁ h₁=>?_) fun _ _ h'=>h'.elim)))
 cases r with
 | none=>exact wpAny_pure h₁
 | some v =>
  refine wpAny_bind (wpAny_mono h₁ (fun _ s₁' h₁'=>?_) fun _ _ h'=>h'.elim)
  refine wpAny_bind (wpAny_mono h₁' (fun _ s₂ h₂=>wpAny_bind (wpAny_mono h₂ (fun ok s₃ h₃=>?_) fun _ _ h'=>h'.elim)) fun _ _ h'=>h'.elim)
  cases ok with
  | false=>exact wpAny_pure ⟨rfl,h₃⟩
  | true =>
   exact wpAny_bind (wpAny_bind (wpAny_mono h₃ (fun x s₄ h₄=>wpAny_bind (wpAny_mono h₄ (fun _ s₅ h₅=>wpAny_pure (wpAny_pure ⟨rfl,h₅⟩)) fun _ _ h'=>h'.elim)) fun _ _ h'=>h'.elim))
def zkM (n:Nat)(fr:List Nat)(g:TG)(tt:TT)(te:TE)(J:It)(σ:L2.St)(H1:Hp)(Q:VK):Prop:=∀ D,H1 D=none->∃ W:Nat->Nat->List V->L2.St->Hp->Prop,(∃ m,W 0 m [] (zhC n fr σ) (upd H1 D (.lst []))) /\
 ∀ i m ys σ' H',W i m ys σ' H'->H' D=some (.lst ys)/\((J.stop i H'/\Q (.ref D) H')∨(J.go i H'/\ys.length < sizeLine/\∀ x H2,J.yld i H' x H2->g x σ' H2 fun σ3 H3=>tt σ3 H3 fun b H4 =>
  if b=true then te σ3 H4 fun y H5=>H5 D=some (.lst ys)/\∃ m',m' < m/\W (i+1) m' (ys++[y]) σ3 (upd H5 D (.lst (ys++[y])))
  else ∃ m',m' < m/\W (i+1) m' ys σ3 H4))
theorem zlt {X:Cx}{tg iter elt:Expr}{ifs:List Expr}{scope:Scope}{pos:Pos}{N:List Str}{n:Nat}{fr:List Nat}{g:TG}{tt:TT}{te:TE}(hc:X.calm=true)(hfr:zvk X N n fr scope)
  (hcell:∀ x∈scope.names,x.2≠.cell)(hfree:∀ x∈scope.names,x.2=.free->X.env.scope.names.lookup x.1=some .cell)(hkind:scope.kind=.function)
  (blk:∀ s H C fp pn,PG (zck X N scope s H C fp pn) tg g/\PIf (zck X N scope s H C fp pn) ifs tt/\PE (zck X N scope s H C fp pn) elt te)
  {pins:List (Addr×Obj)}{σ:L2.St}{s2:Shared}{Q:VK}{itv:Value}{RR:Value->Addr->Result->Shared->Prop}
  (h2:PIE X pins σ tg (fun J H1=>zkM n fr g tt te J σ H1 Q) itv s2)
  (fin:∀ (Da C:Addr) (s6:Shared) (H5:Hp) (m:Str->Option Value),Inv X pins σ H5 s6->s6.heap.Ns C m->znR X pins H5 C->Q (.ref Da) H5->RR (.ref Da) C (.ok .next) s6) :
  wpAny (model X.prog X.w) X.A (newList []) (fun acc s₃=>wpAny (model X.prog X.w) X.A (newFunctionEnv scope X.env.globals (ziI X.env.cells scope.names []) [] X.env.qual none .none (some X.env)) (fun cenv s₄ =>
   codeAny (model X.prog X.w) X.A (.compStart (.ListComp elt [⟨tg,iter,ifs,0⟩] scope pos) 0 itv acc { cenv with scope:=relabel scope X.env }) (RR acc cenv.locals) s₄) X.xe s₃) X.xe s2:=by
 obtain⟨it,fp,tn,J,H2,e,I2,T,st2,f2,q⟩:=h2
 subst e
 have hD:H2 s2.heap.objs.size=none:=I2.fresh
 refine wpAny_newObj_type ?_
 have I3:Inv X pins σ (upd H2 s2.heap.objs.size (.lst [])) { s2 with heap:=s2.heap.push { cls:=.type "list",data:=.seq ([]:List Value).toArray } }:=I2.lnew (t':=s2.toks) (its:=[]) .nil (Nat.zero_le _)
 obtain⟨W,⟨m0,w0⟩,turn⟩:=q s2.heap.objs.size hD
 generalize hs3:({ s2 with heap:=s2.heap.push { cls:=.type "list",data:=.seq ([]:List Value).toArray } }:Shared)=s3 at I3 ⊢
 have hs3h:s3.heap=s2.heap.push { cls:=.type "list",data:=.seq ([]:List Value).toArray }:=by rw[← hs3]
 have hDs:s2.heap.objs.size < s3.heap.objs.size:=by rw[hs3h,Heap.size_push];exact Nat.lt_succ_self _
 have fpl:∀ b∈fp,b < s2.heap.objs.size:=fun b hb=>by
  obtain⟨o,ho,_⟩:=T.obj _ _ st2 b hb
  exact Heap.lt_size ho
 have kept3:∀ b o,s2.heap.get? b=some o->s3.heap.get? b=some o:=fun b o e=>by rw[hs3h];exact Heap.get?_push_of_some _ e
 have st3:tn 0 s3.heap:=T.keep _ _ _ st2 fun b _ o e=>kept3 b o e
 generalize hDa:s2.heap.objs.size=Da at *
 generalize hH3:upd H2 Da (.lst [])=H3 at *
 have fr3:∀ b∈fp,H3 b=none:=fun b hb=>by rw[← hH3,zah (Nat.ne_of_lt (fpl b hb))];exact(f2 b hb).1
 have cls:∀ x c,(ziI X.env.cells scope.names []).lookup x=some c->X.env.cells.lookup x=some c:=fun x c e=>by
  rcases zks (fun y hy hf=>I3.ok.has y.1 (.inl (hfree y hy hf))) e with e | e
  ·cases e
  ·exact e
 refine wpAny_newFunctionEnv hcell (by intro y hy;simp at hy) (fun h4 ns4 sb4=>?_) hkind
 have k4:∀ b o,s3.heap.get? b=some o->h4.get? b=some o:=fun b o e=>(sb4.2 b (Nat.ne_of_lt (Heap.lt_size e))).trans (Heap.get?_push_of_some _ e)
 generalize hC:s3.heap.objs.size=C at *
 have hCn:H3 C=none:=I3.hok.fresh (by rw[hC];exact Nat.le_refl _)
 have ltC:∀ b o,s3.heap.get? b=some o->b≠C:=fun b o e=>by rw[← hC];exact Nat.ne_of_lt (Heap.lt_size e)
 have cellC:∀ x c,X.env.cells.lookup x=some c->c≠C:=fun x c e=>by
  obtain⟨v,o,ho,_⟩:=I3.cell x c e
  exact ltC c o ho
 have fpC:∀ b∈fp,b≠C:=fun b hb=>by
  have:=fpl b hb
  exact Nat.ne_of_lt (Nat.lt_trans this hDs)
 show codeAny (model X.prog X.w) X.A (.compStart (.ListComp elt [⟨tg,iter,ifs,0⟩] scope pos) 0 (.ref it) (.ref Da) (compEnvC scope (ziI X.env.cells scope.names []) C X.env)) _ _
 generalize hs4:({ s3 with heap:=h4,toks:=s3.toks+([]:List (Str×Value)).length }:Shared)=s4
 have hs4h:s4.heap=h4:=by rw[← hs4]
 have ok:(zck X N scope s3 H3 C fp (X.pn++pins)).Ok:=by
  refine⟨I3.ok.mod,hkind,I3.ok.glob,I3.ok.blt,Nat.le_of_eq hC,fun x y c e1 e2=>I3.ok.inj x y c (cls x c e1) (cls y c e2),fun x e=>?_,fun x c e=>?_,fun _=>I3.ok.hd hc,I3.ok.frames,.inl rfl,fun b hb=>⟨fpC b hb,fun x c e=>(f2 b hb).2.2.2.2.1 x c (cls x c e)⟩,I3.bs,Nat.le_trans I3.ok.bsz I3.sz,fun b o e hb=>?_,fun b hb z=>?_,I3.stack,I3.stkFree⟩
  ·have mm:∀ k:NameKind,(relabel scope X.env).names.lookup x=some k->(k=.cell∨k=.free)->(x,NameKind.free)∈scope.names:=fun k hk hk2=>by
    have hm:=PySem.mem_of_lookup hk
    obtain⟨⟨n',k'⟩,hm1,hm2⟩:=List.mem_map.mp hm
    dsimp only at hm2
    split at hm2
    ·rename_i hcnd
     cases hm2
     simp only[Bool.and_eq_true,beq_iff_eq] at hcnd
     rw[hcnd.1.1] at hm1
     exact hm1
    ·cases hm2
     rcases hk2 with rfl | rfl
     ·exact absurd rfl (hcell _ hm1)
     ·exact hm1
   rcases e with e | e
   ·exact zkt (mm _ e (.inl rfl))
   ·exact zkt (mm _ e (.inr rfl))
  ·cases e
  ·rcases(f2 b hb).2.2.2.1 with z | z
   ·exact I3.ok.noex b o e z
   ·exact absurd (Nat.lt_of_lt_of_le (Heap.lt_size e) (Nat.le_trans I3.ok.bsz z)) (Nat.lt_irrefl _)
  ·rcases List.mem_cons.mp (I3.stkSub b z) with z | z
   ·exact(f2 b hb).2.1 z
   ·exact(f2 b hb).2.2.1 z
 have I4:Inv (zck X N scope s3 H3 C fp (X.pn++pins)) [] (zhC n fr σ) H3 s4:=by
  refine⟨ok,by rw[← hs4];rfl,by rw[← hs4];exact I3.bare,by rw[hs4h];exact Un.kept k4,⟨_,by rw[hs4h];exact ns4,fun i x v h1 h2 h3=>?_⟩,fun x c e=>?_,hCn,fun x c e=>I3.freeC x c (cls x c e),fun p hp=>?_,by rw[hs4h];exact I3.hok.kept k4,?_⟩
  ·obtain⟨j,j1,j2,j3,j4,j5⟩:=hfr.at h1 h2
   obtain⟨m,hn,hl⟩:=I3.loc
   obtain⟨u,ru,l⟩:=hl j x v j1 j2 (.inr (.inl j3))
   refine⟨u,ru,.inr ⟨.inl j5,?_⟩⟩
   rcases l with⟨z,_⟩ | ⟨_,c,z1,z2⟩
   ·rw[show X.env.kindOf x=X.env.scope.names.lookup x from rfl,j3] at z;cases z
   ·obtain⟨c',hc'⟩:=zkt (cells:=X.env.cells) (names:=scope.names) (acc:=[]) (PySem.mem_of_lookup j4)
    have:=cls x c' hc'
    rw[z1] at this;cases this
    obtain⟨oc,q1,q2⟩:=z2
    exact⟨c,hc',oc,by rw[hs4h];exact k4 _ _ q1,q2⟩
  ·obtain⟨v,oc,q1,q2⟩:=I3.cell x c (cls x c e)
   exact⟨v,oc,by rw[hs4h];exact k4 _ _ q1,q2⟩
  ·rw[List.append_nil] at hp
   obtain⟨p1,p2,p3,p4,p5⟩:=I3.pin p hp
   refine⟨by rw[hs4h];exact k4 _ _ p1,p2,ltC _ _ p1,fun z=>?_,p5⟩
   rcases List.mem_cons.mp (I3.stkSub _ z) with z | z
   ·exact p3 z
   ·exact p4 z
  ·show(zhC n fr σ).length=N.length
   unfold zhC
   rw[List.length_append,List.length_replicate,List.length_map,hfr.1]
 have st4:tn 0 s4.heap:=by rw[hs4h];exact T.keep _ _ _ st3 fun b _ o e=>k4 b o e
 have stat:∀ {H':Hp},(∀ b∈fp,H' b=none)->∀ b∈fp,znR (zck X N scope s3 H3 C fp (X.pn++pins)) [] H' b:=fun hn b hb=>by
  refine⟨hn b hb,fpC b hb,fun z=>?_,.inl hb,fun x c e=>(f2 b hb).2.2.2.2.1 x c (cls x c e),fun p hp=>?_⟩
  ·rcases List.mem_cons.mp (I3.stkSub b z) with z | z
   ·exact(f2 b hb).2.1 z
   ·exact(f2 b hb).2.2.1 z
  ·rw[List.append_nil] at hp
   exact(f2 b hb).2.2.2.2.2 p hp
 have loop:codeAny (model X.prog X.w) X.A (.compLoop (.ListComp elt [⟨tg,iter,ifs,0⟩] scope pos) 0 (.ref it) (.ref Da) (compEnvC scope (ziI X.env.cells scope.names []) C X.env)) (RR (.ref Da) C) s4:=by
  refine zi7 (fun n s'=>∃ i ys σ' H',Inv (zck X N scope s3 H3 C fp (X.pn++pins)) [] σ' H' s'/\tn i s'.heap/\(∀ b∈fp,H' b=none)/\W i n ys σ' H') ?_ m0 ⟨0,[],_,H3,I4,st4,fr3,w0⟩
  rintro k s5 ⟨i,ys,σ5,H5,I5,st5,fr5,w5⟩
  obtain⟨hDl,ways⟩:=turn i k ys σ5 H5 w5
  rcases ways with⟨stop,fin'⟩ | ⟨go,hz,step⟩
  ·refine thn (T.done (zck X N scope s3 H3 C fp (X.pn++pins)) rfl rfl rfl hc i [] s5 σ5 H5 (fun _ _=>False) I5 (stat fr5) st5 stop) fun r s6 ⟨hr,I6⟩=>?_
   subst hr
   obtain⟨mm,nsm,_⟩:=I6.loc
   have free6:H5 C=none:=I6.free
   have hok:HOk X.prog X.w H5 s6.heap:=I6.hok
   have un:Un (frs X.stack) fp H3 H5 s3.heap s6.heap:=I6.base
   have IX:Inv X pins σ H5 s6:=I3.call' (s':=s6) (ch:=fp) I6.os un hok I6.bare (fun b hb=>⟨(f2 b hb).2.2.2.1,(f2 b hb).2.1,(f2 b hb).2.2.2.2.1,(f2 b hb).2.2.2.2.2⟩)
   have fC:znR X pins H5 C:=I3.fpOk (b:=C) (H':=H5) (by rw[hC];exact Nat.le_refl _) free6
   exact fin Da C s6 H5 mm IX nsm fC fin'
  ·refine thn (T.item (zck X N scope s3 H3 C fp (X.pn++pins)) rfl rfl rfl hc i [] s5 σ5 H5 (fun _ _=>False) I5 (stat fr5) st5 go) fun r s6 ⟨u,hr,h6⟩=>?_
   subst hr
   refine thn h6 fun _ s7 ⟨x,H7,I7,r7,y7,st7,fr7⟩=>?_
   have I7':=I7.pinned (stat fr7) (T.obj _ _ st7)
   refine thn ((blk s3 H3 C fp (X.pn++pins)).1 _ s7 σ5 H7 x u _ I7' r7 (step x H7 y7)) fun _ s8 ⟨σ8,H8,I8,q8⟩=>?_
   refine thn ((blk s3 H3 C fp (X.pn++pins)).2.1 _ s8 σ8 H8 _ I8 q8) fun b s8b ⟨H8b,I8b,q8b⟩=>?_
   have back:∀ {σ':L2.St}{H':Hp}{s':Shared},L2.Inv (zck X N scope s3 H3 C fp (X.pn++pins)) (([]:List (Addr×Obj))++zkX fp s7.heap) σ' H' s'->tn (i+1) s'.heap/\∀ b∈fp,H' b=none:=fun {σ' H' s'} I'=>by
    refine⟨T.keep _ _ _ st7 fun b hb o e=>(I'.pin (b,o) (List.mem_append_right _ (List.mem_append_right _ (ze5 hb e)))).1,fun b hb=>?_⟩
    obtain⟨o,e,d⟩:=T.obj _ _ st7 b hb
    exact(I'.pin (b,o) (List.mem_append_right _ (List.mem_append_right _ (ze5 hb e)))).2.1
   cases b with
   | false =>
    rw[if_neg Bool.false_ne_true] at q8b ⊢
    obtain⟨m',hm,w9⟩:=q8b
    exact⟨m',hm,i+1,ys,σ8,_,I8b.unpinned,(back I8b).1,(back I8b).2,w9⟩
   | true =>
    rw[if_pos rfl] at q8b ⊢
    refine thn ((blk s3 H3 C fp (X.pn++pins)).2.2 _ s8b σ8 H8b _ I8b q8b) fun y s9 ⟨yv,H9,I9,r9,hD9,m',hm,w9⟩=>?_
    refine thn (zih (X:=zck X N scope s3 H3 C fp (X.pn++pins)) _ s9 σ8 H9 (.ref Da) [yv] (.ref Da) [y] (fun v H'=>H'=upd H9 Da (.lst (ys++[yv]))) I9 rfl (.cons r9 .nil) ⟨Da,ys,yv,rfl,rfl,hD9,hz,rfl⟩) fun _ s10 ⟨v10,H10,I10,_,e10⟩=>?_
    subst e10
    exact⟨m',hm,i+1,ys++[yv],σ8,_,I10.unpinned,(back I10).1,(back I10).2,w9⟩
 exact codeAny_compStart_list loop (T.self _ 0 _ _ _ st4 loop)
structure ItD (K:W.Frag) (ds:List D) (J:It) (H₀:Hp):Prop where
 go:∀ (i:Nat) (H' H₀':Hp),zax H₀ H₀'->zax H₀' H'->i < ds.length->J.go i H'
 yld:∀ (i:Nat) (H' H₀':Hp) (x:V) (H2:Hp) (d:D),zax H₀ H₀'->zax H₀' H'->ds[i]?=some d->J.yld i H' x H2->∃ H₀2,za4 H' H₀' H2 H₀2/\Rep K H₀2 d x
 stop:∀ (i:Nat) (H' H₀':Hp),zax H₀ H₀'->zax H₀' H'->ds.length<=i->J.stop i H'
def tDI (K:W.Frag)(E:XK)(src:Ev->Res (List D)):TI:=fun σ H R=>∃ H₀ ρ,zax H₀ H/\Reads K H₀ σ ρ/\match src ρ with
 | .ok ds=>∀ J H' H₀',za4 H H₀ H' H₀'->ItD K ds J H₀'->R J H'
 | .exn x=>∀ C ox H' H₀',za4 H H₀ H' H₀'->ExR K H₀' x C ox->E C ox H'
 | .stuck=>False
structure DI (X:Cx) (E:XK) (tg iter:Expr) (src:Ev->Res (List D)):Prop where
 o:PI X tg iter (tDI X.K E src)
theorem zgI {X:Cx}{tg iter:Expr}{t t':TI}(h:PI X tg iter t)(w:∀ σ H R,t' σ H R->t σ H R):PI X tg iter t':=fun pins s σ H R I q=>h pins s σ H R I (w σ H R q)
def ztW (f:Ev->Res D):Ev->Res (List D):=fun ρ=>(f ρ).bind fun d=>match d with
 | .lst ds=>.ok ds
 | _=>.stuck
def zzJ (f:Ev->Res D):Ev->Res (List D):=fun ρ=>(f ρ).bind fun d=>match d with
 | .tup ds=>.ok ds
 | _=>.stuck
def zxD (f:Ev->Res D):Ev->Res (List D):=fun ρ=>(f ρ).bind fun d=>match d with
 | .str z=>.ok (zg7 z)
 | _=>.stuck
def zgy (f:Ev->Res D):Ev->Res (List D):=fun ρ=>(f ρ).bind fun d=>match d with
 | .int j=>if -4611686018427387904<=j/\j < 4611686018427387904 then .ok (intsFrom 0 j.toNat) else .stuck
 | _=>.stuck
section
variable {X:Cx}{E:XK}{tg e a b:Expr}{f g:Ev->Res D}
theorem zqC (h:DE X E e f):DI X E tg e (ztW f):=by
 refine⟨zgI (zpF h.o) fun σ H R ⟨H₀,ρ,hs,hr,q⟩=>⟨H₀,ρ,hs,hr,?_⟩⟩
 unfold ztW at q
 cases e1:f ρ with
 | stuck=>rw[e1] at q;exact q
 | exn x=>rw[e1] at q;exact q
 | ok d =>
  rw[e1] at q
  intro v H1 H01 g1 r1
  cases d with
  | lst ds =>
   obtain⟨p,vs,rfl,hv,hrv⟩:=Rep.lst_iff.mp r1
   refine⟨p,rfl,⟨vs,zax.sqL g1.sub hv⟩,q _ H1 H01 g1 ⟨fun i H' H₀' s1 s2 hi=>?_,fun i H' H₀' x H2 d s1 s2 hd hy=>?_,fun i H' H₀' s1 s2 hi=>?_⟩⟩
   ·exact⟨vs,vs[i]'(by rw[← hrv.length];exact hi),zax.sqL (s1.trans s2) hv,by simp⟩
   ·obtain⟨rfl,hy⟩:=hy
    obtain⟨u,k1,k2⟩:=hrv.get hd
    have:=hy vs (zax.sqL (s1.trans s2) hv)
    rw[k1] at this;cases this
    exact⟨H₀',za4.refl s2,k2.mono s1⟩
   ·exact⟨vs,zax.sqL (s1.trans s2) hv,by rw[← hrv.length];exact hi⟩
  | _=>exact q.elim
theorem zxf (h:DE X E e f):DI X E tg e (zxD f):=by
 refine⟨zgI (zwm h.o) fun σ H R ⟨H₀,ρ,hs,hr,q⟩=>⟨H₀,ρ,hs,hr,?_⟩⟩
 unfold zxD at q
 cases e1:f ρ with
 | stuck=>rw[e1] at q;exact q
 | exn x=>rw[e1] at q;exact q
 | ok d =>
  rw[e1] at q
  intro v H1 H01 g1 r1
  cases d with
  | str z =>
   refine⟨z,Rep.str_iff.mp r1,q _ H1 H01 g1 ⟨fun i H' H₀' s1 s2 hi=>?_,fun i H' H₀' x H2 d s1 s2 hd hy=>?_,fun i H' H₀' s1 s2 hi=>?_⟩⟩
   ·rw[zgz] at hi;exact hi
   ·obtain⟨rfl,c,hc,rfl⟩:=hy
    have:d=.str ⟨#[c]⟩:=by
     unfold zg7 at hd
     rw[List.getElem?_map] at hd
     have h2:z.cps.toList[i]?=some c:=by simpa using hc
     rw[h2] at hd;cases hd;rfl
    subst this
    exact⟨H₀',za4.refl s2,Rep.str_iff.mpr rfl⟩
   ·rw[zgz] at hi;exact hi
  | _=>exact q.elim
theorem zle {K:W.Frag}{lo:Int}{n:Nat}{H:Hp}:ItD K (intsFrom lo n) (Itr lo n) H:=by
 have hl:(intsFrom lo n).length=n:=by unfold intsFrom;simp
 refine⟨fun i H' H₀' _ _ hi=>?_,fun i H' H₀' x H2 d s1 s2 hd hy=>?_,fun i H' H₀' _ _ hi=>?_⟩
 ·rw[hl] at hi;exact hi
 ·obtain⟨rfl,rfl⟩:=hy
  have:d=.int (lo+i):=by
   unfold intsFrom at hd
   rw[List.getElem?_map] at hd
   cases e:(List.range n)[i]? with
   | none=>rw[e] at hd;cases hd
   | some k =>
    rw[e] at hd
    have hk:k=i:=by
     obtain⟨h1,h2⟩:=List.getElem?_eq_some_iff.mp e
     simpa using h2.symm
    subst hk;cases hd;rfl
  subst this
  exact⟨H₀',za4.refl s2,Rep.int_iff.mpr rfl⟩
 ·rw[hl] at hi;exact hi
theorem zf9 {p pos:Pos}(hg:Gl X "range")(hm:X.mg "range"=none)(h:DE X E a f)(hn:nst a=true:=by exact rfl):DI X E tg (.Call (.Name "range" p) [a] [] pos) (zgy f):=by
 refine⟨zgI (zh8 hg hm (zcK h.o zfl (zdS hn)) (zdS hn)) fun σ H R ⟨H₀,ρ,hs,hr,q⟩=>⟨H₀,ρ,hs,hr,?_⟩⟩
 unfold zgy at q
 cases e1:f ρ with
 | stuck=>rw[e1] at q;exact q
 | exn x=>rw[e1] at q;exact q
 | ok d =>
  rw[e1] at q
  intro v H1 H01 g1 r1
  cases d with
  | int j =>
   replace q:match (if -4611686018427387904<=j/\j < 4611686018427387904 then Res.ok (intsFrom 0 j.toNat) else .stuck) with
    | .ok ds=>∀ J H' H₀',za4 H H₀ H' H₀'->ItD X.K ds J H₀'->R J H'
    | .exn x=>∀ C ox H' H₀',za4 H H₀ H' H₀'->ExR X.K H₀' x C ox->E C ox H'
    | .stuck=>False:=q
   by_cases hj:-4611686018427387904<=j/\j < 4611686018427387904
   ·rw[if_pos hj] at q
    rw[Rep.int_iff.mp r1]
    exact⟨j,rfl,hj.1,hj.2,q _ H1 H01 g1 zle⟩
   ·rw[if_neg hj] at q;exact q.elim
  | _=>exact q.elim
end
def zkS (src:Ev->Res (List D))(tg:Ev->D->Res Ev)(s:Ev->Res Fl):Ev->Res Fl:=fun ρ=>(src ρ).bind fun ds=>zcB tg s ds ρ
section
variable {X:Cx}{E:XK}{He H0e:Hp}{st:Stmt}{s:Ev->Res Fl}{pos:Pos}
theorem zff.step2 {K:W.Frag}{H₁ H₀:Hp}{tg:Ev->D->Res Ev}{ds:List D}{D':zg4}{i:Nat}{σ:L2.St}{H:Hp}{d:D}{v:V}{ρ:Ev}(z:zax H₁ H₀)(h:SRx K He H0e H₀ σ H ρ)(q:zbI K E He H0e H₀ (zcB tg s (ds.drop i) ρ) D')(hd:ds[i]?=some d)(rv:Rep K H₀ d v)
  (he:∀ ρ,tg ρ d=.stuck∨∃ ρ',tg ρ d=.ok ρ') :
  tG K He H0e tg v σ H fun σ2 H2=>tS K E He H0e s { D' with nx:=zff K E He H0e H₁ tg s ds D' (i+1),ct:=zff K E He H0e H₁ tg s ds D' (i+1),bk:=D'.nx } σ2 H2:=by
 have hi:i < ds.length:=(List.getElem?_eq_some_iff.mp hd).1
 have hdr:ds.drop i=d::ds.drop (i+1):=by
  rw[List.drop_eq_getElem_cons hi]
  rw[List.getElem?_eq_getElem hi] at hd
  cases hd;rfl
 rw[hdr] at q
 refine⟨H₀,ρ,d,h,rv,?_⟩
 unfold zcB at q
 rcases he ρ with e1 | ⟨ρ1,e1⟩
 ·rw[e1] at q;exact q.elim
 ·rw[e1] at q ⊢
  intro σ' H' H₀' z' h'
  refine⟨H₀',ρ1,h',?_⟩
  replace q:=zbI.grow (r:=(s ρ1).bind fun x=>match x with
   | .nx ρ2=>zcB tg s (ds.drop (i+1)) ρ2
   | .ct ρ2=>zcB tg s (ds.drop (i+1)) ρ2
   | .bk ρ2=>.ok (.nx ρ2)
   | .rt d=>.ok (.rt d)) q z'
  cases e2:s ρ1 with
  | stuck=>rw[e2] at q;exact q
  | exn x=>rw[e2] at q;exact q
  | ok r =>
   rw[e2] at q
   cases r with
   | nx ρ2=>exact fun σ3 H3 H03 z3 h3=>⟨H03,ρ2,(z.trans z').trans z3,h3,zbI.grow (r:=zcB tg s (ds.drop (i+1)) ρ2) q z3⟩
   | ct ρ2=>exact fun σ3 H3 H03 z3 h3=>⟨H03,ρ2,(z.trans z').trans z3,h3,zbI.grow (r:=zcB tg s (ds.drop (i+1)) ρ2) q z3⟩
   | bk ρ2=>exact q
   | rt d=>exact q
theorem zmp {tgt iter:Expr}{body:List Stmt}{tg:Ev->D->Res Ev}{src:Ev->Res (List D)}(hp:PassesOwn (model X.prog X.w) X.A X.env X.xe)(hc:X.calm=true)(hi:DI X E tgt iter src)(hg:DG X E He H0e tgt tg)(ht:zoG tg)(hb:DSs X E He H0e body s)
  (hs:∀ x,foldedSetIterable iter X.env x=pure x:=by intro _;rfl):DS X E He H0e (.For tgt iter body [] pos) (zkS src tg s):=by
 refine⟨za5 (zm5 hp hc hi.o hg.o hb.o hs) fun D' σ H ⟨H₀,ρ,h,q⟩=>⟨H₀,ρ,h.g.sub,h.rd,?_⟩⟩
 unfold zkS at q
 cases e1:src ρ with
 | stuck=>rw[e1] at q;exact q
 | exn x=>rw[e1] at q;exact fun C ox H' H₀' g r=>q C ox H' H₀' (h.g.trans g) r
 | ok ds =>
  rw[e1] at q
  intro J H1 H01 g it
  have q1:zbI X.K E He H0e H01 (zcB tg s ds ρ) D':=zbI.grow (r:=zcB tg s ds ρ) q g.z
  refine⟨fun i m σ' H'=>m+i=ds.length/\zff X.K E He H0e H01 tg s ds D' i σ' H',⟨ds.length,rfl,H01,ρ,zax.refl _,h.grow g,q1⟩,?_⟩
  rintro i m σ' H' ⟨hm,H₀',ρ',z,h',hq⟩
  by_cases hlt:i < ds.length
  ·refine .inr ⟨it.go i H' H₀' z h'.g.sub hlt,fun σ2 H2=>zff X.K E He H0e H01 tg s ds D' (i+1) σ2 H2,fun σ2 H2 hl=>⟨m-1,by omega,by omega,hl⟩,fun x H2 hy=>?_⟩
   obtain⟨H₀2,g2,rp⟩:=it.yld i H' H₀' x H2 ds[i] z h'.g.sub (List.getElem?_eq_getElem hlt) hy
   exact zff.step2 (z.trans g2.z) (h'.grow g2) (zbI.grow (r:=zcB tg s (ds.drop i) ρ') hq g2.z) (List.getElem?_eq_getElem hlt) rp fun ρ=>ht ρ _
  ·have e:i=ds.length:=by omega
   refine .inl ⟨it.stop i H' H₀' z h'.g.sub (by omega),?_⟩
   subst e
   exact zff.done ⟨H₀',ρ',z,h',hq⟩
end
def zhN (f:Ev->Res D):Prop:=∀ ρ d,f ρ=.ok d->∃ ds,d=.lst ds
theorem zmN {K:W.Frag}{E:XK}{f:Ev->Res D}(hf:zhN f){σ:L2.St}{H:Hp}{Q:VK}(h:tD K E f σ H Q):tF K E f σ H Q:=by
 obtain⟨H₀,ρ,hs,hr,q⟩:=h
 refine⟨H₀,ρ,hs,hr,?_⟩
 cases e1:f ρ with
 | stuck=>rw[e1] at q;exact q
 | exn x=>rw[e1] at q;exact q
 | ok d =>
  obtain⟨ds,rfl⟩:=hf ρ d e1
  rw[e1] at q
  intro p vs H' H₀' g hp h0 hv rp
  have n0:H₀ p=none:=hs.free hp
  refine q (.ref p) H' (upd H₀' p (.lst vs)) ⟨g.s,fun b o e=>?_,fun b o e=>?_,fun b k1 k2=>?_⟩ (Rep.lst_iff.mpr ⟨p,vs,rfl,SqL.of zak,rp.mono fun b o e=>?_⟩)
  ·rw[zah (by intro z;subst z;rw[n0] at e;cases e)];exact g.z _ _ e
  ·by_cases hb:b=p
   ·subst hb;rw[zak] at e;cases e;exact hv
   ·rw[zah hb] at e;exact g.sub _ _ e
  ·by_cases hb:b=p
   ·subst hb;exact hp
   ·rw[zah hb] at k1;exact g.nw b k1 k2
  ·rw[zah (by intro z;subst z;rw[h0] at e;cases e)];exact e
theorem zsB {X:Cx}{E:XK}{e:Expr}{f:Ev->Res D}(hf:zhN f)(h:DF X E e f):DE X E e f:=⟨zaG h.o fun σ H Q q=>zmN hf q⟩
def zcP (n:Nat)(fr:List Nat)(ρ:Ev):Ev:=List.replicate n .no++fr.map fun(i:Nat)=>match ρ[i]? with
 | some (.sh d)=>.sh d
 | _=>.no
def zbT (b:Ev)(tg:Ev->D->Res Ev)(tt fe:Ev->Res D):List D->Res (List D)
 | []=>.ok []
 | d::r=>(tg b d).bind fun ρ1=>(tt ρ1).bind fun t=>match t with
  | .bl true=>(fe ρ1).bind fun x=>(zbT b tg tt fe r).bind fun xs=>.ok (x::xs)
  | .bl false=>zbT b tg tt fe r
  | _=>.stuck
def zeU (n:Nat)(fr:List Nat)(src:Ev->Res (List D))(tg:Ev->D->Res Ev)(tt fe:Ev->Res D):Ev->Res D:=fun ρ=>(src ρ).bind fun ds =>
 if ds.length<=line then match zbT (zcP n fr ρ) tg tt fe ds with
  | .ok es=>.ok (.lst es)
  | _=>.stuck
 else .stuck
theorem zls {n:Nat}{fr:List Nat}{src:Ev->Res (List D)}{tg:Ev->D->Res Ev}{tt fe:Ev->Res D}:zhN (zeU n fr src tg tt fe):=fun ρ d h=>by
 unfold zeU at h
 cases e1:src ρ with
 | stuck=>rw[e1] at h;cases h
 | exn x=>rw[e1] at h;cases h
 | ok ds =>
  rw[e1] at h
  replace h:(if ds.length<=line then match zbT (zcP n fr ρ) tg tt fe ds with
   | .ok es=>Res.ok (D.lst es)
   | _=>.stuck else .stuck)=.ok d:=h
  split at h
  ·split at h
   ·cases h;exact⟨_,rfl⟩
   ·cases h
  ·cases h
theorem zfb {b:Ev}{tg:Ev->D->Res Ev}{tt fe:Ev->Res D}{d:D}{r es:List D}(h:zbT b tg tt fe (d::r)=.ok es) :
  ∃ ρ1 t,tg b d=.ok ρ1/\tt ρ1=.ok (.bl t)/\((t=true/\∃ x xs,fe ρ1=.ok x/\zbT b tg tt fe r=.ok xs/\es=x::xs)∨(t=false/\zbT b tg tt fe r=.ok es)):=by
 unfold zbT at h
 cases e1:tg b d with
 | stuck=>rw[e1] at h;cases h
 | exn z=>rw[e1] at h;cases h
 | ok ρ1 =>
  rw[e1] at h
  replace h:((tt ρ1).bind fun t=>match t with
   | .bl true=>(fe ρ1).bind fun x=>(zbT b tg tt fe r).bind fun xs=>Res.ok (x::xs)
   | .bl false=>zbT b tg tt fe r
   | _=>.stuck)=.ok es:=h
  cases e2:tt ρ1 with
  | stuck=>rw[e2] at h;cases h
  | exn z=>rw[e2] at h;cases h
  | ok t =>
   rw[e2] at h
   cases t with
   | bl t =>
    cases t with
    | true =>
     replace h:((fe ρ1).bind fun x=>(zbT b tg tt fe r).bind fun xs=>Res.ok (x::xs))=.ok es:=h
     cases e3:fe ρ1 with
     | stuck=>rw[e3] at h;cases h
     | exn z=>rw[e3] at h;cases h
     | ok x =>
      rw[e3] at h
      replace h:((zbT b tg tt fe r).bind fun xs=>Res.ok (x::xs))=.ok es:=h
      cases e4:zbT b tg tt fe r with
      | stuck=>rw[e4] at h;cases h
      | exn z=>rw[e4] at h;cases h
      | ok xs=>rw[e4] at h;cases h;exact⟨ρ1,true,rfl,e2,.inl ⟨rfl,x,xs,e3,rfl,rfl⟩⟩
    | false=>exact⟨ρ1,false,rfl,e2,.inr ⟨rfl,h⟩⟩
   | _=>cases h
theorem zeV {b:Ev}{tg:Ev->D->Res Ev}{tt fe:Ev->Res D}{d x:D}{r:List D}{ρ1:Ev}(h1:tg b d=.ok ρ1)(h2:tt ρ1=.ok (.bl true))(h3:fe ρ1=.ok x):zbT b tg tt fe (d::r)=(zbT b tg tt fe r).bind fun xs=>.ok (x::xs):=by
 rw[zbT,h1]
 simp only[Res.bind,h2,h3]
theorem zkq {b:Ev}{tg:Ev->D->Res Ev}{tt fe:Ev->Res D}{d:D}{r:List D}{ρ1:Ev}(h1:tg b d=.ok ρ1)(h2:tt ρ1=.ok (.bl false)):zbT b tg tt fe (d::r)=zbT b tg tt fe r:=by
 rw[zbT,h1]
 simp only[Res.bind,h2]
theorem ziH {b:Ev}{tg:Ev->D->Res Ev}{tt fe:Ev->Res D}:∀ {r q es:List D},zbT b tg tt fe (r++q)=.ok es->∃ e1 e2,zbT b tg tt fe r=.ok e1/\zbT b tg tt fe q=.ok e2/\es=e1++e2
 | [],q,es,h=>⟨[],es,rfl,h,rfl⟩
 | d::r,q,es,h=>by
  obtain⟨ρ1,t,h1,h2,h3⟩:=zfb h
  rcases h3 with⟨rfl,x,xs,h3,h4,rfl⟩ | ⟨rfl,h4⟩
  ·obtain⟨e1,e2,k1,k2,rfl⟩:=ziH h4
   refine⟨x::e1,e2,?_,k2,rfl⟩
   rw[zeV h1 h2 h3,k1];rfl
  ·obtain⟨e1,e2,k1,k2,rfl⟩:=ziH h4
   refine⟨e1,e2,?_,k2,rfl⟩
   rw[zkq h1 h2];exact k1
theorem zfa {b:Ev}{tg:Ev->D->Res Ev}{tt fe:Ev->Res D}:∀ {r q e1 e2:List D},zbT b tg tt fe r=.ok e1->zbT b tg tt fe q=.ok e2->zbT b tg tt fe (r++q)=.ok (e1++e2)
 | [],q,e1,e2,h,h'=>by cases h;exact h'
 | d::r,q,e1,e2,h,h'=>by
  obtain⟨ρ1,t,h1,h2,h3⟩:=zfb h
  show zbT b tg tt fe (d::(r++q))=_
  rcases h3 with⟨rfl,x,xs,h3,h4,rfl⟩ | ⟨rfl,h4⟩
  ·rw[zeV h1 h2 h3,zfa h4 h'];rfl
  ·rw[zkq h1 h2];exact zfa h4 h'
theorem zkr {b:Ev}{tg:Ev->D->Res Ev}{tt fe:Ev->Res D}:∀ {r es:List D},zbT b tg tt fe r=.ok es->es.length<=r.length
 | [],es,h=>by cases h;exact Nat.le_refl _
 | d::r,es,h=>by
  obtain⟨ρ1,t,h1,h2,h3⟩:=zfb h
  rcases h3 with⟨rfl,x,xs,h3,h4,rfl⟩ | ⟨rfl,h4⟩
  ·exact Nat.succ_le_succ (zkr h4)
  ·exact Nat.le_succ_of_le (zkr h4)
def zvi (n:Nat)(tg:Ev->D->Res Ev):Prop:=∀ ρ d ρ',tg ρ d=.ok ρ'->ρ'.length=ρ.length/\∀ (k:Nat),n<=k->ρ'[k]?=ρ[k]?
theorem zfU {i n:Nat}(h:i < n):zvi n (zcV i):=fun ρ d ρ' e=>by
 cases e
 exact⟨by simp,fun k hk=>by rw[List.getElem?_set_ne (by omega)]⟩
theorem zoC {K:W.Frag}{H₀:Hp}{σ:L2.St}{ρ:Ev}{n:Nat}{fr:List Nat}(h:Reads K H₀ σ ρ):Reads K H₀ (zhC n fr σ) (zcP n fr ρ):=fun i d e=>by
 unfold zcP at e
 unfold zhC
 by_cases hi:i < n
 ·rw[List.getElem?_append_left (by simpa using hi),List.getElem?_replicate,if_pos hi] at e
  cases e
 ·rw[List.getElem?_append_right (by simpa using hi),List.length_replicate,List.getElem?_map] at e ⊢
  cases hf:fr[i-n]? with
  | none=>rw[hf] at e;cases e
  | some j =>
   rw[hf] at e
   simp only[Option.map_some,Option.some.injEq] at e ⊢
   cases hj:ρ[j]? with
   | none=>rw[hj] at e;cases e
   | some s =>
    rw[hj] at e
    cases s with
    | sh d' =>
     cases e
     obtain⟨v,h1,h2⟩:=h j d hj
     exact⟨v,by rw[h1];rfl,h2⟩
    | _=>cases e
theorem zvd {n:Nat}{fr:List Nat}{ρ:Ev}{k:Nat}(h:k < n):(zcP n fr ρ)[k]?=some .no:=by
 unfold zcP
 rw[List.getElem?_append_left (by simpa using h),List.getElem?_replicate,if_pos h]
theorem zsL {n:Nat}{fr:List Nat}{ρ:Ev}(i j:Nat)(es:List D):(zcP n fr ρ)[i]?≠some (.ox j es):=fun e=>by
 unfold zcP at e
 by_cases hj:i < n
 ·rw[List.getElem?_append_left (by simpa using hj),List.getElem?_replicate,if_pos hj] at e;cases e
 ·rw[List.getElem?_append_right (by simpa using hj),List.getElem?_map] at e
  cases hf:fr[i-(List.replicate n Sl.no).length]? with
  | none=>rw[hf] at e;cases e
  | some z =>
   rw[hf] at e
   simp only[Option.map_some,Option.some.injEq] at e
   split at e<;>cases e
theorem zqU {n:Nat}{fr:List Nat}{ρ:Ev}{σ:L2.St}(i:Nat)(a:Addr)(e:(zcP n fr ρ)[i]?=some (.pt a)):σ[i]?=some (some (.ref a)):=by
 unfold zcP at e
 by_cases hj:i < n
 ·rw[List.getElem?_append_left (by simpa using hj),List.getElem?_replicate,if_pos hj] at e;cases e
 ·rw[List.getElem?_append_right (by simpa using hj),List.getElem?_map] at e
  cases hf:fr[i-(List.replicate n Sl.no).length]? with
  | none=>rw[hf] at e;cases e
  | some z =>
   rw[hf] at e
   simp only[Option.map_some,Option.some.injEq] at e
   split at e<;>cases e
theorem znN {n:Nat}{fr:List Nat}{ρ:Ev}:(zcP n fr ρ).length=n+fr.length:=by unfold zcP;simp
theorem zox {K:W.Frag}{E:XK}{n:Nat}{fr:List Nat}{tg:Ev->D->Res Ev}{tt fe:Ev->Res D}{σ:L2.St}{ρ:Ev}{H H₀ H1 H01:Hp}{ds es:List D}{J:It}{Q:VK}(hsame:zax H₀ H)(g1:za4 H H₀ H1 H01)(it:ItD K ds J H01)(hl:ds.length<=line)
  (e2:zbT (zcP n fr ρ) tg tt fe ds=.ok es)(hr:Reads K H01 σ ρ)(hok:zvi n tg)
  (q:∀ p vs H' H₀',za4 H H₀ H' H₀'->H p=none->H₀' p=none->H' p=some (.lst vs)->Reps K H₀' es vs->Q (.ref p) H') :
  zkM n fr (zyB K tg) (tDT K E tt) (tD K E fe) J σ H1 Q:=by
 intro Da hDa
 have h0D:H01 Da=none:=g1.sub.free hDa
 refine⟨fun i m ys σ' H'=>m=ds.length-i/\i<=ds.length/\σ'.length=n+fr.length/\∃ H₀',za4 H1 H01 H' H₀'/\H₀' Da=none/\H' Da=some (.lst ys)/\Reads K H₀' σ' (zcP n fr ρ)/\∃ es1,zbT (zcP n fr ρ) tg tt fe (ds.take i)=.ok es1/\Reps K H₀' es1 ys,
  ⟨ds.length,by simp,Nat.zero_le _,by unfold zhC;simp,H01,?_,h0D,zak,zoC hr,[],rfl,Reps.nil⟩,?_⟩
 ·refine⟨fun b o e=>by rw[zah (zaB e hDa)];exact e,zax.refl _,fun b o e=>?_,fun b k1 k2=>absurd k2 k1⟩
  rw[zah (by intro z;subst z;rw[h0D] at e;cases e)];exact g1.sub _ _ e
 ·rintro i m ys σ' H' ⟨rfl,hile,hsl,H₀',gg,hD0,hDl,hrd,es1,hes1,hys⟩
  refine⟨hDl,?_⟩
  by_cases hlt:i < ds.length
  ·refine .inr ⟨it.go i H' H₀' gg.z gg.sub hlt,?_,?_⟩
   ·rw[← hys.length]
    have:=zkr hes1
    rw[List.length_take] at this
    have h2:line < sizeLine:=by decide
    omega
   ·intro x H2 hy
    obtain⟨H₀2,g2,rp⟩:=it.yld i H' H₀' x H2 ds[i] gg.z gg.sub (List.getElem?_eq_getElem hlt) hy
    have hsplit:ds=ds.take i++(ds[i]::ds.drop (i+1)):=by rw[← List.drop_eq_getElem_cons hlt,List.take_append_drop]
    rw[hsplit] at e2
    obtain⟨a1,a2,k1,k2,k3⟩:=ziH e2
    rw[hes1] at k1;cases k1
    obtain⟨ρ1,t,t1,t2,t3⟩:=zfb k2
    have hn2:H₀2 Da=none:=by
     cases qq:H₀2 Da with
     | none=>rfl
     | some o=>have:=g2.nw Da (by rw[qq];simp) hD0;rw[hDl] at this;cases this
    have hD2:H2 Da=some (.lst ys):=g2.s _ _ hDl
    refine⟨H2,H₀2,H₀2,zcP n fr ρ,ds[i],⟨za4.refl g2.sub,hrd.mono g2.z,fun j d' e=>?_,fun j k d1 d2 _ e=>?_,by rw[znN,hsl],OX.none zsL zqU⟩,rp,?_⟩
    ·unfold zcP at e
     by_cases hj:j < n
     ·rw[List.getElem?_append_left (by simpa using hj),List.getElem?_replicate,if_pos hj] at e;cases e
     ·rw[List.getElem?_append_right (by simpa using hj),List.getElem?_map] at e
      cases hf:fr[j-(List.replicate n Sl.no).length]? with
      | none=>rw[hf] at e;cases e
      | some z =>
       rw[hf] at e
       simp only[Option.map_some,Option.some.injEq] at e
       split at e<;>cases e
    ·unfold zcP at e
     by_cases hj:j < n
     ·rw[List.getElem?_append_left (by simpa using hj),List.getElem?_replicate,if_pos hj] at e;cases e
     ·rw[List.getElem?_append_right (by simpa using hj),List.getElem?_map] at e
      cases hf:fr[j-(List.replicate n Sl.no).length]? with
      | none=>rw[hf] at e;cases e
      | some z =>
       rw[hf] at e
       simp only[Option.map_some,Option.some.injEq] at e
       split at e<;>cases e
    ·rw[t1]
     intro σ3 H3 H03 z3 s3
     have hrl:=hok _ _ _ t1
     have hσ3:σ3.length=n+fr.length:=by rw[← s3.ln,hrl.1,znN]
     have back:∀ {Hx:Hp},zax H03 Hx->Reads K Hx σ3 (zcP n fr ρ):=fun {Hx} sx k d e=>by
      by_cases hk:k < n
      ·rw[zvd hk] at e;cases e
      ·rw[← hrl.2 k (by omega)] at e
       obtain⟨v,h1,h2⟩:=s3.rd k d e
       exact⟨v,h1,h2.mono sx⟩
     have n3:H03 Da=none:=by
      cases qq:H03 Da with
      | none=>rfl
      | some o=>have:=s3.g.nw Da (by rw[qq];simp) hn2;rw[hD2] at this;cases this
     have hD3:H3 Da=some (.lst ys):=s3.g.s _ _ hD2
     refine⟨H03,ρ1,s3.g.sub,s3.rd,?_⟩
     rw[t2]
     intro H4 H04 g4
     have hD4:H4 Da=some (.lst ys):=g4.s _ _ hD3
     have n4:H04 Da=none:=by
      cases qq:H04 Da with
      | none=>rfl
      | some o=>have:=g4.nw Da (by rw[qq];simp) n3;rw[hD3] at this;cases this
     have htake:ds.take (i+1)=ds.take i++[ds[i]]:=by rw[List.take_add_one,List.getElem?_eq_getElem hlt];rfl
     have g04:=(gg.trans g2).trans (s3.g.trans g4)
     rcases t3 with⟨rfl,y,xs,t3,t4,_⟩ | ⟨rfl,t4⟩
     ·rw[if_pos rfl]
      refine⟨H04,ρ1,g4.sub,s3.rd.mono g4.z,?_⟩
      rw[t3]
      intro yv H5 H05 g5 ry
      have hD5:H5 Da=some (.lst ys):=g5.s _ _ hD4
      have n5:H05 Da=none:=by
       cases qq:H05 Da with
       | none=>rfl
       | some o=>have:=g5.nw Da (by rw[qq];simp) n4;rw[hD4] at this;cases this
      have gall:=g04.trans g5
      refine⟨hD5,ds.length-(i+1),by omega,rfl,hlt,hσ3,H05,⟨fun b o e=>?_,gall.z,fun b o e=>?_,gall.nw⟩,n5,zak,back (g4.z.trans g5.z),es1++[y],?_,?_⟩
      ·rw[zah (zaB e hDa)];exact gall.s _ _ e
      ·rw[zah (by intro z;subst z;rw[n5] at e;cases e)];exact gall.sub _ _ e
      ·rw[htake]
       refine zfa hes1 ?_
       rw[zeV t1 t2 t3];rfl
      ·exact(hys.mono ((g2.z.trans s3.g.z).trans (g4.z.trans g5.z))).app (Reps.cons ry Reps.nil)
     ·rw[if_neg Bool.false_ne_true]
      refine⟨ds.length-(i+1),by omega,rfl,hlt,hσ3,H04,g04,n4,hD4,back g4.z,es1,?_,hys.mono ((g2.z.trans s3.g.z).trans g4.z)⟩
      rw[htake]
      rw[show es1=es1++[] by simp]
      refine zfa hes1 ?_
      rw[zkq t1 t2];rfl
  ·have hi2:i=ds.length:=by omega
   refine .inl ⟨it.stop i H' H₀' gg.z gg.sub (by omega),?_⟩
   rw[hi2,List.take_length] at hes1
   rw[e2] at hes1;cases hes1
   exact q Da ys H' H₀' (g1.trans gg) (g1.s.free hDa) hD0 hDl hys
structure DIf (X:Cx) (E:XK) (ifs:List Expr) (f:Ev->Res D):Prop where
 o:PIf X ifs (tDT X.K E f)
def mYes:Ev->Res D:=fun _=>.ok (.bl true)
theorem zkm {X:Cx}{E:XK}:DIf X E [] mYes:=⟨fun pins s σ H Q I ⟨H₀,ρ,hs,hr,q⟩=>zpE pins s σ H Q I (q H H₀ (za4.refl hs))⟩
structure DCo (X:Cx) (E:XK) (e:Expr) (f:Ev->Res D):Prop where
 ev:PE X e (tF X.K E f)
 st:∀ {i:Nat}{x:Str}{pos' spos:Pos},X.N.Nodup->X.N[i]?=some x->X.env.scope.names.lookup x=some .local -> swapsWith e (some (.Name x pos')) spos.line X.env=pure true->PS X (.Assign [.Name x pos'] e spos) (zxC (tF X.K E f) (zse i))
theorem dco {X:Cx}{E:XK}{tgt iter elt:Expr}{ifs:List Expr}{scope:Scope}{pos:Pos}(N:List Str)(n:Nat)(fr:List Nat){src:Ev->Res (List D)}{tg:Ev->D->Res Ev}{tt fe:Ev->Res D}(hc:X.calm=true)(hi:DI X E tgt iter src)(hok:zvi n tg)
  (blk:∀ s H C fp pn,(∀ He H0e,DG (zck X N scope s H C fp pn) E He H0e tgt tg)/\DIf (zck X N scope s H C fp pn) E ifs tt/\DE (zck X N scope s H C fp pn) E elt fe)
  (hfr:zvk X N n fr scope)(hcell:∀ x∈scope.names,x.2≠.cell)(hfree:∀ x∈scope.names,x.2=.free->X.env.scope.names.lookup x.1=some .cell)(hkind:scope.kind=.function)(hnames:∀ x∈scope.names,x.2=.local -> scope.names.lookup x.1=some .local)
  (hs:∀ x,foldedSetIterable iter X.env x=pure x:=by intro _;rfl):DCo X E (.ListComp elt [⟨tgt,iter,ifs,0⟩] scope pos) (zeU n fr src tg tt fe):=by
 have blk':∀ s H C fp pn,PG (zck X N scope s H C fp pn) tgt (zyB X.K tg)/\PIf (zck X N scope s H C fp pn) ifs (tDT X.K E tt)/\PE (zck X N scope s H C fp pn) elt (tD X.K E fe):=fun s H C fp pn =>
  ⟨fun pins s' σ' H' v u Q' I r ⟨He,H0e,q'⟩=>((blk s H C fp pn).1 He H0e).o pins s' σ' H' v u Q' I r q',(blk s H C fp pn).2.1.o,(blk s H C fp pn).2.2.o⟩
 have first:∀ {pins:List (Addr×Obj)}{s:Shared}{σ:L2.St}{H:Hp}{Q:VK}{RR:Value->Addr->Result->Shared->Prop},L2.Inv X pins σ H s->tF X.K E (zeU n fr src tg tt fe) σ H Q ->
   (∀ (Da C:Addr) (s6:Shared) (H5:Hp) (m:Str->Option Value),L2.Inv X pins σ H5 s6->s6.heap.Ns C m->znR X pins H5 C->Q (.ref Da) H5->RR (.ref Da) C (.ok .next) s6) ->
   wpAny (model X.prog X.w) X.A (eval iter X.env) (fun x s₁=>wpAny (model X.prog X.w) X.A (pyIter x) (fun it s₂=>wpAny (model X.prog X.w) X.A (newList []) (fun acc s₃ =>
    wpAny (model X.prog X.w) X.A (newFunctionEnv scope X.env.globals (ziI X.env.cells scope.names []) [] X.env.qual none .none (some X.env)) (fun cenv s₄ =>
     codeAny (model X.prog X.w) X.A (.compStart (.ListComp elt [⟨tgt,iter,ifs,0⟩] scope pos) 0 it acc { cenv with scope:=relabel scope X.env }) (RR acc cenv.locals) s₄) X.xe s₃) X.xe s₂) X.xe s₁) X.xe s:=by
  intro pins s σ H Q RR I ⟨H₀,ρ,hsame,hr,q⟩ fin
  refine thn (hi.o pins s σ H (fun J H1=>zkM n fr (zyB X.K tg) (tDT X.K E tt) (tD X.K E fe) J σ H1 Q) I ⟨H₀,ρ,hsame,hr,?_⟩) fun v s1 h1=>thn h1 fun itv s2 h2=>zlt (N:=N) hc hfr hcell hfree hkind blk' h2 fin
  unfold zeU at q
  cases e1:src ρ with
  | stuck=>rw[e1] at q;exact q
  | exn x=>rw[e1] at q;exact q
  | ok ds =>
   rw[e1] at q
   intro J H1 H01 g1 it
   replace q:match (if ds.length<=line then match zbT (zcP n fr ρ) tg tt fe ds with
     | .ok es=>Res.ok (D.lst es)
     | _=>.stuck else .stuck) with
    | .ok (.lst ds)=>∀ p vs H' H₀',za4 H H₀ H' H₀'->H p=none->H₀' p=none->H' p=some (.lst vs)->Reps X.K H₀' ds vs->Q (.ref p) H'
    | .ok _=>False
    | .exn x=>∀ C ox H' H₀',za4 H H₀ H' H₀'->ExR X.K H₀' x C ox->E C ox H'
    | .stuck=>False:=q
   by_cases hl:ds.length<=line
   ·rw[if_pos hl] at q
    cases e2:zbT (zcP n fr ρ) tg tt fe ds with
    | stuck=>rw[e2] at q;exact q.elim
    | exn x=>rw[e2] at q;exact q.elim
    | ok es =>
     rw[e2] at q
     exact zox hsame g1 it hl e2 (hr.mono g1.z) hok q
   ·rw[if_neg hl] at q;exact q.elim
 have hcl:∀ {pins:List (Addr×Obj)}{s:Shared}{σ:L2.St}{H:Hp},L2.Inv X pins σ H s->closureFor scope X.env=pure (ziI X.env.cells scope.names []):=fun {pins s σ H} I=>zgj fun y hy hf=>I.ok.has y.1 (.inl (hfree y hy hf))
 refine⟨fun pins s σ H Q I h=>?_,fun {i x pos' spos} hN hi' hx hsw pins s σ H D' I h=>?_⟩
 ·rw[eval_ListComp]
  refine wpAny_comprehension_free (use:=none) rfl hs (hcl I) hkind hnames (first (RR:=fun acc C=>compPost (model X.prog X.w) X.A X.xe none (EP X pins σ Q) acc C) I h fun Da C s6 H5 m I6 ns fC q=>?_)
  refine⟨m,ns,fun h' sb=>⟨.ref Da,H5,?_,rfl,q⟩⟩
  exact I6.turned (t':=s6.toks) (it:=C) (fun b o hb e=>(sb.2 b hb).trans e) fC.1 fC.2.1 fC.2.2.2.1 fC.2.2.2.2.1 fC.2.2.2.2.2
 ·rw[exec_Assign_Name_used _ _ _ _ hsw]
  refine wpAny_bind (wpAny_standAt (wpAny_bind ?_))
  show wpAny _ X.A (do let _ ← comprehension (.ListComp elt [⟨tgt,iter,ifs,0⟩] scope pos) scope X.env _ (newList []) false (eval iter X.env) (some (assign (.Name x pos') X.env))) _ _ s
  refine wpAny_bind (wpAny_mono (wpAny_comprehension_free (use:=some (assign (.Name x pos') X.env)) (Q:=fun _ s'=>SP X pins D' .next s') rfl hs (hcl I) hkind hnames
   (first (RR:=fun acc C=>compPost (model X.prog X.w) X.A X.xe (some (assign (.Name x pos') X.env)) (fun _ s'=>SP X pins D' .next s') acc C) I h fun Da C s6 H5 m I6 ns fC q=>?_)) (fun _ s' hq=>wpAny_pure (wpAny_pure hq)) fun _ _ e=>e)
  show wpAny _ X.A (assign (.Name x pos') X.env (.ref Da)) _ _ _
  refine wpAny_assign_Name (zhS (v:=.ref Da) I6 hN hi' (.inl hx) rfl (fun s' I' ⟨a,sb,ha⟩=>?_) (.inr hx))
  have hCa:C≠a:=by
   rcases ha with rfl | ha
   ·exact fC.2.1
   ·exact fun z=>fC.2.2.2.2.1 x a ha z.symm
  refine⟨m,ns.sameBut sb hCa,fun h' sb'=>⟨_,H5,?_,q⟩⟩
  exact I'.turned (t':=s'.toks) (it:=C) (fun b o hb e=>(sb'.2 b hb).trans e) fC.1 fC.2.1 fC.2.2.2.1 fC.2.2.2.2.1 fC.2.2.2.2.2
theorem zyK {X:Cx}{E:XK}{e:Expr}{f:Ev->Res D}(h:DCo X E e f):DF X E e f:=⟨h.ev⟩
theorem zu3 {X:Cx}{E:XK}{e:Expr}{n:Nat}{fr:List Nat}{src:Ev->Res (List D)}{tg:Ev->D->Res Ev}{tt fe:Ev->Res D}(h:DCo X E e (zeU n fr src tg tt fe)):DE X E e (zeU n fr src tg tt fe):=zsB zls (zyK h)
section
variable {X:Cx}{E:XK}{He H0e:Hp}{e:Expr}{f:Ev->Res D}{s:Ev->Res Fl}{pos:Pos}{st:Stmt}
def unown (i:Nat)(ρ:Ev):Ev:=match ρ[i]? with
 | some (.ow d)=>ρ.set i (.sh d)
 | _=>ρ
def zvp (i:Nat)(s:Ev->Res Fl):Ev->Res Fl:=fun ρ=>s (unown i ρ)
theorem SRx.unown {K:W.Frag}{H₀ H:Hp}{σ:L2.St}{ρ:Ev}(h:SRx K He H0e H₀ σ H ρ)(i:Nat):∃ H₀',zax H₀ H₀'/\SRx K He H0e H₀' σ H (DL.unown i ρ):=by
 unfold DL.unown
 cases e:ρ[i]? with
 | none=>exact⟨H₀,zax.refl _,h⟩
 | some s =>
  cases s with
  | no=>exact⟨H₀,zax.refl _,h⟩
  | sh d=>exact⟨H₀,zax.refl _,h⟩
  | ox j ds=>exact⟨H₀,zax.refl _,h⟩
  | pt a=>exact⟨H₀,zax.refl _,h⟩
  | ow d =>
   obtain⟨a,k1,k2,k3,k4⟩:=h.ow i d e
   cases d with
   | lst ds =>
    obtain⟨vs,h5,h6⟩:=k4
    have z:zax H₀ (upd H₀ a (.lst vs)):=fun b o q=>by rw[zah (by intro z;subst z;rw[k3] at q;cases q)];exact q
    have h':SRx K He H0e (upd H₀ a (.lst vs)) σ H (ρ.set i .no):=by
     have nset:∀ (j:Nat) (s:Sl),(ρ.set i .no)[j]?=some s->s≠.no->j≠i/\ρ[j]?=some s:=fun j s q hs=>by
      by_cases hj:i=j
      ·subst hj
       rw[List.getElem?_set_self'] at q
       rw[e] at q;cases q;exact absurd rfl hs
      ·rw[List.getElem?_set_ne hj] at q;exact⟨fun z=>hj z.symm,q⟩
     refine⟨⟨h.g.s,h.g.z.trans z,fun b o q=>?_,fun b q1 q2=>?_⟩,fun j d' q=>?_,fun j d' q=>?_,fun j k d1 d2 hn q1 q2=>?_,by simp [h.ln],h.ex.upd (fun j s q=>?_) z (fun b us _ eb=>eb) fun q us _ q0 hq hd=>?_⟩
     rotate_left 5
     ·by_cases hs:s=.no
      ·exact .inr (.inr (.inl hs))
      ·exact .inl ⟨(nset j s q hs).2,rfl⟩
     ·have hq':q≠a:=by
       intro zz;subst zz
       exact hd i _ e k1
      exact⟨hq,by rw[zah hq'];exact q0⟩
     ·by_cases hb:b=a
      ·subst hb;rw[zak] at q;cases q;exact h5
      ·rw[zah hb] at q;exact h.g.sub _ _ q
     ·by_cases hb:b=a
      ·subst hb;exact k2
      ·rw[zah hb] at q1;exact h.g.nw b q1 q2
     ·obtain⟨hj,q⟩:=nset j _ q (fun z=>nomatch z)
      obtain⟨v,q1,q2⟩:=h.rd j d' q
      exact⟨v,q1,q2.mono z⟩
     ·obtain⟨hj,q⟩:=nset j _ q (fun z=>nomatch z)
      obtain⟨b,q1,q2,q3,q4⟩:=h.ow j d' q
      have hb:b≠a:=by
       intro zz;subst zz
       exact h.ap j i d' (.lst ds) hj q e (by rw[q1,k1])
      refine⟨b,q1,q2,by rw[zah hb];exact q3,?_⟩
      cases d' with
      | lst ds'=>obtain⟨vs',h7,h8⟩:=q4;exact⟨vs',h7,h8.mono z⟩
      | _=>exact q4.elim
     ·obtain⟨_,q1⟩:=nset j _ q1 (fun z=>nomatch z)
      obtain⟨_,q2⟩:=nset k _ q2 (fun z=>nomatch z)
      exact h.ap j k d1 d2 hn q1 q2
    refine⟨_,z,?_⟩
    have hp:=h'.put (i:=i) (d:=.lst ds) (v:=.ref a) (Rep.lst_iff.mpr ⟨a,vs,rfl,SqL.of zak,h6.mono z⟩)
    rw[List.set_set] at hp
    have hσ:σ.set i (some (V.ref a))=σ:=by
     apply List.ext_getElem?
     intro k
     by_cases hk:i=k
     ·subst hk
      obtain⟨hil,_⟩:=List.getElem?_eq_some_iff.mp k1
      rw[List.getElem?_set_self hil,k1]
     ·rw[List.getElem?_set_ne hk]
    rw[hσ] at hp
    exact hp
   | _=>exact k4.elim
theorem ztj (i:Nat)(h:DS X E He H0e st s):DS X E He H0e st (zvp i s):=⟨za5 h.o fun D' σ H ⟨H₀,ρ,hr,q⟩=>by
 obtain⟨H₀',z,hr'⟩:=hr.unown i
 exact⟨H₀',DL.unown i ρ,hr',zbI.grow (r:=s (DL.unown i ρ)) q z⟩⟩
end
theorem zxL {X:Cx}{E:XK}{tgt iter elt:Expr}{ifs:List Expr}{scope:Scope}{pos:Pos}(N:List Str)(n:Nat)(fr:List Nat){src:Ev->Res (List D)}{tg:Ev->D->Res Ev}{tt fe:Ev->Res D}(hc:X.calm=true)(hi:DI X E tgt iter src)(hok:zvi n tg)
  (blk:∀ s H C fp pn,(∀ He H0e,DG (zck X N scope s H C fp pn) E He H0e tgt tg)/\DIf (zck X N scope s H C fp pn) E ifs tt/\DE (zck X N scope s H C fp pn) E elt fe)
  (hfr:zvk X N n fr scope)(hcell:(scope.names.all fun x=>!(x.2==.cell))=true)(hfree:(scope.names.all fun x=>!(x.2==.free)||(X.env.scope.names.lookup x.1==some .cell))=true)(hkind:scope.kind=.function)
  (hnames:(scope.names.all fun x=>!(x.2==.local)||(scope.names.lookup x.1==some .local))=true)
  (hs:∀ x,foldedSetIterable iter X.env x=pure x:=by intro _;rfl):DCo X E (.ListComp elt [⟨tgt,iter,ifs,0⟩] scope pos) (zeU n fr src tg tt fe):=by
 refine dco N n fr hc hi hok blk hfr (fun x hx z=>?_) (fun x hx z=>?_) hkind (fun x hx z=>?_) hs
 ·have:=List.all_eq_true.mp hcell x hx
  rw[z] at this;simp at this
 ·have:=List.all_eq_true.mp hfree x hx
  rw[z] at this;simpa using this
 ·have:=List.all_eq_true.mp hnames x hx
  rw[z] at this;simpa using this
theorem zuT {X:Cx}{E:XK}{He H0e:Hp}{e:Expr}{f:Ev->Res D}{pos:Pos}{i:Nat}{x:Str}{pos':Pos}(hN:X.N.Nodup)(hi:X.N[i]?=some x)(hx:X.env.scope.names.lookup x=some .local)(hl:zhN f)(he:DCo X E e f)(hs:swapsWith e (some (.Name x pos')) pos.line X.env=pure true:=by rfl):DS X E He H0e (.Assign [.Name x pos'] e pos) (zbN i f):=by
 refine⟨za5 (he.st hN hi hx hs) fun D σ H ⟨H₀,ρ,h,q⟩=>?_⟩
 refine zmN hl ⟨H₀,ρ,h.g.sub,h.rd,?_⟩
 refine plain h q fun d v H' H₀' _ g rp q'=>?_
 exact q' _ H' H₀' (zax.refl _) ((h.grow g).put rp)
theorem zb6.there {P:Program}{w:World}{H:Hp}{h:Heap}{a:Addr}{o:HO}(x:zb6 P w H h a o):∃ u,h.get? a=some u:=by
 cases o with
 | lst xs=>obtain⟨_,_,_,_,e⟩:=x;exact⟨_,e⟩
 | tup xs=>obtain⟨_,_,_,ob,e,_⟩:=x;exact⟨_,e⟩
 | dK kvs=>obtain⟨_,_,_,_,o,_,_,e,_⟩:=x;exact⟨_,e⟩
 | dT kvs=>obtain⟨_,_,_,_,o,_,_,e,_⟩:=x;exact⟨_,e⟩
 | set S n=>obtain⟨o,_,_,_,e,_⟩:=x;exact⟨_,e⟩
 | ins C dx fs=>obtain⟨_,_,_,e,_⟩:=x;exact⟨_,e⟩
 | own y=>obtain⟨_,e⟩:=x;exact⟨_,e⟩
 | xd fs=>obtain⟨_,⟨_,_,_,e,_⟩,_⟩:=x;exact⟨_,e⟩
 | rng lo hi=>obtain⟨_,_,_,e⟩:=x;exact⟨_,e⟩
 | frz ob u=>obtain⟨e,_⟩:=x;exact⟨_,e⟩
 | tbl ps=>exact⟨_,show h.get? a=some _ from x⟩
 | met f y=>exact⟨_,show h.get? a=some _ from x⟩
 | ext φ=>obtain⟨_,⟨_,e⟩,_⟩:=x;exact⟨_,e⟩
def CXE (P:Program)(w:World):CXT:=fun outer H s E e s'=>∃ (ea C:Addr) (a0:Value) (B:Heap) (H':Hp),e=.ref ea/\s'.os=s.os/\AllBare s'.gens/\Un (frs outer) [] H H' s.heap s'.heap/\HOk P w H' s'.heap/\H' ea=none /\
 Heap.FlyingW B outer ea (.ref C) a0 s'.heap/\(∀ b,b∉frs outer->(H' b≠none∨∃ o,s.heap.get? b=some o)->∃ o,B.get? b=some o)/\∃ ox,zzr s'.heap ea ox/\E (.ref C) ox H'
theorem zuK {l:List PySem.Env}:∀ env∈l,∀ a,env.frame=some a->a∈frs l:=fun env he a hf=>List.mem_filterMap.mpr ⟨env,he,hf⟩
section
variable {P:Program}{w:World}{K:W.Frag}{mg:Str->Option Value}{base:Heap}{N:List Str}{qual:Str}{scope:Scope}{f:Addr}{cd:Value}{A:Around}{outer:List PySem.Env}{s0:Shared}{H0:Hp}{E:XK}
 {pins:List (Addr×Obj)}{σ:L2.St}{H:Hp}{s:Shared}
theorem zdF {B h h':Heap}(k:B.StaysIn h)(k':B.StaysIn h'){b:Addr}{o:Obj}(hb:∃ u,B.get? b=some u)(e:h.get? b=some o):h'.get? b=some o:=by
 obtain⟨u,q⟩:=hb
 have:=k b u q
 rw[e] at this;cases this
 exact k' b o q
theorem zw0 {X:Cx}(hX:X=zhB (CXE P w) P w K mg base N qual scope f cd A outer s0 H0 E)(I:Inv X pins σ H s){s1:Shared}{H1:Hp}{ea C:Addr}{a0:Value}{B h':Heap}(os:s1.os=s.os)(bare:AllBare s1.gens)
  (un:Un (frs X.stack) [] H H1 s.heap s1.heap)(hok:HOk P w H1 s1.heap)(hne:H1 ea=none)(hst:B.StaysIn s1.heap)(hfr:s1.heap.FunFrames B X.stack)
  (hB:∀ b,b∉frs X.stack->(H1 b≠none∨∃ o,s.heap.get? b=some o)->∃ o,B.get? b=some o)(fl:Heap.FlyingW B outer ea (.ref C) a0 h')(up:s1.heap.UpToSlots h')(hE:∃ ox,zzr h' ea ox/\E (.ref C) ox H1) :
  CXE P w outer H0 s0 E (.ref ea) { s1 with heap:=h' }:=by
 subst hX
 have hL:(envOfC qual scope s0.heap.objs.size f cd).frame=some (envOfC qual scope s0.heap.objs.size f cd).locals:=rfl
 have hstk:∀ b,b∈frs (envOfC qual scope s0.heap.objs.size f cd::outer)->b=(envOfC qual scope s0.heap.objs.size f cd).locals∨b∈frs outer:=fun b hb=>by
  unfold frs at hb;rw[List.filterMap_cons,hL] at hb;exact List.mem_cons.mp hb
 have hsub:∀ b,b∈frs outer->b∈frs (envOfC qual scope s0.heap.objs.size f cd::outer):=fun b hb=>by
  unfold frs;rw[List.filterMap_cons,hL];exact List.mem_cons_of_mem _ hb
 have old:∀ b o,s0.heap.get? b=some o->b≠(envOfC qual scope s0.heap.objs.size f cd).locals:=fun b o e=>Nat.ne_of_lt (Nat.lt_of_lt_of_le (Heap.lt_size e) I.ok.above)
 have nofr:∀ b o,s0.heap.get? b=some o->b∉frs outer->b∉frs (envOfC qual scope s0.heap.objs.size f cd::outer):=fun b o e hb hm=>(hstk b hm).elim (old b o e) hb
 have thr:∀ b o,s0.heap.get? b=some o->∃ o',s.heap.get? b=some o':=fun b o e=>I.base.there b o e (by intro z;exact nomatch z)
 have fst:∀ b,b∈frs outer->∀ o,s1.heap.get? b=some o->∃ sl,h'.get? b=some { o with slots:=sl }:=fun b hb o e=>by
  obtain⟨_,o',ho',hd⟩:=hfr.mem (hsub b hb)
  rw[e] at ho';cases ho'
  exact up b o e hd
 have free1:∀ b∈frs (envOfC qual scope s0.heap.objs.size f cd::outer),H1 b=none:=fun b hb=>by
  obtain⟨_,o,ho,_⟩:=I.stack.mem hb
  exact un.free b o ho (I.stkFree b hb) (by simp)
 have B0:∀ b o,s0.heap.get? b=some o->b∉frs outer->∃ u,B.get? b=some u:=fun b o e hb=>hB b (nofr b o e hb) (.inr (thr b o e))
 refine⟨ea,C,a0,B,H1,rfl,os.trans I.os,bare,⟨fun b o e n hb hx=>?_,fun b o e n hb hx=>?_,fun b o e n hx=>?_,fun b o e hx=>?_,fun b xs e=>un.tups b xs (I.base.tups b xs e),fun b o u e=>un.frzs b o u (I.base.frzs b o u e),fun b ps e=>?_⟩,fun a o e=>?_,hne,fl,fun b hb h=>?_,hE⟩
 ·have e1:=I.base.keep b o e n hb (by intro z;exact nomatch z)
  have n1:=I.base.free b o e n (by intro z;exact nomatch z)
  have e2:=un.keep b o e1 n1 (nofr b o e hb) (by simp)
  exact zdF hst fl.1 (B0 b o e hb) e2
 ·obtain⟨sl,e1⟩:=I.base.slot b o e n hb (by intro z;exact nomatch z)
  have n1:=I.base.free b o e n (by intro z;exact nomatch z)
  obtain⟨sl2,e2⟩:=un.any e1 n1 (by simp)
  obtain⟨sl3,e3⟩:=fst b hb _ e2
  exact⟨sl3,e3⟩
 ·obtain⟨o',e1⟩:=thr b o e
  exact un.free b o' e1 (I.base.free b o e n (by intro z;exact nomatch z)) (by simp)
 ·obtain⟨o',e1⟩:=thr b o e
  obtain⟨o2,e2⟩:=un.there b o' e1 (by simp)
  by_cases hb:b∈frs outer
  ·obtain⟨sl,e3⟩:=fst b hb _ e2
   exact⟨_,e3⟩
  ·exact⟨_,zdF hst fl.1 (B0 b o e hb) e2⟩
 ·obtain⟨m1,e1⟩:=I.base.tbls b ps e
  obtain⟨m2,e2⟩:=un.tbls b _ e1
  exact⟨m1++m2,by rw[e2,Array.append_assoc]⟩
 ·refine(hok a o e).stay (fun b u hb q=>?_) (fun _ q=>q) fun _ _ q=>q
  have hn:H1 b≠none:=by
   rcases hb with rfl | hb
   ·rw[e];simp
   ·rw[hb];simp
  exact zdF hst fl.1 (hB b (fun hm=>hn (free1 b hm)) (.inl hn)) q
 ·by_cases hm:b∈frs (envOfC qual scope s0.heap.objs.size f cd::outer)
  ·rcases hstk b hm with z | z
   ·rcases h with h | ⟨o,h⟩
    ·exact absurd (free1 b hm) h
    ·exact absurd z (old b o h)
   ·exact absurd z hb
  ·exact hB b hm (h.elim .inl fun⟨o,h⟩=>.inr (thr b o h))
theorem zl4:zdP (CXE P w) (zhB (CXE P w) P w K mg base N qual scope f cd A outer s0 H0 E) E:=by
 intro pins σ H s e s' I h
 obtain⟨ea,C,a0,B,H',rfl,os,bare,un,hok,hne,fl,hB,ox,⟨dc,hdc,hox⟩,hE⟩:=h
 refine zqq I.ok.frames rfl fl hdc fun h' fl' up hd'=>?_
 exact zw0 rfl I os bare un hok hne fl.1 fl.2.2.1 hB fl' up ⟨ox,⟨dc,hd',hox⟩,hE⟩
end
theorem zm9 {X:Cx}{E:XK}:zdP CX0 X E:=fun _ _ _ _ _ _ _ h=>h.elim
theorem zjs {P:Program}{w:World}{K:W.Frag}{mg:Str->Option Value}{base:Heap}{x qual:Str}{st:Stmt}{f:Addr}{fd:FuncData}{N ps:List Str}{k:Nat}{s:Ev->Res Fl}(F:Fun K x qual st f fd)(S:zaw N ps (defScope st))
  (hbody:∀ (cdv:Value) (A:Around) (outer:List PySem.Env) (s0:Shared) (H H₀:Hp) (E:XK),zdE k (A.deeper (envOfC qual (defScope st) s0.heap.objs.size f cdv)) ->
   DSs (zhB (CXE P w) P w K mg base N qual (defScope st) f cdv A outer s0 H E) E H H₀ (defBody st) s):FnOk P w K mg base (CXE P w) (k+1) f fd ps (spD K ps.length (zdz N.length s)):=by
 have hpl:ps.length<=N.length:=by have:=congrArg List.length S.pre;rw[List.length_take] at this;omega
 obtain⟨oc,od,kV,doc,pm,an,cdv,ct,osl,rfl,lk,hcd⟩:=F.ex
 refine zuM lk hcd S (fun vs H Q E h=>h.1) fun A outer s0 H vs Q E hr h=>?_
 obtain⟨hn,H₀,ds,hs,hv,q⟩:=h
 refine⟨_,(hbody cdv A outer s0 H H₀ E hr).o,H₀,ds.map Sl.sh++List.replicate (N.length-ds.length) .no,?_,?_⟩
 ·refine⟨za4.refl hs,zdR hv,fun i d e=>?_,fun i j d d' hij e=>?_,?_,OX.none zfW ze2⟩
  ·by_cases hi:i < ds.length
   ·rw[List.getElem?_append_left (by simpa using hi),List.getElem?_map] at e
    cases q:ds[i]? with
    | none=>rw[q] at e;cases e
    | some d'=>rw[q] at e;cases e
   ·rw[List.getElem?_append_right (by simpa using hi),List.getElem?_replicate] at e
    split at e<;>cases e
  ·by_cases hi:i < ds.length
   ·rw[List.getElem?_append_left (by simpa using hi),List.getElem?_map] at e
    cases q:ds[i]? with
    | none=>rw[q] at e;cases e
    | some d'=>rw[q] at e;cases e
   ·rw[List.getElem?_append_right (by simpa using hi),List.getElem?_replicate] at e
    split at e<;>cases e
  ·unfold L2.start
   have:=hv.length
   simp only[List.length_append,List.length_map,List.length_replicate]
   omega
 ·unfold zdz at q
  cases e1:s (ds.map Sl.sh++List.replicate (N.length-ds.length) .no) with
  | stuck=>rw[e1] at q;exact q
  | exn x=>rw[e1] at q;exact q
  | ok r =>
   rw[e1] at q
   cases r with
   | nx ρ'=>exact fun σ' H' H₀' _ h'=>q .non H' H₀' h'.g (Rep.non_iff.mpr rfl)
   | rt d=>exact fun v H' H₀' g rp=>q v H' H₀' g rp
   | bk ρ'=>exact q.elim
   | ct ρ'=>exact q.elim
def noX (m:List D->Res D)(ds:List D):Res D:=match m ds with
 | .exn _=>.stuck
 | r=>r
theorem zwG {m:List D->Res D}{ds:List D}{d:D}(h:m ds=.ok d):noX m ds=.ok d:=by unfold noX;rw[h]
theorem zph {K:W.Frag}{n:Nat}{m:List D->Res D}{vs:List V}{H:Hp}{Q:VK}{E E':XK}(h:spD K n (noX m) vs H Q E):spD K n m vs H Q E':=by
 obtain⟨hn,H₀,ds,hs,hv,q⟩:=h
 refine⟨hn,H₀,ds,hs,hv,?_⟩
 unfold noX at q
 cases e:m ds with
 | stuck=>rw[e] at q;exact q
 | exn x=>rw[e] at q;exact q.elim
 | ok d=>rw[e] at q;exact q
theorem FnOk.noX {P:Program}{w:World}{K:W.Frag}{mg:Str->Option Value}{base:Heap}{k n:Nat}{f:Addr}{fd:FuncData}{ps:List Str}{m:List D->Res D}(F:FnOk P w K mg base (CXE P w) k f fd ps (spD K n m)) :
  FnOk P w K mg base CX0 k f fd ps (spD K n (DL.noX m)) :=
 ⟨fun vs H Q E h=>F.len vs H Q E0 (zph h),fun A outer s H args us vs Q E hr he hb hv h=>codeAny_mono (F.run A outer s H args us vs Q E0 hr he hb hv (zph h)) fun r s' q=>by
  cases r with
  | ok fl=>cases fl<;>exact q
  | error e=>obtain⟨_,_,_,_,_,_,_,_,_,_,_,_,_,_,_,hE⟩:=q;exact hE.elim⟩
def zsY (x:Str)(fa:Ev->Res (List D)):Ev->Res Fl:=fun ρ=>(fa (shr ρ)).bind fun ds=>if ds.length<=line then .exn ⟨x,[]⟩ else .stuck
section
variable {P:Program}{w:World}{K:W.Frag}{mg:Str->Option Value}{base:Heap}{N:List Str}{qual:Str}{scope:Scope}{f:Addr}{cd:Value}{A:Around}{outer:List PySem.Env}{s0:Shared}{H0:Hp}{E:XK}{He H0e:Hp}
end
section
variable {P:Program}{w:World}{st:List PySem.Env}{H H':Hp}{h g g' B:Heap}
theorem Un.fly (un:Un (frs st) [] H H' h g)(k:B.StaysIn g)(hfr:g.FunFrames B st)(hB:∀ b,b∉frs st->(H' b≠none∨∃ o,h.get? b=some o)->∃ o,B.get? b=some o)(k':B.StaysIn g')(up:g.UpToSlots g'):Un (frs st) [] H H' h g':=by
 have fst:∀ b,b∈frs st->∀ o,g.get? b=some o->∃ sl,g'.get? b=some { o with slots:=sl }:=fun b hb o e=>by
  obtain⟨_,o',ho',hd⟩:=hfr.mem hb
  rw[e] at ho';cases ho'
  exact up b o e hd
 refine⟨fun b o e n hb hx=>?_,fun b o e n hb hx=>?_,un.free,fun b o e hx=>?_,un.tups,un.frzs,un.tbls⟩
 ·exact zdF k k' (hB b hb (.inr ⟨o,e⟩)) (un.keep b o e n hb hx)
 ·obtain⟨sl,e1⟩:=un.slot b o e n hb hx
  obtain⟨sl2,e2⟩:=fst b hb _ e1
  exact⟨sl2,e2⟩
 ·obtain⟨o',e1⟩:=un.there b o e hx
  by_cases hb:b∈frs st
  ·obtain⟨sl,e2⟩:=fst b hb _ e1
   exact⟨_,e2⟩
  ·exact⟨_,zdF k k' (hB b hb (.inr ⟨o,e⟩)) e1⟩
theorem HOk.fly (ok:HOk P w H' g)(hf:∀ b∈frs st,H' b=none)(k:B.StaysIn g)(hB:∀ b,b∉frs st->(H' b≠none∨∃ o,h.get? b=some o)->∃ o,B.get? b=some o)(k':B.StaysIn g'):HOk P w H' g':=fun a o e=>by
 refine(ok a o e).stay (fun b u hb q=>?_) (fun _ q=>q) fun _ _ q=>q
 have hn:H' b≠none:=by
  rcases hb with rfl | hb
  ·rw[e];simp
  ·rw[hb];simp
 exact zdF k k' (hB b (fun hm=>hn (hf b hm)) (.inl hn)) q
theorem HOk.ext (ok:HOk P w H g){a:Addr}{φ:Heap->Prop}(hn:H a=none)(p:φ g)(ht:∃ o,g.get? a=some o)(hm:∀ h1 h2:Heap,φ h1->(∀ o,h1.get? a=some o->h2.get? a=some o)->φ h2):HOk P w (upd H a (.ext φ)) g:=fun b u e=>by
 by_cases hb:b=a
 ·subst hb;rw[zak] at e;cases e;exact⟨p,ht,hm⟩
 ·rw[zah hb] at e
  exact(ok b u e).stay (fun c v _ q=>q) (fun c q=>by rw[zah (zaB q hn)];exact q) fun c xs q=>by rw[zah (zaB q hn)];exact q
theorem Un.ext {fs:List Addr}(un:Un fs [] H H' h g){a:Addr}{o:HO}(hn:H' a=none)(ha:h.get? a=none):Un fs [] H (upd H' a o) h g :=
 ⟨un.keep,un.slot,fun b ob e n hx=>by rw[zah (fun z=>by subst z;rw[ha] at e;cases e)];exact un.free b ob e n hx,un.there,fun b xs q=>by rw[zah (zaB (un.tups b xs q) hn)];exact un.tups b xs q,
  fun b ob u q=>by rw[zah (zaB (un.frzs b ob u q) hn)];exact un.frzs b ob u q,fun b ps q=>by
   obtain⟨m,e⟩:=un.tbls b ps q
   exact⟨m,by rw[zah (zaB e hn)];exact e⟩⟩
theorem zqs {a C:Addr}{dc:Option Addr}:∀ h1 h2:Heap,ExD a C dc h1->(∀ o,h1.get? a=some o->h2.get? a=some o)->ExD a C dc h2:=fun h1 h2 ⟨o,vs,e,c,d⟩ k=>⟨o,vs,k o e,c,d⟩
end
def hand (X:Cx)(e:Addr):Cx:={ X with A:=X.A.mark (some (.ref e)),calm:=false,xe:=fun _ _=>False }
section
variable {X:Cx}{pins:List (Addr×Obj)}{σ:L2.St}{H:Hp}{s:Shared}{e:Addr}
theorem zuG (ok:X.Ok):(hand X e).Ok :=
 ⟨ok.mod,ok.kind,ok.glob,ok.blt,ok.above,ok.inj,ok.has,ok.cab,fun z=>Bool.noConfusion z,ok.frames,ok.stk,ok.exf,ok.bs,ok.bsz,ok.noex,ok.exfs,ok.funs,ok.frf⟩
theorem Inv.hand (I:Inv X pins σ H s):Inv (DL.hand X e) pins σ H s:=⟨zuG I.ok,I.os,I.bare,I.base,I.loc,I.cell,I.free,I.freeC,I.pin,I.hok,I.len⟩
theorem Inv.unhand (ok:X.Ok)(I:Inv (DL.hand X e) pins σ H s):Inv X pins σ H s:=⟨ok,I.os,I.bare,I.base,I.loc,I.cell,I.free,I.freeC,I.pin,I.hok,I.len⟩
theorem Inv.gone {i:Nat}{x:Str}{m:Str->Option Value}{v:Option Value}{h':Heap}{t':Nat}(I:Inv X pins σ H s)(hN:X.N.Nodup)(hi:X.N[i]?=some x)
  (hm:∀ (j:Nat) (y:Str) (v:V),X.N[j]?=some y->σ[j]?=some (some v)->Vis X.env.scope y->∃ u,zbP v u/\zzt X.env s.heap m y u)(hn:h'.Ns X.env.locals (fun y=>if y=x then v else m y))(hs:Heap.SameBut X.env.locals s.heap h') :
  Inv X pins (σ.set i none) H { s with heap:=h',toks:=t' }:=by
 have cne:=I.cne
 obtain⟨m0,⟨oL,_,_,hoL,_⟩,_⟩:=id I.loc
 have tracked:HOk X.prog X.w H h':=fun b ob e=>by
  refine(I.hok b ob e).stay (fun c w' hc q=>(hs.2 c ?_).trans q) (fun _ q=>q) fun _ _ q=>q
  rintro rfl
  have hfree:=I.free
  rcases hc with rfl | hc
  ·rw[hfree] at e;cases e
  ·rw[hfree] at hc;cases hc
 refine⟨I.ok,I.os,I.bare,⟨fun b o e n hb hx=>?_,fun b o e n hb hx=>?_,I.base.free,fun b o e hx=>?_,I.base.tups,I.base.frzs,I.base.tbls⟩,⟨_,hn,fun j y v' e1 e2 e3=>?_⟩,fun y c e=>?_,I.free,I.freeC,fun p hp=>?_,tracked,by simpa using I.len⟩
 ·exact(hs.2 b (Nat.ne_of_lt (Nat.lt_of_lt_of_le (Heap.lt_size e) I.ok.above))).trans (I.base.keep b o e n hb hx)
 ·obtain⟨sl,e1⟩:=I.base.slot b o e n hb hx
  exact⟨sl,(hs.2 b (Nat.ne_of_lt (Nat.lt_of_lt_of_le (Heap.lt_size e) I.ok.above))).trans e1⟩
 ·obtain⟨o',e1⟩:=I.base.there b o e hx
  exact⟨o',(hs.2 b (Nat.ne_of_lt (Nat.lt_of_lt_of_le (Heap.lt_size e) I.ok.above))).trans e1⟩
 ·by_cases hj:j=i
  ·subst hj
   have hiσ:j < σ.length:=by rw[I.len];exact(List.getElem?_eq_some_iff.mp hi).1
   rw[List.getElem?_set_self hiσ] at e2;cases e2
  ·rw[List.getElem?_set_ne (Ne.symm hj)] at e2
   obtain⟨u',r',q⟩:=hm j y v' e1 e2 e3
   refine⟨u',r',?_⟩
   rcases q with⟨k,e⟩ | ⟨k,c,e,z⟩
   ·refine .inl ⟨k,?_⟩
    have:y≠x:=fun e=>hj (zj7 hN e1 (e▸hi))
    simp [this,e]
   ·exact .inr ⟨k,c,e,z.sameBut hs (cne y c e)⟩
 ·obtain⟨w',z⟩:=I.cell y c e
  exact⟨w',z.sameBut hs (cne y c e)⟩
 ·obtain⟨e,n,ne,nf,d⟩:=I.pin p hp
  exact⟨(hs.2 p.1 ne).trans e,n,ne,nf,d⟩
theorem zxr {H1:Hp}{s1 s':Shared}{Ex:XK}{ev:Value}{c n:Str}{np hpos:Pos}{b₀:Stmt}{suite:List Stmt}{rest:List ExceptHandler}{cv:Value}{ni:Nat}{D:zg4}(hstk:X.stack=X.env::X.outer/\X.env.frame=some X.env.locals)(I:Inv X pins σ H1 s1)
  (h:CXE X.prog X.w X.stack H1 s1 Ex ev s')(hg:Gl X c)(hm:X.mg c=some cv)(hx:∀ C ox H',Ex (.ref C) ox H'->W.exmOne X.K (.ref C) cv=some true)
  (hN:X.N.Nodup)(hi:X.N[ni]?=some n)(hlo:X.env.scope.names.lookup n=some .local)
  (hs:∀ ea C dc ox H' s2,Ex (.ref C) ox H'->(ox=none∨ox=dc)->H' ea=none->Inv (DL.hand X ea) pins (σ.set ni (some (.ref ea))) (upd H' ea (.ext (ExD ea C dc))) s2 ->
   wpAny (model X.prog X.w) (X.A.mark (some (.ref ea))) (execs (b₀::suite) X.env) (SP (DL.hand X ea) pins { nx:=fun σ' H=>D.nx (σ'.set ni none) H,rt:=D.rt,bk:=fun σ' H=>D.bk (σ'.set ni none) H,ct:=fun σ' H=>D.ct (σ'.set ni none) H }) (fun _ _=>False) s2)
  (hdb:(c==("__debug__" : Str))=false:=by decide) :
  wpAny (model X.prog X.w) X.A (noteFrame ev X.env) (fun _ s₂=>wpAny (model X.prog X.w) X.A (setFlight ev none) (fun _ s₃ =>
   wpAny (model X.prog X.w) X.A (handleBy ev X.env (.ExceptHandler (some (.Name c np)) (some n) (b₀::suite) hpos::rest)) (SP X pins D) X.xe s₃) X.xe s₂) X.xe s':=by
 obtain⟨ea,C,a0,B,H',rfl,os,bare,un,hok,hne,fl,hB,ox,⟨dc,hdc,hox⟩,hE⟩:=h
 have hA:X.A.frames=some (X.env::X.outer):=by rw[← hstk.1];exact I.ok.frames
 have fl0:=fl
 rw[hstk.1] at fl
 have hf1:∀ b∈frs X.stack,H' b=none:=fun b hb=>by
  obtain⟨_,o,ho,_⟩:=I.stack.mem hb
  exact un.free b o ho (I.stkFree b hb) (by simp)
 have hnew:s1.heap.get? ea=none:=by
  cases q:s1.heap.get? ea with
  | none=>rfl
  | some o =>
   by_cases hb:ea∈frs X.stack
   ·obtain⟨_,o',ho',hd⟩:=fl0.2.2.1.mem hb
    obtain⟨oe,vs,he,_,hd',_⟩:=fl0.first
    rw[ho'] at he;cases he
    exact absurd hd' (hd vs)
   ·obtain⟨u,hu⟩:=hB ea hb (.inr ⟨o,q⟩)
    rw[fl.2.1] at hu;cases hu
 have inv:∀ g,B.StaysIn g->s'.heap.UpToSlots g->Inv X pins σ H' { s' with heap:=g }:=fun g k up =>
  I.call' (ch:=[]) os (Un.fly un fl0.1 fl0.2.2.1 hB k up) (HOk.fly hok hf1 fl0.1 hB k) bare (fun _ z=>nomatch z)
 have invx:∀ g,B.StaysIn g->s'.heap.UpToSlots g->ExD ea C dc g->Inv X pins σ (upd H' ea (.ext (ExD ea C dc))) { s' with heap:=g }:=fun g k up p =>
  I.call' (ch:=[]) os (Un.ext (Un.fly un fl0.1 fl0.2.2.1 hB k up) hne hnew) (HOk.ext (HOk.fly hok hf1 fl0.1 hB k) hne p (let ⟨o,_,e,_⟩:=p;⟨o,e⟩) zqs) bare (fun _ z=>nomatch z)
 refine zsj hA hstk.2 fl hdc fun h4 held4 up4 dc4=>?_
 refine zsk held4 dc4 fun h5 fl5 up5 dc5=>?_
 have I5:Inv (DL.hand X ea) pins σ H' { s' with heap:=h5 }:=Inv.hand (inv h5 fl5.1 (up4.trans up5))
 refine wpAny_handleBy_cons (codeAny_handlers_test ?_) (by intro q;cases q)
 refine zgP I5 hg hm ?_ hdb
 obtain⟨ob,hob,hoc⟩:=fl5.there
 have LT:W.Looks (model X.prog X.w) h5 (typeOf (.ref ea)) (.ref C):=hoc▸(W.Looks.ld hob).andThen .now
 refine(W.exm_one I5.kIn LT (hx C ox H' hE)).here ?_
 refine codeAny_handlers_suite_as ?_
 refine zsl fl5 dc5 fun h6 fl6 up6 dc6=>?_
 obtain⟨oe,vs,he,hc,hd,_⟩:=fl6.first
 have I6:Inv (DL.hand X ea) pins σ (upd H' ea (.ext (ExD ea C dc))) { s' with heap:=h6 }:=Inv.hand (invx h6 fl6.1 ((up4.trans up5).trans up6) ⟨oe,vs,he,hc,hd,(by obtain⟨o6,e6,d6⟩:=dc6;rw[he] at e6;cases e6;exact d6)⟩)
 refine zfV (X:=DL.hand X ea) (v:=.ref ea) I6 hN hi (.inl hlo) rfl (fun s7 I7=>?_) (.inr hlo)
 refine wpAny_mono (hs ea C dc ox H' s7 hE hox hne I7) (fun f s8 h8=>?_) fun _ _ z=>z.elim
 have hcls:(X.env.scope.kind==.class||(X.env.scope.kind==.module&&X.env.locals != X.env.globals))=false:=by rw[I.ok.kind];rfl
 have fin:∀ {σ':L2.St}{H2:Hp}{Q:Unit->Shared->Prop},Inv (DL.hand X ea) pins σ' H2 s8->(∀ s9,Inv X pins (σ'.set ni none) H2 s9->Q () s9) ->
   wpAny (model X.prog X.w) X.A (do bindName X.env n .none;unbindBehindTheSuite X.env n hpos) Q X.xe s8:=fun {σ' H2 Q} J q=>by
  have J':=Inv.unhand I.ok J
  obtain⟨m,hn,hl⟩:=id J'.loc
  exact wpAny_nameGoes_keeps hlo hn hcls fun h' v hn' hs'=>q _ (Inv.gone J' hN hi hl hn' hs')
 cases f with
 | next=>obtain⟨σ',H2,J,q⟩:=h8;exact fin J fun s9 J9=>⟨_,H2,J9,q⟩
 | brk=>obtain⟨σ',H2,J,q⟩:=h8;exact fin J fun s9 J9=>⟨_,H2,J9,q⟩
 | cont=>obtain⟨σ',H2,J,q⟩:=h8;exact fin J fun s9 J9=>⟨_,H2,J9,q⟩
 | ret u=>obtain⟨v,σ',H2,J,r,q⟩:=h8;exact fin J fun s9 J9=>⟨v,_,H2,J9,r,q⟩
end
theorem PA.nox {X:Cx}{es:List Expr}{t:TA}(h:PA X.nox es t):PA X es t:=fun pos pins s σ H Q I hw =>
 wpAny_mono (h pos pins s σ H Q (I.wish _) hw) (fun _ _ ⟨v,H',I',r,q⟩=>⟨v,H',I'.unwish,r,q⟩) fun _ _ z=>False.elim z
section
variable {X:Cx}{pins:List (Addr×Obj)}{σ:L2.St}{H:Hp}{s:Shared}{CX:CXT}{k:Nat}{f:Addr}{fd:FuncData}{ps:List Str}{sp:Sp}{Ex:XK}{x:Str}{p pos:Pos}{e:Expr}{es:List Expr}{t:TA}
theorem zvb {Q:VK}{XE:Value->Shared->Prop}(F:FnOk X.prog X.w X.K X.mg X.base CX k f fd ps sp)(hr:zdE k X.A)(hg:Gl X x)(hm:X.mg x=some (.ref f))(hk:W.keepIn X.K (.ref f)=true)(hb:zgx X.K fd ps [])(ha:PA X.nox (e::es) t)
  (I:Inv X pins σ H s)(h:t σ H fun vs H1=>sp vs H1 Q Ex)(hx:∀ H1 s1 e s',Inv X pins σ H1 s1->CX X.stack H1 s1 Ex e s'->XE e s')
  (hdb:(x==("__debug__" : Str))=false:=by decide)(he:starEach (e::es) X.env=(false,eval e X.env)::starEach es X.env:=by exact zaC rfl)(hpl:(backTo pos (starEach es X.env)).any (·.1)=false:=by exact za3 rfl) :
  wpAny (model X.prog X.w) X.A (eval (.Call (.Name x p) (e::es) [] pos) X.env) (EP X pins σ Q) XE s:=by
 refine wpAny_Call_Name_kw (zgP I hg hm ?_ hdb)
 have ha':PA (X.wish XE) (e::es) t:=PA.nox (X:=X.wish XE) ha
 refine W.callWith_K (h₀:=X.base) I.ok.mod.kin hk (thn (ha' pos pins s σ H _ (I.wish XE) h) fun us s1 ⟨vs,H1,I1,r,q⟩=>⟨I1.unwish.kIn,?_⟩) he hpl
 have I1:=I1.unwish
 have hl:us.length=ps.length:=by rw[← r.length];exact F.len _ _ _ _ q
 have hb1:=hb s1 us I1.kIn (by simpa using hl)
 rw[List.append_nil] at hb1
 refine wpAny_call (codeAny_mono (F.run X.A X.stack s1 H1 ⟨us,[]⟩ us vs Q Ex hr I1.env0 hb1 r q) fun r s' hq=>?_)
 cases r with
 | error e=>exact hx H1 s1 e s' I1 hq
 | ok fl =>
  cases fl with
  | ret u=>exact I1.after hq
  | next=>exact False.elim hq
  | brk=>exact False.elim hq
  | cont=>exact False.elim hq
end
def zsV (K:W.Frag)(He H0e H₀:Hp)(r:Res Fl)(D:zg4):Prop:=match r with
 | .exn _=>True
 | r=>zbI K E0 He H0e H₀ r D
def zzw (K:W.Frag)(He H0e H₀:Hp)(σ:L2.St)(ρ:Ev)(r:Res Fl):XK:=fun C ox H'=>∃ x H₀',r=.exn x/\zax H₀ H₀'/\SRx K He H0e H₀' σ H' ρ/\ExR K H₀' x C ox
structure TB (X:Cx) (st:Stmt) (g:Ev->Res Fl):Prop where
 o:∀ (pins:List (Addr×Obj)) (s:Shared) (σ:L2.St) (H He H0e H₀:Hp) (ρ:Ev) (D:zg4) (XE:Value->Shared->Prop),Inv X pins σ H s->SRx X.K He H0e H₀ σ H ρ->zsV X.K He H0e H₀ (g ρ) D ->
  (∀ H1 s1 e s',Inv X pins σ H1 s1->CXE X.prog X.w X.stack H1 s1 (zzw X.K He H0e H₀ σ ρ (g ρ)) e s'->XE e s')->wpAny (model X.prog X.w) X.A (exec st X.env) (SP X pins D) XE s
section
variable {X:Cx}{E:XK}{e:Expr}{es:List Expr}{fa:Ev->Res (List D)}{pos:Pos}
theorem SRx.drop {K:W.Frag}{He H0e H₀ H:Hp}{σ:L2.St}{ρ:Ev}(h:SRx K He H0e H₀ σ H ρ){i:Nat}:SRx K He H0e H₀ (σ.set i none) H (ρ.set i .no):=by
 have key:∀ (j:Nat) (s:Sl),(ρ.set i .no)[j]?=some s->s≠.no->j≠i/\ρ[j]?=some s:=fun j s e hs=>by
  by_cases hj:i=j
  ·subst hj
   rw[List.getElem?_set_self'] at e
   cases q:ρ[i]? with
   | none=>rw[q] at e;cases e
   | some s'=>rw[q] at e;cases e;exact absurd rfl hs
  ·rw[List.getElem?_set_ne hj] at e
   exact⟨fun z=>hj z.symm,e⟩
 refine⟨h.g,fun j d' e=>?_,fun j d' e=>?_,fun j k d1 d2 hn e1 e2=>?_,by simp [h.ln],h.ex.upd (fun j s e=>?_) (zax.refl _) (fun a vs _ e=>e) fun p us _ h0 hp _=>⟨hp,h0⟩⟩
 rotate_left 3
 ·by_cases hs:s=.no
  ·exact .inr (.inr (.inl hs))
  ·obtain⟨hj,e'⟩:=key j s e hs
   exact .inl ⟨e',by rw[List.getElem?_set_ne (Ne.symm hj)]⟩
 ·obtain⟨hj,e'⟩:=key j _ e (by simp)
  obtain⟨v',h1,h2⟩:=h.rd j d' e'
  exact⟨v',by rw[List.getElem?_set_ne (Ne.symm hj)];exact h1,h2⟩
 ·obtain⟨hj,e'⟩:=key j _ e (by simp)
  obtain⟨a,h1,h2⟩:=h.ow j d' e'
  exact⟨a,by rw[List.getElem?_set_ne (Ne.symm hj)];exact h1,h2⟩
 ·obtain⟨hj,e1'⟩:=key j _ e1 (by simp)
  obtain⟨hk,e2'⟩:=key k _ e2 (by simp)
  rw[List.getElem?_set_ne (Ne.symm hj),List.getElem?_set_ne (Ne.symm hk)]
  exact h.ap j k d1 d2 hn e1' e2'
def zwz (ni:Nat)(r:Fl):Res Fl:=match r with
 | .nx ρ=>.ok (.nx (ρ.set ni .no))
 | .rt d=>.ok (.rt d)
 | .bk ρ=>.ok (.bk (ρ.set ni .no))
 | .ct ρ=>.ok (.ct (ρ.set ni .no))
def zso (x:Exn):D:=match x.flds with
 | []=>.exc x.cls
 | f::fs=>if((f::fs).map (·.1)).Nodup then .ob (.exf x.cls ((f::fs).map (·.1))) ((f::fs).map (·.2)) else .exc x.cls
theorem zk4 {β:Type}:∀ {l:List (Str×β)}{f:Str}{d:β},(l.map (·.1)).Nodup->(f,d)∈l->l.lookup f=some d
 | (g,e)::l,f,d,nd,h=>by
  rw[List.map_cons,List.nodup_cons] at nd
  rcases List.mem_cons.mp h with h | h
  ·cases h;rw[List.lookup_cons,beq_self_eq_true]
  ·have:f≠g:=fun z=>nd.1 (z▸List.mem_map.mpr ⟨(f,d),h,rfl⟩)
   rw[List.lookup_cons,beq_eq_false_iff_ne.mpr this]
   exact zk4 nd.2 h
theorem znp {K:W.Frag}{H:Hp}{fs:List (Str×V)}:∀ (l:List (Str×D)),(∀ n d,(n,d)∈l->∃ v,fs.lookup n=some v/\Rep K H d v)->∃ vs,Reps K H (l.map (·.2)) vs/\l.length=vs.length/\∀ (i:Nat) (f:Str) (v:V),(l.map (·.1))[i]?=some f->vs[i]?=some v->fs.lookup f=some v
 | [],_=>⟨[],Reps.nil_iff.mpr rfl,rfl,fun i f v e=>by simp at e⟩
 | (n,d)::l,h=>by
  obtain⟨v,h1,h2⟩:=h n d List.mem_cons_self
  obtain⟨vs,h3,h4,h5⟩:=znp l fun n d hm=>h n d (List.mem_cons_of_mem _ hm)
  refine⟨v::vs,Reps.cons_iff.mpr ⟨v,vs,rfl,h2,h3⟩,by simp [h4],fun i f w e1 e2=>?_⟩
  cases i with
  | zero=>simp at e1 e2;rw[← e1,← e2];exact h1
  | succ i=>exact h5 i f w (by simpa using e1) (by simpa using e2)
theorem zsn {K:W.Frag}{H:Hp}{x:Exn}{C ea:Addr}{ox dc:Option Addr}(xc:XC K x.cls C)(ex:ExR K H x (.ref C) ox)(hox:ox=none∨ox=dc)(hne:H ea=none):Rep K (upd H ea (.ext (ExD ea C dc))) (zso x) (.ref ea):=by
 have plain:Rep K (upd H ea (.ext (ExD ea C dc))) (.exc x.cls) (.ref ea):=Rep.exc_iff.mpr ⟨ea,C,dc,rfl,xc,.inl zak⟩
 have sm:zax H (upd H ea (.ext (ExD ea C dc))):=fun b o q=>by rw[zah (zaB q hne)];exact q
 obtain⟨cls,flds⟩:=x
 unfold zso
 cases flds with
 | nil=>exact plain
 | cons f fs =>
  show Rep _ _ (if((f::fs).map (·.1)).Nodup then D.ob (.exf cls ((f::fs).map (·.1))) ((f::fs).map (·.2)) else .exc cls) _
  by_cases nd:((f::fs).map (·.1)).Nodup
  ·rw[if_pos nd]
   obtain⟨_,hm⟩:=ex
   cases ox with
   | none=>cases hm
   | some a =>
    obtain⟨gs,h1,h2⟩:=hm
    have hdc:dc=some a:=by
     rcases hox with z | z
     ·cases z
     ·exact z.symm
    obtain⟨vs,k1,k2,k3⟩:=znp (K:=K) (H:=H) (fs:=gs) (f::fs) fun n d hmm=>h2 n d (zk4 nd hmm)
    exact Rep.ob_iff.mpr ⟨ea,vs,rfl,⟨C,a,gs,xc,hdc▸.inl zak,sm _ _ h1,by rw[List.length_map];exact k2,k3⟩,k1.mono sm⟩
  ·rw[if_neg nd];exact plain
def zvo (g:Ev->Res Fl)(hit:Str->Bool)(ni:Nat)(sh:Ev->Res Fl):Ev->Res Fl:=fun ρ=>match g ρ with
 | .exn x=>if hit x.cls=true then(sh (ρ.set ni (.sh (zso x)))).bind (zwz ni) else .stuck
 | r=>r
theorem zw8 {He H0e:Hp}{st b₀:Stmt}{suite:List Stmt}{g sh:Ev->Res Fl}{hit:Str->Bool}{ni:Nat}{c n:Str}{np hpos:Pos}{cv:Value}(hstk:X.stack=X.env::X.outer/\X.env.frame=some X.env.locals)(hb:TB X st g)
  (hg:Gl X c)(hm:X.mg c=some cv)(hhit:∀ x C,hit x=true->XC X.K x C->W.exmOne X.K (.ref C) cv=some true)(hN:X.N.Nodup)(hi:X.N[ni]?=some n)(hlo:X.env.scope.names.lookup n=some .local)
  (hh:∀ ea,DSs (DL.hand X ea) E He H0e (b₀::suite) sh)(hdb:(c==("__debug__" : Str))=false:=by decide) :
  DS X E He H0e (.Try [st] [.ExceptHandler (some (.Name c np)) (some n) (b₀::suite) hpos] [] [] pos) (zvo g hit ni sh):=by
 refine⟨?_⟩
 intro pins s σ H D I ⟨H₀,ρ,h,q⟩
 have hq:zsV X.K He H0e H₀ (g ρ) D:=by
  unfold zvo at q
  cases e1:g ρ with
  | exn x=>trivial
  | stuck=>rw[e1] at q;exact q
  | ok r=>rw[e1] at q;cases r<;>exact q
 refine wpAny_Try_except (wpAny_execs_cons (thn (hb.o pins s σ H He H0e H₀ ρ D _ I h hq fun H1 s1 e s' I1 hc=>?_) fun f s1 hf=>?_))
 ·have hit1:∀ x,g ρ=.exn x->hit x.cls=true:=fun x e1=>by
   unfold zvo at q
   rw[e1] at q
   by_cases z:hit x.cls=true
   ·exact z
   ·simp only[if_neg z] at q;exact q.elim
  refine zxr hstk I1 hc hg hm (fun C ox H' ⟨x,H₀',e1,_,_,⟨⟨c',ec,xc⟩,_⟩⟩=>?_) hN hi hlo (fun ea C dc ox H' s2 ⟨x,H₀',e1,sm,srx,⟨⟨c',ec,xc⟩,hm2⟩⟩ hox hne I2=>?_) hdb
  ·cases ec;exact hhit _ _ (hit1 x e1) xc
  ·cases ec
   refine(hh ea).o pins s2 _ _ _ I2 ⟨upd H₀' ea (.ext (ExD ea C dc)),ρ.set ni (.sh (zso x)),(srx.grow (za4.alloc srx.g.sub hne)).put (zsn xc ⟨⟨C,rfl,xc⟩,hm2⟩ hox (srx.g.sub.free hne)),?_⟩
   have sm2:zax H₀ (upd H₀' ea (.ext (ExD ea C dc))):=sm.trans (za4.alloc srx.g.sub hne).z
   unfold zvo at q
   rw[e1] at q
   simp only[if_pos (hit1 x e1)] at q
   cases e2:sh (ρ.set ni (.sh (zso x))) with
   | stuck=>rw[e2] at q;exact q
   | exn z=>rw[e2] at q;exact q
   | ok r =>
    rw[e2] at q
    cases r with
    | nx ρ'=>exact fun σ' H2 H02 s2 h2=>q _ H2 H02 (sm2.trans s2) (SRx.drop h2)
    | rt d=>exact q
    | bk ρ'=>exact fun σ' H2 H02 s2 h2=>q _ H2 H02 (sm2.trans s2) (SRx.drop h2)
    | ct ρ'=>exact fun σ' H2 H02 s2 h2=>q _ H2 H02 (sm2.trans s2) (SRx.drop h2)
 ·cases f with
  | next=>exact wpAny_execs_nil (wpAny_execs_nil hf)
  | brk=>exact hf
  | cont=>exact hf
  | ret u=>exact hf
end
structure zxz (k:Nat) (A:Around):Prop where
 dp:A.depth+3*k+5 < recursionLimit
 un:A.units+16*k+200 < cLine
theorem zdE.h {k:Nat}{A:Around}(r:zdE k A):zxz k A:=⟨r.dp,r.un⟩
structure FnH (P:Program) (w:World) (K:W.Frag) (mg:Str->Option Value) (base:Heap) (k:Nat) (f:Addr) (fd:FuncData) (ps:List Str) (sp:Sp):Prop where
 len:∀ vs H Q E,sp vs H Q E->vs.length=ps.length
 run:∀ (A:Around) (outer:List PySem.Env) (s:Shared) (H:Hp) (args:Args) (us:List Value) (vs:List V) (Q:VK) (E:XK),zxz k A->zts P w K mg base A outer s H->BindsTo s fd args (ps.zip us)->zbK vs us->sp vs H Q E ->
  codeAny (model P w) A (.call (.ref f) args) (CR CX0 outer P w H s Q E) s
theorem FnH.ok {P:Program}{w:World}{K:W.Frag}{mg:Str->Option Value}{base:Heap}{k:Nat}{f:Addr}{fd:FuncData}{ps:List Str}{sp:Sp}(F:FnH P w K mg base k f fd ps sp):FnOk P w K mg base CX0 k f fd ps sp :=
 ⟨F.len,fun A outer s H args us vs Q E hr=>F.run A outer s H args us vs Q E (zdE.h hr)⟩
section
variable {X:Cx}{E:XK}{e a:Expr}{es:List Expr}{f:Ev->Res D}{fa:Ev->Res (List D)}{pos:Pos}
end
section
variable {X:Cx}{E:XK}{e a:Expr}{es:List Expr}{f:Ev->Res D}{pos:Pos}{tab:Str->Option Bool}
end
end DL
namespace DL
open PySem PySem.Spec PyProof.Rows L2 PySem.W
structure zsQ (K:Frag) (x:Str) (C:Addr):Prop where
 ns:nsIn K mainGlobals x=some (some (.ref C))
 ty:typeIn K (.ref C)=some (.type "type")
 ob:mroIn K C (.type "object")=some true
 be:subIn K (.ref C) (.type "BaseException")=some true
theorem zsQ.isCls {K:Frag}{x:Str}{C:Addr}(Z:zsQ K x C):(clsIn K C).isSome=true:=by
 obtain⟨cd,a,b⟩:=Option.bind_eq_some_iff.mp Z.ob
 rw[a];rfl
theorem zsQ.kitCls {K:Frag}{x:Str}{C:Addr}(Z:zsQ K x C){t:Value}:W.kitCls K t (.ref C)=subIn K t (.ref C):=by
 show(if((clsIn K C).isSome&&typeIn K (.ref C)==some (.type "type"))=true then subIn K t (.ref C) else none)=_
 rw[Z.isCls,Z.ty];rfl
theorem zsQ.exm {K:Frag}{x:Str}{C:Addr}(Z:zsQ K x C){t:Value}{b:Bool}(h:subIn K t (.ref C)=some b):exmOne K t (.ref C)=some b:=by
 unfold exmOne
 rw[Z.be,if_pos (by decide),Z.kitCls,h]
theorem zwN {K:Frag}{C:Addr}{T:String}{b:Bool}(hm:kitMeta T=true)(h:subIn K (.ref C) (.type T)=some b):kitOne K (.ref C) (.type T)=some b:=by
 unfold kitOne
 rw[if_neg (by intro z;cases beq_iff_eq.mp z)]
 show(if kitMeta T=true then subIn K (.ref C) (.type T) else none)=_
 rw[if_pos hm,h]
theorem zmk:∀ T∈zeX,kitMeta T=true:=by decide +kernel
theorem XC.inj {K:Frag}{x:Str}{C C':Addr}(a:XC K x C)(b:XC K x C'):C=C':=by
 have:=a.ns.symm.trans b.ns
 simpa using this
def zpa:List (Str×Bool)->Str->Option Bool
 | [],_=>none
 | (x,b)::r,c=>if x=c then some b else zpa r c
theorem zhQ {K:Frag}{p:Str->Addr->Bool->Prop}:∀ {l:List (Str×Bool)},(∀ q∈l,∃ C,XC K q.1 C/\p q.1 C q.2)->∀ c C b,zpa l c=some b->XC K c C->p c C b
 | [],_,c,C,b,h,_=>by cases h
 | (x,v)::r,H,c,C,b,h,xc=>by
  unfold zpa at h
  by_cases e:x=c
  ·subst e
   rw[if_pos rfl] at h;cases h
   obtain⟨C',xc',q⟩:=H _ List.mem_cons_self
   obtain rfl:=XC.inj xc xc'
   exact q
  ·rw[if_neg e] at h
   exact zhQ (fun q hq=>H q (List.mem_cons_of_mem _ hq)) c C b h xc
def zon (l:List (Str×Bool))(c:Str):Bool:=zpa l c==some true
theorem zsa {K:Frag}{l:List (Str×Bool)}{cv:Value}(H:∀ q∈l,∃ C,XC K q.1 C/\exmOne K (.ref C) cv=some q.2):∀ x C,zon l x=true->XC K x C->exmOne K (.ref C) cv=some true:=fun x C h xc =>
 zhQ (p:=fun _ C b=>exmOne K (.ref C) cv=some b) H x C true (by unfold zon at h;exact beq_iff_eq.mp h) xc
end DL
namespace DL
open PySem PySem.Spec PyProof.Rows L2
section
variable {X:Cx}{E:XK}{tg a b c:Expr}{f g:Ev->Res D}
end
section
variable {X:Cx}{pins:List (Addr×Obj)}{σ:L2.St}{H:Hp}{s:Shared}{h':Heap}
theorem zo6 {t':Nat}{fp:List Addr}{T:Addr}{xs:List V}(I:Inv X pins σ H s)(k:∀ b o,b∉fp->s.heap.get? b=some o->h'.get? b=some o)(hf:∀ b∈fp,znR X pins H b)(hT:s.heap.objs.size<=T)
  (new:zb6 X.prog X.w (upd H T (.tup xs)) h' T (.tup xs)):Inv X pins σ (upd H T (.tup xs)) { s with heap:=h',toks:=t' }:=by
 have hn:H T=none:=I.hok.fresh hT
 have nit:∀ b u,H b=some u->b∉fp:=fun b u e z=>by rw[(hf b z).1] at e;cases e
 refine I.step (g':=s.gens) (d':=s.drawn) (ch:=fp) (fun b hb=>?_) (fun b o _ _ hc e _=>k b o hc e) (fun b o _ _ hc e _=>⟨o.slots,k b o hc e⟩) (fun b o _ e n=>?_)
  (fun b o hc e=>⟨o,k b o hc e⟩) (fun b xs e=>by rw[zah (zaB e hn)];exact e) (fun b o u e=>by rw[zah (zaB e hn)];exact e) (fun b ps e=>⟨#[],by rw[zah (zaB e hn),e];simp⟩) (fun m hm=>?_) (fun b u e=>?_) I.bare
 ·obtain⟨_,f1,_,f3,f4,f5⟩:=hf b hb
  exact⟨f3,f1,f4,f5⟩
 ·rw[zah (Nat.ne_of_lt (Nat.lt_of_lt_of_le (Heap.lt_size e) hT))];exact n
 ·obtain⟨o,es,ep,ho,r⟩:=hm
  exact⟨o,es,ep,k _ o (fun z=>(hf _ z).2.1 rfl) ho,r⟩
 ·by_cases hb:b=T
  ·subst hb;rw[zak] at e;cases e;exact new
  ·rw[zah hb] at e
   refine(I.hok b u e).stay (fun c v hc q=>k c v ?_ q) (fun c q=>by rw[zah (zaB q hn)];exact q) fun c xs q=>by rw[zah (zaB q hn)];exact q
   rcases hc with z | z
   ·rw[z];exact nit b u e
   ·exact nit c _ z
theorem ztL {t':Nat}{fp:List Addr}(I:Inv X pins σ H s)(k:∀ b o,b∉fp->s.heap.get? b=some o->h'.get? b=some o)(hf:∀ b∈fp,znR X pins H b):Inv X pins σ H { s with heap:=h',toks:=t' }:=by
 have nit:∀ b u,H b=some u->b∉fp:=fun b u e z=>by rw[(hf b z).1] at e;cases e
 refine I.step (g':=s.gens) (d':=s.drawn) (ch:=fp) (fun b hb=>?_) (fun b o _ _ hc e _=>k b o hc e) (fun b o _ _ hc e _=>⟨o.slots,k b o hc e⟩) (fun b o _ e n=>n)
  (fun b o hc e=>⟨o,k b o hc e⟩) (fun b xs e=>e) (fun b o u e=>e) (fun b ps e=>⟨#[],by rw[e];simp⟩) (fun m hm=>?_) (fun b u e=>?_) I.bare
 ·obtain⟨_,f1,_,f3,f4,f5⟩:=hf b hb
  exact⟨f3,f1,f4,f5⟩
 ·obtain⟨o,es,ep,ho,r⟩:=hm
  exact⟨o,es,ep,k _ o (fun z=>(hf _ z).2.1 rfl) ho,r⟩
 ·refine(I.hok b u e).stay (fun c v hc q=>k c v ?_ q) (fun _ q=>q) fun _ _ q=>q
  rcases hc with z | z
  ·rw[z];exact nit b u e
  ·exact nit c _ z
end
def Ite (K:W.Frag)(a:Addr):It :=
 ⟨fun i H=>∃ xs x,SqL K H a xs/\xs[i]?=some x,fun i H x H'=>∃ p y,H p=none/\x=.ref p/\(∀ xs,SqL K H a xs->xs[i]?=some y)/\H'=upd H p (.tup [.int i,y]),fun i H=>∃ xs,SqL K H a xs/\xs.length<=i⟩
theorem zo9 {P:Program}{w:World}{K:W.Frag}{elts:List Expr}{k:Nat}{pos:Pos}(a it e:Addr)(hne:e≠it)(hae:a≠e)(hai:a≠it) :
  zvt P w K (.Tuple elts k pos) (Ite K a) [e,it] e (fun i h=>(∃ old,IsEnum h e it i old)/\h.IsListIter it a i) where
 mem:=by simp
 obj:=fun i h st b hb=>by
  obtain⟨⟨old,he⟩,o,h1,h2,h3⟩:=st
  rcases List.mem_cons.mp hb with rfl | hb
  ·exact⟨_,he,fun v z=>by cases z⟩
  ·rcases List.mem_cons.mp hb with rfl | hb
   ·exact⟨o,h1,fun v z=>by rw[h3] at z;cases z⟩
   ·cases hb
 keep:=fun i h h' st k=>by
  obtain⟨⟨old,he⟩,hi⟩:=st
  exact⟨⟨old,k e (by simp) _ he⟩,hi.at fun o y=>k it (by simp) o y⟩
 item:=by
  intro X hP hw hK hc i pins s σ H E I hf st hg
  subst hP hw hK
  obtain⟨xs,x,hq,hx⟩:=hg
  obtain⟨its,rv,p,hz⟩:=I.list hq
  obtain⟨u,hu,ru⟩:=rv.get hx
  have W:=WalksT.enumerate (prog:=X.prog) (w:=X.w) (I.ok.hd hc) e it a hne hae hai its.toArray
  have hil:i < its.toArray.size:=by simpa using (List.getElem?_eq_some_iff.mp hu).1
  refine W.item i s _ _ hil ⟨st.1,st.2,p.isList⟩ fun T vals h' tk hPt hT hTup hMid hk=>?_
  refine⟨_,rfl,W.go elts k pos i T _ _ _ hMid fun h'' st'' hk''=>?_⟩
  obtain⟨t,y,hy,rfl⟩:=hPt
  have hyu:y=u:=by
   have:its[i]?=some y:=by simpa using hy
   rw[hu] at this;cases this;rfl
  subst hyu
  obtain⟨o,ho,hr⟩:=hTup
  have ho':=hk'' T o (W.apart i T _ hMid) ho
  refine⟨.ref T,upd H T (.tup [.int i,x]),zo6 (s:=s) (h':=h'') (t':=tk) I (fun b o hb e=>hk'' b o hb (hk b o hb e)) hf hT ⟨by show 2<=sizeLine;decide,[.int i t,y],.cons ⟨t,rfl⟩ (.cons ru .nil),o,ho',hr⟩,rfl,⟨T,x,I.hok.fresh hT,rfl,fun ys hy=>by rw[I.list_inj hy hq];exact hx,rfl⟩,⟨st''.1,st''.2.1⟩,fun b hb=>?_⟩
  have hb0:=(hf b hb).1
  obtain⟨ob,hob,_⟩:∃ o,s.heap.get? b=some o/\∀ v,o.data≠.cell v:=by
   obtain⟨⟨old,he⟩,o,h1,h2,h3⟩:=st
   rcases List.mem_cons.mp hb with rfl | hb
   ·exact⟨_,he,fun v z=>by cases z⟩
   ·rcases List.mem_cons.mp hb with rfl | hb
    ·exact⟨o,h1,fun v z=>by rw[h3] at z;cases z⟩
    ·cases hb
  rw[zah (Nat.ne_of_lt (Nat.lt_of_lt_of_le (Heap.lt_size hob) hT))];exact hb0
 done:=by
  intro X hP hw hK hc i pins s σ H E I hf st hg
  subst hP hw hK
  obtain⟨xs,hq,hx⟩:=hg
  obtain⟨its,rv,p,hz⟩:=I.list hq
  have hl:=rv.length
  obtain⟨⟨old,he⟩,hi⟩:=st
  exact wpAny_pyNext_enum_end (I.ok.hd hc) he hi p.isList (by simp;omega) fun h' hx=>⟨rfl,ztL (t':=s.toks) I (fun b o hb e=>hx b o (fun z=>hb (by simp [z])) e) hf⟩
 self:=fun _ _ _ _ _ st h=>by
  obtain⟨⟨old,he⟩,_⟩:=st
  exact wpAny_pyIter_enum he h
section
variable {X:Cx}{E:XK}{elts:List Expr}{k:Nat}{tp:Pos}{e a b:Expr}{f g:Ev->Res D}
def zyz (K:W.Frag)(ta:TA):TI:=fun σ H R=>ta σ H fun vs H1=>∃ a,vs=[.ref a]/\(∃ xs,SqL K H1 a xs)/\R (Ite K a) H1
theorem zt7 {ta:TA}{p pos:Pos}(hg:Gl X "enumerate")(hm:X.mg "enumerate"=none)(ha:PA X [a] ta)(hs:starEach [a] X.env=[(false,eval a X.env)]:=by rfl):PI X (.Tuple elts k tp) (.Call (.Name "enumerate" p) [a] [] pos) (zyz X.K ta):=by
 intro pins s σ H R I h
 refine Call_ (zk7 I hg hm PyProof.Rows.Boot.«enumerate» (PyProof.Rows.callWith_type1 (thn (ha pos pins s σ H _ I h) fun us s1 ⟨vs,H1,I1,r1,q1⟩=>?_) hs rfl))
 obtain⟨l,e,⟨xs,hq⟩,q⟩:=q1
 subst e
 cases r1 with
 | cons r rr =>
  cases rr
  cases r
  obtain⟨its,rv,p,hz⟩:=I1.list hq
  have hlt:l < s1.heap.objs.size:=by obtain⟨o,n,e,_⟩:=p;exact Heap.lt_size e
  refine call_enumerate_list p.isList fun h' he hi hsz hk=>?_
  refine wpAny_pyIter_enum he ?_
  refine⟨s1.heap.objs.size+1,[s1.heap.objs.size+1,s1.heap.objs.size],_,_,H1,rfl,I1.kept (t':=s1.toks) hk,zo9 l s1.heap.objs.size (s1.heap.objs.size+1) (Nat.succ_ne_self _) (Nat.ne_of_lt (Nat.lt_succ_of_lt hlt)) (Nat.ne_of_lt hlt),⟨⟨_,he⟩,hi⟩,fun b hb=>?_,q⟩
  have hb':s1.heap.objs.size<=b:=by
   rcases List.mem_cons.mp hb with rfl | hb
   ·omega
   ·rcases List.mem_cons.mp hb with rfl | hb
    ·exact Nat.le_refl _
    ·cases hb
  exact I1.fpOk hb' (I1.hok.fresh hb')
def numbered (n:Nat):List D->List D
 | []=>[]
 | d::ds=>.tup [.int n,d]::numbered (n+1) ds
theorem zdl:∀ (ds:List D) (n:Nat),(numbered n ds).length=ds.length
 | [],_=>rfl
 | d::ds,n=>by simp [numbered,zdl ds]
theorem zeK:∀ (ds:List D) (n i:Nat),(numbered n ds)[i]?=(ds[i]?).map fun d=>D.tup [.int (n+i:Nat),d]
 | [],_,_=>by simp [numbered]
 | d::ds,n,0=>by simp [numbered]
 | d::ds,n,i+1=>by simp only[numbered,List.getElem?_cons_succ];rw[zeK ds (n+1) i,show n+1+i=n+(i+1) by omega]
def zvm (f:Ev->Res D):Ev->Res (List D):=fun ρ=>(f ρ).bind fun d=>match d with
 | .lst ds=>.ok (numbered 0 ds)
 | _=>.stuck
theorem ztN {K:W.Frag}{H H₀:Hp}{p:Addr}{vs:List V}{ds:List D}(hs:zax H₀ H)(hp:H p=none)(r:Reps K H₀ ds vs):∃ H₀2,za4 H H₀ (upd H p (.tup vs)) H₀2/\Rep K H₀2 (.tup ds) (.ref p) :=
 ⟨upd H₀ p (.tup vs),za4.alloc hs hp,Rep.tup_iff.mpr ⟨p,vs,rfl,SqT.of zak,r.mono (za4.alloc (o:=.tup vs) hs hp).z⟩⟩
theorem zmr {p pos:Pos}(hg:Gl X "enumerate")(hm:X.mg "enumerate"=none)(h:DE X E a f)(hn:nst a=true:=by exact rfl):DI X E (.Tuple elts k tp) (.Call (.Name "enumerate" p) [a] [] pos) (zvm f):=by
 refine⟨zgI (zt7 hg hm (zcK h.o zfl (zdS hn)) (zdS hn)) fun σ H R ⟨H₀,ρ,hs,hr,q⟩=>⟨H₀,ρ,hs,hr,?_⟩⟩
 unfold zvm at q
 cases e1:f ρ with
 | stuck=>rw[e1] at q;exact q
 | exn x=>rw[e1] at q;exact q
 | ok d =>
  rw[e1] at q
  intro v H1 H01 g1 r1
  cases d with
  | lst ds =>
   obtain⟨l,vs,rfl,hv,hrv⟩:=Rep.lst_iff.mp r1
   refine⟨l,rfl,⟨vs,zax.sqL g1.sub hv⟩,q _ H1 H01 g1 ⟨fun i H' H₀' s1 s2 hi=>?_,fun i H' H₀' x H2 d s1 s2 hd hy=>?_,fun i H' H₀' s1 s2 hi=>?_⟩⟩
   ·rw[zdl] at hi
    exact⟨vs,vs[i]'(by rw[← hrv.length];exact hi),zax.sqL (s1.trans s2) hv,by simp⟩
   ·obtain⟨p,y,hp,rfl,hy,rfl⟩:=hy
    rw[zeK] at hd
    cases ei:ds[i]? with
    | none=>rw[ei] at hd;cases hd
    | some d' =>
     rw[ei] at hd
     cases hd
     obtain⟨u,k1,k2⟩:=hrv.get ei
     have:=hy vs (zax.sqL (s1.trans s2) hv)
     rw[k1] at this;cases this
     exact ztN s2 hp (Reps.cons (Rep.int_iff.mpr (by simp)) (Reps.cons (k2.mono s1) Reps.nil))
   ·rw[zdl] at hi
    exact⟨vs,zax.sqL (s1.trans s2) hv,by rw[← hrv.length];exact hi⟩
  | _=>exact q.elim
end
section
variable {X:Cx}{E:XK}{elts:List Expr}{k:Nat}{tp:Pos}{e a b:Expr}{f g:Ev->Res D}
end
def zlK (f:Str):List Str->List D->Option D
 | k::ks,d::ds=>if f=k then some d else zlK f ks ds
 | _,_=>none
theorem zqn {K:W.Frag}{H:Hp}{f:Str}:∀ {ks:List Str}{ds:List D}{vs:List V}{d:D},ks.length=vs.length->Reps K H ds vs->zlK f ks ds=some d->∃ v,(ks.zip vs).lookup f=some v/\Rep K H d v/\f∈ks
 | [],ds,vs,d,_,_,h=>by unfold zlK at h;cases h
 | k::ks,[],vs,d,_,_,h=>by unfold zlK at h;cases h
 | k::ks,x::ds,vs,d,hl,r,h=>by
  obtain⟨v,r',rfl,r1,r2⟩:=Reps.cons_iff.mp r
  unfold zlK at h
  by_cases c:f=k
  ·rw[if_pos c] at h
   cases h
   exact⟨v,by rw[List.zip_cons_cons,List.lookup_cons,beq_iff_eq.mpr c],r1,by rw[c];exact List.mem_cons_self⟩
  ·rw[if_neg c] at h
   obtain⟨u,h1,h2,h3⟩:=zqn (by simpa using hl) r2 h
   exact⟨u,by rw[List.zip_cons_cons,List.lookup_cons,beq_eq_false_iff_ne.mpr c];exact h1,h2,List.mem_cons_of_mem _ h3⟩
def zz0 (f:Str)(x:D):Res D:=match x with
 | .ob (.ins c ks) ds=>match zlK f ks ds with
  | some d=>.ok d
  | none=>.stuck
 | _=>.stuck
section
variable {X:Cx}{E:XK}{e a b o:Expr}{es:List Expr}{fe fo:Ev->Res D}{fa:Ev->Res (List D)}{pos:Pos}
def putAll:List Str->List V->List (Str×V)->List (Str×V)
 | f::fs,v::vs,l=>putAll fs vs (zn4 f v l)
 | _,_,l=>l
theorem zm3 {f:Str}{v:V}:∀ {l:List (Str×V)},f∉l.map (·.1)->zn4 f v l=l++[(f,v)]
 | [],_=>rfl
 | (k,x)::l,h=>by
  simp only[List.map_cons,List.mem_cons,not_or] at h
  unfold zn4
  rw[if_neg (fun z=>h.1 z.symm),zm3 h.2]
  rfl
theorem zji:∀ {fs:List Str}{vs:List V}{l:List (Str×V)},fs.Nodup->(∀ f∈fs,f∉l.map (·.1))->fs.length=vs.length->putAll fs vs l=l++fs.zip vs
 | [],[],l,_,_,_=>by simp [putAll]
 | [],v::vs,l,_,_,h=>by simp at h
 | f::fs,[],l,_,_,h=>by simp at h
 | f::fs,v::vs,l,nd,hn,h=>by
  rw[List.nodup_cons] at nd
  unfold putAll
  rw[zm3 (hn f List.mem_cons_self),zji nd.2 (fun g hg=>?_) (by simpa using h),List.zip_cons_cons,List.append_assoc]
  ·rfl
  ·simp only[List.map_append,List.map_cons,List.map_nil,List.mem_append,List.mem_singleton,not_or]
   exact⟨hn g (List.mem_cons_of_mem _ hg),fun z=>nd.1 (z▸hg)⟩
theorem zmL {H:Hp}{a:Addr}{o:HO}(h:H a=some o):upd H a o=H:=by
 funext b
 by_cases hb:b=a
 ·subst hb;rw[zak,h]
 ·rw[zah hb]
theorem zkL {H:Hp}{a:Addr}{o u:HO}:upd (upd H a o) a u=upd H a u:=by
 funext b
 by_cases hb:b=a
 ·subst hb;rw[zak,zak]
 ·rw[zah hb,zah hb,zah hb]
def zzR (c:Str)(ks:List Str)(ds:List D):Res D:=if ds.length=ks.length then .ok (.ob (.ins c ks) ds) else .stuck
def zzV (x:D)(ds:List D):Option Nat:=ds.findIdx? fun d=>eqD d x
def zqI (x y:D):Res D:=match x with
 | .lst ds=>if zbs 40 y=true/\ds.all (zbs 40)=true then match zzV y ds with
   | some j=>.ok (.int j)
   | none=>.stuck
  else .stuck
 | _=>.stuck
def zu5 (fo:Ev->Res D)(fe:Ev->Res D):Ev->Res D:=fun ρ=>(fo ρ).bind fun x=>match x with
 | .lst ds=>(fe ρ).bind fun y=>zqI (.lst ds) y
 | _=>.stuck
end
theorem zun {K:W.Frag}{C:Addr}:∀ f∈([]:List Str),zgw K C f:=fun _ h=>nomatch h
theorem zrO {K:W.Frag}{C:Addr}{f:Str}{ks:List Str}(h:W.findIn K (.ref C) f=some none)(r:∀ f∈ks,zgw K C f):∀ g∈f::ks,zgw K C g:=fun g hg=>by
 rcases List.mem_cons.mp hg with rfl | hg
 ·exact h
 ·exact r g hg
section
variable {X:Cx}{E:XK}{He H0e:Hp}{e:Expr}{es:List Expr}{f:Ev->Res D}{fa:Ev->Res (List D)}{pos:Pos}
def aFr (f:Ev->Res D)(fa:Ev->Res (List D)):Ev->Res (List D):=fun ρ=>(f ρ).bind fun x=>match x with
 | .lst ds=>(fa ρ).bind fun xs=>.ok (.lst ds::xs)
 | _=>.stuck
def zzU:Sl->Bool
 | .ox _ _=>true
 | _=>false
def zzP (i:Nat)(ρ:Ev):Bool:=(ρ.set i .no).all fun s=>!(zzU s)
def zze (i j:Nat)(ρ:Ev)(ds:List D):Res Fl:=match ds[j]? with
 | some (.lst _)=>if ds.length<=line/\zzP i ρ=true then .ok (.nx (ρ.set i (.ox j ds))) else .stuck
 | _=>.stuck
def zya (i j:Nat)(fa:Ev->Res (List D)):Ev->Res Fl:=fun ρ=>(fa ρ).bind (zze i j ρ)
def zu9 (i j:Nat)(ρ:Ev)(s:Option Sl):Res Fl:=match s with
 | some (.ox j' ds)=>if j'=j then .ok (.nx (ρ.set i (.ox j (ds.set j (.lst []))))) else .stuck
 | _=>.stuck
def zv7 (i j:Nat):Ev->Res Fl:=fun ρ=>zu9 i j ρ ρ[i]?
end
def zyj (K:W.Frag)(E:XK)(He H0e H₀:Hp)(r:Res Fl)(D:zg4):Prop:=match r with
 | .ok (.rt (.lst es))=>∀ p us H H₀',za4 He H0e H H₀'->He p=none->H₀' p=none->H p=some (.lst us)->Reps K H₀' es us->D.rt (.ref p) H
 | .exn x=>∀ C ox H H₀',za4 He H0e H H₀'->ExR K H₀' x C ox->E C ox H
 | _=>False
def tSF (K:W.Frag)(E:XK)(He H0e:Hp)(g:Ev->Res Fl):TS:=fun D σ H=>∃ H₀ ρ,SRx K He H0e H₀ σ H ρ/\zyj K E He H0e H₀ (g ρ) D
structure zvu (X:Cx) (E:XK) (He H0e:Hp) (st:List Stmt) (g:Ev->Res Fl):Prop where
 o:PSs X st (tSF X.K E He H0e g)
section
variable {X:Cx}{E:XK}{He H0e:Hp}{st:Stmt}{rest:List Stmt}{e:Expr}{es:List Expr}{f:Ev->Res D}{fa:Ev->Res (List D)}{s t:Ev->Res Fl}{pos:Pos}
def zv3 (t:Ev->Res Fl)(r:Fl):Res Fl:=match r with
 | .nx ρ=>t ρ
 | _=>.stuck
def zhA (s t:Ev->Res Fl):Ev->Res Fl:=fun ρ=>(s ρ).bind (zv3 t)
theorem zda (h1:DS X E He H0e st s)(h2:zvu X E He H0e rest t):zvu X E He H0e (st::rest) (zhA s t):=by
 refine⟨?_⟩
 refine zcw (zdk h1.o h2.o) fun D σ H ⟨H₀,ρ,h,q⟩=>⟨H₀,ρ,h,?_⟩
 unfold zhA at q
 cases e1:s ρ with
 | stuck=>rw[e1] at q;exact q
 | exn x=>rw[e1] at q;exact q
 | ok r =>
  rw[e1] at q
  cases r with
  | nx ρ'=>exact fun σ' H' H₀' s' h'=>⟨H₀',ρ',h',q⟩
  | rt d=>exact q.elim
  | bk ρ'=>exact q.elim
  | ct ρ'=>exact q.elim
def zyc (s:Option Sl):Res Fl:=match s with
 | some (.ow (.lst ds))=>.ok (.rt (.lst ds))
 | _=>.stuck
def zrt (i:Nat):Ev->Res Fl:=fun ρ=>zyc ρ[i]?
theorem zsv {i:Nat}{x:Str}{p1:Pos}(hN:X.N[i]?=some x)(hv:Vis X.env.scope x)(hd:(x==("__debug__" : Str))=false:=by decide)(hcd:(x==("__classdict__" : Str))=false:=by decide) :
  zvu X E He H0e [.Return (some (.Name x p1)) pos] (zrt i):=by
 refine⟨?_⟩
 refine zcw (zdk (zkW (zfk hN hv hd hcd)) zh6) fun D σ H ⟨H₀,ρ,h,q⟩=>?_
 unfold zrt at q
 cases e1:ρ[i]? with
 | none=>rw[e1] at q;exact q.elim
 | some s =>
  rw[e1] at q
  cases s with
  | ow d =>
   cases d with
   | lst ds =>
    obtain⟨p,h1,h2,h3,vs,h4,h5⟩:=h.ow i _ e1
    exact⟨.ref p,h1,q p vs H H₀ h.g h2 h3 h4 h5⟩
   | _=>exact q.elim
  | _=>exact q.elim
end
def zwy (r:Fl):Res D:=match r with
 | .rt (.lst es)=>.ok (.lst es)
 | _=>.stuck
def zoI (n:Nat)(s:Ev->Res Fl)(ds:List D):Res D:=(s (ds.map Sl.sh++List.replicate (n-ds.length) .no)).bind zwy
theorem zmU {n:Nat}{s:Ev->Res Fl}{ds:List D}{d:D}(h:zoI n s ds=.ok d):∃ es,d=.lst es:=by
 unfold zoI at h
 cases e:s (ds.map Sl.sh++List.replicate (n-ds.length) .no) with
 | stuck=>rw[e] at h;cases h
 | exn x=>rw[e] at h;cases h
 | ok r =>
  rw[e] at h
  cases r with
  | rt d' =>
   cases d' with
   | lst es=>cases h;exact⟨es,rfl⟩
   | _=>cases h
  | _=>cases h
def zyi (K:W.Frag)(E:XK)(H H₀:Hp)(r:Res D)(Q:VK):Prop:=match r with
 | .ok (.lst es)=>∀ p us H' H₀',za4 H H₀ H' H₀'->H p=none->H₀' p=none->H' p=some (.lst us)->Reps K H₀' es us->Q (.ref p) H'
 | .exn x=>∀ C ox H' H₀',za4 H H₀ H' H₀'->ExR K H₀' x C ox->E C ox H'
 | _=>False
def spF (K:W.Frag)(n:Nat)(m:List D->Res D):Sp:=fun vs H Q E=>vs.length=n/\∃ H₀ ds,zax H₀ H/\Reps K H₀ ds vs/\zyi K E H H₀ (m ds) Q
theorem zpg {K:W.Frag}{n:Nat}{m:List D->Res D}(hm:∀ ds d,m ds=.ok d->∃ es,d=.lst es):∀ vs H Q E,spD K n m vs H Q E->spF K n m vs H Q E:=fun vs H Q E ⟨h1,H₀,ds,h2,h3,q⟩=>⟨h1,H₀,ds,h2,h3,by
 cases e:m ds with
 | stuck=>rw[e] at q;exact q
 | exn x=>rw[e] at q;exact q
 | ok d =>
  obtain⟨es,rfl⟩:=hm ds d e
  rw[e] at q
  intro p us H' H₀' g hp h0 hv r
  have z:zax H₀' (upd H₀' p (.lst us)):=fun b o eb=>by rw[zah (by intro z;subst z;rw[h0] at eb;cases eb)];exact eb
  refine q (.ref p) H' (upd H₀' p (.lst us)) ⟨g.s,g.z.trans z,fun b o eb=>?_,fun b h1 h2=>?_⟩ (Rep.lst_iff.mpr ⟨p,us,rfl,SqL.of zak,r.mono z⟩)
  ·by_cases hb:b=p
   ·subst hb;rw[zak] at eb;cases eb;exact hv
   ·rw[zah hb] at eb;exact g.sub _ _ eb
  ·by_cases hb:b=p
   ·subst hb;exact hp
   ·rw[zah hb] at h1;exact g.nw b h1 h2⟩
theorem zop {P:Program}{w:World}{K:W.Frag}{mg:Str->Option Value}{base:Heap}{x qual:Str}{st:Stmt}{f:Addr}{fd:FuncData}{N ps:List Str}{k:Nat}{s:Ev->Res Fl}(F:Fun K x qual st f fd)(S:zaw N ps (defScope st))
  (hbody:∀ (cdv:Value) (A:Around) (outer:List PySem.Env) (s0:Shared) (H H₀:Hp) (E:XK),zdE k (A.deeper (envOfC qual (defScope st) s0.heap.objs.size f cdv)) ->
   zvu (zhB CX0 P w K mg base N qual (defScope st) f cdv A outer s0 H E).nox E H H₀ (defBody st) s):FnOk P w K mg base CX0 (k+1) f fd ps (spF K ps.length (zoI N.length s)):=by
 have hpl:ps.length<=N.length:=by have:=congrArg List.length S.pre;rw[List.length_take] at this;omega
 refine F.ok S (fun vs H Q E h=>h.1) fun cdv A outer s0 H vs Q E hr h=>?_
 obtain⟨hn,H₀,ds,hs,hv,q⟩:=h
 refine⟨_,(hbody cdv A outer s0 H H₀ E hr).o,H₀,ds.map Sl.sh++List.replicate (N.length-ds.length) .no,?_,?_⟩
 ·refine⟨za4.refl hs,zdR hv,fun i d e=>?_,fun i j d d' hij e=>?_,?_,OX.none zfW ze2⟩
  ·by_cases hi:i < ds.length
   ·rw[List.getElem?_append_left (by simpa using hi),List.getElem?_map] at e
    cases q:ds[i]? with
    | none=>rw[q] at e;cases e
    | some d'=>rw[q] at e;cases e
   ·rw[List.getElem?_append_right (by simpa using hi),List.getElem?_replicate] at e
    split at e<;>cases e
  ·by_cases hi:i < ds.length
   ·rw[List.getElem?_append_left (by simpa using hi),List.getElem?_map] at e
    cases q:ds[i]? with
    | none=>rw[q] at e;cases e
    | some d'=>rw[q] at e;cases e
   ·rw[List.getElem?_append_right (by simpa using hi),List.getElem?_replicate] at e
    split at e<;>cases e
  ·unfold L2.start
   have:=hv.length
   simp only[List.length_append,List.length_map,List.length_replicate]
   omega
 ·unfold zoI at q
  cases e1:s (ds.map Sl.sh++List.replicate (N.length-ds.length) .no) with
  | stuck=>rw[e1] at q;exact q
  | exn x=>rw[e1] at q;exact q
  | ok r =>
   rw[e1] at q
   cases r with
   | rt d =>
    cases d with
    | lst es=>exact fun p us H' H₀' g hp h0 hv' rr=>q p us H' H₀' g hp h0 hv' rr
    | _=>exact q.elim
   | _=>exact q.elim
section
variable {X:Cx}{E:XK}{He H0e:Hp}{e:Expr}{es:List Expr}{f:Ev->Res D}{fa:Ev->Res (List D)}{pos:Pos}
theorem zuY {CX:CXT}{k n:Nat}{fn:Addr}{fd:FuncData}{ps:List Str}{m:List D->Res D}{x:Str}{p:Pos}(F:FnOk X.prog X.w X.K X.mg X.base CX k fn fd ps (spF X.K n m))(hr:zdE k X.A)(hg:Gl X x)(hm:X.mg x=some (.ref fn))
  (hk:W.keepIn X.K (.ref fn)=true)(hb:zgx X.K fd ps [])(hx:zdP CX X E)(ha:DA X E (e::es) fa)(hn:(e::es).length=n:=by rfl)(hl:∀ ρ ds,fa ρ=.ok ds->ds.length=(e::es).length)
  (hdb:(x==("__debug__" : Str))=false:=by decide)(he:starEach (e::es) X.env=(false,eval e X.env)::starEach es X.env:=by exact zaC rfl)(hpl:(backTo pos (starEach es X.env)).any (·.1)=false:=by exact za3 rfl) :
  DF X E (.Call (.Name x p) (e::es) [] pos) (zan fa m):=by
 refine⟨?_⟩
 refine zaG (zj3 F hr hg hm hk hb .nil hx ha.o hdb he hpl) fun σ H Q h=>?_
 obtain⟨H₀,ρ,hs,hr,q⟩:=h
 refine⟨H₀,ρ,hs,hr,?_⟩
 unfold zan at q
 cases e1:fa ρ with
 | stuck=>rw[e1] at q;exact q
 | exn x=>rw[e1] at q;exact q
 | ok ds =>
  rw[e1] at q
  intro v H1 H01 g1 r1
  refine⟨?_,H01,ds,g1.sub,by simpa using r1,?_⟩
  ·have:=r1.length
   have:=hl ρ ds e1
   simp only[List.append_nil]
   omega
  ·replace q:match m ds with
    | .ok (.lst ds)=>∀ p vs H' H₀',za4 H H₀ H' H₀'->H p=none->H₀' p=none->H' p=some (.lst vs)->Reps X.K H₀' ds vs->Q (.ref p) H'
    | .ok _=>False
    | .exn x=>∀ C ox H' H₀',za4 H H₀ H' H₀'->ExR X.K H₀' x C ox->E C ox H'
    | .stuck=>False:=q
   cases e2:m ds with
   | stuck=>rw[e2] at q;exact q
   | exn x=>rw[e2] at q;exact fun C ox H' H₀' g ex=>q C ox H' H₀' (g1.trans g) ex
   | ok d =>
    rw[e2] at q
    cases d with
    | lst es=>exact fun p us H' H₀' g hp h0 hv rr=>q p us H' H₀' (g1.trans g) (g1.s.free hp) h0 hv rr
    | _=>exact q.elim
end
section
variable {X:Cx}{E:XK}{He H0e:Hp}{e a b:Expr}{es:List Expr}{f g:Ev->Res D}{fa:Ev->Res (List D)}{pos:Pos}
def zxM (x y:D):Res D:=match x,y with
 | .int i,.int j=>.ok (.int (if j < i then j else i))
 | _,_=>.stuck
theorem zxn:zhG X E (fun xs H Q=>∃ i j,xs=[.int i,.int j]/\Q (.int (if j < i then j else i)) H) (m2 zxM):=zxs fun x y v u H H₀ Q hs r r' q=>by
 cases x with
 | int i =>
  cases y with
  | int j=>exact⟨i,j,by rw[Rep.int_iff.mp r,Rep.int_iff.mp r'],zaX hs q (ri _)⟩
  | _=>exact q.elim
 | _=>exact q.elim
def zsD (x y:D):Res D:=match x,y with
 | .lst ds,.lst es=>if ds.length+es.length<=line then .ok (.lst (ds++es)) else .stuck
 | _,_=>.stuck
theorem zxg (ha:DE X E a f)(hb:DE X E b g):DF X E (.BinOp a .Add b pos) (zac f g zsD):=by
 refine⟨?_⟩
 refine zaG (zua zl7 ha.o hb.o) fun σ H Q ⟨H₀,ρ,hs,hr,q⟩=>⟨H₀,ρ,hs,hr,?_⟩
 unfold zac at q
 cases e1:f ρ with
 | stuck=>rw[e1] at q;exact q
 | exn x=>rw[e1] at q;exact q
 | ok x =>
  rw[e1] at q
  intro v H1 H01 g1 r1
  refine⟨H01,ρ,g1.sub,hr.mono g1.z,?_⟩
  cases e2:g ρ with
  | stuck=>simp only[Res.bind,e2] at q
  | exn y=>simp only[Res.bind,e2] at q;exact fun C ox H' H₀' g' ex=>q C ox H' H₀' (g1.trans g') ex
  | ok y =>
   simp only[Res.bind,e2] at q
   intro u H2 H02 g2 r2
   cases x with
   | lst ds =>
    cases y with
    | lst es =>
     by_cases h:ds.length+es.length<=line
     ·simp only[zsD,if_pos h] at q
      obtain⟨l,vs,rfl,h1,h2⟩:=Rep.lst_iff.mp (r1.mono g2.z)
      obtain⟨m,us,rfl,k1,k2⟩:=Rep.lst_iff.mp r2
      refine⟨l,m,vs,us,rfl,rfl,zax.sqL g2.sub h1,zax.sqL g2.sub k1,by rw[← h2.length,← k2.length];exact zch h,fun p hp=>?_⟩
      have sm:zax H2 (upd H2 p (.lst (vs++us))):=fun b o eb=>by rw[zah (by intro z;subst z;rw[hp] at eb;cases eb)];exact eb
      refine q p (vs++us) _ H02 ⟨(g1.s.trans g2.s).trans sm,g1.z.trans g2.z,g2.sub.trans sm,(g1.trans g2).nw⟩ ((g1.s.trans g2.s).free hp) ?_ zak (h2.app k2)
      cases qq:H02 p with
      | none=>rfl
      | some o=>have:=g2.sub _ _ qq;rw[hp] at this;cases this
     ·simp only[zsD,if_neg h] at q
    | _=>simp only[zsD] at q
   | _=>simp only[zsD] at q
end
theorem PT.nox {X:Cx}{e:Expr}{t:TT}(h:PT X.nox e t):PT X e t:=fun pins s σ H Q I hw =>
 wpAny_mono (h pins s σ H Q (I.wish _) hw) (fun _ _ ⟨H',I',q⟩=>⟨H',I'.unwish,q⟩) fun _ _ z=>False.elim z
section
variable {X:Cx}{c e:Expr}{es:List Expr}{fc:Ev->Res D}{fa:Ev->Res (List D)}{ga gb:Ev->Res Fl}{sa sb:Stmt}{pos:Pos}
def zps (fc:Ev->Res D)(ga gb:Ev->Res Fl):Ev->Res Fl:=fun ρ=>match fc (shr ρ) with
 | .ok (.bl b)=>if b=true then ga ρ else gb ρ
 | _=>.stuck
theorem zxW (hc:DT X.nox E0 c fc)(ha:TB X sa ga)(hb:TB X sb gb):TB X (.If c [sa] [sb] pos) (zps fc ga gb):=by
 refine⟨fun pins s σ H He H0e H₀ ρ D XE I h q hx=>?_⟩
 have hc':=PT.nox (X:=X.wish XE) hc.o
 cases e1:fc (shr ρ) with
 | stuck =>
  have e2:zps fc ga gb ρ=.stuck:=by unfold zps;rw[e1]
  rw[e2] at q;exact q.elim
 | exn x =>
  have e2:zps fc ga gb ρ=.stuck:=by unfold zps;rw[e1]
  rw[e2] at q;exact q.elim
 | ok d =>
  cases d with
  | bl b =>
   have e2:zps fc ga gb ρ=if b=true then ga ρ else gb ρ:=by unfold zps;rw[e1]
   rw[e2] at q hx
   refine wpAny_If (thn (hc' pins s σ H (fun b' H1=>b'=b/\zax H H1) (I.wish XE) ⟨frz He H₀ H,shr ρ,h.frz_le,h.looks,?_⟩) fun d s1 ⟨H1,I1,eb,hs⟩=>?_)
   ·rw[e1];exact fun H' J g=>⟨rfl,g.s⟩
   ·subst eb
    cases d with
    | true =>
     rw[if_pos rfl] at q hx
     refine wpAny_execs_cons (thn (ha.o pins s1 σ H1 He H0e H₀ ρ D XE I1.unwish (h.same hs) q hx) fun f s2 hf=>?_)
     cases f with
     | next=>exact wpAny_execs_nil hf
     | brk=>exact hf
     | cont=>exact hf
     | ret u=>exact hf
    | false =>
     rw[if_neg Bool.false_ne_true] at q hx
     refine wpAny_execs_cons (thn (hb.o pins s1 σ H1 He H0e H₀ ρ D XE I1.unwish (h.same hs) q hx) fun f s2 hf=>?_)
     cases f with
     | next=>exact wpAny_execs_nil hf
     | brk=>exact hf
     | cont=>exact hf
     | ret u=>exact hf
  | _ =>
   have e2:zps fc ga gb ρ=.stuck:=by unfold zps;rw[e1]
   rw[e2] at q;exact q.elim
end
section
variable {X:Cx}{E:XK}{e a b o:Expr}{es:List Expr}{fe fo:Ev->Res D}{fa:Ev->Res (List D)}{pos:Pos}
end
section
variable {prog:Program}{w:World}{A:Around}{E:Value->Shared->Prop}{h:Heap}{g:Array GenState}{d:Drawn}{t:Nat}{os:OsState}
variable {nm q:Str}{C N:Addr}{bs bm bmB:List Value}{hdct:Bool}{sn:List Str}{sub:List Value}{ab:Bool}{col:Option Bool}{dd:Option Addr}{k0 k1 k2 k3 k5:Option Value}{B newId initId:String}{mN:Str->Option Value}{rest:List Value}{fI:Addr}{oI:Obj}
theorem ztx {Q:Fin->Shared->Prop}(F:ExcBaseFacts B newId initId bmB)(T:OwnTail h bmB bm)(hC:h.get? C=some (excClassObj nm q C N bs bm hdct sn sub ab col dd k0 k1 k2 k3 k5 newId))(hn:h.Ns N mN)(hi:mN "__init__"=some (.ref fI))(hfI:h.get? fI=some oI)(hfc:oI.cls=.type "function")(hrest:rest.length<=sizeLine)
  (hq:∀ h' e,Heap.MadeExcOf h h' e (.ref C) rest->wpAny (model prog w) A (call (.ref fI) (.ref e::rest)) (fun r s'=>r=.none/\Q (.done (.ret (.ref e))) s') E ⟨h',g,d,t,os⟩):wpAny (model prog w) A (Builtin.«type.__call__» ⟨.ref C::rest,[]⟩) Q E ⟨h,g,d,t,os⟩:=by
 repeat (first | with_reducible refine wpAny_loadPart_at hC ?_ | with_reducible refine wpAny_madeBy_exc hC ?_ | wp_step)
 refine codeAny_call_builtin_code (Code.quiet_builtin _ F.quiet) (wpAny_check_new_subT F T hC (codeAny_exc_new_subT F T hC ?_ hrest))
 generalize hT0:({ cls:=.type "tuple",data:=.seq rest.toArray }:Obj)=o0
 generalize hX0:({ cls:=.ref C,data:=.fields #[.ref h.objs.size,.none,.none,.none,.bool false,.none] }:Obj)=o1
 have kp:∀ b o,h.get? b=some o->((h.push o0).push o1).get? b=some o:=fun b o hb=>Heap.get?_push_of_some o1 (Heap.get?_push_of_some o0 hb)
 have hget:((h.push o0).push o1).get? (h.objs.size+1)=some o1:=by subst hX0 hT0;heap_get
 have hc1:o1.cls=.ref C:=by subst hX0;rfl
 have hcC:(Value.ref C::bm).contains (.ref C)=true:=by simp
 show wpAny _ _ _ _ _ _
 unfold isInstance
 repeat (first | (with_reducible refine wpAny_loadPart_at hget ?_;try rw[hc1]) | (with_reducible refine wpAny_isSubtype_exc (kp _ _ hC) ?_;rw[hcC]) | wp_step)
 show wpAny _ _ (typeLookup (.ref C) _) _ _ _
 refine wpAny_typeLookup_tail (kp _ _ hC) (hn.keeps kp) (T.keeps kp) F.mroIs F.init.lookup ?_
 rw[hi]
 refine wpAny_holding (wpAny_bind (show wpAny _ _ (bindSpecial _ _) _ _ _ from ?_))
 unfold bindSpecial
 refine wpAny_bind (wpAny_typeOf (T:="function") ⟨_,kp _ _ hfI,hfc⟩ ?_);rw[if_pos (by decide)]
 refine wpAny_pure (wpAny_bind (wpAny_mono (hq _ (h.objs.size+1) ⟨kp,Heap.get?_none_of_le (Nat.le_succ _),h.objs.size,by rw[hX0];exact hget,Heap.get?_none_of_le (Nat.le_refl _),?_⟩) (fun r s' hr=>?_) fun _ _ x=>x))
 ·subst hT0;exact Heap.get?_push_of_some _ (Heap.get?_push_at rfl rfl)
 ·obtain⟨rfl,hQ⟩:=hr
  wp_walk
  exact hQ
theorem ztA {Q:Value->Shared->Prop}(F:ExcBaseFacts B newId initId bmB)(T:OwnTail h bmB bm)(hC:h.get? C=some (excClassObj nm q C N bs bm hdct sn sub ab col dd k0 k1 k2 k3 k5 newId))(hn:h.Ns N mN)(hi:mN "__init__"=some (.ref fI))(hfI:h.get? fI=some oI)(hfc:oI.cls=.type "function")(hrest:rest.length<=sizeLine)
  (hq:∀ h' e,Heap.MadeExcOf h h' e (.ref C) rest->wpAny (model prog w) (A.under (.builtin "type.__call__" ⟨.ref C::rest,[]⟩)) (call (.ref fI) (.ref e::rest)) (fun r s'=>r=.none/\Q (.ref e) s') E ⟨h',g,d,t,os⟩):wpAny (model prog w) A (call (.ref C) rest) Q E ⟨h,g,d,t,os⟩:=by
 have f1:=tc_lookup;have f2:=tc_bind (.ref C)
 have hT:(⟨h,g,d,t,os⟩:Shared).TypeIs (.ref C) "type":=⟨_,hC,rfl⟩
 refine wpAny_call (codeAny_of_tree (show wpAny _ _ (callAny (.ref C) _) _ _ _ from ?_))
 repeat (any_goals (first | assumption | with_reducible refine wpAny_loadPart_at hC ?_ | wp_step))
 exact⟨rfl,codeAny_call_builtin_at (Code.quiet_builtin _ (by decide +kernel)) entry_typeCall (wpAny_check_type_call_sub hC (ztx F T hC hn hi hfI hfc hrest fun h' e hm=>hq h' e hm))⟩
end
section
variable {M:Model}{A:Around}{E:Value->Shared->Prop}{env:PySem.Env}
variable {nm q:Str}{C N:Addr}{bs bm:List Value}{hdct:Bool}{sn:List Str}{sub:List Value}{ab:Bool}{col:Option Bool}{dd:Option Addr}{k0 k1 k2 k3 k5:Option Value}{newId:String}
theorem zq7 {s:Shared}{x:Sem Value}{Q:Flow->Shared->Prop}(hbase:bm.contains (.type "BaseException")=true)(hh:A.handled=none)
  (h:wpAny M A x (fun v s₁=>∃ e dc t,v=.ref e/\s₁.heap.get? C=some (excClassObj nm q C N bs bm hdct sn sub ab col dd k0 k1 k2 k3 k5 newId)/\s₁.heap.get? e=some ⟨.ref C,dc,.fields #[.ref t,.none,.none,.none,.bool false,.none],#[]⟩/\E (.ref e) s₁) E s):wpAny M A (raiseStmt env (some x) none) Q E s:=by
 have hcB:(Value.ref C::bm).contains (.type "BaseException")=true:=by rw[List.contains_cons,hbase,Bool.or_true]
 unfold raiseStmt
 refine wpAny_bind (wpAny_mono h (fun v s₁ ⟨e,dc,t,hv,hC,he,hE⟩=>?_) fun _ _ x=>x)
 subst hv
 obtain⟨hp,g,d,tk,os⟩:=s₁
 repeat (first | with_reducible refine wpAny_loadPart_at he ?_ | with_reducible refine wpAny_loadPart_at hC ?_ | (with_reducible refine wpAny_isSubtype_exc hC ?_;rw[hcB]) | wp_step)
 exact wpAny_raiseNew_none hh hE
end
def zg6:List Value->Bool
 | .ref _::r=>zg6 r
 | l=>l==[.type "ValueError",.type "Exception",.type "BaseException",.type "object"]
theorem zkT (self:Value):∀ {l:List Value},zg6 l=true->refuseLoop self "__setattr__" l=pure ()
 | [],e=>by cases e
 | x::r,e=>by
  cases x with
  | ref c=>rw[refuseLoop_ref];exact zkT self (l:=r) (by unfold zg6 at e;exact e)
  | _=>unfold zg6 at e;rw[beq_iff_eq.mp e];exact PySem.F.store_ValueError.passes self
theorem zsU:∀ {l:List Value},zg6 l=true->l.contains (.type "object")=true
 | [],e=>by cases e
 | x::r,e=>by
  cases x with
  | ref c=>rw[List.contains_cons,zsU (l:=r) (by unfold zg6 at e;exact e),Bool.or_true]
  | _=>unfold zg6 at e;rw[beq_iff_eq.mp e];decide
structure XSt (K:W.Frag) (C:Addr) (ks:List Str):Prop where
 sa:W.findIn K (.ref C) "__setattr__"=some (some (.builtin "object.__setattr__"))
 hd:W.hasDictIn K C=true
 mr:(W.clsIn K C).any (fun cd=>zg6 cd.mro)=true
 no:∀ f∈ks,zgw K C f
section
variable {prog:Program}{w:World}{A:Around}{K:W.Frag}{C x:Addr}{s:Shared}{R:Result->Shared->Prop}
theorem ztz {ox:Obj}{od:Option Obj}{name:Str}{tk:Tok}{v:Value}{ks:List Str}(X:K.In s.heap)(I:W.InstAt s.heap x ox C od)(c:XSt K C ks)(hf:name∈ks)
  (h:∀ b,wpAny (model prog w) A.in1 (Builtin.ObjectAttr.storeInOwnDict (.ref x) (.ref C) (.str name tk) name v b) (fun fin s'=>match fin with | .done f=>R (.ok f) s' | .again c'=>c'.quiet=true/\codeAny (model prog w) A c' R s') (fun e s'=>R (.error e) s') s) :
  codeAny (model prog w) A (.call (.builtin "object.__setattr__") ⟨[.ref x,.str name tk,v],[]⟩) R s:=by
 have SF:=PySem.F.store_object
 obtain⟨cd,hc,ho⟩:=W.any_some c.mr
 have ne:cd.mro.isEmpty=false:=by cases q:cd.mro with | nil=>rw[q] at ho;cases ho | cons _ _=>rfl
 have sub:W.Looks (model prog w) s.heap (isInstance (.ref x) (.type "object")) true:=I.type.andThen (W.looks_mroIn X (by unfold W.mroIn;rw[hc,Option.bind_some,if_neg (by rw[ne];decide),zsU ho]))
 refine codeAny_call_builtin SF.slot.plain SF.entry (@W.check_slot (model prog w) _ _ s "object.__setattr__" "object" "__setattr__" (.ref x) [.str name tk,v] [] _ SF.kind SF.split sub (SF.args (.ref x) (.str name tk) v) ?_)
 have hm:W.Looks (model prog w) s.heap (mroOf (.ref C)) cd.mro:=(W.looks_clsIn X hc).andThen .now
 rw[W.osa_eq,refuse_eq]
 refine wpAny_bind (wpAny_bind (I.type.here (wpAny_bind (hm.here ?_))));rw[zkT _ ho];refine wpAny_pure ?_
 have L3:W.Looks (model prog w) s.heap (Builtin.ObjectAttr.storeTaker? none) none:=.now
 have L2:W.Looks (model prog w) s.heap (typeLookup (.ref C) name) none:=W.looks_findIn X (c.no name hf)
 refine wpAny_bind (I.type.here (wpAny_bind (L2.here (wpAny_bind (L3.here ?_)))))
 exact h _
theorem zty {E:Value->Shared->Prop}{Q:Unit->Shared->Prop}{name:Str}{v:Value}{ks:List Str}{fs:Array Value}(X:K.In s.heap)(hx:s.heap.get? x=some ⟨.ref C,none,.fields fs,#[]⟩)(c:XSt K C ks)(hf:name∈ks)
  (h:∀ h',h'.get? x=some ⟨.ref C,some s.heap.objs.size,.fields fs,#[]⟩->h'.Ns1 s.heap.objs.size (fun y=>if y=name then some v else none)->(∀ b o,b≠x->s.heap.get? b=some o->h'.get? b=some o)->Q () { s with heap:=h',toks:=s.toks+2 }) :
  wpAny (model prog w) A (setAttr (.ref x) name v) Q E s:=by
 have J:W.InstAt s.heap x ⟨.ref C,none,.fields fs,#[]⟩ C none:=⟨hx,rfl,rfl,trivial⟩
 refine W.set_plain X J c.sa (ztz (s:={ s with toks:=s.toks+1 }) X J c hf fun b=>?_)
 obtain⟨cd,hc,hd'⟩:=W.any_some c.hd
 refine wpAny_bind (wpAny_pure (wpAny_bind (wpAny_bind (wpAny_loadPart hx (wpAny_bind (W.Looks.here (s:={ s with toks:=s.toks+1 }) (W.looks_clsIn X hc) ?_))))))
 rw[hd']
 have hx₁:(s.heap.push W.emptyDict).get? x=some ⟨.ref C,none,.fields fs,#[]⟩:=Heap.get?_push_of_some _ hx
 have hxs:x≠s.heap.objs.size:=Nat.ne_of_lt (Heap.lt_size hx)
 have hgd:((s.heap.push W.emptyDict).update x fun o=>{ o with dict:=some s.heap.objs.size }).get? s.heap.objs.size=some W.emptyDict:=(Heap.get?_update_ne _ _ _ _ hxs.symm).trans (Heap.get?_push_at rfl rfl)
 have hnd:((s.heap.push W.emptyDict).update x fun o=>{ o with dict:=some s.heap.objs.size }).Ns s.heap.objs.size (fun _=>none):=⟨_,#[],_,hgd,rfl,fun e he=>absurd he (by simp),fun _=>rfl⟩
 have hx2:((s.heap.push W.emptyDict).update x fun o=>{ o with dict:=some s.heap.objs.size }).get? x=some ⟨.ref C,some s.heap.objs.size,.fields fs,#[]⟩:=Heap.get?_update_self _ hx₁ rfl
 refine wpAny_bind (wpAny_alloc' (wpAny_bind (wpAny_update' hx₁ (wpAny_pure ?_))))
 refine wpAny_bind (wpAny_pure (wpAny_bind (wpAny_nsSet1 (Heap.Ns1.of_empty hnd) fun h' hn' hs=>?_)))
 obtain⟨oD,esD,epD,hoD,hdD,hcD⟩:=hn'.count (PySem.Within.cons name v PySem.Within.nil)
 refine wpAny_bind (wpAny_lookBehind hoD (by rw[hdD];exact pastItsLine_dict (Nat.le_trans hcD (by rw[List.length_cons,List.length_nil,sizeLine_eq];omega))) (wpAny_pure (h h' ?_ hn' fun b o hb e=>?_)))
 ·exact(hs.2 x hxs).trans hx2
 ·exact(hs.2 b (Nat.ne_of_lt (Heap.lt_size e))).trans ((Heap.get?_update_ne _ _ _ _ hb).trans (Heap.get?_push_of_some _ e))
end
def ExN (a C:Addr)(dc:Option Addr)(h:Heap):Prop:=∃ t,h.get? a=some ⟨.ref C,dc,.fields #[.ref t,.none,.none,.none,.bool false,.none],#[]⟩
def XDs (a:Addr)(fs:List (Str×V))(h:Heap):Prop:=∃ mA,h.Ns1 a mA/\(∀ f,ztr (fs.lookup f) (mA f))/\PySem.Within mA (fs.map (·.1))
theorem zki {a C:Addr}{dc:Option Addr}:∀ h1 h2:Heap,ExN a C dc h1->(∀ o,h1.get? a=some o->h2.get? a=some o)->ExN a C dc h2:=fun _ _ ⟨t,e⟩ k=>⟨t,k _ e⟩
theorem zra {a:Addr}{fs:List (Str×V)}:∀ h1 h2:Heap,XDs a fs h1->(∀ o,h1.get? a=some o->h2.get? a=some o)->XDs a fs h2:=fun _ _ ⟨m,n,r⟩ k=>⟨m,n.at k,r⟩
theorem zo2 {a:Addr}{fs:List (Str×V)}{h:Heap}(x:XDs a fs h):∃ o,h.get? a=some o:=let ⟨_,⟨o,_,_,e,_⟩,_⟩:=x;⟨o,e⟩
theorem ztC {a:Addr}{fs:List (Str×V)}{h:Heap}{mA:Str->Option Value}{f:Str}{y:V}{u:Value}(ry:zbP y u)(r:∀ f,ztr (fs.lookup f) (mA f))(wi:PySem.Within mA (fs.map (·.1)))(n:h.Ns1 a (fun z=>if z=f then some u else mA z)):XDs a (zn4 f y fs) h:=by
 refine⟨_,n,fun g=>?_,fun g hg=>?_⟩
 ·rw[zii]
  by_cases q:g=f
  ·rw[if_pos q];simp only[if_pos q];exact ry
  ·rw[if_neg q];simp only[if_neg q];exact r g
 ·by_cases q:g=f
  ·rw[q];exact(zin f y fs).1
  ·exact(zin f y fs).2 g (wi g fun z=>hg (by simp only[if_neg q];exact z))
section
variable {X:Cx}{o value:Expr}{f:Str}{pos pos':Pos}{ta tv:TE}
def sX1 (K:W.Frag)(ta tv:TE)(f:Str):TS:=fun D σ H=>tv σ H fun y H1=>ta σ H1 fun x H2=>∃ a C ks,x=.ref a/\H2 a=some (.ext (ExN a C none))/\XSt K C ks/\f∈ks/\∀ dx,H2 dx=none->D.nx σ (upd (upd H2 a (.ext (ExN a C (some dx)))) dx (.ext (XDs dx [(f,y)])))
theorem zyh (ha:PE X o ta)(hv:PE X value tv)(hs:swapsWith value (some (.Attribute o f pos')) pos.line X.env=pure false):PS X (.Assign [.Attribute o f pos'] value pos) (sX1 X.K ta tv f):=by
 intro pins s σ H D I h
 refine plainObj_wpAny_Assign_Attribute (thn (hv pins s σ H _ I h) fun u s1 ⟨y,H1,I1,ry,q⟩=>thn (ha pins s1 σ H1 _ I1 q) fun ov s2 ⟨x,H2,I2,rx,a,C,ks,ex,ea,c,hf,q2⟩=>?_) hs
 subst ex
 obtain rfl:ov=Value.ref a:=rx
 obtain⟨⟨t,hx⟩,_,_⟩:=(show zb6 X.prog X.w H2 s2.heap a (.ext _) from I2.hok a _ ea)
 have fr:H2 s2.heap.objs.size=none:=I2.hok.fresh (Nat.le_refl _)
 have hne:s2.heap.objs.size≠a:=fun z=>Nat.lt_irrefl _ (z▸Heap.lt_size hx)
 refine zty I2.kIn hx c hf fun h' e' n' k'=>⟨σ,_,?_,q2 s2.heap.objs.size fr⟩
 have p:XDs s2.heap.objs.size [(f,y)] h':=ztC (fs:=[]) (mA:=fun _=>none) ry (fun _=>True.intro) (fun _ z=>absurd rfl z) n'
 have mu:Mut (H2 a):=by rw[ea];exact True.intro
 have fr':(upd H2 a (.ext (ExN a C (some s2.heap.objs.size)))) s2.heap.objs.size=none:=by rw[zah hne];exact fr
 exact I2.un (Un.ext (Un.write mu (.inl rfl) (fun b q hb z=>k' b q hb z) ⟨_,e'⟩) fr' (Heap.get?_none_of_le (Nat.le_refl _))) (HOk.ext (I2.hok.write (o':=.ext (ExN a C (some s2.heap.objs.size))) mu (.inl rfl) (fun b q hb z=>k' b q hb z) ⟨_,e'⟩ ⟨⟨t,e'⟩,⟨_,e'⟩,zki⟩) fr' p (zo2 p) zra)
end
def zxY (is:List Nat):TA:=fun σ H Q=>∃ vs,is.map (fun i=>σ[i]?)=vs.map (fun v=>some (some v))/\Q vs H
structure PV (X:Cx) (es:List Expr) (is:List Nat):Prop where
 o:PA X es (zxY is)
section
variable {X:Cx}
theorem zwi:PV X [] []:=⟨fun pos pins s σ H Q I ⟨vs,e,h⟩=>by
 cases vs with
 | nil=>exact zfl pos pins s σ H Q I h
 | cons v vs=>simp at e⟩
theorem zpz {es:List Expr}{is:List Nat}{i:Nat}{y:Str}{p:Pos}(hN:X.N[i]?=some y)(hv:Vis X.env.scope y)(h:PV X es is)(hd:(y==("__debug__" : Str))=false:=by decide)(hcd:(y==("__classdict__" : Str))=false:=by decide):PV X (.Name y p::es) (i::is) :=
 ⟨fun pos pins s σ H Q I ⟨vs,e,q⟩=>by
  cases vs with
  | nil=>simp at e
  | cons v vs =>
   simp only[List.map_cons,List.cons.injEq] at e
   exact zcK (zfk hN hv hd hcd) h.o (zaC rfl) pos pins s σ H Q I ⟨v,e.1,vs,e.2,q⟩⟩
structure zvh (K:W.Frag) (CE:Addr):Prop where
 rd:W.readsIn K CE (.type "type")=true
 fc:W.findCls K (.ref CE) (.type "type") "__init__"=some (.val (.builtin "ValueError.__init__"))
 sp:W.specialIn K (.ref CE) "__getattribute__"=some (some (.builtin "type.__getattribute__"))
structure XIn (K:W.Frag) (C fn:Addr):Prop where
 ex:∃ CE nm q N bs hdct sn sub ab col dd k0 k1 k2 k3 k5,K.lookup C=some (excClassObj nm q C N bs [.ref CE,.type "ValueError",.type "Exception",.type "BaseException",.type "object"] hdct sn sub ab col dd k0 k1 k2 k3 k5 "ValueError.__new__")/\W.nsOkIn K N=true/\W.nsIn K N "__init__"=some (some (.ref fn)) /\
  W.excIn K CE [.type "ValueError",.type "Exception",.type "BaseException",.type "object"] "ValueError.__new__"=true
theorem zum {K:W.Frag}{h:Heap}{N:Addr}{mg:Str->Option Value}{n:Str}{v:Value}(X:K.In h)(G:h.Ns N mg)(e:W.nsIn K N n=some (some v)):mg n=some v:=by
 obtain⟨o,es,ep,ho,hd,_,hf⟩:=G
 unfold W.nsIn at e
 split at e
 ·rename_i c d es' n' sl q
  have:=X _ _ q
  rw[ho] at this;cases this
  cases hd
  split at e
  ·rename_i en he
   rw[← hf];unfold nsFind findBy
   rw[← Array.find?_toList,he]
   simpa using e
  ·split at e<;>cases e
 ·cases e
structure zz3 (h:Heap) (C fn:Addr):Prop where
 ex:∃ bm N nm q bs hdct sn sub ab col dd k0 k1 k2 k3 k5 mN,h.get? C=some (excClassObj nm q C N bs bm hdct sn sub ab col dd k0 k1 k2 k3 k5 "ValueError.__new__")/\h.Ns N mN/\mN "__init__"=some (.ref fn)/\OwnTail h [.type "ValueError",.type "Exception",.type "BaseException",.type "object"] bm
theorem zrl {K:W.Frag}{CE:Addr}{h:Heap}(X:K.In h)(q:W.excIn K CE [.type "ValueError",.type "Exception",.type "BaseException",.type "object"] "ValueError.__new__"=true):OwnTail h [.type "ValueError",.type "Exception",.type "BaseException",.type "object"] [.ref CE,.type "ValueError",.type "Exception",.type "BaseException",.type "object"]:=by
 unfold W.excIn at q
 split at q
 ·rename_i dd cd sl ho
  split at q
  ·simp only[Bool.and_eq_true,beq_iff_eq,Bool.not_eq_true'] at q
   obtain⟨⟨⟨⟨_,_⟩,_⟩,hok⟩,hni⟩:=q
   exact .own (X _ _ ho) (.of_isNs (W.isNs_of_in X hok)) (W.nsMap_none_of_in X hok hni) .base
  ·cases q
 ·cases q
theorem zoY {K:W.Frag}{C fn:Addr}{h:Heap}(X:K.In h)(q:XIn K C fn):zz3 h C fn:=by
 obtain⟨CE,nm,qn,N,bs,hdct,sn,sub,ab,col,dd,k0,k1,k2,k3,k5,ho,hok,hi,he⟩:=q.ex
 exact⟨_,N,nm,qn,bs,hdct,sn,sub,ab,col,dd,k0,k1,k2,k3,k5,_,X _ _ ho,.of_isNs (W.isNs_of_in X hok),zum X (.of_isNs (W.isNs_of_in X hok)) hi,zrl X he⟩
def sXI (K:W.Frag)(t:TA):TE:=fun σ H Q=>t σ H fun vs H1=>∃ a C rest fn,vs=.ref a::rest/\rest.length<=line/\H1 a=some (.ext (ExN a C none))/\XIn K C fn/\Q .non (upd H1 a (.ext (ExN a C none)))
theorem zyl {ce:Str}{CE:Addr}{np apos cpos:Pos}{e:Expr}{es:List Expr}{t:TA}{pl:Sem Bool}(b:zvh X.K CE)(hg:Gl X ce)(hm:X.mg ce=some (.ref CE))(ha:PA X (e::es) t)(hdb:(ce==("__debug__" : Str))=false:=by decide)
  (he:starEach (e::es) X.env=(false,eval e X.env)::starEach es X.env:=by exact zaC rfl)(hpl:(backTo cpos (starEach es X.env)).any (·.1)=false:=by exact za3 rfl)
  (ht:eval (.Call (.Attribute (.Name ce np) "__init__" apos) (e::es) [] cpos) X.env=(do
   let ov ← eval (.Name ce np) X.env
   standAt apos.atName
   let (f,first) ← holding [ov] (getMethod ov "__init__" pl)
   callWith cpos f first (backTo cpos (starEach (e::es) X.env)) (backToKw cpos (keywordEach [] X.env))):=by rfl) :
  PE X (.Call (.Attribute (.Name ce np) "__init__" apos) (e::es) [] cpos) (sXI X.K t):=by
 intro pins s σ H Q I h
 refine W.methodCall_KW (pl:=pl) (zgP I hg hm (W.method_cls I.kIn b.sp (W.cls_value I.kIn b.rd b.fc rfl ?_)) hdb) ht
 have I0:=I.tok (s.toks+1)
 have hA:=ha cpos pins _ σ H _ I0 h
 rw[he] at hA ⊢
 refine Calls.callWith_builtin (by show(false||(backTo cpos (starEach es X.env)).any (·.1))=false;rw[hpl];rfl) (Calls.evalArgs_plain (thn hA fun us s1 ⟨vs,H1,I1,r,a,C,rest,fn,ev,hl,ea,hx,q⟩=>?_))
 subst ev
 obtain⟨_,us',rfl,ra,r'⟩:∃ u us',us=u::us'/\zbP (.ref a) u/\zbK rest us':=by cases r with | cons r1 r2=>exact⟨_,_,rfl,r1,r2⟩
 obtain rfl:_=Value.ref a:=ra
 obtain⟨bm,N,nm,qn,bs,hdct,sn,sub,ab,col,dd,k0,k1,k2,k3,k5,mN,hC,hn,hi,T⟩:=(zoY I1.kIn hx).ex
 obtain⟨⟨t0,hae⟩,_,_⟩:=(show zb6 X.prog X.w H1 s1.heap a (.ext _) from I1.hok a _ ea)
 have F:=PySem.F.excBase_ValueError
 have hz:us'.length<=sizeLine:=by rw[← r'.length];exact zch hl
 obtain⟨hp,g,d,tk,os⟩:=s1
 refine wpAny_call (codeAny_call_builtin F.init.plain F.initEntry (wpAny_check_init_subT F T hC hae rfl ?_))
 wp_walk
 have mu:Mut (H1 a):=by rw[ea];exact True.intro
 have hne:a≠hp.objs.size:=Nat.ne_of_lt (Heap.lt_size hae)
 refine⟨.non,upd H1 a (.ext (ExN a C none)),I1.write (o:=.ext (ExN a C none)) (x:=a) (e:=a) mu (.inl rfl) (fun b u hb e=>(Heap.get?_update_other _ _ (Ne.symm hb)).trans (Heap.get?_push_of_some _ e)) ⟨_,Heap.get?_update_self _ (Heap.get?_push_of_some _ hae) rfl⟩ ⟨⟨hp.objs.size,?_⟩,⟨_,Heap.get?_update_self _ (Heap.get?_push_of_some _ hae) rfl⟩,zki⟩,rfl,q⟩
 rw[Heap.get?_update_self _ (Heap.get?_push_of_some _ hae) rfl];rfl
end
section
variable {X:Cx}
def tXR (K:W.Frag)(fs:List Str)(is:List Nat):TS:=fun D σ H=>∃ a C dx l ks vs,σ[0]?=some (some (V.ref a))/\H a=some (.ext (ExN a C (some dx)))/\H dx=some (.ext (XDs dx l))/\dx≠a/\XSt K C ks/\(∀ f∈fs,f∈ks)/\l.length+fs.length < 1000/\fs.length=vs.length /\
 is.map (fun i=>σ[i]?)=vs.map (fun v=>some (some v))/\D.nx σ (upd H dx (.ext (XDs dx (putAll fs vs l))))
structure XR (X:Cx) (sts:List Stmt) (fs:List Str) (is:List Nat):Prop where
 o:PSs X sts (tXR X.K fs is)
theorem zvz:XR X [] [] []:=⟨zcw zh6 fun D σ H ⟨a,C,dx,l,ks,vs,h1,h2,h3,h4,h5,h6,h7,h8,h9,q⟩=>by
 cases vs with
 | nil=>unfold putAll at q;rw[zmL h3] at q;exact q
 | cons v vs=>simp at h8⟩
def tXB (K:W.Frag)(ks:List Str)(is:List Nat):TS:=fun D σ H=>∃ a C fn vs,σ[0]?=some (some (V.ref a))/\H a=some (.ext (ExN a C none))/\XSt K C ks/\XIn K C fn/\ks.length=vs.length/\ks.length<=60 /\
 is.map (fun i=>σ[i]?)=vs.map (fun v=>some (some v))/\∀ dx,H dx=none->D.nx σ (upd (upd H a (.ext (ExN a C (some dx)))) dx (.ext (XDs dx (putAll ks vs []))))
structure XB (X:Cx) (sts:List Stmt) (ks:List Str) (is:List Nat):Prop where
 o:PSs X sts (tXB X.K ks is)
theorem zxT {sts:List Stmt}{fs:List Str}{is:List Nat}{f:Str}{i:Nat}{x y ce:Str}{CE:Addr}{p1 p2 p3 pos np apos cpos spos sp0:Pos}{es:List Expr}{pl:Sem Bool}(b:zvh X.K CE)(hg:Gl X ce)(hm:X.mg ce=some (.ref CE))(hpv:PV X es (i::is))(hN:X.N[i]?=some y)(hN0:X.N[0]?=some x)(hv:Vis X.env.scope y)(hv0:Vis X.env.scope x)(h:XR X sts fs is)
  (hd:(y==("__debug__" : Str))=false:=by decide)(hcd:(y==("__classdict__" : Str))=false:=by decide)(hd0:(x==("__debug__" : Str))=false:=by decide)(hcd0:(x==("__classdict__" : Str))=false:=by decide)(hdb:(ce==("__debug__" : Str))=false:=by decide)
  (hs:swapsWith (.Name y p3) (some (.Attribute (.Name x p1) f p2)) pos.line X.env=pure false:=by rfl)(hs0:swapsWith (.Call (.Attribute (.Name ce np) "__init__" apos) (.Name x sp0::es) [] cpos) none spos.line X.env=pure false:=by rfl)(hpl:(backTo cpos (starEach es X.env)).any (·.1)=false:=by exact za3 rfl)
  (ht:eval (.Call (.Attribute (.Name ce np) "__init__" apos) (.Name x sp0::es) [] cpos) X.env=(do
   let ov ← eval (.Name ce np) X.env
   standAt apos.atName
   let (f,first) ← holding [ov] (getMethod ov "__init__" pl)
   callWith cpos f first (backTo cpos (starEach (.Name x sp0::es) X.env)) (backToKw cpos (keywordEach [] X.env))):=by rfl) :
  XB X (.Expr (.Call (.Attribute (.Name ce np) "__init__" apos) (.Name x sp0::es) [] cpos) spos::.Assign [.Attribute (.Name x p1) f p2] (.Name y p3) pos::sts) (f::fs) (i::is):=by
 refine⟨zcw (zdk (zj2 (zyl b hg hm (zpz (p:=sp0) hN0 hv0 hpv hd0 hcd0).o hdb (zaC rfl) hpl ht) hs0) (zdk (zyh (zfk hN0 hv0 hd0 hcd0) (zfk hN hv hd hcd) hs) h.o)) fun D σ H ⟨a,C,fn,vs,h1,h2,h3,h4,h5,h6,h7,q⟩=>?_⟩
 refine⟨.ref a::vs,(show σ[0]?::(i::is).map (fun i=>σ[i]?)=some (some (V.ref a))::vs.map (fun v=>some (some v)) by rw[h1,h7]),a,C,vs,fn,rfl,?_,h2,h4,?_⟩
 ·have:vs.length<=60:=by omega
  exact Nat.le_trans this (by decide)
 ·cases vs with
  | nil=>simp at h5
  | cons v vs =>
   simp only[List.map_cons,List.cons.injEq] at h7
   simp only[List.length_cons] at h5 h6
   rw[zmL h2]
   refine⟨v,h7.1,.ref a,h1,a,C,f::fs,rfl,h2,h3,List.mem_cons_self,fun dx hdx=>?_⟩
   have hne:dx≠a:=fun z=>by subst z;rw[h2] at hdx;cases hdx
   refine⟨a,C,dx,[(f,v)],f::fs,vs,h1,?_,zak,hne,h3,fun g hg=>List.mem_cons_of_mem _ hg,?_,by omega,h7.2,?_⟩
   ·rw[zah hne.symm,zak]
   ·simp only[List.length_cons,List.length_nil];omega
   ·rw[zkL]
    have:=q dx hdx
    unfold putAll at this
    exact this
end
def zxE (K:W.Frag)(ks:List Str):Sp:=fun vs H Q _=>∃ a C fn args,vs=.ref a::args/\args.length=ks.length/\H a=some (.ext (ExN a C none))/\XSt K C ks/\XIn K C fn/\∀ dx,H dx=none->Q .non (upd (upd H a (.ext (ExN a C (some dx)))) dx (.ext (XDs dx (putAll ks args []))))
theorem zyD {P:Program}{w:World}{K:W.Frag}{mg:Str->Option Value}{base:Heap}{x qual:Str}{st:Stmt}{f:Addr}{fd:FuncData}{ps:List Str}{ks:List Str}(F:Fun K x qual st f fd)(S:zaw ps ps (defScope st))(hps:ps.length=ks.length+1)(hf:ks.length<=60)
  (hbody:∀ (cdv:Value) (A:Around) (outer:List PySem.Env) (s0:Shared) (H:Hp) (E:XK),XB (zhB CX0 P w K mg base ps qual (defScope st) f cdv A outer s0 H E).nox (defBody st) ks ((List.range ks.length).map (· + 1))):FnOk P w K mg base CX0 1 f fd ps (zxE K ks):=by
 refine F.ok S (fun vs H Q E h=>?_) fun cdv A outer s0 H vs Q E hr h=>?_
 ·obtain⟨a,C,fn,args,rfl,hl,_⟩:=h
  simp [hl,hps]
 ·obtain⟨a,C,fn,args,rfl,hl,hH,hC,hn,q⟩:=h
  refine⟨_,(hbody cdv A outer s0 H E).o,a,C,fn,args,?_,hH,hC,hn,hl.symm,hf,?_,q⟩
  ·unfold L2.start;simp
  ·unfold L2.start
   apply List.ext_getElem?
   intro i
   simp only[List.getElem?_map,List.map_map]
   by_cases hi:i < ks.length
   ·have hia:i < args.length:=by omega
    simp [hi,hia,List.getElem?_append_left,List.getElem?_cons_succ]
   ·have hia:¬ i < args.length:=by omega
    simp [hi,hia]
section
variable {prog:Program}{w:World}{A:Around}{E:Value->Shared->Prop}{s:Shared}{env:PySem.Env}
variable {nm q:Str}{C N:Addr}{bs bm bmB:List Value}{hdct:Bool}{sn:List Str}{sub:List Value}{ab:Bool}{col:Option Bool}{dd:Option Addr}{k0 k1 k2 k3 k5:Option Value}{B newId initId:String}{mN:Str->Option Value}{fI:Addr}{oI:Obj}
theorem zq8 (F:ExcBaseFacts B newId initId bmB){x:Str}{np cpos pos:Pos}{args:List Expr}{Q:Flow->Shared->Prop}(hbase:bm.contains (.type "BaseException")=true)(hh:A.handled=none)(hplain:(backTo cpos (starEach args env)).any (·.1)=false)(hi:mN "__init__"=some (.ref fI))
  (h:wpAny (model prog w) A (eval (.Name x np) env) (fun f s₁=>f=.ref C/\wpAny (model prog w) A (evalArgs (.ref C) true (backTo cpos (starEach args env)) []) (fun a s₂=>a.kw=[]/\a.pos.length<=sizeLine/\s₂.heap.get? C=some (excClassObj nm q C N bs bm hdct sn sub ab col dd k0 k1 k2 k3 k5 newId)/\s₂.heap.Ns N mN/\OwnTail s₂.heap bmB bm/\s₂.heap.get? fI=some oI/\oI.cls=.type "function" /\
    ∀ h' e,Heap.MadeExcOf s₂.heap h' e (.ref C) a.pos->wpAny (model prog w) (A.under (.builtin "type.__call__" ⟨.ref C::a.pos,[]⟩)) (call (.ref fI) (.ref e::a.pos)) (fun r s'=>r=.none/\s'.heap.get? C=some (excClassObj nm q C N bs bm hdct sn sub ab col dd k0 k1 k2 k3 k5 newId)/\(∃ dc t,s'.heap.get? e=some ⟨.ref C,dc,.fields #[.ref t,.none,.none,.none,.bool false,.none],#[]⟩)/\E (.ref e) s') E { s₂ with heap:=h' }) E s₁) E s) :
  wpAny (model prog w) A (exec (.Raise (some (.Call (.Name x np) args [] cpos)) none pos) env) Q E s:=by
 rw[arm_exec_Raise]
 refine wpAny_bind (wpAny_standAt (zq7 (C:=C) (nm:=nm) (q:=q) (N:=N) (bs:=bs) (bm:=bm) (hdct:=hdct) (sn:=sn) (sub:=sub) (ab:=ab) (col:=col) (dd:=dd) (k0:=k0) (k1:=k1) (k2:=k2) (k3:=k3) (k5:=k5) (newId:=newId) hbase hh (wpAny_bind (wpAny_mono (wpAny_Call_ofName (wpAny_mono h (fun f s₁ h₁=>?_) fun _ _ x=>x)) (fun v s₃ h₃=>wpAny_bind (wpAny_standAt (wpAny_pure h₃))) fun _ _ x=>x))))
 obtain⟨rfl,h₁⟩:=h₁
 unfold callWith
 refine wpAny_bind (wpAny_holding (wpAny_mono h₁ (fun⟨apos,akw⟩ s₂ ⟨hkw,hlen,hC,hn,T,hf,hfc,h₂⟩=>wpAny_bind (wpAny_standAt ?_)) fun _ _ x=>x))
 obtain rfl:akw=[]:=hkw
 obtain⟨hp,g,d,tk,os⟩:=s₂
 simp only[hplain]
 refine wpAny_bind (wpAny_keeperOf_exc hC (wpAny_bind (ztA F T hC hn hi hf hfc hlen fun h' e hm=>wpAny_mono (h₂ h' e hm) (fun r s' hr=>?_) fun _ _ z=>z)))
 obtain⟨rfl,hC',⟨dc,t,he⟩,hE⟩:=hr
 exact⟨rfl,wpAny_bind (wpAny_holding (wpAny_point (wpAny_pure ⟨e,dc,t,rfl,hC',he,hE⟩)))⟩
end
structure zvg (K:W.Frag) (x:Str) (C:Addr):Prop where
 i:zsQ K x C
 cls:W.findIn K (.ref C) "__class__"=some (some (.builtin "object.__class__"))
 ga:W.findIn K (.ref C) "__getattribute__"=some (some (.builtin "BaseException.__getattribute__"))
 gt:W.findIn K (.ref C) "__getattr__"=some none
 t1:W.subIn K (.ref C) (.type "NoneType")=some false
 t2:W.subIn K (.ref C) (.type "bool")=some false
 t3:W.subIn K (.ref C) (.type "int")=some false
 t4:W.subIn K (.ref C) (.type "str")=some false
 t5:W.subIn K (.ref C) (.type "tuple")=some false
 t6:W.subIn K (.ref C) (.type "list")=some false
 t7:W.subIn K (.ref C) (.type "dict")=some false
 ve:W.subIn K (.ref C) (.type "ValueError")=some true
 self:W.subIn K (.ref C) (.ref C)=some true
theorem zvg.xc {K:W.Frag}{x:Str}{C:Addr}(Z:zvg K x C):XC K x C :=
 ⟨Z.i.ns,⟨Z.cls,Z.ga,Z.gt,Z.i.ob,Z.i.be⟩,fun T hT=>by
  refine zwN (zmk T hT) ?_
  simp only[zeX,List.mem_cons,List.not_mem_nil,or_false] at hT
  rcases hT with rfl | rfl | rfl | rfl | rfl | rfl | rfl
  all_goals first | exact Z.t1 | exact Z.t2 | exact Z.t3 | exact Z.t4 | exact Z.t5 | exact Z.t6 | exact Z.t7⟩
theorem zvy {K:W.Frag}{C fn:Addr}{ks:List Str}(z:XIn K C fn)(sa:W.findIn K (.ref C) "__setattr__"=some (some (.builtin "object.__setattr__")))(hd:W.hasDictIn K C=true)(no:∀ f∈ks,zgw K C f):XSt K C ks:=by
 obtain⟨CE,nm,qn,N,bs,hdct,sn,sub,ab,col,dd,k0,k1,k2,k3,k5,ho,_⟩:=z.ex
 refine⟨sa,hd,?_,no⟩
 unfold W.clsIn;rw[ho];rfl
section
variable {P:Program}{w:World}{K:W.Frag}{mg:Str->Option Value}{base:Heap}{N:List Str}{qual:Str}{scope:Scope}{f:Addr}{cd:Value}{A:Around}{outer:List PySem.Env}{s0:Shared}{H0:Hp}{E:XK}{He H0e:Hp}
theorem zr9 {H:Hp}{h:Heap}{e dx:Addr}{o1 o2:HO}(ok:HOk P w (upd (upd H e o1) dx o2) h)(he:H e=none)(hd:H dx=none)(n1:∀ b,o1≠.own b)(n2:∀ b,o2≠.own b)(m1:∀ b,o1≠.tup b)(m2:∀ b,o2≠.tup b):HOk P w H h:=fun a o q=>by
 have a1:a≠e:=fun z=>by subst z;rw[he] at q;cases q
 have a2:a≠dx:=fun z=>by subst z;rw[hd] at q;cases q
 refine(ok a o (by rw[zah a2,zah a1];exact q)).stay (fun b u _ z=>z) (fun b z=>?_) fun b xs z=>?_
 ·by_cases b2:b=dx
  ·subst b2;rw[zak] at z;exact absurd (Option.some.inj z) (n2 _)
  ·rw[zah b2] at z
   by_cases b1:b=e
   ·subst b1;rw[zak] at z;exact absurd (Option.some.inj z) (n1 _)
   ·rw[zah b1] at z;exact z
 ·by_cases b2:b=dx
  ·subst b2;rw[zak] at z;exact absurd (Option.some.inj z) (m2 _)
  ·rw[zah b2] at z
   by_cases b1:b=e
   ·subst b1;rw[zak] at z;exact absurd (Option.some.inj z) (m1 _)
   ·rw[zah b1] at z;exact z
theorem Un.forget {fs:List Addr}{H H2:Hp}{h h2:Heap}(u:Un fs [] H H2 h h2):Un fs [] H H h h2:=⟨u.keep,u.slot,fun _ _ _ n _=>n,u.there,fun _ _ q=>q,fun _ _ _ q=>q,fun _ ps q=>⟨#[],by rw[q];simp⟩⟩
end
def zwF (e:DictEntry):Bool:=match e.key with
 | .str _ _=>true
 | _=>false
theorem zsS {K:W.Frag}{C CE fn N:Addr}{nm q:Str}{bs sub:List Value}{hdct ab:Bool}{sn:List Str}{col:Option Bool}{dd dn:Option Addr}{k0 k1 k2 k3 k5:Option Value}{cn:Value}{es:Array DictEntry}{ep:Nat}{st:Array (Option Value)}
  (xl:K.lookup C=some (excClassObj nm q C N bs [.ref CE,.type "ValueError",.type "Exception",.type "BaseException",.type "object"] hdct sn sub ab col dd k0 k1 k2 k3 k5 "ValueError.__new__"))(xn:K.lookup N=some ⟨cn,dn,.dict es ep,st⟩)(xk:es.toList.all zwF=true)(xv:W.nsIn K N "__init__"=some (some (.ref fn)))
  (xb:W.excIn K CE [.type "ValueError",.type "Exception",.type "BaseException",.type "object"] "ValueError.__new__"=true):XIn K C fn:=by
 refine⟨CE,nm,q,N,bs,hdct,sn,sub,ab,col,dd,k0,k1,k2,k3,k5,xl,?_,xv,xb⟩
 unfold W.nsOkIn;rw[xn]
 rw[Array.all_toList] at xk
 exact xk
def zAa (x:D):Res D:=match x with
 | .lst ds=>.ok (.lst ds.reverse)
 | _=>.stuck
section
variable {X:Cx}{E:XK}{e a st:Expr}{f:Ev->Res D}{te:TE}{pos p2:Pos}
end
def zoK (f:Ev->Res D)(lo hi:Ev->Res (Option Int)):Ev->Res D:=fun ρ=>(f ρ).bind fun x=>(lo ρ).bind fun l=>(hi ρ).bind fun h=>match x with
 | .lst ds=>.ok (.lst (zdj ds l h))
 | _=>.stuck
section
variable {X:Cx}{E:XK}{a:Expr}{f:Ev->Res D}{pos p2:Pos}
theorem znD {lo hi:Option Expr}{fl fh:Ev->Res (Option Int)}(ha:DE X E a f)(hl:DO X E lo fl)(hh:DO X E hi fh):DF X E (.Subscript a (.Slice lo hi none p2) pos) (zoK f fl fh):=by
 refine⟨zaG (zm7 zpm ha.o hl.o hh.o) fun σ H Q ⟨H₀,ρ,hs,hr,q⟩=>⟨H₀,ρ,hs,hr,?_⟩⟩
 unfold zoK at q
 cases e1:f ρ with
 | stuck=>rw[e1] at q;exact q
 | exn x=>rw[e1] at q;exact q
 | ok x =>
  rw[e1] at q
  intro v H1 H01 g1 r1
  refine⟨H01,ρ,g1.sub,hr.mono g1.z,?_⟩
  simp only[Res.bind] at q
  cases e2:fl ρ with
  | stuck=>rw[e2] at q;exact q
  | exn x=>rw[e2] at q;exact fun C ox H' H₀' g' ex=>q C ox H' H₀' (g1.trans g') ex
  | ok l =>
   rw[e2] at q
   intro H2 H02 g2
   refine⟨H02,ρ,g2.sub,(hr.mono g1.z).mono g2.z,?_⟩
   simp only[Res.bind] at q
   cases e3:fh ρ with
   | stuck=>rw[e3] at q;exact q
   | exn x=>rw[e3] at q;exact fun C ox H' H₀' g' ex=>q C ox H' H₀' ((g1.trans g2).trans g') ex
   | ok h =>
    rw[e3] at q
    intro H3 H03 g3
    simp only[Res.bind] at q
    have g:=(g1.trans g2).trans g3
    cases x with
    | lst ds =>
     simp only at q
     obtain⟨b,vs,rfl,h1,h2⟩:=Rep.lst_iff.mp ((r1.mono g2.z).mono g3.z)
     refine⟨b,vs,rfl,zax.sqL g3.sub h1,fun p hp=>?_⟩
     have h0:H03 p=none:=g3.sub.free hp
     refine q p _ _ H03 (g.trans ⟨fun b o q=>by rw[zah (zaB q hp)];exact q,zax.refl _,fun b o q=>?_,fun a h1 h2=>absurd h2 h1⟩) (g.s.free hp) h0 zak (h2.cut l h)
     rw[zah (by intro z;subst z;rw[h0] at q;cases q)];exact g3.sub _ _ q
    | _=>exact q.elim
end
section
variable {X:Cx}{E:XK}{a b o:Expr}{f g fo:Ev->Res D}{pos:Pos}
end
def zfH (x:Str)(ks:List Str)(fa:Ev->Res (List D)):Ev->Res Fl:=fun ρ=>(fa (shr ρ)).bind fun ds=>if ds.length=ks.length then .exn ⟨x,ks.zip ds⟩ else .stuck
theorem zmE {K:W.Frag}{H:Hp}:∀ {ks:List Str}{ds:List D}{vs:List V}{n:Str}{d:D},Reps K H ds vs->(ks.zip ds).lookup n=some d->∃ v,(ks.zip vs).lookup n=some v/\Rep K H d v
 | [],ds,vs,n,d,r,h=>by rw[List.zip_nil_left] at h;cases h
 | k::ks,[],vs,n,d,r,h=>by rw[List.zip_nil_right] at h;cases h
 | k::ks,e::ds,vs,n,d,r,h=>by
  obtain⟨v,vs',rfl,r1,r2⟩:=Reps.cons_iff.mp r
  rw[List.zip_cons_cons,List.lookup_cons] at h
  rw[List.zip_cons_cons]
  cases q:n==k with
  | true=>rw[q] at h;cases h;exact⟨v,by rw[List.lookup_cons,q],r1⟩
  | false =>
   rw[q] at h
   obtain⟨u,h1,h2⟩:=zmE r2 h
   exact⟨u,by rw[List.lookup_cons,q];exact h1,h2⟩
theorem HOk.xd {P:Program}{w:World}{H:Hp}{g:Heap}(ok:HOk P w H g){a:Addr}{fs:List (Str×V)}(hn:H a=none)(p:XDs a fs g):HOk P w (upd H a (.xd fs)) g:=fun b u e=>by
 by_cases hb:b=a
 ·subst hb;rw[zak] at e;cases e;obtain⟨m,n,r,_⟩:=p;exact⟨m,n,r⟩
 ·rw[zah hb] at e
  exact(ok b u e).stay (fun c v _ q=>q) (fun c q=>by rw[zah (zaB q hn)];exact q) fun c xs q=>by rw[zah (zaB q hn)];exact q
section
variable {P:Program}{w:World}{K:W.Frag}{mg:Str->Option Value}{base:Heap}{N:List Str}{qual:Str}{scope:Scope}{f:Addr}{cd:Value}{A:Around}{outer:List PySem.Env}{s0:Shared}{H0:Hp}{E:XK}{He H0e:Hp}
theorem ziv {x:Str}{C fn:Addr}{np cpos pos:Pos}{e:Expr}{es:List Expr}{fa:Ev->Res (List D)}{k:Nat}{fd:FuncData}{ps ks:List Str}(xc:XC K x C)(z:XIn K C fn)(st:XSt K C ks)(hfn:W.isFn K (.ref fn)=true)(F:FnOk P w K mg base CX0 k fn fd ps (zxE K ks))(hb:zgx K fd ps [])(hks:ks.length<=60)(hnd:ks.Nodup)(hr:zdE (k+1) (zhB (CXE P w) P w K mg base N qual scope f cd A outer s0 H0 E).A)(hm:mg x=some (.ref C))(hh:A.handled=none)
  (hg:Gl (zhB (CXE P w) P w K mg base N qual scope f cd A outer s0 H0 E) x)(ha:DA (zhB (CXE P w) P w K mg base N qual scope f cd A outer s0 H0 E) E (e::es) fa)
  (hdb:(x==("__debug__" : Str))=false:=by decide)(he:starEach (e::es) (zhB (CXE P w) P w K mg base N qual scope f cd A outer s0 H0 E).env=(false,eval e (zhB (CXE P w) P w K mg base N qual scope f cd A outer s0 H0 E).env)::starEach es (zhB (CXE P w) P w K mg base N qual scope f cd A outer s0 H0 E).env:=by exact zaC rfl)
  (hpl:(backTo cpos (starEach es (zhB (CXE P w) P w K mg base N qual scope f cd A outer s0 H0 E).env)).any (·.1)=false:=by exact za3 rfl) :
  DS (zhB (CXE P w) P w K mg base N qual scope f cd A outer s0 H0 E) E He H0e (.Raise (some (.Call (.Name x np) (e::es) [] cpos)) none pos) (zfH x ks fa):=by
 refine⟨?_⟩
 intro pins s σ H D I ⟨H₀,ρ,hr',q⟩
 obtain⟨bm,Nn,nm,qn,bs,hdct,sn,sub,ab,col,dd,k0,k1,k2,k3,k5,mN,hC,hN,hi,T⟩:=(zoY I.ok.mod.kin z).ex
 obtain⟨oI,hoI,hoc⟩:∃ oI,base.get? fn=some oI/\oI.cls=.type "function":=by
  have:=beq_iff_eq.mp hfn
  obtain⟨o,ho,hc⟩:=Option.map_eq_some_iff.mp this
  exact⟨o,I.ok.mod.kin _ _ ho,hc⟩
 refine zq8 (C:=C) (nm:=nm) (q:=qn) (N:=Nn) (bs:=bs) (bm:=bm) (hdct:=hdct) (sn:=sn) (sub:=sub) (ab:=ab) (col:=col) (dd:=dd) (k0:=k0) (k1:=k1) (k2:=k2) (k3:=k3) (k5:=k5)
  PySem.F.excBase_ValueError (mN:=mN) (oI:=oI) (T.hasType PySem.F.excBase_ValueError.hasBase) hh (by rw[he];show(false||(backTo cpos (starEach es (zhB (CXE P w) P w K mg base N qual scope f cd A outer s0 H0 E).env)).any (·.1))=false;rw[hpl];rfl) hi (zgP I hg hm ⟨rfl,?_⟩ hdb)
 have hq:zn6 K E H (frz He H₀ H) (fa (shr ρ)) (fun vs H1=>vs.length=ks.length/\∀ dx,H1 dx=none->E (.ref C) (some dx) (upd H1 dx (.xd (ks.zip vs)))):=by
  unfold zfH at q
  cases e1:fa (shr ρ) with
  | stuck=>rw[e1] at q;exact q
  | exn z=>rw[e1] at q;exact fun C ox H' H₀' g ex=>q C ox H' H₀' (hr'.frz_grow.trans g) ex
  | ok ds =>
   rw[e1] at q
   intro vs H1 H01 g rp
   have q:zbI K E He H0e H₀ (if ds.length=ks.length then Res.exn ⟨x,ks.zip ds⟩ else .stuck) D:=q
   by_cases hl:ds.length=ks.length
   ·rw[if_pos hl] at q
    refine⟨by rw[← rp.length];exact hl,fun dx hdx=>?_⟩
    have ga:=za4.alloc (o:=.xd (ks.zip vs)) g.sub hdx
    refine q (.ref C) (some dx) _ _ (hr'.frz_grow.trans (g.trans ga)) ⟨⟨C,rfl,xc⟩,ks.zip vs,zak,fun n d hn=>?_⟩
    obtain⟨v,k1,k2⟩:=zmE rp hn
    exact⟨v,k1,k2.mono ga.z⟩
   ·rw[if_neg hl] at q;exact q.elim
 have h1:=ha.o cpos pins s σ H _ I ⟨frz He H₀ H,shr ρ,hr'.frz_le,hr'.looks,hq⟩
 rw[he] at h1 ⊢
 refine Calls.evalArgs_plain (wpAny_mono h1 (fun us s2 h2=>?_) fun _ _ y=>y)
 obtain⟨vs,H1,I1,rv,hl,hE⟩:=h2
 have hz:us.length<=sizeLine:=by rw[← rv.length,hl,sizeLine_eq];omega
 refine⟨rfl,hz,I1.bk _ _ hC,hN.keeps I1.bk,T.keeps I1.bk,I1.bk _ _ hoI,hoc,fun h' ee hx=>?_⟩
 have hn:H1 ee=none:=by
  cases q:H1 ee with
  | none=>rfl
  | some o=>obtain⟨u,hu⟩:=zb6.there (I1.hok ee o q);rw[hx.new] at hu;cases hu
 obtain⟨t,ht,_,_⟩:=hx.there
 have hxn:ExN ee C none h':=⟨t,ht⟩
 have un1:Un (frs (zhB (CXE P w) P w K mg base N qual scope f cd A outer s0 H0 E).stack) [] H1 (upd H1 ee (.ext (ExN ee C none))) s2.heap h':=Un.ext (Un.kept hx.keeps) hn hx.new
 have I2:Inv (zhB (CXE P w) P w K mg base N qual scope f cd A outer s0 H0 E) pins σ (upd H1 ee (.ext (ExN ee C none))) { s2 with heap:=h' } :=
  I1.call' (ch:=[]) rfl un1 (HOk.ext (I1.hok.kept hx.keeps) hn hxn ⟨_,ht⟩ zki) I1.bare (fun _ z=>nomatch z)
 have rv2:zbK (V.ref ee::vs) (Value.ref ee::us):=.cons rfl rv
 have hsp:zxE K ks (V.ref ee::vs) (upd H1 ee (.ext (ExN ee C none))) (fun v H2=>v=.non/\∃ dx,H1 dx=none/\dx≠ee/\H2=upd (upd (upd H1 ee (.ext (ExN ee C none))) ee (.ext (ExN ee C (some dx)))) dx (.ext (XDs dx (putAll ks vs [])))) E :=
  ⟨ee,C,fn,vs,rfl,hl,zak,st,z,fun dx hdx=>by
   have c:dx≠ee:=fun c=>by rw[c,zak] at hdx;cases hdx
   rw[zah c] at hdx
   exact⟨rfl,dx,hdx,c,rfl⟩⟩
 have hl2:(Value.ref ee::us).length=ps.length:=by rw[← rv2.length];exact F.len _ _ _ _ hsp
 have hbb:=hb { s2 with heap:=h' } (Value.ref ee::us) I2.kIn (by simpa using hl2)
 rw[List.append_nil] at hbb
 refine wpAny_call (codeAny_mono (F.run _ _ { s2 with heap:=h' } _ ⟨Value.ref ee::us,[]⟩ (Value.ref ee::us) _ _ E (hr.make C us []) (I2.env0.make C us []) hbb rv2 hsp) fun r s3 hq3=>?_)
 cases r with
 | error e=>exact False.elim hq3
 | ok fl =>
  cases fl with
  | next=>exact False.elim hq3
  | brk=>exact False.elim hq3
  | cont=>exact False.elim hq3
  | ret u =>
   obtain⟨v,H2,os3,bare3,un3,hok3,rel3,rfl,dx,hdx,hdne,rfl⟩:=hq3
   obtain rfl:u=Value.none:=rel3
   rw[zkL] at hok3 un3
   have un4:=Un.forget (un1.trans un3)
   have hok4:HOk P w H1 s3.heap:=zr9 hok3 hn hdx (fun _ z=>by cases z) (fun _ z=>by cases z) (fun _ z=>by cases z) (fun _ z=>by cases z)
   obtain⟨⟨t3,ht3⟩,_,_⟩:=(show zb6 P w _ s3.heap ee (.ext (ExN ee C (some dx))) from hok3 ee _ (by rw[zah hdne.symm,zak]))
   have I3:=I1.call' (ch:=[]) os3 un4 hok4 bare3 (fun _ z=>nomatch z)
   refine⟨rfl,I3.bk _ _ hC,⟨_,t3,ht3⟩,?_⟩
   have hin:=zuK (l:=envOfC qual scope s0.heap.objs.size f cd::outer)
   have hfr:s3.heap.FunFrames (W.hideAll s3.heap (ee::frs (envOfC qual scope s0.heap.objs.size f cd::outer))) (envOfC qual scope s0.heap.objs.size f cd::outer):=W.funFrames_hide I3.stack fun env he a hf=>List.mem_cons_of_mem _ (hin env he a hf)
   have hst:(W.hideAll s3.heap (ee::frs (envOfC qual scope s0.heap.objs.size f cd::outer))).StaysIn s3.heap:=fun b o q=>W.of_hideAll _ q
   have hen:(W.hideAll s3.heap (ee::frs (envOfC qual scope s0.heap.objs.size f cd::outer))).get? ee=none:=W.hideAll_none _ (.head _)
   obtain⟨pX,_,_⟩:=(show zb6 P w _ s3.heap dx (.ext (XDs dx (putAll ks vs []))) from hok3 dx _ zak)
   rw[zji hnd (fun _ _ z=>by simp at z) hl.symm,List.nil_append] at pX
   have hok5:=HOk.xd hok4 hdx pX
   have dfresh:s2.heap.get? dx=none:=by
    cases qd:s2.heap.get? dx with
    | none=>rfl
    | some o =>
     have:=un3.free dx o (hx.keeps dx o qd) (by rw[zah hdne];exact hdx) (by simp)
     rw[zak] at this;cases this
   have un5:=Un.ext (o:=.xd (ks.zip vs)) un4 hdx dfresh
   refine zoq (a0:=.ref t3) I3.ok.frames hfr rfl ht3 hst hen rfl rfl rfl fun h4 fl4 up4 dc4=>?_
   refine zw0 rfl I1 (s1:=s3) (H1:=upd H1 dx (.xd (ks.zip vs))) os3 bare3 un5 hok5 (by rw[zah hdne.symm];exact hn) hst hfr (fun b hb hy=>?_) fl4 up4 ⟨some dx,⟨some dx,dc4,.inr rfl⟩,hE dx hdx⟩
   have hbe:b≠ee:=fun c=>by
    subst c
    rcases hy with hy | ⟨o,hy⟩
    ·exact hy (by rw[zah hdne.symm];exact hn)
    ·rw[hx.new] at hy;cases hy
   have hth:∃ o,s3.heap.get? b=some o:=by
    rcases hy with hy | ⟨o,hy⟩
    ·cases q:(upd H1 dx (.xd (ks.zip vs))) b with
     | none=>exact absurd q hy
     | some o=>exact zb6.there (hok5 b o q)
    ·exact un4.there b o hy (by simp)
   obtain⟨o,q⟩:=hth
   exact⟨o,W.hideAll_get _ q (List.not_mem_cons_of_ne_of_not_mem hbe hb)⟩
end
end DL
namespace DL
open PySem PySem.Spec PySem.Calls PySem.W PyProof.Rows Builtin Builtin.ObjectAttr Builtin.Getset_descriptor
section
variable {prog:Program}{w:World}{A:Around}{E:Value->Shared->Prop}{h:Heap}{g:Array GenState}{d:Drawn}{t:Nat}{os:OsState}{a C:Addr}{o:Obj}{od:Option Obj}{K:Frag}{name:Str}{v:Value}
theorem zq9 {tk:Tok}{Q:Fin->Shared->Prop}(X:K.In h)(J:InstAt h a o C od)(hf:findObj K C od name=some (.value v))(hq:Q (.done (.ret v)) ⟨h,g,d,t,os⟩) :
  wpAny (model prog w) A (Builtin.«object.__getattribute__» ⟨[.ref a,.str name tk],[]⟩) Q E ⟨h,g,d,t,os⟩:=by
 have L0:=J.type (M:=model prog w)
 have L1:=looks_find (M:=model prog w) X J hf
 unfold Builtin.«object.__getattribute__»
 repeat (any_goals (first | assumption | (with_reducible refine L0.at ?_) | (with_reducible refine L1.at ?_) | wp_step))
theorem ztB {tk:Tok}{R:Result->Shared->Prop}(X:K.In h)(Z:znS K C)(J:InstAt h a o C od)(hx:h.get? a=some o)(hc:o.cls=.ref C)(hf:findObj K C od name=some (.value v))(hq:R (.ok (.ret v)) ⟨h,g,d,t,os⟩) :
  codeAny (model prog w) A (.call (.builtin "BaseException.__getattribute__") ⟨[.ref a,.str name tk],[]⟩) R ⟨h,g,d,t,os⟩ :=
 codeAny_call_builtin F.attr_ValueError.ga.plain F.entry_bexc_ga (zmJ X Z hx hc (zq9 X J hf hq))
theorem zxR {tk:Tok}{b ex:Bool}{Q:Value->Shared->Prop}(X:K.In h)(Z:znS K C)(J:InstAt h a o C od)(hx:h.get? a=some o)(hc:o.cls=.ref C)(hf:findObj K C od name=some (.value v))(hh:handedIn v=true)(hq:Q v ⟨h,g,d,t,os⟩) :
  wpAny (model prog w) A (getAttrBy (.ref a) (.str name tk) b ex) Q E ⟨h,g,d,t,os⟩:=by
 have f3:=F.attr_ValueError.ga.bind (.ref a)
 have hx2:(Value.builtin "BaseException.__getattribute__"==Value.builtin "object.__getattribute__")=false:=by decide +kernel
 have hx1:(onTheHeap (Value.ref C)&&Value.builtin "BaseException.__getattribute__"==Value.builtin "object.__getattribute__")=false:=by rw[hx2];rfl
 have L1:Looks (model prog w) h (typeLookup (.ref C) "__getattribute__") (some (.builtin "BaseException.__getattribute__")):=looks_findIn X Z.ga
 have L2:Looks (model prog w) h (typeLookup (.ref C) "__getattr__") none:=looks_findIn X Z.gt
 have hho:=handedOut_of hh
 repeat (any_goals (first | assumption | (with_reducible refine wpAny_loadPart_at hx ?_;rw[hc]) | (with_reducible refine L1.at ?_) | (with_reducible refine L2.at ?_) | wp_step))
 rw[if_neg (by cases ex<;>decide)]
 repeat (any_goals (first | assumption | wp_step))
 refine ztB X Z J hx hc hf ?_
 repeat (any_goals (first | assumption | wp_step))
theorem zvA {ex:Bool}{Q:Value->Shared->Prop}(X:K.In h)(Z:znS K C)(J:InstAt h a o C od)(hx:h.get? a=some o)(hc:o.cls=.ref C)(hf:findObj K C od name=some (.value v))(hh:handedIn v=true)(hq:Q v ⟨h,g,d,t+1,os⟩) :
  wpAny (model prog w) A (getAttr (.ref a) name ex) Q E ⟨h,g,d,t,os⟩:=by
 unfold getAttr
 repeat (any_goals (first | assumption | with_reducible apply zxR X Z J hx hc hf hh | wp_step))
end
end DL
namespace DL
open PySem PySem.Spec PyProof.Rows L2
def zxB (K:W.Frag)(tab:Str->Option Bool)(f:Str):Prop:=∀ c C b,tab c=some b->XC K c C->W.hasDictIn K C=true/\zgw K C f
def zms (tab:Str->Option Bool)(f:Str)(x:D):Res D:=match x with
 | .ob (.exf c ks) ds=>(match tab c,zlK f ks ds with
  | some _,some d=>.ok d
  | _,_=>.stuck)
 | _=>.stuck
theorem zsR:∀ {ks:List Str}{vs:List V}{f:Str}{u:V},(ks.zip vs).lookup f=some u->∃ i:Nat,ks[i]?=some f/\vs[i]?=some u
 | [],vs,f,u,h=>by rw[List.zip_nil_left] at h;cases h
 | k::ks,[],f,u,h=>by rw[List.zip_nil_right] at h;cases h
 | k::ks,v::vs,f,u,h=>by
  rw[List.zip_cons_cons,List.lookup_cons] at h
  cases q:f==k with
  | true=>rw[q] at h;cases h;exact⟨0,by rw[beq_iff_eq.mp q];rfl,rfl⟩
  | false =>
   rw[q] at h
   obtain⟨i,h1,h2⟩:=zsR h
   exact⟨i+1,h1,h2⟩
section
variable {X:Cx}{E:XK}{e:Expr}{fe:Ev->Res D}{pos:Pos}{f:Str}{ta:TE}{tab:Str->Option Bool}
def zx2 (K:W.Frag)(ta:TE)(f:Str):TE:=fun σ H Q=>ta σ H fun x H1=>∃ a C dx fs v,x=.ref a/\Rd H1 a (.ext (ExD a C (some dx)))/\H1 dx=some (.xd fs)/\znS K C/\W.hasDictIn K C=true/\zgw K C f/\fs.lookup f=some v/\Q v H1
theorem zuc (he:PE X e ta)(hb:attributeBase e f X.env (eval e X.env)=eval e X.env):PE X (.Attribute e f pos) (zx2 X.K ta f):=by
 intro pins s σ H Q I h
 refine zve hb (thn (he pins s σ H _ I h) fun u s1 ⟨x,H1,I1,rx,a,C,dx,fs,v,ex,ea,ed,Z,hd,n,l,q⟩=>?_)
 subst ex
 obtain rfl:u=Value.ref a:=rx
 obtain⟨⟨o,vs,ho,hcl,hda,hdi⟩,_,_⟩:=ea.ok I1.hok
 obtain⟨mA,hn,r⟩:=(show zb6 X.prog X.w H1 s1.heap dx (.xd fs) from I1.hok dx _ ed)
 obtain⟨u',hu,ru⟩:=ztr.some_of (v:=v) (o:=mA f) (by rw[← l];exact r f)
 obtain⟨od,hod,hl⟩:=zk5 hn
 have J:W.InstAt s1.heap a o C (some od):=⟨ho,hcl,by unfold W.notCls;rw[hda],by rw[hdi];exact hod⟩
 have I2:=I1.tok (s1.toks+1)
 have K1:=I1.kIn
 obtain⟨hh,g,d,t,os⟩:=s1
 exact zvA K1 Z J ho hcl (W.findObj_own hd n rfl (by show W.lookIn f od=_;rw[hl,hu])) (zqj ru) ⟨v,H1,I2,ru,q⟩
theorem zu1 (ht:zxB X.K tab f)(he:DE X E e fe)(hb:attributeBase e f X.env (eval e X.env)=eval e X.env:=by rfl):DE X E (.Attribute e f pos) (zbv fe (zms tab f)):=by
 refine⟨zaG (zuc he.o hb) fun σ H Q ⟨H₀,ρ,hs,hr,q⟩=>⟨H₀,ρ,hs,hr,?_⟩⟩
 unfold zbv at q
 cases e1:fe ρ with
 | stuck=>rw[e1] at q;exact q
 | exn x=>rw[e1] at q;exact q
 | ok d =>
  rw[e1] at q
  intro v H1 H01 g1 r1
  replace q:post X.K E H H₀ (zms tab f d) Q:=q
  unfold zms at q
  cases d with
  | ob k ds =>
   cases k with
   | exf c ks =>
    replace q:post X.K E H H₀ (match tab c,zlK f ks ds with | some _,some d=>Res.ok d | _,_=>.stuck) Q:=q
    cases e2:tab c with
    | none=>rw[e2] at q;exact q.elim
    | some b =>
     cases e3:zlK f ks ds with
     | none=>rw[e2,e3] at q;exact q.elim
     | some d =>
      rw[e2,e3] at q
      obtain⟨p,vs,rfl,⟨C,dx,fs,h1,h2,h3,h4,h5⟩,h6⟩:=Rep.ob_iff.mp r1
      obtain⟨u,k1,k2,k3⟩:=zqn h4 h6 e3
      obtain⟨i,i1,i2⟩:=zsR k1
      obtain⟨m1,m2⟩:=ht c C b e2 h1
      exact⟨p,C,dx,fs,u,rfl,zax.rd g1.sub h2,g1.sub _ _ h3,h1.ek,m1,m2,h5 i f u i1 i2,q u H1 H01 g1 k2⟩
   | _=>exact q.elim
  | _=>exact q.elim
end
theorem ln1 {α:Type}{us:List α}(h:us.length=1):∃ a,us=[a]:=List.length_eq_one_iff.mp h
theorem ln2 {α:Type}{us:List α}(h:us.length=2):∃ a b,us=[a,b]:=by
 cases us with
 | nil=>cases h
 | cons a us=>obtain⟨b,rfl⟩:=ln1 (Nat.succ.inj h);exact⟨a,b,rfl⟩
theorem ln3 {α:Type}{us:List α}(h:us.length=3):∃ a b c,us=[a,b,c]:=by
 cases us with
 | nil=>cases h
 | cons a us=>obtain⟨b,c,rfl⟩:=ln2 (Nat.succ.inj h);exact⟨a,b,c,rfl⟩
theorem ln4 {α:Type}{us:List α}(h:us.length=4):∃ a b c d,us=[a,b,c,d]:=by
 cases us with
 | nil=>cases h
 | cons a us=>obtain⟨b,c,d,rfl⟩:=ln3 (Nat.succ.inj h);exact⟨a,b,c,d,rfl⟩
section
variable {X:Cx}{E:XK}{e o:Expr}{fe fo:Ev->Res D}{pos:Pos}
end
end DL
namespace DL
open PySem PySem.Spec PyProof.Rows L2 PySem.Builtin PySem.Builtin.Str
section
variable {prog:Program}{w:World}{A:Around}{E:Value->Shared->Prop}{s:Shared}{x y:Str}{t u:Tok}{Q:Value->Shared->Prop}
end
section
variable {X:Cx}{E:XK}{e o:Expr}{fe fo:Ev->Res D}{pos:Pos}
end
end DL
namespace DL
open PySem PySem.Spec PyProof.Rows L2
section
variable {X:Cx}{E:XK}{a b:Expr}{f g:Ev->Res D}{pos:Pos}
end
end DL
namespace DL
open PySem PySem.Spec PyProof.Rows
section
variable {prog:Program}{w:World}{A:Around}{E:Value->Shared->Prop}{s:Shared}
end
section
variable {prog:Program}{w:World}{A:Around}{E:Value->Shared->Prop}{s:Shared}
end
section
variable {prog:Program}{w:World}{A:Around}{s:Shared}
end
end DL
namespace DL
open PySem PySem.Spec PyProof.Rows L2
section
variable {X:Cx}{E:XK}{a:Expr}{f:Ev->Res D}{te:TE}{p p2 p3 pos:Pos}
end
def isE (d:D):Bool:=match d with
 | .dic [] []=>true
 | _=>false
section
variable {X:Cx}{E:XK}{pins:List (Addr×Obj)}{σ:L2.St}{H:Hp}{s:Shared}
theorem zpw (I:Inv X pins σ H s){d:D}{v:V}{u:Value}(h:isE d=true)(r:Rep X.K H d v)(q:zbP v u):∃ a,u=.ref a/\(a==sysModules)=false/\s.heap.DictOf (zj8 X.prog X.w) a []:=by
 unfold isE at h
 split at h
 ·rw[Rep] at r
  obtain⟨a,kvs,vs,h1,h2,h3,h4,h5⟩:=r
  have:kvs=[]:=by rw[h3];rfl
  subst this h1
  obtain rfl:u=Value.ref a:=q
  obtain⟨_,n1,vs',k1,d1⟩:=(show zb6 X.prog X.w H s.heap a (.dK []) from h2.ok I.hok)
  obtain rfl:vs'=[]:=by cases k1;rfl
  exact⟨a,rfl,n1,d1⟩
 ·cases h
end
section
variable {X:Cx}{E:XK}{He H0e:Hp}{e:Expr}{f:Ev->Res D}{is:List Nat}{es:List Expr}{pos:Pos}
end
structure FT (K:W.Frag) (mg:Str->Option Value) (x:Str) (st:Stmt) (ps:List Str) (a:Addr) (d:FuncData):Prop where
 F:Fun K x x st a d
 b:zgx K d ps []
 g:mg x=some (.ref a)
def QA (K:W.Frag)(x:Str)(st:Stmt)(a:Addr):Prop:=W.nsIn K mainGlobals x=some (some (.ref a))/\W.keepIn K (.ref a)=true/\∃ oc kV dc pm cd ct od an sl,K.lookup a=some ⟨oc,od,.func (W.fnOf x x (defArgs st) (defBody st) (defScope st) .none kV dc pm an cd ct),sl⟩/\W.codeIn K cd x=true
theorem zsf {K:W.Frag}{h:Heap}{mg:Str->Option Value}{x:Str}{st:Stmt}{ps:List Str}{a:Addr}(X:K.In h)(G:h.Ns mainGlobals mg)(q:QA K x st a)
  (hb:∀ (kV doc pm:Value) (an:Option Addr) (cdv ct:Value) (us:List Value),us.length=ps.length->bindArgs (W.fnOf x x (defArgs st) (defBody st) (defScope st) .none kV doc pm an cdv ct) ⟨us,[]⟩=pure (ps.zip us)) :
  ∃ d,FT K mg x st ps a d/\∃ kV doc pm an cdv ct,d=W.fnOf x x (defArgs st) (defBody st) (defScope st) .none kV doc pm an cdv ct:=by
 obtain⟨e1,e4,oc,kV,dc,pm,cd,ct,od,an,sl,e2,e3⟩:=q
 exact⟨_,⟨zno e2 e3 e4,(zno (st:=st) e2 e3 e4).binds hb,W.mg_of X G e1⟩,_,_,_,_,_,_,rfl⟩
section
variable {K:W.Frag}{h:Heap}{mg:Str->Option Value}{x:Str}{st:Stmt}{N ps:List Str}{a:Addr}(X:K.In h) (G:h.Ns mainGlobals mg) (q:QA K x st a) (S:zaw N ps (defScope st))
include X G q S in
theorem ft1 (hn:ps.length=1:=by rfl)(hb:∀ (kV doc pm:Value) (an:Option Addr) (cdv ct b:Value),bindArgs (W.fnOf x x (defArgs st) (defBody st) (defScope st) .none kV doc pm an cdv ct) ⟨[b],[]⟩=pure (ps.zip [b]):=by intros;rfl):∃ d,FT K mg x st ps a d/\∃ kV doc pm an cdv ct,d=W.fnOf x x (defArgs st) (defBody st) (defScope st) .none kV doc pm an cdv ct :=
 zsf X G q fun _ _ _ _ _ _ us hl=>by
  obtain⟨b,rfl⟩:=ln1 (hl.trans hn)
  exact hb ..
include X G q S in
theorem ft2 (hn:ps.length=2:=by rfl)(hb:∀ (kV doc pm:Value) (an:Option Addr) (cdv ct b c:Value),bindArgs (W.fnOf x x (defArgs st) (defBody st) (defScope st) .none kV doc pm an cdv ct) ⟨[b,c],[]⟩=pure (ps.zip [b,c]):=by intros;rfl):∃ d,FT K mg x st ps a d/\∃ kV doc pm an cdv ct,d=W.fnOf x x (defArgs st) (defBody st) (defScope st) .none kV doc pm an cdv ct :=
 zsf X G q fun _ _ _ _ _ _ us hl=>by
  obtain⟨b,c,rfl⟩:=ln2 (hl.trans hn)
  exact hb ..
include X G q S in
theorem ft3 (hn:ps.length=3:=by rfl)(hb:∀ (kV doc pm:Value) (an:Option Addr) (cdv ct b c d:Value),bindArgs (W.fnOf x x (defArgs st) (defBody st) (defScope st) .none kV doc pm an cdv ct) ⟨[b,c,d],[]⟩=pure (ps.zip [b,c,d]):=by intros;rfl):∃ d,FT K mg x st ps a d/\∃ kV doc pm an cdv ct,d=W.fnOf x x (defArgs st) (defBody st) (defScope st) .none kV doc pm an cdv ct :=
 zsf X G q fun _ _ _ _ _ _ us hl=>by
  obtain⟨b,c,d,rfl⟩:=ln3 (hl.trans hn)
  exact hb ..
include X G q S in
theorem ft4 (hn:ps.length=4:=by rfl)(hb:∀ (kV doc pm:Value) (an:Option Addr) (cdv ct b c d e:Value),bindArgs (W.fnOf x x (defArgs st) (defBody st) (defScope st) .none kV doc pm an cdv ct) ⟨[b,c,d,e],[]⟩=pure (ps.zip [b,c,d,e]):=by intros;rfl):∃ d,FT K mg x st ps a d/\∃ kV doc pm an cdv ct,d=W.fnOf x x (defArgs st) (defBody st) (defScope st) .none kV doc pm an cdv ct :=
 zsf X G q fun _ _ _ _ _ _ us hl=>by
  obtain⟨b,c,d,e,rfl⟩:=ln4 (hl.trans hn)
  exact hb ..
include X G q S in
include X G q S in
end
section
variable {X:Cx}{E:XK}{e:Expr}{es:List Expr}{fa:Ev->Res (List D)}{f g h i j:Ev->Res D}{pos:Pos}{CX:CXT}{k n:Nat}{fn:Addr}{fd:FuncData}{ps:List Str}{m:List D->Res D}{x:Str}{p:Pos}{st:Stmt}
theorem al1 (ρ:Ev)(ds:List D)(h:zad f zaz ρ=.ok ds):ds.length=1:=zgv (fun _ h=>zsN h) h
theorem al2 (ρ:Ev)(ds:List D)(q:zad f (zad g zaz) ρ=.ok ds):ds.length=2:=zgv (al1 ρ) q
theorem al3 (ρ:Ev)(ds:List D)(q:zad f (zad g (zad h zaz)) ρ=.ok ds):ds.length=3:=zgv (al2 ρ) q
theorem al4 (ρ:Ev)(ds:List D)(q:zad f (zad g (zad h (zad i zaz))) ρ=.ok ds):ds.length=4:=zgv (al3 ρ) q
theorem qc (F:FnOk X.prog X.w X.K X.mg X.base CX k fn fd ps (spD X.K n m))(hr:zdE k X.A)(t:FT X.K X.mg x st ps fn fd)(hx:zdP CX X E)(ha:DA X E (e::es) fa)(hl:∀ ρ ds,fa ρ=.ok ds->ds.length=(e::es).length)(hn:(e::es).length=n:=by rfl)
  (hg:Gl X x:=by exact rfl)(hdb:(x==("__debug__" : Str))=false:=by decide)(he:starEach (e::es) X.env=(false,eval e X.env)::starEach es X.env:=by exact zaC rfl)(hpl:(backTo pos (starEach es X.env)).any (·.1)=false:=by exact za3 rfl) :
  DE X E (.Call (.Name x p) (e::es) [] pos) (zan fa m):=zu4 F hr hg t.g t.F.kp t.b hx ha hn hl hdb he hpl
theorem qf (F:FnOk X.prog X.w X.K X.mg X.base CX k fn fd ps (spF X.K n m))(hr:zdE k X.A)(t:FT X.K X.mg x st ps fn fd)(hx:zdP CX X E)(ha:DA X E (e::es) fa)(hl:∀ ρ ds,fa ρ=.ok ds->ds.length=(e::es).length)(hn:(e::es).length=n:=by rfl)
  (hg:Gl X x:=by exact rfl)(hdb:(x==("__debug__" : Str))=false:=by decide)(he:starEach (e::es) X.env=(false,eval e X.env)::starEach es X.env:=by exact zaC rfl)(hpl:(backTo pos (starEach es X.env)).any (·.1)=false:=by exact za3 rfl) :
  DF X E (.Call (.Name x p) (e::es) [] pos) (zan fa m):=zuY F hr hg t.g t.F.kp t.b hx ha hn hl hdb he hpl
end
def era (a:Addr)(H:Hp):Hp:=fun b=>if b=a then none else H b
theorem zel {a b:Addr}{H:Hp}(h:b≠a):era a H b=H b:=if_neg h
theorem zci {a:Addr}{H:Hp}:era a H a=none:=if_pos rfl
structure MSx (K:W.Frag) (He H0e H₀:Hp) (σ:L2.St) (H:Hp) (ρ:Ev) (a:Addr) (st:List D) (vs:List V):Prop where
 ha:He a=none
 h0:H0e a=none
 hl:H a=some (.lst vs)
 r:Reps K H₀ st vs
 s:SRx K (upd He a (.lst vs)) H0e H₀ σ H ρ
theorem OX.he {K:W.Frag}{He He' H₀ H:Hp}{σ:L2.St}{ρ:Ev}(hn:∀ b,He b=Option.none->He' b=Option.none)(h:OX K He H₀ σ H ρ):OX K He' H₀ σ H ρ:=⟨fun i j ds e=>by
 obtain⟨a,p,h1,⟨vs,es,us,r1,r2,r3,r⟩,h2⟩:=h.1 i j ds e
 exact⟨a,p,h1,⟨vs,es,us,hn _ r1,r2,hn _ r3,r⟩,h2⟩,h.2⟩
section
variable {K:W.Frag}{He H0e H₀ H:Hp}{σ:L2.St}{ρ:Ev}{a:Addr}{st st':List D}{vs us:List V}
theorem MSx.n0 (h:MSx K He H0e H₀ σ H ρ a st vs):H₀ a=none:=by
 cases q:H₀ a with
 | none=>rfl
 | some o =>
  have:=h.s.g.nw a (by rw[q];simp) h.h0
  rw[zak] at this;cases this
theorem MSx.back (h:MSx K He H0e H₀ σ H ρ a st vs){σ':L2.St}{H' H₀':Hp}{ρ':Ev}(z:zax H₀ H₀')(s':SRx K (upd He a (.lst vs)) H0e H₀' σ' H' ρ'):MSx K He H0e H₀' σ' H' ρ' a st vs :=
 ⟨h.ha,h.h0,s'.g.s _ _ zak,h.r.mono z,s'⟩
theorem MSx.change (h:MSx K He H0e H₀ σ H ρ a st vs){H' H₀':Hp}(g:za4 (era a H) H₀ H' H₀')(n:H₀' a=none)(hl:H' a=some (.lst us))(r:Reps K H₀' st' us):MSx K He H0e H₀' σ H' ρ a st' us:=by
 have hne:∀ b,upd He a (.lst us) b=none->b≠a/\He b=none:=fun b e=>by
  by_cases c:b=a
  ·subst c;rw[zak] at e;cases e
  ·rw[zah c] at e;exact⟨c,e⟩
 have hnn:∀ b,upd He a (.lst vs) b=none->upd He a (.lst us) b=none:=fun b e=>by
  by_cases c:b=a
  ·subst c;rw[zak] at e;cases e
  ·rw[zah c] at e ⊢;exact e
 have gone:∀ b o,b≠a->H b=some o->H' b=some o:=fun b o c e=>g.s _ _ (by rw[zel c];exact e)
 have n':∀ b,H₀ b=none->(∃ o,H b=some o/\b≠a)->H₀' b=none:=fun b e ⟨o,e1,c⟩=>by
  cases q:H₀' b with
  | none=>rfl
  | some u =>
   have:=g.nw b (by rw[q];simp) e
   rw[zel c,e1] at this;cases this
 refine⟨h.ha,h.h0,hl,r,⟨⟨fun b o e=>?_,h.s.g.z.trans g.z,g.sub,fun b h1 h2=>?_⟩,h.s.rd.mono g.z,fun i d e=>?_,h.s.ap,h.s.ln,(h.s.ex.he hnn).upd (fun j s e=>.inl ⟨e,rfl⟩) g.z (fun b ws hb e=>gone b _ (hne b hb).1 e) fun p ws hp q0 hq _=>⟨gone p _ (hne p hp).1 hq,n' p q0 ⟨_,hq,(hne p hp).1⟩⟩⟩⟩
 ·by_cases c:b=a
  ·subst c;rw[zak] at e;cases e;exact hl
  ·rw[zah c] at e
   exact gone b o c (h.s.g.s _ _ (by rw[zah c];exact e))
 ·by_cases c:b=a
  ·subst c;exact absurd n h1
  ·rw[zah c]
   cases q:H₀ b with
   | some u =>
    have:=h.s.g.nw b (by rw[q];simp) h2
    rw[zah c] at this;exact this
   | none =>
    have:=g.nw b h1 q
    rw[zel c] at this
    cases q2:He b with
    | none=>rfl
    | some u=>rw[h.s.g.s b u (by rw[zah c];exact q2)] at this;cases this
 ·obtain⟨b,k1,k2,k3,k4⟩:=h.s.ow i d e
  cases d with
  | lst ds =>
   obtain⟨ws,k5,k6⟩:=k4
   have c:b≠a:=(hne b (hnn b k2)).1
   exact⟨b,k1,hnn b k2,n' b k3 ⟨_,k5,c⟩,ws,gone b _ c k5,k6.mono g.z⟩
  | _=>exact k4.elim
end
def tM (K:W.Frag)(He H0e:Hp)(a:Addr)(f:Ev->List D->Res (D×List D)):TE:=fun σ H Q=>∃ H₀ ρ st vs,MSx K He H0e H₀ σ H ρ a st vs/\match f ρ st with
 | .ok (d,st')=>∀ v H' H₀' us,zax H₀ H₀'->MSx K He H0e H₀' σ H' ρ a st' us->Rep K H₀' d v->Q v H'
 | .exn _=>False
 | .stuck=>False
def tMA (K:W.Frag)(He H0e:Hp)(a:Addr)(f:Ev->List D->Res (List D×List D)):TA:=fun σ H Q=>∃ H₀ ρ st vs,MSx K He H0e H₀ σ H ρ a st vs/\match f ρ st with
 | .ok (ds,st')=>∀ xs H' H₀' us,zax H₀ H₀'->MSx K He H0e H₀' σ H' ρ a st' us->Reps K H₀' ds xs->Q xs H'
 | .exn _=>False
 | .stuck=>False
def tMT (K:W.Frag)(He H0e:Hp)(a:Addr)(f:Ev->List D->Res (D×List D)):TT:=fun σ H Q=>∃ H₀ ρ st vs,MSx K He H0e H₀ σ H ρ a st vs/\match f ρ st with
 | .ok (.bl b,st')=>∀ H' H₀' us,zax H₀ H₀'->MSx K He H0e H₀' σ H' ρ a st' us->Q b H'
 | .ok _=>False
 | .exn _=>False
 | .stuck=>False
structure DM (X:Cx) (He H0e:Hp) (a:Addr) (e:Expr) (f:Ev->List D->Res (D×List D)):Prop where
 o:PE X e (tM X.K He H0e a f)
structure DMA (X:Cx) (He H0e:Hp) (a:Addr) (es:List Expr) (f:Ev->List D->Res (List D×List D)):Prop where
 o:PA X es (tMA X.K He H0e a f)
structure DMT (X:Cx) (He H0e:Hp) (a:Addr) (e:Expr) (f:Ev->List D->Res (D×List D)):Prop where
 o:PT X e (tMT X.K He H0e a f)
def mP (f:Ev->Res D):Ev->List D->Res (D×List D):=fun ρ st=>(f ρ).bind fun d=>.ok (d,st)
def zi5 (st:List D)(d:D):Res (D×List D):=if zkE d=true then .ok (d,st) else .stuck
def mL (f:Ev->Res D):Ev->List D->Res (D×List D):=fun ρ st=>(f (shr ρ)).bind (zi5 st)
def zlg (s:Option Sl)(a:Addr):Bool:=match s with
 | some (.pt b)=>b==a
 | _=>false
def vw (i:Nat)(ρ:Ev)(st:List D):Ev:=(shr ρ).set i (.sh (.lst st))
def mV (i:Nat)(a:Addr)(f:Ev->Res D):Ev->List D->Res (D×List D):=fun ρ st=>if zlg ρ[i]? a=true then(f (vw i ρ st)).bind (zi5 st) else .stuck
section
variable {X:Cx}{E:XK}{He H0e:Hp}{a:Addr}{e b:Expr}{es:List Expr}{pos:Pos}{f:Ev->Res D}{fm gm:Ev->List D->Res (D×List D)}{fa:Ev->List D->Res (List D×List D)}
theorem zat (he:DE X E e f):DM X He H0e a e (mP f):=⟨zaG he.o fun σ H Q ⟨H₀,ρ,st,vs,h,q⟩=>⟨H₀,ρ,h.s.g.sub,h.s.rd,by
 unfold mP at q
 cases e1:f ρ with
 | stuck=>rw[e1] at q;exact q
 | exn x=>rw[e1] at q;exact q.elim
 | ok d =>
  rw[e1] at q
  exact fun v H' H₀' g rp=>q v H' H₀' vs g.z (h.back g.z (h.s.grow g)) rp⟩⟩
theorem MSx.view {K:W.Frag}{H₀ H:Hp}{σ:L2.St}{ρ:Ev}{i:Nat}{st:List D}{vs:List V}(h:MSx K He H0e H₀ σ H ρ a st vs)(hp:zlg ρ[i]? a=true):zax (upd (frz (upd He a (.lst vs)) H₀ H) a (.lst vs)) H/\zax (frz (upd He a (.lst vs)) H₀ H) (upd (frz (upd He a (.lst vs)) H₀ H) a (.lst vs))/\Reads K (upd (frz (upd He a (.lst vs)) H₀ H) a (.lst vs)) σ (vw i ρ st):=by
 have hz:frz (upd He a (.lst vs)) H₀ H a=none:=by unfold frz;rw[zak];exact h.n0
 have z:zax (frz (upd He a (.lst vs)) H₀ H) (upd (frz (upd He a (.lst vs)) H₀ H) a (.lst vs)):=fun b o e=>by rw[zah (by intro z;subst z;rw[hz] at e;cases e)];exact e
 refine⟨fun b o e=>?_,z,fun j d e=>?_⟩
 ·by_cases c:b=a
  ·subst c;rw[zak] at e;cases e;exact h.hl
  ·rw[zah c] at e;exact h.s.frz_le _ _ e
 ·unfold vw at e
  by_cases c:i=j
  ·subst c
   unfold zlg at hp
   cases q:ρ[i]? with
   | none=>rw[q] at hp;cases hp
   | some s =>
    rw[q] at hp
    cases s with
    | pt b =>
     have hb:b=a:=eq_of_beq hp
     subst hb
     have hil:i < (shr ρ).length:=by unfold shr;rw[List.length_map];exact(List.getElem?_eq_some_iff.mp q).1
     rw[List.getElem?_set_self hil] at e
     cases e
     exact⟨_,h.s.ex.2 i b q,Rep.lst_iff.mpr ⟨b,vs,rfl,SqL.of zak,(h.r.mono h.s.frz_sub).mono z⟩⟩
    | _=>cases hp
  ·rw[List.getElem?_set_ne c] at e
   obtain⟨v,h1,h2⟩:=h.s.looks j d e
   exact⟨v,h1,h2.mono z⟩
theorem MSx.behind {K:W.Frag}{H₀ H H' J:Hp}{σ:L2.St}{ρ:Ev}{st:List D}{vs:List V}(h:MSx K He H0e H₀ σ H ρ a st vs)(g:za4 H (upd (frz (upd He a (.lst vs)) H₀ H) a (.lst vs)) H' J):zax H₀ J/\zax H₀ (zi8 H₀ J)/\MSx K He H0e (zi8 H₀ J) σ H' ρ a st vs:=by
 have hz:frz (upd He a (.lst vs)) H₀ H a=none:=by unfold frz;rw[zak];exact h.n0
 have z0:zax (frz (upd He a (.lst vs)) H₀ H) (upd (frz (upd He a (.lst vs)) H₀ H) a (.lst vs)):=fun b o e=>by rw[zah (by intro z;subst z;rw[hz] at e;cases e)];exact e
 have hJ:zax H₀ J:=h.s.frz_sub.trans (z0.trans g.z)
 have z:zax H₀ (zi8 H₀ J):=fun b o e=>by unfold zi8;rw[e]
 refine⟨hJ,z,h.back z ?_⟩
 have ja:J a=some (.lst vs):=g.z _ _ zak
 have g':za4 H (frz (upd He a (.lst vs)) H₀ H) H' (era a J):=⟨g.s,fun b o e=>by
   have c:b≠a:=by intro c;subst c;rw[hz] at e;cases e
   rw[zel c];exact g.z _ _ (z0 _ _ e),fun b o e=>by
   by_cases c:b=a
   ·subst c;rw[zci] at e;cases e
   ·rw[zel c] at e;exact g.sub _ _ e,fun b h1 h2=>by
   by_cases c:b=a
   ·subst c;exact absurd zci h1
   ·rw[zel c] at h1;exact g.nw b h1 (by rw[zah c];exact h2)⟩
 have hs:=h.s.behind g'
 have e:zi8 H₀ (era a J)=zi8 H₀ J:=by
  funext b
  unfold zi8
  by_cases c:b=a
  ·subst c;rw[h.n0,zci,ja]
  ·rw[zel c]
 rw[e] at hs
 exact hs
theorem ziw {i:Nat}(he:DE X E e f):DM X He H0e a e (mV i a f):=⟨zaG he.o fun σ H Q ⟨H₀,ρ,st,vs,h,q⟩=>by
 unfold mV at q
 by_cases hp:zlg ρ[i]? a=true
 ·rw[if_pos hp] at q
  obtain⟨v1,v2,v3⟩:=h.view hp
  refine⟨_,vw i ρ st,v1,v3,?_⟩
  cases e1:f (vw i ρ st) with
  | stuck=>rw[e1] at q;exact q
  | exn x=>rw[e1] at q;exact q.elim
  | ok d =>
   rw[e1] at q
   intro v H' J g rp
   obtain⟨hJ,z,hm⟩:=h.behind g
   replace q:match zi5 st d with
    | .ok (d,st')=>∀ v H' H₀' us,zax H₀ H₀'->MSx X.K He H0e H₀' σ H' ρ a st' us->Rep X.K H₀' d v->Q v H'
    | .exn _=>False
    | .stuck=>False:=q
   unfold zi5 at q
   by_cases fl:zkE d=true
   ·rw[if_pos fl] at q
    exact q v H' (zi8 H₀ J) vs z hm (rp.flat_to (zqY hJ) fl)
   ·rw[if_neg fl] at q;exact q.elim
 ·rw[if_neg hp] at q;exact q.elim⟩
def mB (f g:Ev->List D->Res (D×List D))(op:D->D->Res D):Ev->List D->Res (D×List D):=fun ρ st=>(f ρ st).bind fun p=>(g ρ p.2).bind fun q=>(op p.1 q.1).bind fun d=>.ok (d,q.2)
theorem ze1 {r:R2}{op:D->D->Res D}(ho:OpD X.K E r op)(σ:L2.St)(H:Hp)(Q:VK)(h:tM X.K He H0e a (mB fm gm op) σ H Q):tOp r (tM X.K He H0e a fm) (tM X.K He H0e a gm) σ H Q:=by
 obtain⟨H₀,ρ,st,vs,h,q⟩:=h
 refine⟨H₀,ρ,st,vs,h,?_⟩
 unfold mB at q
 cases e1:fm ρ st with
 | stuck=>rw[e1] at q;exact q
 | exn x=>rw[e1] at q;exact q
 | ok p =>
  obtain⟨x,s1⟩:=p
  rw[e1] at q
  intro v H1 H01 us z1 h1 r1
  refine⟨H01,ρ,s1,us,h1,?_⟩
  simp only[Res.bind] at q
  cases e2:gm ρ s1 with
  | stuck=>rw[e2] at q;exact q
  | exn x=>rw[e2] at q;exact q
  | ok p2 =>
   obtain⟨y,s2⟩:=p2
   rw[e2] at q
   intro u H2 H02 us2 z2 h2 r2
   refine ho x y v u H2 H02 Q h2.s.g.sub (r1.mono z2) r2 ?_
   simp only at q
   cases e3:op x y with
   | stuck=>rw[e3] at q;exact q
   | exn x=>rw[e3] at q;exact q.elim
   | ok d =>
    rw[e3] at q
    exact fun v' H' H₀' g rp=>q v' H' H₀' us2 ((z1.trans z2).trans g.z) (h2.back g.z (h2.s.grow g)) rp
theorem zxc {op:Operator}{r:R2}{o:D->D->Res D}(h:OpR X (binaryOp op) r)(ho:OpD X.K E r o){l:Expr}(ha:DM X He H0e a l fm)(hb:DM X He H0e a b gm):DM X He H0e a (.BinOp l op b pos) (mB fm gm o):=⟨zaG (zua h ha.o hb.o) (ze1 ho)⟩
theorem zxd {op:CmpOp}{r:R2}{o:D->D->Res D}(h:OpR X (compareOp op) r)(ho:OpD X.K E r o){l:Expr}(ha:DM X He H0e a l fm)(hb:DM X He H0e a b gm)(hm:behindInMarks op b=false):DM X He H0e a (.Compare l [op] [b] pos) (mB fm gm o):=⟨zaG (zpH h ha.o hb.o hm) (ze1 ho)⟩
theorem zyJ {r:R2}{o:D->D->Res D}(h:IxR X r)(ho:OpD X.K E r o){l:Expr}(ha:DM X He H0e a l fm)(hb:DM X He H0e a b gm)(hs:ziX b:=by intro _ _;rfl):DM X He H0e a (.Subscript l b pos) (mB fm gm o):=⟨zaG (zwu h ha.o hb.o hs) (ze1 ho)⟩
def zdh:Ev->List D->Res (List D×List D):=fun _ st=>.ok ([],st)
def zaU (f:Ev->List D->Res (D×List D))(fa:Ev->List D->Res (List D×List D)):Ev->List D->Res (List D×List D):=fun ρ st=>(f ρ st).bind fun p=>(fa ρ p.2).bind fun q=>.ok (p.1::q.1,q.2)
theorem zaL:DMA X He H0e a [] zdh:=⟨zj4 zfl fun σ H Q ⟨H₀,ρ,st,vs,h,q⟩=>q [] H H₀ vs (zax.refl _) h Reps.nil⟩
theorem zay (ha:DM X He H0e a e fm)(hr:DMA X He H0e a es fa)(hs:starEach (e::es) X.env=(false,eval e X.env)::starEach es X.env:=by exact zaC rfl):DMA X He H0e a (e::es) (zaU fm fa):=⟨zj4 (zcK ha.o hr.o hs) fun σ H Q ⟨H₀,ρ,st,vs,h,q⟩=>⟨H₀,ρ,st,vs,h,by
 unfold zaU at q
 cases e1:fm ρ st with
 | stuck=>rw[e1] at q;exact q
 | exn x=>rw[e1] at q;exact q
 | ok p =>
  obtain⟨x,s1⟩:=p
  rw[e1] at q
  intro v H1 H01 us z1 h1 r1
  refine⟨H01,ρ,s1,us,h1,?_⟩
  simp only[Res.bind] at q
  cases e2:fa ρ s1 with
  | stuck=>rw[e2] at q;exact q
  | exn x=>rw[e2] at q;exact q
  | ok p2 =>
   obtain⟨ys,s2⟩:=p2
   rw[e2] at q
   exact fun xs H2 H02 us2 z2 h2 r2=>q _ H2 H02 us2 (z1.trans z2) h2 (Reps.cons (r1.mono z2) r2)⟩⟩
def mA (fa:Ev->List D->Res (List D×List D))(m:List D->Res D):Ev->List D->Res (D×List D):=fun ρ st=>(fa ρ st).bind fun p=>(m p.1).bind fun d=>.ok (d,p.2)
end
inductive MFl where
 | nx (ρ:Ev) (st:List D) | rt (d:D) (st:List D) | bk (ρ:Ev) (st:List D) | ct (ρ:Ev) (st:List D)
structure zzs (K:W.Frag) (He H0e H₀ H:Hp) (a:Addr) (st:List D):Prop where
 g:za4 He H0e H H₀
 n:H₀ a=none
 l:∃ us,H a=some (.lst us)/\Reps K H₀ st us
def zcJ (K:W.Frag)(He H0e:Hp)(a:Addr)(H₀:Hp)(r:Res MFl)(D:zg4):Prop:=match r with
 | .ok (.nx ρ st)=>∀ σ H H₀' vs,zax H₀ H₀'->MSx K He H0e H₀' σ H ρ a st vs->D.nx σ H
 | .ok (.rt d st)=>∀ v H H₀',zax H₀ H₀'->zzs K He H0e H₀' H a st->Rep K H₀' d v->D.rt v H
 | .ok (.bk ρ st)=>∀ σ H H₀' vs,zax H₀ H₀'->MSx K He H0e H₀' σ H ρ a st vs->D.bk σ H
 | .ok (.ct ρ st)=>∀ σ H H₀' vs,zax H₀ H₀'->MSx K He H0e H₀' σ H ρ a st vs->D.ct σ H
 | .exn _=>False
 | .stuck=>False
theorem zcJ.grow {K:W.Frag}{He H0e H₀ H₁:Hp}{a:Addr}{r:Res MFl}{D:zg4}(h:zcJ K He H0e a H₀ r D)(s:zax H₀ H₁):zcJ K He H0e a H₁ r D:=by
 cases r with
 | ok f =>
  cases f with
  | nx ρ st=>exact fun σ H H₀' vs s'=>h σ H H₀' vs (s.trans s')
  | rt d st=>exact fun v H H₀' s'=>h v H H₀' (s.trans s')
  | bk ρ st=>exact fun σ H H₀' vs s'=>h σ H H₀' vs (s.trans s')
  | ct ρ st=>exact fun σ H H₀' vs s'=>h σ H H₀' vs (s.trans s')
 | exn x=>exact h
 | stuck=>exact h
def tSM (K:W.Frag)(He H0e:Hp)(a:Addr)(g:Ev->List D->Res MFl):TS:=fun D σ H=>∃ H₀ ρ st vs,MSx K He H0e H₀ σ H ρ a st vs/\zcJ K He H0e a H₀ (g ρ st) D
structure SM (X:Cx) (He H0e:Hp) (a:Addr) (st:Stmt) (g:Ev->List D->Res MFl):Prop where
 o:PS X st (tSM X.K He H0e a g)
structure SMs (X:Cx) (He H0e:Hp) (a:Addr) (st:List Stmt) (g:Ev->List D->Res MFl):Prop where
 o:PSs X st (tSM X.K He H0e a g)
section
variable {X:Cx}{E:XK}{He H0e:Hp}{a:Addr}{st:Stmt}{rest:List Stmt}{e b:Expr}{es:List Expr}{pos:Pos}{f:Ev->Res D}{fm gm:Ev->List D->Res (D×List D)}{s t:Ev->List D->Res MFl}
def zbJ:Ev->List D->Res MFl:=fun ρ st=>.ok (.nx ρ st)
def zog (t:Ev->List D->Res MFl)(r:MFl):Res MFl:=match r with
 | .nx ρ st=>t ρ st
 | r=>.ok r
def zbl (s t:Ev->List D->Res MFl):Ev->List D->Res MFl:=fun ρ st=>(s ρ st).bind (zog t)
theorem zbc:SMs X He H0e a [] zbJ:=⟨zcw zh6 fun D σ H ⟨H₀,ρ,st,vs,h,q⟩=>q σ H H₀ vs (zax.refl _) h⟩
theorem zam (h1:SM X He H0e a st s)(h2:SMs X He H0e a rest t):SMs X He H0e a (st::rest) (zbl s t):=by
 refine⟨?_⟩
 refine zcw (zdk h1.o h2.o) fun D σ H ⟨H₀,ρ,st,vs,h,q⟩=>⟨H₀,ρ,st,vs,h,?_⟩
 unfold zbl at q
 cases e1:s ρ st with
 | stuck=>rw[e1] at q;exact q
 | exn x=>rw[e1] at q;exact q
 | ok r =>
  rw[e1] at q
  cases r with
  | nx ρ' st'=>exact fun σ' H' H₀' vs' s' h'=>⟨H₀',ρ',st',vs',h',zcJ.grow (r:=t ρ' st') q s'⟩
  | rt d st'=>exact q
  | bk ρ' st'=>exact q
  | ct ρ' st'=>exact q
def zk2 (st:List D)(r:Fl):Res MFl:=match r with
 | .nx ρ=>.ok (.nx ρ st)
 | .bk ρ=>.ok (.bk ρ st)
 | .ct ρ=>.ok (.ct ρ st)
 | .rt _=>.stuck
def zcd (g:Ev->Res Fl):Ev->List D->Res MFl:=fun ρ st=>(g ρ).bind (zk2 st)
theorem zbh {g:Ev->Res Fl}(h:∀ vs,DS X E (upd He a (.lst vs)) H0e st g):SM X He H0e a st (zcd g):=by
 refine⟨?_⟩
 rintro pins sh σ H D I ⟨H₀,ρ,st,vs,hm,q⟩
 refine(h vs).o pins sh σ H D I ⟨H₀,ρ,hm.s,?_⟩
 unfold zcd at q
 cases e1:g ρ with
 | stuck=>rw[e1] at q;exact q
 | exn x=>rw[e1] at q;exact q.elim
 | ok r =>
  rw[e1] at q
  cases r with
  | nx ρ'=>exact fun σ' H' H₀' z h'=>q σ' H' H₀' vs z (hm.back z h')
  | bk ρ'=>exact fun σ' H' H₀' z h'=>q σ' H' H₀' vs z (hm.back z h')
  | ct ρ'=>exact fun σ' H' H₀' z h'=>q σ' H' H₀' vs z (hm.back z h')
  | rt d=>exact q.elim
def zuq (i:Nat)(ρ:Ev)(p:D×List D):Res MFl:=.ok (.nx (ρ.set i (.sh p.1)) p.2)
def zfp (i:Nat)(f:Ev->List D->Res (D×List D)):Ev->List D->Res MFl:=fun ρ st=>(f ρ st).bind (zuq i ρ)
theorem zbU {i:Nat}{x:Str}{pos':Pos}(hN:X.N.Nodup)(hi:X.N[i]?=some x)(hx:Loc X.env.scope x)(he:DM X He H0e a e fm)(hs:swapsWith e (some (.Name x pos')) pos.line X.env=pure false:=by rfl)
  (hf:X.fn x=true∨X.env.scope.names.lookup x=some .local := by first | exact .inl rfl | exact .inr rfl | assumption):SM X He H0e a (.Assign [.Name x pos'] e pos) (zfp i fm):=by
 refine⟨?_⟩
 refine za5 (zkV hN hi hx he.o hs hf) fun D σ H ⟨H₀,ρ,st,vs,h,q⟩=>⟨H₀,ρ,st,vs,h,?_⟩
 unfold zfp at q
 cases e1:fm ρ st with
 | stuck=>rw[e1] at q;exact q
 | exn x=>rw[e1] at q;exact q
 | ok p =>
  obtain⟨d,st'⟩:=p
  rw[e1] at q
  exact fun v H' H₀' us z h' rp=>q _ H' H₀' us z (h'.back (zax.refl _) (h'.s.put rp))
def zur (p:D×List D):Res MFl:=.ok (.rt p.1 p.2)
def zwJ (f:Ev->List D->Res (D×List D)):Ev->List D->Res MFl:=fun ρ st=>(f ρ st).bind zur
theorem MSx.out {K:W.Frag}{H₀ H:Hp}{σ:L2.St}{ρ:Ev}{st:List D}{vs:List V}(h:MSx K He H0e H₀ σ H ρ a st vs){J:Hp}(z:zax H₀ J)(hs:zax J H)(hw:∀ b,J b≠none->H₀ b=none->upd He a (.lst vs) b=none)(n:J a=none):zzs K He H0e J H a st :=
 ⟨⟨fun b o e=>h.s.g.s _ _ (by rw[zah (by intro c;subst c;rw[h.ha] at e;cases e)];exact e),h.s.g.z.trans z,hs,fun b h1 h2=>by
  have key:upd He a (.lst vs) b=none:=by
   cases q:H₀ b with
   | none=>exact hw b h1 q
   | some o=>exact h.s.g.nw b (by rw[q];simp) h2
  by_cases c:b=a
  ·subst c;exact h.ha
  ·rw[zah c] at key;exact key⟩,n,vs,h.hl,h.r.mono z⟩
theorem zsW (he:DM X He H0e a e fm):SM X He H0e a (.Return (some e) pos) (zwJ fm):=by
 refine⟨?_⟩
 refine za5 (zkW he.o) fun D σ H ⟨H₀,ρ,st,vs,h,q⟩=>⟨H₀,ρ,st,vs,h,?_⟩
 unfold zwJ at q
 cases e1:fm ρ st with
 | stuck=>rw[e1] at q;exact q
 | exn x=>rw[e1] at q;exact q
 | ok p =>
  obtain⟨d,st'⟩:=p
  rw[e1] at q
  exact fun v H' H₀' us z h' rp=>q v H' H₀' z (h'.out (zax.refl _) h'.s.g.sub (fun b h1 h2=>absurd h2 h1) h'.n0) rp
def zgN (f:Ev->Res D):Ev->List D->Res MFl:=fun ρ st=>(f (shr ρ)).bind fun d=>.ok (.rt d st)
theorem zeB (he:DE X E e f):SM X He H0e a (.Return (some e) pos) (zgN f):=by
 refine⟨?_⟩
 refine za5 (zkW he.o) fun D σ H ⟨H₀,ρ,st,vs,h,q⟩=>⟨frz (upd He a (.lst vs)) H₀ H,shr ρ,h.s.frz_le,h.s.looks,?_⟩
 unfold zgN at q
 cases e1:f (shr ρ) with
 | stuck=>rw[e1] at q;exact q
 | exn x=>rw[e1] at q;exact q.elim
 | ok d =>
  rw[e1] at q
  intro v H' J g rp
  have hz:frz (upd He a (.lst vs)) H₀ H a=none:=by unfold frz;rw[zak];exact h.n0
  have z:zax H₀ J:=h.s.frz_sub.trans g.z
  have n:J a=none:=by
   cases qq:J a with
   | none=>rfl
   | some o=>have:=g.nw a (by rw[qq];simp) hz;rw[h.hl] at this;cases this
  have hg:=h.s.frz_grow.trans g
  refine q v H' J z ⟨⟨fun b o e=>hg.s _ _ (by rw[zah (by intro c;subst c;rw[h.ha] at e;cases e)];exact e),hg.z,hg.sub,fun b h1 h2=>?_⟩,n,vs,g.s _ _ h.hl,h.r.mono z⟩ rp
  have key:=hg.nw b h1 h2
  by_cases c:b=a
  ·subst c;exact h.ha
  ·rw[zah c] at key;exact key
def zxJ (s t:Ev->List D->Res MFl)(ρ:Ev)(p:D×List D):Res MFl:=match p.1 with
 | .bl b=>if b=true then s ρ p.2 else t ρ p.2
 | _=>.stuck
def mIf (c:Ev->List D->Res (D×List D))(s t:Ev->List D->Res MFl):Ev->List D->Res MFl:=fun ρ st=>(c ρ st).bind (zxJ s t ρ)
theorem zn0 {c:Expr}{sa sb:List Stmt}(hc:DMT X He H0e a c fm)(ha:SMs X He H0e a sa s)(hb:SMs X He H0e a sb t):SM X He H0e a (.If c sa sb pos) (mIf fm s t):=by
 refine⟨?_⟩
 refine za5 (zwl hc.o ha.o hb.o) fun D σ H ⟨H₀,ρ,st,vs,h,q⟩=>⟨H₀,ρ,st,vs,h,?_⟩
 unfold mIf at q
 cases e1:fm ρ st with
 | stuck=>rw[e1] at q;exact q
 | exn x=>rw[e1] at q;exact q
 | ok p =>
  obtain⟨d,st'⟩:=p
  rw[e1] at q
  cases d with
  | bl b =>
   intro H' H₀' us z h'
   replace q:zcJ X.K He H0e a H₀ (if b=true then s ρ st' else t ρ st') D:=q
   cases b with
   | true=>rw[if_pos rfl] at q ⊢;exact⟨H₀',ρ,st',us,h',q.grow z⟩
   | false=>rw[if_neg Bool.false_ne_true] at q ⊢;exact⟨H₀',ρ,st',us,h',q.grow z⟩
  | _=>exact q.elim
end
section
variable {X:Cx}{E:XK}{He H0e:Hp}{a:Addr}{st:Stmt}{e l b:Expr}{rest es:List Expr}{pos:Pos}{f:Ev->Res D}{fm gm:Ev->List D->Res (D×List D)}{s t:Ev->List D->Res MFl}
theorem zqB (h:PT X e (tB (tM X.K He H0e a fm))):DMT X He H0e a e fm:=by
 refine⟨?_⟩
 refine zdY h fun σ H Q ⟨H₀,ρ,st,vs,h,q⟩=>⟨H₀,ρ,st,vs,h,?_⟩
 cases e1:fm ρ st with
 | stuck=>rw[e1] at q;exact q
 | exn x=>rw[e1] at q;exact q
 | ok p =>
  obtain⟨d,st'⟩:=p
  rw[e1] at q
  intro v H1 H01 us z h1 r1
  cases d with
  | bl b=>rw[Rep.bl_iff.mp r1];exact⟨b,rfl,q H1 H01 us z h1⟩
  | _=>exact q.elim
theorem zuV (h:DM X He H0e a e fm)(he:∀ whole,isTrue e X.env whole=(do let v ← whole;standAt e.pos;holding [v] (truthy v)):=by intro _;rfl):DMT X He H0e a e fm:=zqB (zs4 h.o he)
theorem zmq {op:CmpOp}{r:R2}{o:D->D->Res D}(h:OpR X (compareOp op) r)(ho:OpD X.K E r o)(ha:DM X He H0e a l fm)(hb:DM X He H0e a b gm)(hm:behindInMarks op b=false):DMT X He H0e a (.Compare l [op] [b] pos) (mB fm gm o):=by
 refine⟨?_⟩
 refine zdY (zpA h ha.o hb.o hm) fun σ H Q h=>?_
 have w:tM X.K He H0e a (mB fm gm o) σ H fun x H'=>∃ k,x=.bl k/\Q k H':=by
  obtain⟨H₀,ρ,st,vs,h,q⟩:=h
  refine⟨H₀,ρ,st,vs,h,?_⟩
  cases e1:mB fm gm o ρ st with
  | stuck=>rw[e1] at q;exact q
  | exn x=>rw[e1] at q;exact q
  | ok p =>
   obtain⟨d,st'⟩:=p
   rw[e1] at q
   intro v H1 H01 us z h1 r1
   cases d with
   | bl b=>rw[Rep.bl_iff.mp r1];exact⟨b,rfl,q H1 H01 us z h1⟩
   | _=>exact q.elim
 exact ze1 ho σ H _ w
def mT (f:Ev->Res D):Ev->List D->Res (D×List D):=fun ρ st=>(f (shr ρ)).bind fun d=>.ok (d,st)
theorem zkl (h:DT X E e f):DMT X He H0e a e (mT f):=⟨zdY h.o fun σ H Q ⟨H₀,ρ,st,vs,h,q⟩=>⟨frz (upd He a (.lst vs)) H₀ H,shr ρ,h.s.frz_le,h.s.looks,by
 unfold mT at q
 cases e1:f (shr ρ) with
 | stuck=>rw[e1] at q;exact q
 | exn x=>rw[e1] at q;exact q.elim
 | ok d =>
  rw[e1] at q
  cases d with
  | bl b=>exact fun H' J g=>q H' H₀ vs (zax.refl _) (h.back (zax.refl _) (h.s.same g.s))
  | _=>exact q.elim⟩⟩
def mTV (i:Nat)(a:Addr)(f:Ev->Res D):Ev->List D->Res (D×List D):=fun ρ st=>if zlg ρ[i]? a=true then(f (vw i ρ st)).bind fun d=>.ok (d,st) else .stuck
theorem zsy {i:Nat}(h:DT X E e f):DMT X He H0e a e (mTV i a f):=⟨zdY h.o fun σ H Q ⟨H₀,ρ,st,vs,h,q⟩=>by
 unfold mTV at q
 by_cases hp:zlg ρ[i]? a=true
 ·rw[if_pos hp] at q
  obtain⟨v1,v2,v3⟩:=h.view hp
  refine⟨_,vw i ρ st,v1,v3,?_⟩
  cases e1:f (vw i ρ st) with
  | stuck=>rw[e1] at q;exact q
  | exn x=>rw[e1] at q;exact q.elim
  | ok d =>
   rw[e1] at q
   cases d with
   | bl b=>exact fun H' J g=>q H' H₀ vs (zax.refl _) (h.back (zax.refl _) (h.s.same g.s))
   | _=>exact q.elim
 ·rw[if_neg hp] at q;exact q.elim⟩
structure DMW (X:Cx) (He H0e:Hp) (a:Addr) (e:Expr) (f:Ev->List D->Res (D×List D)):Prop where
 o:PW X e (tMT X.K He H0e a f)
def zrV (g:Ev->List D->Res (D×List D))(ρ:Ev)(p:D×List D):Res (D×List D):=match p.1 with
 | .bl b=>if b=true then g ρ p.2 else .ok (.bl false,p.2)
 | _=>.stuck
def zzS (f g:Ev->List D->Res (D×List D)):Ev->List D->Res (D×List D):=fun ρ st=>(f ρ st).bind (zrV g ρ)
def forM (tg:Ev->D->Res Ev)(body:Ev->List D->Res MFl):List D->Ev->List D->Res MFl
 | [],ρ,st=>.ok (.nx ρ st)
 | d::r,ρ,st=>(tg ρ d).bind fun ρ1=>(body ρ1 st).bind fun x=>match x with
  | .nx ρ2 s2=>forM tg body r ρ2 s2
  | .ct ρ2 s2=>forM tg body r ρ2 s2
  | .bk ρ2 s2=>.ok (.nx ρ2 s2)
  | .rt d s=>.ok (.rt d s)
def tGM (K:W.Frag)(He H0e:Hp)(a:Addr)(tg:Ev->D->Res Ev):TG:=fun v σ H Q=>∃ H₀ ρ st vs d,MSx K He H0e H₀ σ H ρ a st vs/\Rep K H₀ d v/\match tg ρ d with
  | .ok ρ'=>∀ σ' H' H₀',zax H₀ H₀'->MSx K He H0e H₀' σ' H' ρ' a st vs->Q σ' H'
  | _=>False
theorem zzc {tgt:Expr}{tg:Ev->D->Res Ev}(hg:∀ vs,DG X E (upd He a (.lst vs)) H0e tgt tg):PG X tgt (tGM X.K He H0e a tg):=by
 rintro pins sh σ H v u Q I r ⟨H₀,ρ,st,vs,d,h,rp,q⟩
 refine(hg vs).o pins sh σ H v u Q I r ⟨H₀,ρ,d,h.s,rp,?_⟩
 cases e1:tg ρ d with
 | stuck=>rw[e1] at q;exact q
 | exn x=>rw[e1] at q;exact q
 | ok ρ' =>
  rw[e1] at q
  exact fun σ' H' H₀' z h'=>q σ' H' H₀' z (h.back z h')
def zkD (K:W.Frag)(He H0e:Hp)(a:Addr)(H₁:Hp)(tg:Ev->D->Res Ev)(s:Ev->List D->Res MFl)(ds:List D)(D':zg4)(i:Nat)(σ:L2.St)(H:Hp):Prop :=
 ∃ H₀ ρ st vs,zax H₁ H₀/\MSx K He H0e H₀ σ H ρ a st vs/\zcJ K He H0e a H₀ (forM tg s (ds.drop i) ρ st) D'
theorem zkD.done {K:W.Frag}{H₁:Hp}{tg:Ev->D->Res Ev}{ds:List D}{D':zg4}{σ:L2.St}{H:Hp}(h:zkD K He H0e a H₁ tg s ds D' ds.length σ H):D'.nx σ H:=by
 obtain⟨H₀,ρ,st,vs,z,h,q⟩:=h
 rw[List.drop_length] at q
 unfold forM at q
 exact q σ H H₀ vs (zax.refl _) h
def zb7 (c:Ev->List D->Res (D×List D))(s:Ev->List D->Res MFl):Nat->Ev->List D->Res MFl
 | 0,_,_=>.stuck
 | n+1,ρ,st=>(c ρ st).bind fun p=>match p.1 with
  | .bl b=>if b=true then(s ρ p.2).bind fun x=>match x with
    | .nx ρ2 s2=>zb7 c s n ρ2 s2
    | .ct ρ2 s2=>zb7 c s n ρ2 s2
    | .bk ρ2 s2=>.ok (.nx ρ2 s2)
    | .rt d s2=>.ok (.rt d s2)
   else .ok (.nx ρ p.2)
  | _=>.stuck
def zp4 (fuel:Ev->Nat)(c:Ev->List D->Res (D×List D))(s:Ev->List D->Res MFl):Ev->List D->Res MFl:=fun ρ st=>zb7 c s (fuel ρ) ρ st
theorem zrr (fuel:Ev->Nat){c:Expr}{body:List Stmt}(hp:PassesOwn (model X.prog X.w) X.A X.env X.xe)(hc:DMT X He H0e a c fm)(hb:SMs X He H0e a body s):SM X He H0e a (.While c body [] pos) (zp4 fuel fm s):=by
 refine⟨?_⟩
 refine za5 (zm4 hp hc.o hb.o) fun D' σ H ⟨H₀,ρ,st,vs,h,q⟩=>?_
 refine⟨fun m σ H=>∃ H₀ ρ st vs,MSx X.K He H0e H₀ σ H ρ a st vs/\zcJ X.K He H0e a H₀ (zb7 fm s m ρ st) D',⟨fuel ρ,H₀,ρ,st,vs,h,q⟩,?_⟩
 rintro m σ1 H1 ⟨H01,ρ1,st1,vs1,h1,q1⟩
 cases m with
 | zero=>exact q1.elim
 | succ m =>
  refine⟨H01,ρ1,st1,vs1,h1,?_⟩
  unfold zb7 at q1
  cases e1:fm ρ1 st1 with
  | stuck=>rw[e1] at q1;exact q1
  | exn x=>rw[e1] at q1;exact q1
  | ok p =>
   obtain⟨d,s1⟩:=p
   rw[e1] at q1
   cases d with
   | bl b =>
    intro H2 H02 us2 z2 h2
    replace q1:zcJ X.K He H0e a H01 (if b=true then(s ρ1 s1).bind fun x=>match x with
      | .nx ρ2 s2=>zb7 fm s m ρ2 s2
      | .ct ρ2 s2=>zb7 fm s m ρ2 s2
      | .bk ρ2 s2=>.ok (.nx ρ2 s2)
      | .rt d s2=>.ok (.rt d s2)
     else .ok (.nx ρ1 s1)) D':=q1
    cases b with
    | false =>
     rw[if_neg Bool.false_ne_true] at q1 ⊢
     exact q1 σ1 H2 H02 us2 z2 h2
    | true =>
     rw[if_pos rfl] at q1 ⊢
     refine⟨fun σ' H'=>∃ m',m' < m+1/\∃ H₀ ρ st vs,MSx X.K He H0e H₀ σ' H' ρ a st vs/\zcJ X.K He H0e a H₀ (zb7 fm s m' ρ st) D',fun σ' H' z=>z,H02,ρ1,s1,us2,h2,?_⟩
     replace q1:=zcJ.grow q1 z2
     cases e2:s ρ1 s1 with
     | stuck=>rw[e2] at q1;exact q1
     | exn x=>rw[e2] at q1;exact q1
     | ok r =>
      rw[e2] at q1
      cases r with
      | nx ρ2 s2=>exact fun σ3 H3 H03 vs3 z3 h3=>⟨m,Nat.lt_succ_self _,H03,ρ2,s2,vs3,h3,zcJ.grow (r:=zb7 fm s m ρ2 s2) q1 z3⟩
      | ct ρ2 s2=>exact fun σ3 H3 H03 vs3 z3 h3=>⟨m,Nat.lt_succ_self _,H03,ρ2,s2,vs3,h3,zcJ.grow (r:=zb7 fm s m ρ2 s2) q1 z3⟩
      | bk ρ2 s2=>exact q1
      | rt d s2=>exact q1
   | _=>exact q1.elim
end
section
variable {X:Cx}{E:XK}{He H0e:Hp}{a:Addr}{st:Stmt}{e l b:Expr}{rest es:List Expr}{pos:Pos}{f:Ev->Res D}{fm gm:Ev->List D->Res (D×List D)}{fa:Ev->List D->Res (List D×List D)}{s t:Ev->List D->Res MFl}
def zoh (i:Nat)(ρ:Ev)(ds:List D)(p:D×List D):Res MFl:=if ds.length < line then .ok (.nx (ρ.set i (.ow (.lst (ds++[p.1])))) p.2) else .stuck
def zxG (s:Option Sl)(k:List D->Res MFl):Res MFl:=match s with
 | some (.ow (.lst ds))=>k ds
 | _=>.stuck
def zuu (i:Nat)(f:Ev->List D->Res (D×List D)):Ev->List D->Res MFl:=fun ρ st=>zxG ρ[i]? fun ds=>(f ρ st).bind (zoh i ρ ds)
theorem zkN {i:Nat}{x:Str}{p1 p2 p3:Pos}(hN:X.N[i]?=some x)(hv:Vis X.env.scope x)(he:DM X He H0e a e fm)
  (hd:(x==("__debug__" : Str))=false:=by decide)(hcd:(x==("__classdict__" : Str))=false:=by decide)
  (hbase:attributeBase (.Name x p1) "append" X.env (eval (.Name x p1) X.env)=eval (.Name x p1) X.env:=by rfl)
  (hfew:((backTo p3 (starEach [e] X.env)).all (fun x=>!x.1)&&(backToKw p3 (keywordEach [] X.env)).all (fun x=>x.1.isSome)
  &&decide ([e].length+([]:List Keyword).length+(if([]:List Keyword).isEmpty then 0 else 1) < 30))=true:=by exact zkh rfl)
  (hline:(p2.endLine==p3.line)=true:=by rfl) (hs:starEach [e] X.env=(false,eval e X.env)::starEach [] X.env:=by exact zaC rfl) (hplain:(backTo p3 (starEach [] X.env)).any (·.1)=false:=by exact za3 rfl)
  (hw:swapsWith (.Call (.Attribute (.Name x p1) "append" p2) [e] [] p3) none pos.line X.env=pure false:=by rfl) :
  SM X He H0e a (.Expr (.Call (.Attribute (.Name x p1) "append" p2) [e] [] p3) pos) (zuu i fm):=by
 refine⟨?_⟩
 refine za5 (zj2 (zud PySem.F.plainAttrs_list PySem.F.slot_list_append PySem.F.type_list_append zih (zfk hN hv hd hcd) (zcK he.o zfl hs) hbase hfew hline hs hplain) hw) fun D σ H ⟨H₀,ρ,st,vs,h,q⟩=>?_
 unfold zuu zxG at q
 cases e0:ρ[i]? with
 | none=>rw[e0] at q;exact q.elim
 | some sl =>
  rw[e0] at q
  cases sl with
  | ow d =>
   cases d with
   | lst ds =>
    obtain⟨p,k1,k2,k3,ws,k4,k5⟩:=h.s.ow i _ e0
    refine⟨.ref p,k1,.inl ⟨rfl,ws,SqL.of k4⟩,?_⟩
    refine⟨H₀,ρ,st,vs,h,?_⟩
    replace q:zcJ X.K He H0e a H₀ ((fm ρ st).bind (zoh i ρ ds)) D:=q
    cases e1:fm ρ st with
    | stuck=>rw[e1] at q;exact q
    | exn x=>rw[e1] at q;exact q
    | ok pr =>
     obtain⟨d,st'⟩:=pr
     rw[e1] at q
     intro v H' H₀' us z h' rp
     obtain⟨p',k1',k2',k3',ws',k4',k5'⟩:=h'.s.ow i _ e0
     rw[k1] at k1';cases k1'
     replace q:zcJ X.K He H0e a H₀ (zoh i ρ ds (d,st')) D:=q
     unfold zoh at q
     by_cases hl:ds.length < line
     ·rw[if_pos hl] at q
      refine⟨p,ws',v,rfl,rfl,k4',by rw[← k5'.length];exact Nat.lt_of_lt_of_le hl (by decide),?_⟩
      have hpa:p≠a:=by intro c;subst c;rw[zak] at k2';cases k2'
      exact q σ _ H₀' us z ⟨h'.ha,h'.h0,by rw[zah (Ne.symm hpa)];exact h'.hl,h'.r,h'.s.write e0 k1 (k5'.app (Reps.cons rp Reps.nil))⟩
     ·rw[if_neg hl] at q;exact q.elim
   | _=>exact q.elim
  | _=>exact q.elim
def zh5 (ρ:Ev)(d:D)(p:D×List D):Res MFl:=match p.1 with
 | .int j=>match ixN p.2.length j with
  | some n=>.ok (.nx ρ (p.2.set n d))
  | none=>.stuck
 | _=>.stuck
def zta (i:Nat)(a:Addr)(f k:Ev->List D->Res (D×List D)):Ev->List D->Res MFl:=fun ρ st=>if zlg ρ[i]? a=true then(f ρ st).bind fun p=>(k ρ p.2).bind (zh5 ρ p.1) else .stuck
theorem zqe {s:Option Sl}{a:Addr}(h:zlg s a=true):s=some (.pt a):=by
 unfold zlg at h
 split at h
 ·rw[eq_of_beq h]
 ·cases h
theorem zpj {i:Nat}{x:Str}{p1 p2:Pos}(hN:X.N[i]?=some x)(hv:Vis X.env.scope x)(he:DM X He H0e a e fm)(hk:DM X He H0e a b gm)
  (hd:(x==("__debug__" : Str))=false:=by decide)(hcd:(x==("__classdict__" : Str))=false:=by decide)
  (ha:∀ v,assign (.Subscript (.Name x p1) b p2) X.env v=(do
   let ov ← holding [v] (eval (.Name x p1) X.env)
   let iv ← holding [v,ov] (eval b X.env)
   standAt p2
   holding [v,ov,iv] (setItem ov iv v)
   release [v,ov,iv] []):=by intro _;rfl)
  (hs:swapsWithSole [.Subscript (.Name x p1) b p2] e pos.line X.env=pure false:=by rfl) (hw:swappedStores [.Subscript (.Name x p1) b p2] e X.env=pure none:=by rfl)
  (h1:(assignEach [.Subscript (.Name x p1) b p2] X.env).map (·.2)=[assign (.Subscript (.Name x p1) b p2) X.env]:=by rfl) :
  SM X He H0e a (.Assign [.Subscript (.Name x p1) b p2] e pos) (zta i a fm gm):=by
 refine⟨?_⟩
 refine za5 (zs6 he.o (zs7 (zfk hN hv hd hcd) hk.o zmS ha) hs hw h1) fun D σ H ⟨H₀,ρ,st,vs,h,q⟩=>⟨H₀,ρ,st,vs,h,?_⟩
 unfold zta at q
 by_cases hp:zlg ρ[i]? a=true
 ·rw[if_pos hp] at q
  have hσ:=h.s.ex.2 i a (zqe hp)
  cases e1:fm ρ st with
  | stuck=>rw[e1] at q;exact q
  | exn x=>rw[e1] at q;exact q
  | ok pr =>
   obtain⟨d,s1⟩:=pr
   rw[e1] at q
   intro v H1 H01 us1 z1 h1' r1
   refine⟨.ref a,hσ,H01,ρ,s1,us1,h1',?_⟩
   replace q:zcJ X.K He H0e a H₀ ((gm ρ s1).bind (zh5 ρ d)) D:=q
   cases e2:gm ρ s1 with
   | stuck=>rw[e2] at q;exact q
   | exn x=>rw[e2] at q;exact q
   | ok pr2 =>
    obtain⟨j,s2⟩:=pr2
    rw[e2] at q
    intro u H2 H02 us2 z2 h2 r2
    replace q:zcJ X.K He H0e a H₀ (zh5 ρ d (j,s2)) D:=q
    unfold zh5 at q
    cases j with
    | int n =>
     cases en:ixN s2.length n with
     | none=>simp only[en] at q;exact q.elim
     | some m =>
      simp only[en] at q
      refine⟨a,us2,n,m,rfl,Rep.int_iff.mp r2,h2.hl,by rw[← h2.r.length];exact en,?_⟩
      refine q σ _ H02 (us2.set m v) (z1.trans z2) (h2.change (H':=upd H2 a (.lst (us2.set m v))) ⟨fun b o e=>?_,zax.refl _,fun b o e=>?_,fun b k1 k2=>absurd k2 k1⟩ h2.n0 zak (h2.r.set (r1.mono z2) m))
      ·have c:b≠a:=by intro c;subst c;rw[zci] at e;cases e
       rw[zah c];rw[zel c] at e;exact e
      ·have c:b≠a:=by intro c;subst c;rw[h2.n0] at e;cases e
       rw[zah c];exact h2.s.g.sub _ _ e
    | _=>exact q.elim
 ·rw[if_neg hp] at q;exact q.elim
variable {CX:CXT}{k n:Nat}{fn:Addr}{fd:FuncData}{ps:List Str}{x:Str}{p:Pos}
theorem zuX {m:List D->Res D}(F:FnOk X.prog X.w X.K X.mg X.base CX k fn fd ps (spD X.K n m))(hr:zdE k X.A)(hg:Gl X x)(hm:X.mg x=some (.ref fn))
  (hk:W.keepIn X.K (.ref fn)=true)(hb:zgx X.K fd ps [])(hx:zdP CX X E)(ha:DMA X He H0e a (e::es) fa)(hn:(e::es).length=n:=by rfl)(hl:∀ ρ st ds,fa ρ st=.ok ds->ds.1.length=(e::es).length)
  (hdb:(x==("__debug__" : Str))=false:=by decide)(he:starEach (e::es) X.env=(false,eval e X.env)::starEach es X.env:=by exact zaC rfl)(hpl:(backTo pos (starEach es X.env)).any (·.1)=false:=by exact za3 rfl) :
  DM X He H0e a (.Call (.Name x p) (e::es) [] pos) (mA fa m):=by
 refine⟨?_⟩
 refine zaG (zj3 F hr hg hm hk hb .nil hx ha.o hdb he hpl) fun σ H Q ⟨H₀,ρ,st,vs,h,q⟩=>⟨H₀,ρ,st,vs,h,?_⟩
 unfold mA at q
 cases e1:fa ρ st with
 | stuck=>rw[e1] at q;exact q
 | exn x=>rw[e1] at q;exact q
 | ok pr =>
  obtain⟨ds,s1⟩:=pr
  rw[e1] at q
  intro xs H1 H01 us z1 h1 r1
  refine⟨?_,H01,ds,h1.s.g.sub,by simpa using r1,?_⟩
  ·have:=r1.length
   have:=hl ρ st _ e1
   simp only[List.append_nil] at *
   omega
  ·simp only[Res.bind] at q
   cases e2:m ds with
   | stuck=>rw[e2] at q;exact q
   | exn x=>rw[e2] at q;exact q.elim
   | ok d =>
    rw[e2] at q
    exact fun v' H' H₀' g rp=>q v' H' H₀' us (z1.trans g.z) (h1.back g.z (h1.s.grow g)) rp
def spM (K:W.Frag)(n:Nat)(m:Addr->List D->List D->Res (D×List D)):Sp:=fun vs H Q E=>vs.length=n+1/\∃ H₀ ds a st us0 vs0,vs=.ref a::vs0/\zax H₀ H/\Reps K H₀ ds vs0/\H₀ a=none/\H a=some (.lst us0)/\Reps K H₀ st us0/\match m a st ds with
 | .ok (d,st')=>∀ v H' H₀' us,za4 (era a H) H₀ H' H₀'->H₀' a=none->H' a=some (.lst us)->Reps K H₀' st' us->Rep K H₀' d v->Q v H'
 | .exn _=>False
 | .stuck=>False
def zqS (a:Addr)(m:Addr->List D->List D->Res (D×List D))(p:List D×List D):Res (D×List D):=m a p.2 p.1
def zbr (i:Nat)(a:Addr)(fa:Ev->List D->Res (List D×List D))(m:Addr->List D->List D->Res (D×List D)):Ev->List D->Res (D×List D):=fun ρ st=>if zlg ρ[i]? a=true then(fa ρ st).bind (zqS a m) else .stuck
theorem zsz {i:Nat}{y:Str}{p1:Pos}{m:Addr->List D->List D->Res (D×List D)}(F:FnOk X.prog X.w X.K X.mg X.base CX k fn fd ps (spM X.K n m))(hr:zdE k X.A)(hg:Gl X x)(hm:X.mg x=some (.ref fn))
  (hk:W.keepIn X.K (.ref fn)=true)(hb:zgx X.K fd ps [])(hx:zdP CX X E)(hN:X.N[i]?=some y)(hv:Vis X.env.scope y)(ha:DMA X He H0e a es fa)(hl:∀ ρ st ds,fa ρ st=.ok ds->ds.1.length=n)
  (hd:(y==("__debug__" : Str))=false:=by decide)(hcd:(y==("__classdict__" : Str))=false:=by decide)(hdb:(x==("__debug__" : Str))=false:=by decide)(he:starEach (.Name y p1::es) X.env=(false,eval (.Name y p1) X.env)::starEach es X.env:=by exact zaC rfl)(hpl:(backTo pos (starEach es X.env)).any (·.1)=false:=by exact za3 rfl) :
  DM X He H0e a (.Call (.Name x p) (.Name y p1::es) [] pos) (zbr i a fa m):=by
 refine⟨?_⟩
 refine zaG (zj3 F hr hg hm hk hb .nil hx (zcK (zfk hN hv hd hcd) ha.o he) hdb he hpl) fun σ H Q ⟨H₀,ρ,st,vs,h,q⟩=>?_
 unfold zbr at q
 by_cases hp:zlg ρ[i]? a=true
 ·rw[if_pos hp] at q
  have hσ:=h.s.ex.2 i a (zqe hp)
  refine⟨.ref a,hσ,H₀,ρ,st,vs,h,?_⟩
  cases e1:fa ρ st with
  | stuck=>rw[e1] at q;exact q
  | exn x=>rw[e1] at q;exact q
  | ok pr =>
   obtain⟨ds,s1⟩:=pr
   rw[e1] at q
   intro xs H1 H01 us z1 h1 r1
   refine⟨?_,H01,ds,a,s1,us,xs,by simp,h1.s.g.sub,r1,h1.n0,h1.hl,h1.r,?_⟩
   ·have:=r1.length
    have:=hl ρ st _ e1
    simp only[List.append_nil,List.length_cons] at *
    omega
   ·replace q:match m a s1 ds with
     | .ok (d,st')=>∀ v H' H₀' us,zax H₀ H₀'->MSx X.K He H0e H₀' σ H' ρ a st' us->Rep X.K H₀' d v->Q v H'
     | .exn _=>False
     | .stuck=>False:=q
    cases e2:m a s1 ds with
    | stuck=>rw[e2] at q;exact q
    | exn x=>rw[e2] at q;exact q
    | ok pr2 =>
     obtain⟨d,s2⟩:=pr2
     rw[e2] at q
     exact fun v H' H₀' us' g n' hl' r' rp=>q v H' H₀' us' (z1.trans g.z) (h1.change g n' hl' r') rp
 ·rw[if_neg hp] at q;exact q.elim
end
def zrv (r:MFl):Res (D×List D):=match r with
 | .nx _ st=>.ok (.non,st)
 | .rt d st=>.ok (d,st)
 | _=>.stuck
def zq3 (n:Nat)(s:Addr->Ev->List D->Res MFl)(a:Addr)(st ds:List D):Res (D×List D):=(s a (.pt a::ds.map Sl.sh++List.replicate (n-(ds.length+1)) .no) st).bind zrv
theorem zcu {P:Program}{w:World}{K:W.Frag}{mg:Str->Option Value}{base:Heap}{x qual:Str}{st:Stmt}{f:Addr}{fd:FuncData}{N ps:List Str}{k n:Nat}{s:Addr->Ev->List D->Res MFl}(F:Fun K x qual st f fd)(S:zaw N ps (defScope st))(hn:ps.length=n+1)
  (hbody:∀ (cdv:Value) (A:Around) (outer:List PySem.Env) (s0:Shared) (H He H₀:Hp) (a:Addr) (E:XK),zdE k (A.deeper (envOfC qual (defScope st) s0.heap.objs.size f cdv)) ->
   SMs (zhB CX0 P w K mg base N qual (defScope st) f cdv A outer s0 H E).nox He H₀ a (defBody st) (s a)):FnOk P w K mg base CX0 (k+1) f fd ps (spM K n (zq3 N.length s)):=by
 have hpl:ps.length<=N.length:=by have:=congrArg List.length S.pre;rw[List.length_take] at this;omega
 refine F.ok S (fun vs H Q E h=>h.1.trans hn.symm) fun cdv A outer s0 H vs Q E hr h=>?_
 obtain⟨hlen,H₀,ds,a,sl,us0,vs0,rfl,hs,hv,h0,hl,hst,q⟩:=h
 have lv:=hv.length
 have hσ:start N (.ref a::vs0)=some (.ref a)::(vs0.map some++List.replicate (N.length-(vs0.length+1)) none):=by
  unfold L2.start
  simp
 have hρ0:∀ (i:Nat) (z:Sl),(Sl.pt a::ds.map Sl.sh++List.replicate (N.length-(ds.length+1)) Sl.no)[i]?=some z->z=.no∨(i=0/\z=.pt a)∨∃ j d,i=j+1/\ds[j]?=some d/\z=.sh d:=fun i z e=>by
  cases i with
  | zero=>simp at e;exact .inr (.inl ⟨rfl,e.symm⟩)
  | succ j =>
   rw[List.cons_append,List.getElem?_cons_succ] at e
   by_cases hj:j < ds.length
   ·rw[List.getElem?_append_left (by simpa using hj),List.getElem?_map,List.getElem?_eq_getElem hj] at e
    cases e
    exact .inr (.inr ⟨j,ds[j],rfl,List.getElem?_eq_getElem hj,rfl⟩)
   ·rw[List.getElem?_append_right (by simpa using hj),List.getElem?_replicate] at e
    split at e
    ·cases e;exact .inl rfl
    ·cases e
 refine⟨_,(hbody cdv A outer s0 H (era a H) H₀ a E hr).o,H₀,.pt a::ds.map Sl.sh++List.replicate (N.length-(ds.length+1)) .no,sl,us0,⟨zci,h0,hl,hst,?_⟩,?_⟩
 ·refine⟨⟨fun b o e=>?_,zax.refl _,hs,fun b h1 h2=>absurd h2 h1⟩,fun i d e=>?_,fun i d e=>?_,fun i j d d' hij e=>?_,?_,⟨fun i j es e=>?_,fun i b e=>?_⟩⟩
  ·by_cases c:b=a
   ·subst c;rw[zak] at e;cases e;exact hl
   ·rw[zah c,zel c] at e;exact e
  ·rcases hρ0 i _ e with h | ⟨_,h⟩ | ⟨j,d',rfl,hd,h⟩
   ·cases h
   ·cases h
   ·cases h
    obtain⟨v,h1,h2⟩:=hv.get hd
    refine⟨v,?_,h2⟩
    rw[hσ,List.getElem?_cons_succ,List.getElem?_append_left (by rw[List.length_map];exact(List.getElem?_eq_some_iff.mp h1).1),List.getElem?_map,h1];rfl
  ·rcases hρ0 i _ e with h | ⟨_,h⟩ | ⟨j,d',rfl,hd,h⟩<;>cases h
  ·rcases hρ0 i _ e with h | ⟨_,h⟩ | ⟨j,d',rfl,hd,h⟩<;>cases h
  ·rw[hσ]
   simp only[List.length_cons,List.length_append,List.length_map,List.length_replicate]
   omega
  ·rcases hρ0 i _ e with h | ⟨_,h⟩ | ⟨j,d',rfl,hd,h⟩<;>cases h
  ·rcases hρ0 i _ e with h | ⟨rfl,h⟩ | ⟨j,d',rfl,hd,h⟩
   ·cases h
   ·cases h;rw[hσ];rfl
   ·cases h
 ·unfold zq3 at q
  cases e1:s a (.pt a::ds.map Sl.sh++List.replicate (N.length-(ds.length+1)) .no) sl with
  | stuck=>rw[e1] at q;exact q
  | exn x=>rw[e1] at q;exact q
  | ok r =>
   rw[e1] at q
   cases r with
   | nx ρ' st'=>exact fun σ' H' H₀' us z h'=>q .non H' H₀' us ⟨fun b o e=>h'.s.g.s _ _ (by rw[zah (by intro c;subst c;rw[zci] at e;cases e)];exact e),h'.s.g.z,h'.s.g.sub,fun b h1 h2=>by
      have:=h'.s.g.nw b h1 h2
      by_cases c:b=a
      ·subst c;exact zci
      ·rw[zah c] at this;exact this⟩ h'.n0 h'.hl h'.r (Rep.non_iff.mpr rfl)
   | rt d st'=>exact fun v H' H₀' z o rp=>let ⟨us,l1,l2⟩:=o.l;q v H' H₀' us o.g o.n l1 l2 rp
   | bk ρ' st'=>exact q.elim
   | ct ρ' st'=>exact q.elim
section
variable {K:W.Frag}{He H0e H₀ H:Hp}{σ:L2.St}{ρ:Ev}
theorem SRx.enter (h:SRx K He H0e H₀ σ H ρ){i:Nat}{p:Addr}{ds:List D}{vs:List V}(hi:i < ρ.length)(he:He p=none)(h0:H₀ p=none)(hl:H p=some (.lst vs))(r:Reps K H₀ ds vs)
  (ho:∀ (j:Nat) (d:D) (q:Addr),ρ[j]?=some (.ow d)->σ[j]?=some (some (.ref q))->q≠p)(hx:∀ (j k:Nat) (es:List D),ρ[j]?≠some (.ox k es)):MSx K He H0e H₀ (σ.set i (some (.ref p))) H (ρ.set i (.pt p)) p ds vs:=by
 have key:∀ (j:Nat) (s:Sl),(ρ.set i (.pt p))[j]?=some s->(j=i/\s=.pt p)∨(j≠i/\ρ[j]?=some s):=fun j s e=>by
  by_cases hj:i=j
  ·subst hj;rw[List.getElem?_set_self hi] at e;cases e;exact .inl ⟨rfl,rfl⟩
  ·rw[List.getElem?_set_ne hj] at e;exact .inr ⟨fun z=>hj z.symm,e⟩
 have h0e:H0e p=none:=h.g.z.free h0
 refine⟨he,h0e,hl,r,⟨⟨fun b o e=>?_,h.g.z,h.g.sub,fun b h1 h2=>?_⟩,fun j d e=>?_,fun j d e=>?_,fun j k d d' hn e1 e2=>?_,by simp [h.ln],⟨fun j k es e=>?_,fun j b e=>?_⟩⟩⟩
 ·by_cases c:b=p
  ·subst c;rw[zak] at e;cases e;exact hl
  ·rw[zah c] at e;exact h.g.s _ _ e
 ·have c:b≠p:=by intro c;subst c;exact h1 h0
  rw[zah c];exact h.g.nw b h1 h2
 ·rcases key j _ e with⟨_,e'⟩ | ⟨hj,e'⟩
  ·cases e'
  ·obtain⟨v,h1,h2⟩:=h.rd j d e'
   exact⟨v,by rw[List.getElem?_set_ne (Ne.symm hj)];exact h1,h2⟩
 ·rcases key j _ e with⟨_,e'⟩ | ⟨hj,e'⟩
  ·cases e'
  ·obtain⟨q,h1,h2,h3,h4⟩:=h.ow j d e'
   exact⟨q,by rw[List.getElem?_set_ne (Ne.symm hj)];exact h1,by rw[zah (ho j d q e' h1)];exact h2,h3,h4⟩
 ·rcases key j _ e1 with⟨_,e'⟩ | ⟨hj,e1'⟩
  ·cases e'
  rcases key k _ e2 with⟨_,e'⟩ | ⟨hk,e2'⟩
  ·cases e'
  rw[List.getElem?_set_ne (Ne.symm hj),List.getElem?_set_ne (Ne.symm hk)]
  exact h.ap j k d d' hn e1' e2'
 ·rcases key j _ e with⟨_,e'⟩ | ⟨hj,e'⟩
  ·cases e'
  ·exact absurd e' (hx j k es)
 ·rcases key j _ e with⟨rfl,e'⟩ | ⟨hj,e'⟩
  ·cases e'
   rw[List.getElem?_set_self (by rw[← h.ln];exact hi)]
  ·rw[List.getElem?_set_ne (Ne.symm hj)];exact h.ex.2 j b e'
def zsF (i:Nat)(ρ:Ev):Ev:=ρ.take i++List.replicate (ρ.length-i) .no
theorem zsE {i:Nat}{ρ:Ev}:(zsF i ρ).length=ρ.length:=by
 unfold zsF;rw[List.length_append,List.length_take,List.length_replicate];omega
theorem zu8 {i:Nat}{ρ:Ev}{j:Nat}{s:Sl}(e:(zsF i ρ)[j]?=some s):s=.no∨ρ[j]?=some s:=by
 unfold zsF at e
 by_cases hj:j < (ρ.take i).length
 ·rw[List.getElem?_append_left hj] at e
  rw[List.getElem?_take] at e
  split at e
  ·exact .inr e
  ·cases e
 ·rw[List.getElem?_append_right (by omega),List.getElem?_replicate] at e
  split at e
  ·cases e;exact .inl rfl
  ·cases e
theorem MSx.leave {a:Addr}{st:List D}{vs:List V}(h:MSx K He H0e H₀ σ H ρ a st vs)(i:Nat):SRx K He H0e H₀ σ H (zsF i ρ):=by
 have hn:∀ b,upd He a (.lst vs) b=none->He b=none:=fun b e=>by
  by_cases c:b=a
  ·subst c;exact h.ha
  ·rw[zah c] at e;exact e
 have key:∀ (j:Nat) (s:Sl),(zsF i ρ)[j]?=some s->s=.no∨ρ[j]?=some s:=fun j s e=>zu8 e
 refine⟨⟨fun b o e=>h.s.g.s _ _ (by rw[zah (by intro c;subst c;rw[h.ha] at e;cases e)];exact e),h.s.g.z,h.s.g.sub,fun b h1 h2=>hn b (h.s.g.nw b h1 h2)⟩,fun j d e=>?_,fun j d e=>?_,fun j k d d' hij e1 e2=>?_,by rw[zsE];exact h.s.ln,(h.s.ex.he hn).upd (fun j s e=>?_) (zax.refl _) (fun _ _ _ e=>e) fun p us _ q0 hq _=>⟨hq,q0⟩⟩
 ·rcases key j _ e with h' | h'
  ·cases h'
  ·exact h.s.rd j d h'
 ·rcases key j _ e with h' | h'
  ·cases h'
  ·obtain⟨q,h1,h2,h3⟩:=h.s.ow j d h'
   exact⟨q,h1,hn q h2,h3⟩
 ·rcases key j _ e1 with h' | h'
  ·cases h'
  rcases key k _ e2 with h'' | h''
  ·cases h''
  exact h.s.ap j k d d' hij h' h''
 ·rcases key j _ e with h' | h'
  ·exact .inr (.inr (.inl h'))
  ·exact .inl ⟨h',rfl⟩
end
open Classical in
noncomputable def zux (F:Addr->Res Fl):Res Fl:=if h:∃ r,∀ a,F a=r then h.choose else .stuck
theorem zuw {F:Addr->Res Fl}{r:Res Fl}(h:∀ a,F a=r):zux F=r:=by
 have hx:∃ r,∀ a,F a=r:=⟨r,h⟩
 unfold zux
 rw[dif_pos hx]
 exact(hx.choose_spec 0).symm.trans (h 0)
theorem zuv {F:Addr->Res Fl}(h:zux F≠.stuck)(a:Addr):F a=zux F:=by
 unfold zux at h ⊢
 by_cases hx:∃ r,∀ a,F a=r
 ·rw[dif_pos hx];exact hx.choose_spec a
 ·rw[dif_neg hx] at h;exact absurd rfl h
def zsm (i:Nat)(r:Res MFl):Res Fl:=match r with
 | .ok (.nx ρ _)=>.ok (.nx (zsF i ρ))
 | .ok (.rt d _)=>.ok (.rt d)
 | .ok (.bk ρ _)=>.ok (.bk (zsF i ρ))
 | .ok (.ct ρ _)=>.ok (.ct (zsF i ρ))
 | _=>.stuck
def zzi (ρ:Ev):Bool:=ρ.all fun s=>match s with
 | .ox _ _=>false
 | _=>true
noncomputable def znw (i:Nat) (s:Addr->Ev->List D->Res MFl) (ρ:Ev) (d:D):Res Fl:=match d with
 | .lst ds=>if zzi ρ=true/\i < ρ.length then zux fun a=>zsm i (s a (ρ.set i (.pt a)) ds) else .stuck
 | _=>.stuck
noncomputable def zh2 (i:Nat) (f:Ev->Res D) (s:Addr->Ev->List D->Res MFl):Ev->Res Fl:=fun ρ=>(f ρ).bind (znw i s ρ)
section
variable {X:Cx}{E:XK}{He H0e:Hp}{st:Stmt}{rest:List Stmt}{e:Expr}{es:List Expr}{pos:Pos}{f:Ev->Res D}{s:Addr->Ev->List D->Res MFl}
theorem zqy {i:Nat}{x:Str}{pos':Pos}(hN:X.N.Nodup)(hi:X.N[i]?=some x)(hx:Loc X.env.scope x)(he:DF X E e f)(hr:∀ a,SMs X He H0e a rest (s a))(hs:swapsWith e (some (.Name x pos')) pos.line X.env=pure false:=by rfl)
  (hf:X.fn x=true∨X.env.scope.names.lookup x=some .local := by first | exact .inl rfl | exact .inr rfl | assumption):DSs X E He H0e (.Assign [.Name x pos'] e pos::rest) (zh2 i f s):=by
 refine⟨?_⟩
 have h2:PSs X rest fun G σ H=>∃ p,tSM X.K He H0e p (s p) G σ H:=fun pins sh σ H G I ⟨p,h⟩=>(hr p).o pins sh σ H G I h
 refine zcw (zdk (zkV hN hi hx he.o hs hf) h2) fun G σ H ⟨H₀,ρ,h,q⟩=>⟨H₀,ρ,h.g.sub,h.rd,?_⟩
 unfold zh2 at q
 cases e1:f ρ with
 | stuck=>rw[e1] at q;exact q
 | exn x=>rw[e1] at q;exact fun C ox H' H₀' g ex=>q C ox H' H₀' (h.g.trans g) ex
 | ok d =>
  rw[e1] at q
  replace q:zbI X.K E He H0e H₀ (znw i s ρ d) G:=q
  unfold znw at q
  cases d with
  | lst ds =>
   simp only at q
   by_cases hc:zzi ρ=true/\i < ρ.length
   ·rw[if_pos hc] at q
    intro p vs H' H₀' g hp h0 hv rp
    have hg:=h.grow g
    have hnx:∀ (j k:Nat) (es:List D),ρ[j]?≠some (.ox k es):=fun j k es e=>by
     have:=List.all_eq_true.mp hc.1 _ (List.mem_of_getElem? e)
     cases this
    have hm:=hg.enter (i:=i) (p:=p) (ds:=ds) (vs:=vs) hc.2 (h.g.s.free hp) h0 hv rp (fun j d q' ej es'=>by
     obtain⟨q2,k1,_,_,k4⟩:=h.ow j d ej
     rw[es'] at k1;cases k1
     cases d with
     | lst ds'=>obtain⟨ws,k5,_⟩:=k4;intro c;subst c;rw[hp] at k5;cases k5
     | _=>exact k4.elim) hnx
    have hns:zux (fun a=>zsm i (s a (ρ.set i (.pt a)) ds))≠.stuck:=fun z=>by rw[z] at q;exact q
    have hF:=zuv hns p
    rw[← hF] at q
    refine⟨p,H₀',_,ds,vs,hm,?_⟩
    replace q:=zbI.grow q g.z
    unfold zsm at q
    cases e2:s p (ρ.set i (.pt p)) ds with
    | stuck=>rw[e2] at q;exact q
    | exn x=>rw[e2] at q;exact q.elim
    | ok r =>
     rw[e2] at q
     cases r with
     | nx ρ' st'=>exact fun σ' H2 H02 us z h'=>q σ' H2 H02 z (h'.leave i)
     | rt d st'=>exact fun v H2 H02 z o rp=>q v H2 H02 o.g rp
     | bk ρ' st'=>exact fun σ' H2 H02 us z h'=>q σ' H2 H02 z (h'.leave i)
     | ct ρ' st'=>exact fun σ' H2 H02 us z h'=>q σ' H2 H02 z (h'.leave i)
   ·rw[if_neg hc] at q;exact q.elim
  | _=>exact q.elim
end
def tMI (K:W.Frag)(He H0e:Hp)(a:Addr)(src:Ev->List D->Res (List D×List D)):TI:=fun σ H R=>∃ H₀ ρ st vs,MSx K He H0e H₀ σ H ρ a st vs/\match src ρ st with
 | .ok (ds,st')=>∀ J H' H₀' us,zax H₀ H₀'->MSx K He H0e H₀' σ H' ρ a st' us->ItD K ds J H₀'->R J H'
 | .exn _=>False
 | .stuck=>False
structure MI (X:Cx) (He H0e:Hp) (a:Addr) (tg iter:Expr) (src:Ev->List D->Res (List D×List D)):Prop where
 o:PI X tg iter (tMI X.K He H0e a src)
def zup (src:Ev->Res (List D)):Ev->List D->Res (List D×List D):=fun ρ st=>(src ρ).bind fun ds=>.ok (ds,st)
def znh (p:D×List D):Res (List D×List D):=match p.1 with
 | .int j=>if -4611686018427387904<=j/\j < 4611686018427387904 then .ok (intsFrom 0 j.toNat,p.2) else .stuck
 | _=>.stuck
def zrU (f:Ev->List D->Res (D×List D)):Ev->List D->Res (List D×List D):=fun ρ st=>(f ρ st).bind znh
section
variable {X:Cx}{E:XK}{He H0e:Hp}{a:Addr}{st:Stmt}{e l b tgt iter:Expr}{rest es:List Expr}{pos:Pos}{f:Ev->Res D}{fm gm:Ev->List D->Res (D×List D)}{fa:Ev->List D->Res (List D×List D)}{s t:Ev->List D->Res MFl}
theorem zme {src:Ev->Res (List D)}(h:DI X E tgt iter src):MI X He H0e a tgt iter (zup src):=⟨zgI h.o fun σ H R ⟨H₀,ρ,st,vs,h,q⟩=>⟨H₀,ρ,h.s.g.sub,h.s.rd,by
 unfold zup at q
 cases e1:src ρ with
 | stuck=>rw[e1] at q;exact q
 | exn x=>rw[e1] at q;exact q.elim
 | ok ds =>
  rw[e1] at q
  exact fun J H' H₀' g it=>q J H' H₀' vs g.z (h.back g.z (h.s.grow g)) it⟩⟩
theorem zp2 {p pos2:Pos}(hgl:Gl X "range")(hm:X.mg "range"=none)(hi:DM X He H0e a iter fm)(hst:starEach [iter] X.env=[(false,eval iter X.env)]:=by exact zdS rfl):MI X He H0e a tgt (.Call (.Name "range" p) [iter] [] pos2) (zrU fm):=by
 refine⟨zgI (zh8 hgl hm (zcK hi.o zfl hst) hst) fun σ H R ⟨H₀,ρ,st,vs,h,q⟩=>⟨H₀,ρ,st,vs,h,?_⟩⟩
 unfold zrU at q
 cases e1:fm ρ st with
 | stuck=>rw[e1] at q;exact q
 | exn x=>rw[e1] at q;exact q
 | ok pr =>
  obtain⟨d,s1⟩:=pr
  rw[e1] at q
  intro v H1 H01 us z h1 r1
  cases d with
  | int j =>
   rw[Rep.int_iff.mp r1]
   replace q:match (if -4611686018427387904<=j/\j < 4611686018427387904 then Res.ok (intsFrom 0 j.toNat,s1) else .stuck) with
    | .ok (ds,st')=>∀ J H' H₀' us,zax H₀ H₀'->MSx X.K He H0e H₀' σ H' ρ a st' us->ItD X.K ds J H₀'->R J H'
    | .exn _=>False
    | .stuck=>False:=q
   by_cases hj:-4611686018427387904<=j/\j < 4611686018427387904
   ·rw[if_pos hj] at q
    exact⟨j,rfl,hj.1,hj.2,q _ H1 H01 us z h1 zle⟩
   ·rw[if_neg hj] at q;exact q.elim
  | _=>exact q.elim
theorem zkD.step2 {K:W.Frag}{H₁ H₀:Hp}{ρ:Ev}{st:List D}{vs:List V}{tg:Ev->D->Res Ev}{ds:List D}{D':zg4}{i:Nat}{σ:L2.St}{H:Hp}{d:D}{v:V}(z:zax H₁ H₀)(h:MSx K He H0e H₀ σ H ρ a st vs)(q:zcJ K He H0e a H₀ (forM tg s (ds.drop i) ρ st) D')(hd:ds[i]?=some d)(rv:Rep K H₀ d v)
  (he:∀ ρ,tg ρ d=.stuck∨∃ ρ',tg ρ d=.ok ρ') :
  tGM K He H0e a tg v σ H fun σ2 H2=>tSM K He H0e a s { D' with nx:=zkD K He H0e a H₁ tg s ds D' (i+1),ct:=zkD K He H0e a H₁ tg s ds D' (i+1),bk:=D'.nx } σ2 H2:=by
 have hi:i < ds.length:=(List.getElem?_eq_some_iff.mp hd).1
 have hdr:ds.drop i=d::ds.drop (i+1):=by
  rw[List.drop_eq_getElem_cons hi]
  rw[List.getElem?_eq_getElem hi] at hd
  cases hd;rfl
 rw[hdr] at q
 refine⟨H₀,ρ,st,vs,d,h,rv,?_⟩
 unfold forM at q
 rcases he ρ with e1 | ⟨ρ1,e1⟩
 ·rw[e1] at q;exact q.elim
 ·rw[e1] at q ⊢
  intro σ' H' H₀' z' h'
  refine⟨H₀',ρ1,st,vs,h',?_⟩
  replace q:=zcJ.grow (r:=(s ρ1 st).bind fun x=>match x with
   | .nx ρ2 s2=>forM tg s (ds.drop (i+1)) ρ2 s2
   | .ct ρ2 s2=>forM tg s (ds.drop (i+1)) ρ2 s2
   | .bk ρ2 s2=>.ok (.nx ρ2 s2)
   | .rt d s=>.ok (.rt d s)) q z'
  cases e2:s ρ1 st with
  | stuck=>rw[e2] at q;exact q
  | exn x=>rw[e2] at q;exact q
  | ok r =>
   rw[e2] at q
   cases r with
   | nx ρ2 s2=>exact fun σ3 H3 H03 vs3 z3 h3=>⟨H03,ρ2,s2,vs3,(z.trans z').trans z3,h3,zcJ.grow (r:=forM tg s (ds.drop (i+1)) ρ2 s2) q z3⟩
   | ct ρ2 s2=>exact fun σ3 H3 H03 vs3 z3 h3=>⟨H03,ρ2,s2,vs3,(z.trans z').trans z3,h3,zcJ.grow (r:=forM tg s (ds.drop (i+1)) ρ2 s2) q z3⟩
   | bk ρ2 s2=>exact q
   | rt d s2=>exact q
def zmf (src:Ev->List D->Res (List D×List D))(tg:Ev->D->Res Ev)(s:Ev->List D->Res MFl):Ev->List D->Res MFl:=fun ρ st=>(src ρ st).bind fun p=>forM tg s p.1 ρ p.2
theorem zlU {body:List Stmt}{tg:Ev->D->Res Ev}{src:Ev->List D->Res (List D×List D)}(hp:PassesOwn (model X.prog X.w) X.A X.env X.xe)(hc:X.calm=true)(hi:MI X He H0e a tgt iter src)(hg:∀ vs,DG X E (upd He a (.lst vs)) H0e tgt tg)(ht:zoG tg)(hb:SMs X He H0e a body s)
  (hs:∀ x,foldedSetIterable iter X.env x=pure x:=by intro _;rfl):SM X He H0e a (.For tgt iter body [] pos) (zmf src tg s):=by
 refine⟨za5 (zm5 hp hc hi.o (zzc hg) hb.o hs) fun D' σ H ⟨H₀,ρ,st,vs,h,q⟩=>⟨H₀,ρ,st,vs,h,?_⟩⟩
 unfold zmf at q
 cases e1:src ρ st with
 | stuck=>rw[e1] at q;exact q
 | exn x=>rw[e1] at q;exact q
 | ok pr =>
  obtain⟨ds,s1⟩:=pr
  rw[e1] at q
  intro J H1 H01 us z h1 it
  have q1:zcJ X.K He H0e a H01 (forM tg s ds ρ s1) D':=zcJ.grow (r:=forM tg s ds ρ s1) q z
  refine⟨fun i m σ' H'=>m+i=ds.length/\zkD X.K He H0e a H01 tg s ds D' i σ' H',⟨ds.length,rfl,H01,ρ,s1,us,zax.refl _,h1,q1⟩,?_⟩
  rintro i m σ' H' ⟨hm,H₀',ρ',st',vs',z',h',hq⟩
  by_cases hlt:i < ds.length
  ·refine .inr ⟨it.go i H' H₀' z' h'.s.g.sub hlt,fun σ2 H2=>zkD X.K He H0e a H01 tg s ds D' (i+1) σ2 H2,fun σ2 H2 hl=>⟨m-1,by omega,by omega,hl⟩,fun x H2 hy=>?_⟩
   obtain⟨H₀2,g2,rp⟩:=it.yld i H' H₀' x H2 ds[i] z' h'.s.g.sub (List.getElem?_eq_getElem hlt) hy
   exact zkD.step2 (z'.trans g2.z) (h'.back g2.z (h'.s.grow g2)) (zcJ.grow (r:=forM tg s (ds.drop i) ρ' st') hq g2.z) (List.getElem?_eq_getElem hlt) rp fun ρ=>ht ρ _
  ·have e:i=ds.length:=by omega
   refine .inl ⟨it.stop i H' H₀' z' h'.s.g.sub (by omega),?_⟩
   subst e
   exact zkD.done ⟨H₀',ρ',st',vs',z',h',hq⟩
end
def slM (s:Option Sl):Sl:=match s with
 | some (.sh d)=>.sh d
 | some (.pt b)=>.pt b
 | _=>.no
def zeA (n:Nat)(fr:List Nat)(ρ:Ev):Ev:=List.replicate n .no++fr.map fun(i:Nat)=>slM ρ[i]?
def zgZ (b:Ev)(tg:Ev->D->Res Ev)(fm:Ev->List D->Res (D×List D)):List D->List D->Res (List D×List D)
 | [],st=>.ok ([],st)
 | d::r,st=>(tg b d).bind fun ρ1=>(fm ρ1 st).bind fun p=>(zgZ b tg fm r p.2).bind fun q=>.ok (p.1::q.1,q.2)
def zlu (b:Ev)(tg:Ev->D->Res Ev)(fm:Ev->List D->Res (D×List D))(p:List D×List D):Res (D×List D):=if p.1.length<=line then(zgZ b tg fm p.1 p.2).bind fun q=>.ok (.lst q.1,q.2) else .stuck
def zlv (n:Nat)(fr:List Nat)(src:Ev->List D->Res (List D×List D))(tg:Ev->D->Res Ev)(fm:Ev->List D->Res (D×List D)):Ev->List D->Res (D×List D):=fun ρ st=>(src ρ st).bind (zlu (zeA n fr ρ) tg fm)
theorem zqV {n:Nat}{fr:List Nat}{ρ:Ev}:(zeA n fr ρ).length=n+fr.length:=by unfold zeA;simp
theorem zkA {n:Nat}{fr:List Nat}{ρ:Ev}{k:Nat}(h:k < n):(zeA n fr ρ)[k]?=some .no:=by
 unfold zeA
 rw[List.getElem?_append_left (by simpa using h),List.getElem?_replicate,if_pos h]
theorem zkB {n:Nat}{fr:List Nat}{ρ:Ev}{k:Nat}{s:Sl}(h:¬ k < n)(e:(zeA n fr ρ)[k]?=some s):∃ j,fr[k-n]?=some j/\s=slM ρ[j]?:=by
 unfold zeA at e
 rw[List.getElem?_append_right (by simpa using h),List.length_replicate,List.getElem?_map] at e
 cases hf:fr[k-n]? with
 | none=>rw[hf] at e;cases e
 | some j=>rw[hf] at e;cases e;exact⟨j,rfl,rfl⟩
theorem zvZ {s:Option Sl}{d:D}(h:Sl.sh d=slM s):s=some (.sh d):=by
 unfold slM at h
 split at h<;>cases h
 rfl
theorem zv0 {s:Option Sl}{b:Addr}(h:Sl.pt b=slM s):s=some (.pt b):=by
 unfold slM at h
 split at h<;>cases h
 rfl
theorem ztp {n:Nat}{fr:List Nat}{σ:L2.St}{k j:Nat}{v:V}(h:¬ k < n)(hf:fr[k-n]?=some j)(hs:σ[j]?=some (some v)):(zhC n fr σ)[k]?=some (some v):=by
 unfold zhC
 rw[List.getElem?_append_right (by simpa using h),List.length_replicate,List.getElem?_map,hf]
 simp [hs]
theorem MSx.ofBlk {K:W.Frag}{He H0e H₀ H:Hp}{σ:L2.St}{ρ:Ev}{a:Addr}{st:List D}{vs:List V}(ha:He a=none)(h0:H0e a=none)(hl:H a=some (.lst vs))(r:Reps K H₀ st vs)(g:za4 (upd He a (.lst vs)) H0e H H₀)(rd:Reads K H₀ σ ρ)
  (no:∀ (j:Nat) (s:Sl),ρ[j]?=some s->s=.no∨(∃ d,s=.sh d)∨∃ b,s=.pt b/\σ[j]?=some (some (.ref b)))(ln:ρ.length=σ.length):MSx K He H0e H₀ σ H ρ a st vs:=by
 refine⟨ha,h0,hl,r,⟨g,rd,fun i d e=>?_,fun i j d d' _ e=>?_,ln,OX.none (fun i j ds e=>?_) fun i b e=>?_⟩⟩
 ·rcases no i _ e with h | ⟨_,h⟩ | ⟨_,h,_⟩<;>cases h
 ·rcases no i _ e with h | ⟨_,h⟩ | ⟨_,h,_⟩<;>cases h
 ·rcases no i _ e with h | ⟨_,h⟩ | ⟨_,h,_⟩<;>cases h
 ·rcases no i _ e with h | ⟨_,h⟩ | ⟨_,h,h'⟩
  ·cases h
  ·cases h
  ·cases h;exact h'
def zuI (K:W.Frag)(a:Addr)(tg:Ev->D->Res Ev):TG:=fun v σ H Q=>∃ He H0e,tGM K He H0e a tg v σ H Q
def ztV (K:W.Frag)(a:Addr)(fm:Ev->List D->Res (D×List D)):TE:=fun σ H Q=>∃ He H0e,tM K He H0e a fm σ H Q
theorem zoA {b:Ev}{tg:Ev->D->Res Ev}{fm:Ev->List D->Res (D×List D)}{d:D}{r st es stF:List D}(h:zgZ b tg fm (d::r) st=.ok (es,stF)):∃ ρ1 y s1 rest,tg b d=.ok ρ1/\fm ρ1 st=.ok (y,s1)/\zgZ b tg fm r s1=.ok (rest,stF)/\es=y::rest:=by
 unfold zgZ at h
 cases e1:tg b d with
 | stuck=>rw[e1] at h;cases h
 | exn x=>rw[e1] at h;cases h
 | ok ρ1 =>
  rw[e1] at h
  simp only[Res.bind] at h
  cases e2:fm ρ1 st with
  | stuck=>rw[e2] at h;cases h
  | exn x=>rw[e2] at h;cases h
  | ok p =>
   obtain⟨y,s1⟩:=p
   rw[e2] at h
   simp only at h
   cases e3:zgZ b tg fm r s1 with
   | stuck=>rw[e3] at h;cases h
   | exn x=>rw[e3] at h;cases h
   | ok q =>
    obtain⟨rest,sF⟩:=q
    rw[e3] at h
    cases h
    exact⟨ρ1,y,s1,rest,rfl,e2,e3,rfl⟩
theorem zmu {K:W.Frag}{n:Nat}{fr:List Nat}{tg:Ev->D->Res Ev}{fm:Ev->List D->Res (D×List D)}{a:Addr}{σ:L2.St}{ρ:Ev}{He H0e H1 H01:Hp}{st0 ds es stF:List D}{us0:List V}{J:It}{Q:VK}(h1:MSx K He H0e H01 σ H1 ρ a st0 us0)(it:ItD K ds J H01)(hl:ds.length<=line)
  (e2:zgZ (zeA n fr ρ) tg fm ds st0=.ok (es,stF))(hok:zvi n tg)
  (q:∀ p xs H' H₀' us',za4 (era a H1) H01 H' H₀'->H₀' a=none->H' a=some (.lst us')->Reps K H₀' stF us'->H1 p=none->H₀' p=none->H' p=some (.lst xs)->Reps K H₀' es xs->Q (.ref p) H') :
  zkM n fr (zuI K a tg) zvN (ztV K a fm) J σ H1 Q:=by
 intro Da hDa
 have h0D:H01 Da=none:=h1.s.g.sub.free hDa
 have aD:a≠Da:=fun z=>by have:=h1.hl;rw[z,hDa] at this;cases this
 have nob:∀ {σ':L2.St}(_:∀ (k:Nat),¬ k < n->∀ b,(zeA n fr ρ)[k]?=some (.pt b)->σ'[k]?=some (some (.ref b))) (j:Nat) (s:Sl),(zeA n fr ρ)[j]?=some s->s=.no∨(∃ d,s=.sh d)∨∃ b,s=.pt b/\σ'[j]?=some (some (.ref b)):=fun {σ'} hp j s e=>by
  by_cases hj:j < n
  ·rw[zkA hj] at e;cases e;exact .inl rfl
  ·obtain⟨i,_,hs⟩:=zkB hj e
   cases s with
   | no=>exact .inl rfl
   | sh d=>exact .inr (.inl ⟨d,rfl⟩)
   | pt b=>exact .inr (.inr ⟨b,rfl,hp j hj b e⟩)
   | _=>unfold slM at hs;split at hs<;>cases hs
 refine⟨fun i m ys σ' H'=>m=ds.length-i/\i<=ds.length/\∃ H₀' st' us' es1 rest,MSx K (upd (era a H1) Da (.lst ys)) H01 H₀' σ' H' (zeA n fr ρ) a st' us'/\Reps K H₀' es1 ys/\es1.length=i/\zgZ (zeA n fr ρ) tg fm (ds.drop i) st'=.ok (rest,stF)/\es=es1++rest,
  ⟨ds.length,by simp,Nat.zero_le _,H01,st0,us0,[],es,?_,Reps.nil,rfl,by rw[List.drop_zero];exact e2,rfl⟩,?_⟩
 ·refine MSx.ofBlk (by rw[zah aD];exact zci) h1.n0 (by rw[zah aD];exact h1.hl) h1.r ⟨fun b o e=>?_,zax.refl _,fun b o e=>?_,fun b k1 k2=>absurd k2 k1⟩ (fun k d e=>?_) (nob fun k hk b e=>?_) (by unfold zhC;rw[zqV];simp)
  ·by_cases c:b=a
   ·subst c;rw[zak] at e;cases e;rw[zah aD];exact h1.hl
   ·rw[zah c] at e
    by_cases c2:b=Da
    ·subst c2;rw[zak] at e ⊢;exact e
    ·rw[zah c2] at e ⊢;rw[zel c] at e;exact e
  ·rw[zah (by intro z;subst z;rw[h0D] at e;cases e)];exact h1.s.g.sub _ _ e
  ·by_cases hk:k < n
   ·rw[zkA hk] at e;cases e
   ·obtain⟨j,hf,hs⟩:=zkB hk e
    obtain⟨v,k1,k2⟩:=h1.s.rd j d (zvZ hs)
    exact⟨v,ztp hk hf k1,k2⟩
  ·obtain⟨j,hf,hs⟩:=zkB hk e
   exact ztp hk hf (h1.s.ex.2 j b (zv0 hs))
 ·rintro i m ys σ' H' ⟨rfl,hile,H₀',st',us',es1,rest,h',hys,hle,hco,hes⟩
  have hDl:H' Da=some (.lst ys):=h'.s.g.s _ _ (by rw[zah (Ne.symm aD),zak])
  refine⟨hDl,?_⟩
  by_cases hlt:i < ds.length
  ·refine .inr ⟨it.go i H' H₀' h'.s.g.z h'.s.g.sub hlt,?_,?_⟩
   ·rw[← hys.length,hle]
    have h2:line < sizeLine:=by decide
    omega
   ·intro x H2 hy
    obtain⟨H₀2,g2,rp⟩:=it.yld i H' H₀' x H2 ds[i] h'.s.g.z h'.s.g.sub (List.getElem?_eq_getElem hlt) hy
    have hm2:=h'.back g2.z (h'.s.grow g2)
    rw[List.drop_eq_getElem_cons hlt] at hco
    obtain⟨ρ1,y,s1,rest',t1,t2,t3,t4⟩:=zoA hco
    refine⟨_,_,H₀2,zeA n fr ρ,st',us',ds[i],hm2,rp,?_⟩
    rw[t1]
    intro σ3 H3 H03 z3 h3
    unfold zvN
    dsimp only
    rw[if_pos rfl]
    refine⟨_,_,H03,ρ1,st',us',h3,?_⟩
    rw[t2]
    intro yv H5 H05 us5 z5 h5 ry
    have hD5:H5 Da=some (.lst ys):=h5.s.g.s _ _ (by rw[zah (Ne.symm aD),zak])
    have n5:H05 Da=none:=by
     cases qq:H05 Da with
     | none=>rfl
     | some o=>have:=h5.s.g.nw Da (by rw[qq];simp) h0D;rw[zah (Ne.symm aD),zak] at this;cases this
    have hrl:=hok _ _ _ t1
    refine⟨hD5,ds.length-(i+1),by omega,rfl,hlt,H05,s1,us5,es1++[y],rest',?_,(hys.mono ((g2.z.trans z3).trans z5)).app (Reps.cons ry Reps.nil),by simp [hle],t3,by rw[hes,t4];simp⟩
    refine MSx.ofBlk (by rw[zah aD];exact zci) h1.n0 (by rw[zah aD];exact h5.hl) h5.r ⟨fun b o e=>?_,h5.s.g.z,fun b o e=>?_,fun b k1 k2=>?_⟩ (fun k d e=>?_) (nob fun k hk b e=>?_) (by rw[← h5.s.ln,hrl.1])
    ·by_cases c:b=a
     ·subst c;rw[zak] at e;cases e;rw[zah aD];exact h5.hl
     ·rw[zah c] at e
      by_cases c2:b=Da
      ·subst c2;rw[zak] at e ⊢;exact e
      ·rw[zah c2] at e ⊢
       exact h5.s.g.s _ _ (by rw[zah c,zah c2];exact e)
    ·rw[zah (by intro z;subst z;rw[n5] at e;cases e)];exact h5.s.g.sub _ _ e
    ·have:=h5.s.g.nw b k1 k2
     by_cases c:b=a
     ·subst c;rw[zak] at this;cases this
     ·rw[zah c] at this ⊢
      by_cases c2:b=Da
      ·subst c2;rw[zak] at this;cases this
      ·rw[zah c2] at this ⊢;exact this
    ·by_cases hk:k < n
     ·rw[zkA hk] at e;cases e
     ·rw[← hrl.2 k (by omega)] at e
      exact h5.s.rd k d e
    ·rw[← hrl.2 k (by omega)] at e
     exact h5.s.ex.2 k b e
  ·have hi2:i=ds.length:=by omega
   refine .inl ⟨it.stop i H' H₀' h'.s.g.z h'.s.g.sub (by omega),?_⟩
   rw[hi2,List.drop_length] at hco
   cases hco
   rw[List.append_nil] at hes
   subst hes
   refine q Da ys H' H₀' us' ⟨fun b o e=>?_,h'.s.g.z,h'.s.g.sub,fun b k1 k2=>?_⟩ h'.n0 h'.hl h'.r hDa ?_ hDl hys
   ·have c:b≠a:=by intro c;subst c;rw[zci] at e;cases e
    have c2:b≠Da:=by intro c2;subst c2;rw[zel c,hDa] at e;cases e
    exact h'.s.g.s _ _ (by rw[zah c,zah c2];exact e)
   ·have:=h'.s.g.nw b k1 k2
    by_cases c:b=a
    ·subst c;exact zci
    ·rw[zah c] at this
     by_cases c2:b=Da
     ·subst c2;rw[zak] at this;cases this
     ·rw[zah c2] at this;exact this
   ·cases qq:H₀' Da with
    | none=>rfl
    | some o=>have:=h'.s.g.nw Da (by rw[qq];simp) h0D;rw[zah (Ne.symm aD),zak] at this;cases this
def tMF (K:W.Frag)(He H0e:Hp)(a:Addr)(f:Ev->List D->Res (D×List D)):TE:=fun σ H Q=>∃ H₀ ρ st vs,MSx K He H0e H₀ σ H ρ a st vs/\match f ρ st with
 | .ok (.lst ds,st')=>∀ p xs H1 H01 st1 us1 H' H₀' us,zax H₀ H01->MSx K He H0e H01 σ H1 ρ a st1 us1->za4 (era a H1) H01 H' H₀'->H₀' a=none->H' a=some (.lst us)->Reps K H₀' st' us->H1 p=none->H₀' p=none->H' p=some (.lst xs)->Reps K H₀' ds xs->Q (.ref p) H'
 | .ok _=>False
 | .exn _=>False
 | .stuck=>False
structure MCo (X:Cx) (He H0e:Hp) (a:Addr) (e:Expr) (f:Ev->List D->Res (D×List D)):Prop where
 ev:PE X e (tMF X.K He H0e a f)
 st:∀ {i:Nat}{x:Str}{pos' spos:Pos},X.N.Nodup->X.N[i]?=some x->X.env.scope.names.lookup x=some .local -> swapsWith e (some (.Name x pos')) spos.line X.env=pure true->PS X (.Assign [.Name x pos'] e spos) (zxC (tMF X.K He H0e a f) (zse i))
theorem mco {X:Cx}{E:XK}{He H0e:Hp}{a:Addr}{tgt iter elt:Expr}{scope:Scope}{pos:Pos}(N:List Str)(n:Nat)(fr:List Nat){src:Ev->List D->Res (List D×List D)}{tg:Ev->D->Res Ev}{fm:Ev->List D->Res (D×List D)}(hc:X.calm=true)(hi:MI X He H0e a tgt iter src)(hok:zvi n tg)
  (blk:∀ s H C fp pn,(∀ He H0e,DG (zck X N scope s H C fp pn) E He H0e tgt tg)/\∀ He H0e,DM (zck X N scope s H C fp pn) He H0e a elt fm)
  (hfr:zvk X N n fr scope)(hcell:∀ x∈scope.names,x.2≠.cell)(hfree:∀ x∈scope.names,x.2=.free->X.env.scope.names.lookup x.1=some .cell)(hkind:scope.kind=.function)(hnames:∀ x∈scope.names,x.2=.local -> scope.names.lookup x.1=some .local)
  (hs:∀ x,foldedSetIterable iter X.env x=pure x:=by intro _;rfl):MCo X He H0e a (.ListComp elt [⟨tgt,iter,[],0⟩] scope pos) (zlv n fr src tg fm):=by
 have blk':∀ s H C fp pn,PG (zck X N scope s H C fp pn) tgt (zuI X.K a tg)/\PIf (zck X N scope s H C fp pn) [] zvN/\PE (zck X N scope s H C fp pn) elt (ztV X.K a fm):=fun s H C fp pn =>
  ⟨fun pins s' σ' H' v u Q' I r ⟨He,H0e,q'⟩=>(zzc (X:=zck X N scope s H C fp pn) fun vs=>(blk s H C fp pn).1 _ _) pins s' σ' H' v u Q' I r q',zpE,fun pins s' σ' H' Q' I ⟨He,H0e,q'⟩=>((blk s H C fp pn).2 He H0e).o pins s' σ' H' Q' I q'⟩
 have first:∀ {pins:List (Addr×Obj)}{s:Shared}{σ:L2.St}{H:Hp}{Q:VK}{RR:Value->Addr->Result->Shared->Prop},L2.Inv X pins σ H s->tMF X.K He H0e a (zlv n fr src tg fm) σ H Q ->
   (∀ (Da C:Addr) (s6:Shared) (H5:Hp) (m:Str->Option Value),L2.Inv X pins σ H5 s6->s6.heap.Ns C m->znR X pins H5 C->Q (.ref Da) H5->RR (.ref Da) C (.ok .next) s6) ->
   wpAny (model X.prog X.w) X.A (eval iter X.env) (fun x s₁=>wpAny (model X.prog X.w) X.A (pyIter x) (fun it s₂=>wpAny (model X.prog X.w) X.A (newList []) (fun acc s₃ =>
    wpAny (model X.prog X.w) X.A (newFunctionEnv scope X.env.globals (ziI X.env.cells scope.names []) [] X.env.qual none .none (some X.env)) (fun cenv s₄ =>
     codeAny (model X.prog X.w) X.A (.compStart (.ListComp elt [⟨tgt,iter,[],0⟩] scope pos) 0 it acc { cenv with scope:=relabel scope X.env }) (RR acc cenv.locals) s₄) X.xe s₃) X.xe s₂) X.xe s₁) X.xe s:=by
  intro pins s σ H Q RR I ⟨H₀,ρ,st,vs,h,q⟩ fin
  refine thn (hi.o pins s σ H (fun J H1=>zkM n fr (zuI X.K a tg) zvN (ztV X.K a fm) J σ H1 Q) I ⟨H₀,ρ,st,vs,h,?_⟩) fun v s1 h1=>thn h1 fun itv s2 h2=>zlt (N:=N) hc hfr hcell hfree hkind blk' h2 fin
  unfold zlv at q
  cases e1:src ρ st with
  | stuck=>rw[e1] at q;exact q
  | exn x=>rw[e1] at q;exact q
  | ok pr =>
   obtain⟨ds,st1⟩:=pr
   rw[e1] at q
   intro J H1 H01 us z h1 it
   replace q:match (if ds.length<=line then(zgZ (zeA n fr ρ) tg fm ds st1).bind fun q=>Res.ok (D.lst q.1,q.2) else .stuck) with
    | .ok (.lst ds,st')=>∀ p xs H1 H01 st1 us1 H' H₀' us,zax H₀ H01->MSx X.K He H0e H01 σ H1 ρ a st1 us1->za4 (era a H1) H01 H' H₀'->H₀' a=none->H' a=some (.lst us)->Reps X.K H₀' st' us->H1 p=none->H₀' p=none->H' p=some (.lst xs)->Reps X.K H₀' ds xs->Q (.ref p) H'
    | .ok _=>False
    | .exn _=>False
    | .stuck=>False:=q
   by_cases hl:ds.length<=line
   ·rw[if_pos hl] at q
    cases e2:zgZ (zeA n fr ρ) tg fm ds st1 with
    | stuck=>rw[e2] at q;exact q.elim
    | exn x=>rw[e2] at q;exact q.elim
    | ok pr2 =>
     obtain⟨es,stF⟩:=pr2
     rw[e2] at q
     exact zmu h1 it hl e2 hok fun p xs H' H₀' us' g n' hl' r' hp h0 hv rp=>q p xs H1 H01 st1 us H' H₀' us' z h1 g n' hl' r' hp h0 hv rp
   ·rw[if_neg hl] at q;exact q.elim
 have hcl:∀ {pins:List (Addr×Obj)}{s:Shared}{σ:L2.St}{H:Hp},L2.Inv X pins σ H s->closureFor scope X.env=pure (ziI X.env.cells scope.names []):=fun {pins s σ H} I=>zgj fun y hy hf=>I.ok.has y.1 (.inl (hfree y hy hf))
 refine⟨fun pins s σ H Q I h=>?_,fun {i x pos' spos} hN hi' hx hsw pins s σ H D' I h=>?_⟩
 ·rw[eval_ListComp]
  refine wpAny_comprehension_free (use:=none) rfl hs (hcl I) hkind hnames (first (RR:=fun acc C=>compPost (model X.prog X.w) X.A X.xe none (EP X pins σ Q) acc C) I h fun Da C s6 H5 m I6 ns fC q=>?_)
  refine⟨m,ns,fun h' sb=>⟨.ref Da,H5,?_,rfl,q⟩⟩
  exact I6.turned (t':=s6.toks) (it:=C) (fun b o hb e=>(sb.2 b hb).trans e) fC.1 fC.2.1 fC.2.2.2.1 fC.2.2.2.2.1 fC.2.2.2.2.2
 ·rw[exec_Assign_Name_used _ _ _ _ hsw]
  refine wpAny_bind (wpAny_standAt (wpAny_bind ?_))
  show wpAny _ X.A (do let _ ← comprehension (.ListComp elt [⟨tgt,iter,[],0⟩] scope pos) scope X.env _ (newList []) false (eval iter X.env) (some (assign (.Name x pos') X.env))) _ _ s
  refine wpAny_bind (wpAny_mono (wpAny_comprehension_free (use:=some (assign (.Name x pos') X.env)) (Q:=fun _ s'=>SP X pins D' .next s') rfl hs (hcl I) hkind hnames
   (first (RR:=fun acc C=>compPost (model X.prog X.w) X.A X.xe (some (assign (.Name x pos') X.env)) (fun _ s'=>SP X pins D' .next s') acc C) I h fun Da C s6 H5 m I6 ns fC q=>?_)) (fun _ s' hq=>wpAny_pure (wpAny_pure hq)) fun _ _ e=>e)
  show wpAny _ X.A (assign (.Name x pos') X.env (.ref Da)) _ _ _
  refine wpAny_assign_Name (zhS (v:=.ref Da) I6 hN hi' (.inl hx) rfl (fun s' I' ⟨a,sb,ha⟩=>?_) (.inr hx))
  have hCa:C≠a:=by
   rcases ha with rfl | ha
   ·exact fC.2.1
   ·exact fun z=>fC.2.2.2.2.1 x a ha z.symm
  refine⟨m,ns.sameBut sb hCa,fun h' sb'=>⟨_,H5,?_,q⟩⟩
  exact I'.turned (t':=s'.toks) (it:=C) (fun b o hb e=>(sb'.2 b hb).trans e) fC.1 fC.2.1 fC.2.2.2.1 fC.2.2.2.2.1 fC.2.2.2.2.2
theorem zoy {n:Nat}{fr:List Nat}{src:Ev->List D->Res (List D×List D)}{tg:Ev->D->Res Ev}{fm:Ev->List D->Res (D×List D)}:∀ ρ st d s',zlv n fr src tg fm ρ st=.ok (d,s')->∃ ds,d=.lst ds:=fun ρ st d s' h=>by
 unfold zlv at h
 cases e1:src ρ st with
 | stuck=>rw[e1] at h;cases h
 | exn x=>rw[e1] at h;cases h
 | ok pr =>
  rw[e1] at h
  simp only[Res.bind,zlu] at h
  by_cases hl:pr.1.length<=line
  ·rw[if_pos hl] at h
   cases e2:zgZ (zeA n fr ρ) tg fm pr.1 pr.2 with
   | stuck=>rw[e2] at h;cases h
   | exn x=>rw[e2] at h;cases h
   | ok q=>rw[e2] at h;cases h;exact⟨_,rfl⟩
  ·rw[if_neg hl] at h;cases h
theorem MSx.addL {K:W.Frag}{He H0e H1 H01 H' H₀':Hp}{σ:L2.St}{ρ:Ev}{a p:Addr}{st1 st' ds:List D}{us1 us xs:List V}(h1:MSx K He H0e H01 σ H1 ρ a st1 us1)(g:za4 (era a H1) H01 H' H₀')(n:H₀' a=none)(hl:H' a=some (.lst us))(r:Reps K H₀' st' us)(hp:H1 p=none)(h0:H₀' p=none)(hv:H' p=some (.lst xs))(rp:Reps K H₀' ds xs) :
  zax H01 (upd H₀' p (.lst xs))/\MSx K He H0e (upd H₀' p (.lst xs)) σ H' ρ a st' us/\Rep K (upd H₀' p (.lst xs)) (.lst ds) (.ref p):=by
 have pa:a≠p:=fun z=>by have:=h1.hl;rw[z,hp] at this;cases this
 have z:zax H₀' (upd H₀' p (.lst xs)):=fun b o e=>by rw[zah (by intro z;subst z;rw[h0] at e;cases e)];exact e
 have g':za4 (era a H1) H01 H' (upd H₀' p (.lst xs)):=⟨g.s,g.z.trans z,fun b o e=>by
  by_cases c:b=p
  ·subst c;rw[zak] at e;cases e;exact hv
  ·rw[zah c] at e;exact g.sub _ _ e,fun b k1 k2=>by
  by_cases c:b=p
  ·subst c;rw[zel (Ne.symm pa)];exact hp
  ·rw[zah c] at k1;exact g.nw b k1 k2⟩
 exact⟨g'.z,h1.change g' (by rw[zah pa];exact n) hl (r.mono z),Rep.lst_iff.mpr ⟨p,xs,rfl,SqL.of zak,rp.mono z⟩⟩
section
variable {X:Cx}{E:XK}{He H0e:Hp}{a:Addr}{e:Expr}{pos:Pos}{fm:Ev->List D->Res (D×List D)}
theorem ztZ {i:Nat}{x:Str}{pos':Pos}(hN:X.N.Nodup)(hi:X.N[i]?=some x)(hx:X.env.scope.names.lookup x=some .local)(h:MCo X He H0e a e fm)(ho:∀ ρ st d s',fm ρ st=.ok (d,s')->∃ ds,d=.lst ds)(hs:swapsWith e (some (.Name x pos')) pos.line X.env=pure true:=by rfl):SM X He H0e a (.Assign [.Name x pos'] e pos) (zfp i fm):=by
 refine⟨za5 (h.st hN hi hx hs) fun D' σ H ⟨H₀,ρ,st,vs,h,q⟩=>⟨H₀,ρ,st,vs,h,?_⟩⟩
 unfold zfp at q
 cases e1:fm ρ st with
 | stuck=>rw[e1] at q;exact q
 | exn x=>rw[e1] at q;exact q
 | ok pr =>
  obtain⟨d,s1⟩:=pr
  obtain⟨ds,rfl⟩:=ho _ _ _ _ e1
  rw[e1] at q
  intro p xs H1 H01 st1 us1 H' H₀' us z h1 g n hl r hp h0 hv rp
  obtain⟨k1,k2,k3⟩:=h1.addL g n hl r hp h0 hv rp
  exact q _ H' _ us (z.trans k1) (k2.back (zax.refl _) (k2.s.put k3))
end
mutual
def zhH:D->Option PyData
 | .non=>some .none
 | .bl b=>some (.bool b)
 | .int i=>some (.int i)
 | .str x=>some (.str x)
 | .tup ds=>(toPys ds).map PyData.tuple
 | .lst ds=>(toPys ds).map PyData.list
 | .dic ks ds=>if ks.isEmpty&&ds.isEmpty then some (.dict []) else none
 | .exc _=>none
 | .ob _ _=>none
def toPys:List D->Option (List PyData)
 | []=>some []
 | d::ds=>match zhH d,toPys ds with
  | some x,some xs=>some (x::xs)
  | _,_=>none
end
section
variable {X:Cx}{E:XK}{pins:List (Addr×Obj)}{σ:L2.St}{H:Hp}{s:Shared}
theorem zuy (I:L2.Inv X pins σ H s){a:Addr}{vs:List V}(h:SqL X.K H a vs):a≠sysModules:=by
 intro z
 subst z
 obtain⟨mm,o,es,ep,e,hd,_⟩:=I.ok.mod.sm
 have:=(I.bs _ _ e).2
 rcases h with h | ⟨o',_,_,h1,h2,_,h3,_⟩
 ·rcases h with h | ⟨_,h⟩<;>(rw[this] at h;cases h)
 ·have e':=I.ok.mod.kin _ _ h1
  rw[e] at e';cases e'
  rw[hd] at h3;cases h3
mutual
theorem zmX (I:L2.Inv X pins σ H s):∀ (d:D) (v:V) (u:Value) (p:PyData),Rep X.K H d v->zbP v u->zhH d=some p->∃ as,PySem.Reads s.heap u p as/\sysModules∉as
 | .non,v,u,p,r,rv,e=>by
  rw[zhH] at e;cases e
  rw[Rep.non_iff.mp r] at rv;cases rv
  exact⟨_,.none,by simp⟩
 | .bl b,v,u,p,r,rv,e=>by
  rw[zhH] at e;cases e
  rw[Rep.bl_iff.mp r] at rv;cases rv
  exact⟨_,.bool b,by simp⟩
 | .int i,v,u,p,r,rv,e=>by
  rw[zhH] at e;cases e
  rw[Rep.int_iff.mp r] at rv;obtain⟨t,rfl⟩:=rv
  exact⟨_,.int i t,by simp⟩
 | .str x,v,u,p,r,rv,e=>by
  rw[zhH] at e;cases e
  rw[Rep.str_iff.mp r] at rv;obtain⟨t,rfl⟩:=rv
  exact⟨_,.str x t,by simp⟩
 | .tup ds,v,u,p,r,rv,e=>by
  rw[zhH] at e
  cases e1:toPys ds with
  | none=>rw[e1] at e;cases e
  | some ps =>
   rw[e1] at e;cases e
   obtain⟨a,vs,its,rfl,rfl,h1,h2,h3,⟨o,k1,k2,n,k3⟩,_⟩:=Rep.tup_get I r rv
   obtain⟨as,h4,h5⟩:=reads_ofs I ds vs its ps h2 h3 e1
   exact⟨_,.tuple k1 k2 k3 (by simpa using h4),h5⟩
 | .lst ds,v,u,p,r,rv,e=>by
  rw[zhH] at e
  cases e1:toPys ds with
  | none=>rw[e1] at e;cases e
  | some ps =>
   rw[e1] at e;cases e
   obtain⟨a,vs,its,rfl,rfl,h1,h2,h3,⟨o,k1,k2,n,k3⟩,_⟩:=Rep.lst_get I r rv
   obtain⟨as,h4,h5⟩:=reads_ofs I ds vs its ps h2 h3 e1
   exact⟨_,.list k1 k2 k3 (by simpa using h4),by rw[List.mem_cons,not_or];exact⟨Ne.symm (zuy I h1),h5⟩⟩
 | .dic ks ds,v,u,p,r,rv,e=>by
  rw[zhH] at e
  by_cases c:(ks.isEmpty&&ds.isEmpty)=true
  ·rw[if_pos c] at e;cases e
   have hE:isE (.dic ks ds)=true:=by
    rw[Bool.and_eq_true,List.isEmpty_iff,List.isEmpty_iff] at c
    rw[c.1,c.2];rfl
   obtain⟨a,rfl,n1,o,es,ep,k1,k2,k3,_,k5,_⟩:=zpw I hE r rv
   have he:es.toList=[]:=by
    generalize es.toList=l at k5 ⊢
    cases k5;rfl
   refine⟨_,.dict (kvs:=[]) k1 k2.1 k3 (by rw[he];exact .nil) (by rw[he];exact .nil),?_⟩
   simp only[List.append_nil,List.mem_cons,List.not_mem_nil,or_false]
   exact fun z=>by rw[z] at n1;simp at n1
  ·rw[if_neg c] at e;cases e
 | .exc _,v,u,p,r,rv,e=>by rw[zhH] at e;cases e
 | .ob _ _,v,u,p,r,rv,e=>by rw[zhH] at e;cases e
theorem reads_ofs (I:L2.Inv X pins σ H s):∀ (ds:List D) (vs:List V) (us:List Value) (ps:List PyData),Reps X.K H ds vs->zbK vs us->toPys ds=some ps->∃ as,PySem.ReadsAll s.heap us ps as/\sysModules∉as
 | [],vs,us,ps,r,rv,e=>by
  rw[toPys] at e;cases e
  rw[Reps.nil_iff.mp r] at rv;cases rv
  exact⟨_,.nil,by simp⟩
 | d::ds,vs,us,ps,r,rv,e=>by
  obtain⟨v,vr,rfl,h1,h2⟩:=Reps.cons_iff.mp r
  cases rv with
  | cons ra rb =>
   rw[toPys] at e
   cases e1:zhH d with
   | none=>rw[e1] at e;cases e
   | some p =>
    cases e2:toPys ds with
    | none=>rw[e1,e2] at e;cases e
    | some qs =>
     rw[e1,e2] at e;cases e
     obtain⟨as,k1,m1⟩:=zmX I d v _ p h1 ra e1
     obtain⟨bs,k2,m2⟩:=reads_ofs I ds vr _ qs h2 rb e2
     exact⟨_,.cons k1 k2,by rw[List.mem_append,not_or];exact⟨m1,m2⟩⟩
end
def zv4 (d:D):Bool:=match d with
 | .tup _=>true
 | .lst _=>true
 | _=>false
def zkQ (p:PyData):Bool:=p.showable&&decide (p.depth<=100)&&decide (p.shown.length<=sizeLine)
def zko (d:D):Res D:=match zhH d with
 | some p=>if zv4 d=true/\zkQ p=true then .ok (.str p.shown) else .stuck
 | none=>.stuck
theorem ziK {k:Nat}(hr:zdE k X.A):zhF X (.builtin "repr") (fun xs H Q=>∃ v d p,xs=[v]/\Rep X.K H d v/\zhH d=some p/\zv4 d=true/\zkQ p=true/\Q (.str p.shown) H):=by
 intro pins s σ H xs us Q I r h
 obtain⟨v,d,p,rfl,rd,e,hq,hw,q⟩:=h
 obtain⟨u,rfl,rx⟩:=zlS r
 obtain⟨as,hR,hm⟩:=zmX I d v u p rd rx e
 have hu:∃ a,u=.ref a:=by
  cases d with
  | tup ds=>obtain⟨a,_,_,_,h,_⟩:=Rep.tup_get I rd rx;exact⟨a,h⟩
  | lst ds=>obtain⟨a,_,_,_,h,_⟩:=Rep.lst_get I rd rx;exact⟨a,h⟩
  | _=>cases hq
 obtain⟨a,rfl⟩:=hu
 unfold zkQ at hw
 simp only[Bool.and_eq_true,decide_eq_true_eq] at hw
 obtain⟨⟨w1,w3⟩,w4⟩:=hw
 refine repr_of_reads' hR w1 (fun _=>hm) hr.gd (by have:=hr.un;omega) (fun b o e=>e) (fun h' u' tk hk=>⟨.str p.shown,H,I.kept hk,⟨u',rfl⟩,q⟩) w4
theorem zmv:zhG X E (fun xs H Q=>∃ v d p,xs=[v]/\Rep X.K H d v/\zhH d=some p/\zv4 d=true/\zkQ p=true/\Q (.str p.shown) H) (m1 zko):=zoB fun x v H H₀ Q hs r q=>by
 unfold zko at q
 cases e:zhH x with
 | none=>rw[e] at q;exact q.elim
 | some p =>
  rw[e] at q
  replace q:post X.K E H H₀ (if zv4 x=true/\zkQ p=true then .ok (.str p.shown) else .stuck) Q:=q
  by_cases hc:zv4 x=true/\zkQ p=true
  ·rw[if_pos hc] at q
   exact⟨v,x,p,rfl,r.mono hs,e,hc.1,hc.2,zaX hs q (Rep.str_iff.mpr rfl)⟩
  ·rw[if_neg hc] at q;exact q.elim
end
section
variable {X:Cx}{E:XK}{He H0e:Hp}{a:Addr}{e:Expr}{es:List Expr}{pos:Pos}{f g:Ev->Res D}{fm gm hm im jm:Ev->List D->Res (D×List D)}{fa:Ev->List D->Res (List D×List D)}{s:Ev->List D->Res MFl}{st:Stmt}
def zlY (f:Ev->Res D):Ev->Res Fl:=fun ρ=>(f ρ).bind fun d=>.ok (.rt d)
theorem zlo (h:DF X E e f):zvu X E He H0e [.Return (some e) pos] (zlY f):=by
 refine⟨zcw (zdk (zkW h.o) zh6) fun D' σ H ⟨H₀,ρ,h,q⟩=>⟨H₀,ρ,h.g.sub,h.rd,?_⟩⟩
 unfold zlY at q
 cases e1:f ρ with
 | stuck=>rw[e1] at q;exact q
 | exn x=>rw[e1] at q;exact fun C ox H' H₀' g r=>q C ox H' H₀' (h.g.trans g) r
 | ok d =>
  rw[e1] at q
  cases d with
  | lst ds=>exact fun p vs H' H₀' g hp h0 hv rp=>q p vs H' H₀' (h.g.trans g) (h.g.s.free hp) h0 hv rp
  | _=>exact q.elim
theorem DMW.dt (h:DMW X He H0e a e fm):DMT X He H0e a e fm:=⟨PW.pt h.o⟩
def zut (i:Nat)(s:Ev->List D->Res MFl):Ev->List D->Res MFl:=fun ρ st=>s (unown i ρ) st
theorem zpk (i:Nat)(h:SM X He H0e a st s):SM X He H0e a st (zut i s):=⟨za5 h.o fun D' σ H ⟨H₀,ρ,sl,vs,hr,q⟩=>by
 obtain⟨H₀',z,hr'⟩:=hr.s.unown i
 exact⟨H₀',DL.unown i ρ,sl,vs,hr.back z hr',zcJ.grow (r:=s (DL.unown i ρ) sl) q z⟩⟩
theorem zk3 {n:Nat}(hr:∀ ρ st ds,fa ρ st=.ok ds->ds.1.length=n)(ρ:Ev)(st:List D)(ds:List D×List D)(h:zaU fm fa ρ st=.ok ds):ds.1.length=n+1:=by
 unfold zaU at h
 cases e1:fm ρ st with
 | stuck=>rw[e1] at h;cases h
 | exn x=>rw[e1] at h;cases h
 | ok p =>
  rw[e1] at h
  simp only[Res.bind] at h
  cases e2:fa ρ p.2 with
  | stuck=>rw[e2] at h;cases h
  | exn x=>rw[e2] at h;cases h
  | ok q=>rw[e2] at h;cases h;simp [hr _ _ _ e2]
theorem am0 (ρ:Ev)(st:List D)(ds:List D×List D)(h:zdh ρ st=.ok ds):ds.1.length=0:=by cases h;rfl
theorem am1 (ρ:Ev)(st:List D)(ds:List D×List D)(h:zaU fm zdh ρ st=.ok ds):ds.1.length=1:=zk3 am0 ρ st ds h
theorem am2 (ρ:Ev)(st:List D)(ds:List D×List D)(h:zaU fm (zaU gm zdh) ρ st=.ok ds):ds.1.length=2:=zk3 am1 ρ st ds h
variable {CX:CXT}{k n:Nat}{fn:Addr}{fd:FuncData}{ps:List Str}{x:Str}{p:Pos}{ft:Stmt}
theorem qmc {m:List D->Res D}(F:FnOk X.prog X.w X.K X.mg X.base CX k fn fd ps (spD X.K n m))(hr:zdE k X.A)(t:FT X.K X.mg x ft ps fn fd)(hx:zdP CX X E)(ha:DMA X He H0e a (e::es) fa)(hl:∀ ρ st ds,fa ρ st=.ok ds->ds.1.length=(e::es).length)(hn:(e::es).length=n:=by rfl)
  (hg:Gl X x:=by exact rfl)(hdb:(x==("__debug__" : Str))=false:=by decide)(he:starEach (e::es) X.env=(false,eval e X.env)::starEach es X.env:=by exact zaC rfl)(hpl:(backTo pos (starEach es X.env)).any (·.1)=false:=by exact za3 rfl) :
  DM X He H0e a (.Call (.Name x p) (e::es) [] pos) (mA fa m):=zuX F hr hg t.g t.F.kp t.b hx ha hn hl hdb he hpl
theorem qm (i:Nat){y:Str}{p1:Pos}{m:Addr->List D->List D->Res (D×List D)}(F:FnOk X.prog X.w X.K X.mg X.base CX k fn fd ps (spM X.K n m))(hr:zdE k X.A)(t:FT X.K X.mg x ft ps fn fd)(hx:zdP CX X E)(ha:DMA X He H0e a es fa)(hl:∀ ρ st ds,fa ρ st=.ok ds->ds.1.length=n)
  (hN:X.N[i]?=some y:=by rfl)(hv:Vis X.env.scope y:=by first | exact Or.inl rfl | exact Or.inr (Or.inl rfl) | exact Or.inr (Or.inr rfl))(hg:Gl X x:=by exact rfl)
  (hd:(y==("__debug__" : Str))=false:=by decide)(hcd:(y==("__classdict__" : Str))=false:=by decide)(hdb:(x==("__debug__" : Str))=false:=by decide)(he:starEach (.Name y p1::es) X.env=(false,eval (.Name y p1) X.env)::starEach es X.env:=by exact zaC rfl)(hpl:(backTo pos (starEach es X.env)).any (·.1)=false:=by exact za3 rfl) :
  DM X He H0e a (.Call (.Name x p) (.Name y p1::es) [] pos) (zbr i a fa m):=zsz (E:=E) F hr hg t.g t.F.kp t.b hx hN hv ha hl hd hcd hdb he hpl
theorem zlq {l b:Expr}(ha:DM X He H0e a l fm)(hb:DM X He H0e a b gm):DM X He H0e a (.BinOp l .Add b pos) (mB fm gm zcv):=zxc (E:=E0) (OpR.or zs9 (OpR.or zjk (OpR.or zl7 zpP))) (by
 intro x y v u H H₀ Q hs r1 r2 q
 unfold zcv at q
 cases x with
 | int i =>
  cases y with
  | int j=>exact .inl ⟨i,j,Rep.int_iff.mp r1,Rep.int_iff.mp r2,zaX hs q (ri _)⟩
  | _=>exact q.elim
 | str i =>
  cases y with
  | str j =>
   by_cases h:i.length+j.length<=line
   ·simp only[if_pos h] at q
    exact .inr (.inl ⟨i,j,Rep.str_iff.mp r1,Rep.str_iff.mp r2,zch h,zaX hs q (Rep.str_iff.mpr rfl)⟩)
   ·simp only[if_neg h] at q;exact q.elim
  | _=>exact q.elim
 | lst ds =>
  cases y with
  | lst es =>
   by_cases h:ds.length+es.length<=line
   ·simp only[if_pos h] at q
    obtain⟨l,vs,rfl,h1,h2⟩:=Rep.lst_iff.mp r1
    obtain⟨m,us,rfl,k1,k2⟩:=Rep.lst_iff.mp r2
    refine .inr (.inr (.inl ⟨l,m,vs,us,rfl,rfl,zax.sqL hs h1,zax.sqL hs k1,by rw[← h2.length,← k2.length];exact zch h,fun p hp=>?_⟩))
    exact q _ _ _ (za4.alloc hs hp) (Rep.lst_iff.mpr ⟨p,_,rfl,SqL.of zak,(h2.app k2).mono (za4.alloc hs hp).z⟩)
   ·simp only[if_neg h] at q;exact q.elim
  | _=>exact q.elim
 | tup ds =>
  cases y with
  | tup es =>
   by_cases h:ds.isEmpty=false/\ds.length+es.length<=line
   ·simp only[if_pos h] at q
    obtain⟨l,vs,rfl,h1,h2⟩:=Rep.tup_iff.mp r1
    obtain⟨m,us,rfl,k1,k2⟩:=Rep.tup_iff.mp r2
    refine .inr (.inr (.inr ⟨l,m,vs,us,rfl,rfl,zax.sqT hs h1,zax.sqT hs k1,fun z=>?_,by rw[← h2.length,← k2.length];exact zch h.2,fun z=>?_,fun z p hp=>?_⟩))
    ·have:=h2.length
     rw[z] at this
     have e:ds=[]:=List.length_eq_zero_iff.mp this
     rw[e] at h;exact absurd h.1 (by decide)
    ·have:=k2.length
     rw[z] at this
     have e:es=[]:=List.length_eq_zero_iff.mp this
     rw[e,List.append_nil] at q
     exact zaX hs q r1
    ·exact q _ _ _ (za4.alloc hs hp) (Rep.tup_iff.mpr ⟨p,_,rfl,SqT.of zak,(h2.app k2).mono (za4.alloc hs hp).z⟩)
   ·simp only[if_neg h] at q;exact q.elim
  | _=>exact q.elim
 | _=>exact q.elim) ha hb
theorem ztk {l b:Expr}(ha:DM X He H0e a l fm)(hb:DM X He H0e a b gm):DM X He H0e a (.BinOp l .Mod b pos) (mB fm gm zez):=zxc (E:=E0) zpM (znd (fun _ _ h=>of_decide_eq_true h) fun _ _ _ _=>ri _) ha hb
theorem zgX {l b:Expr}(ha:DM X He H0e a l fm)(hb:DM X He H0e a b gm)(hs:ziX b:=by intro _ _;rfl):DM X He H0e a (.Subscript l b pos) (mB fm gm dIx):=zyJ (E:=E0) ztc zwE ha hb hs
theorem zzQ {tgt iter elt:Expr}{scope:Scope}(N:List Str)(n:Nat)(fr:List Nat){src:Ev->List D->Res (List D×List D)}{tg:Ev->D->Res Ev}(hc:X.calm=true)(hi:MI X He H0e a tgt iter src)(hok:zvi n tg)
  (blk:∀ s H C fp pn,(∀ He H0e,DG (zck X N scope s H C fp pn) E He H0e tgt tg)/\∀ He H0e,DM (zck X N scope s H C fp pn) He H0e a elt fm)
  (hfr:zvk X N n fr scope)(hcell:(scope.names.all fun x=>!(x.2==.cell))=true)(hfree:(scope.names.all fun x=>!(x.2==.free)||(X.env.scope.names.lookup x.1==some .cell))=true)(hkind:scope.kind=.function)
  (hnames:(scope.names.all fun x=>!(x.2==.local)||(scope.names.lookup x.1==some .local))=true)
  (hs:∀ x,foldedSetIterable iter X.env x=pure x:=by intro _;rfl):MCo X He H0e a (.ListComp elt [⟨tgt,iter,[],0⟩] scope pos) (zlv n fr src tg fm):=by
 refine mco (E:=E) N n fr hc hi hok blk hfr (fun x hx z=>?_) (fun x hx z=>?_) hkind (fun x hx z=>?_) hs
 ·have:=List.all_eq_true.mp hcell x hx
  rw[z] at this;simp at this
 ·have:=List.all_eq_true.mp hfree x hx
  rw[z] at this;simpa using this
 ·have:=List.all_eq_true.mp hnames x hx
  rw[z] at this;simpa using this
end
section
variable {X:Cx}{E:XK}{He H0e:Hp}{a:Addr}{st:Stmt}{e l b:Expr}{rest es:List Expr}{pos:Pos}{f:Ev->Res D}{fm gm:Ev->List D->Res (D×List D)}
def zxI (g:Ev->List D->Res (D×List D))(ρ:Ev)(p:D×List D):Res (D×List D):=match p.1 with
 | .bl b=>if b=true then .ok (.bl true,p.2) else g ρ p.2
 | _=>.stuck
def mOr (f g:Ev->List D->Res (D×List D)):Ev->List D->Res (D×List D):=fun ρ st=>(f ρ st).bind (zxI g ρ)
theorem zsx (ha:DMT X He H0e a l fm):DMW X He H0e a (.BoolOp .Or [l] pos) fm:=⟨zs2 ha.o⟩
theorem zxb (ha:DMT X He H0e a l fm)(hb:DMW X He H0e a (.BoolOp .Or (b::rest) pos) gm):DMW X He H0e a (.BoolOp .Or (l::b::rest) pos) (mOr fm gm):=by
 refine⟨?_⟩
 refine zl1 (zwg ha.o hb.o) fun σ H Q ⟨H₀,ρ,st,vs,h,q⟩=>⟨H₀,ρ,st,vs,h,?_⟩
 unfold mOr at q
 cases e1:fm ρ st with
 | stuck=>rw[e1] at q;exact q
 | exn x=>rw[e1] at q;exact q
 | ok p =>
  obtain⟨d,st'⟩:=p
  rw[e1] at q
  cases d with
  | bl c =>
   intro H1 H01 us z h1
   cases c with
   | false =>
    rw[if_neg Bool.false_ne_true]
    refine⟨H01,ρ,st',us,h1,?_⟩
    replace q:match gm ρ st' with
     | .ok (.bl b,st')=>∀ H' H₀' us,zax H₀ H₀'->MSx X.K He H0e H₀' σ H' ρ a st' us->Q b H'
     | .ok _=>False
     | .exn _=>False
     | .stuck=>False:=q
    cases e2:gm ρ st' with
    | stuck=>rw[e2] at q;exact q
    | exn x=>rw[e2] at q;exact q
    | ok p2 =>
     obtain⟨d2,s2⟩:=p2
     rw[e2] at q
     cases d2 with
     | bl c2=>exact fun H2 H02 us2 z2 h2=>q H2 H02 us2 (z.trans z2) h2
     | _=>exact q.elim
   | true=>rw[if_pos rfl];exact q H1 H01 us z h1
  | _=>exact q.elim
def zus (p:D×List D):Res (D×List D):=match p.1 with
 | .bl b=>.ok (.bl (!b),p.2)
 | _=>.stuck
def zwK (f:Ev->List D->Res (D×List D)):Ev->List D->Res (D×List D):=fun ρ st=>(f ρ st).bind zus
theorem zuW (ha:DMT X He H0e a l fm):DMT X He H0e a (.UnaryOp .Not l pos) (zwK fm):=by
 refine⟨?_⟩
 refine zdY (zs5 ha.o) fun σ H Q ⟨H₀,ρ,st,vs,h,q⟩=>⟨H₀,ρ,st,vs,h,?_⟩
 unfold zwK at q
 cases e1:fm ρ st with
 | stuck=>rw[e1] at q;exact q
 | exn x=>rw[e1] at q;exact q
 | ok p =>
  obtain⟨d,st'⟩:=p
  rw[e1] at q
  cases d with
  | bl c=>exact fun H1 H01 us z h1=>q H1 H01 us z h1
  | _=>exact q.elim
end
def zjf (fa:Ev->Res (List D))(m:List D->Res D):Ev->Res Fl:=fun ρ=>match fa ρ with
 | .ok ds=>(m ds).bind fun _=>.ok (.nx ρ)
 | _=>.stuck
section
variable {X:Cx}{e:Expr}{es:List Expr}{fa:Ev->Res (List D)}{pos:Pos}{k n:Nat}{fn:Addr}{fd:FuncData}{ps:List Str}{m:List D->Res D}{x:Str}{p:Pos}{st:Stmt}
theorem ztQ {cpos:Pos}(F:FnOk X.prog X.w X.K X.mg X.base (CXE X.prog X.w) k fn fd ps (spD X.K n m))(hr:zdE k X.A)(hg:Gl X x)(hm:X.mg x=some (.ref fn))
  (hk:W.keepIn X.K (.ref fn)=true)(hb:zgx X.K fd ps [])(ha:DA X.nox E0 (e::es) fa)(hn:(e::es).length=n:=by rfl)(hl:∀ ρ ds,fa ρ=.ok ds->ds.length=(e::es).length)
  (hdb:(x==("__debug__" : Str))=false:=by decide)(he:starEach (e::es) X.env=(false,eval e X.env)::starEach es X.env:=by exact zaC rfl)(hpl:(backTo cpos (starEach es X.env)).any (·.1)=false:=by exact za3 rfl)
  (hs:swapsWith (.Call (.Name x p) (e::es) [] cpos) none pos.line X.env=pure false:=by rfl):TB X (.Expr (.Call (.Name x p) (e::es) [] cpos) pos) (zjf fa m):=by
 refine⟨fun pins s σ H He H0e H₀ ρ D XE I h q hx=>?_⟩
 refine wpAny_Expr_any (thn (zvb (Q:=fun v H1=>D.nx σ H1) F hr hg hm hk hb ha.o I ?_ hx hdb he hpl) fun v s1 ⟨y,H1,I1,r1,q1⟩=>⟨σ,H1,I1,q1⟩) I.quiet hs
 refine⟨H₀,ρ,h.g.sub,h.rd,?_⟩
 unfold zjf at q ⊢
 cases e1:fa ρ with
 | stuck=>rw[e1] at q;exact q
 | exn x=>rw[e1] at q;exact q.elim
 | ok ds =>
  rw[e1] at q
  intro vs H1 H01 g1 r1
  refine⟨?_,H01,ds,g1.sub,r1,?_⟩
  ·have:=r1.length
   have:=hl ρ ds e1
   omega
  ·show post _ _ _ _ (m ds) _
   cases e2:m ds with
   | stuck=>simp only[e2] at q;exact q
   | exn x=>exact fun C ox H' H₀' g ex=>⟨x,H₀',by simp only[e2];rfl,g1.z.trans g.z,h.grow (g1.trans g),ex⟩
   | ok d =>
    simp only[e2] at q
    exact fun v H' H₀' g rp=>q _ H' H₀' (g1.z.trans g.z) (h.grow (g1.trans g))
theorem qd {cpos:Pos}(F:FnOk X.prog X.w X.K X.mg X.base (CXE X.prog X.w) k fn fd ps (spD X.K n m))(hr:zdE k X.A)(t:FT X.K X.mg x st ps fn fd)(ha:DA X.nox E0 (e::es) fa)(hl:∀ ρ ds,fa ρ=.ok ds->ds.length=(e::es).length)(hn:(e::es).length=n:=by rfl)
  (hg:Gl X x:=by exact rfl)(hdb:(x==("__debug__" : Str))=false:=by decide)(he:starEach (e::es) X.env=(false,eval e X.env)::starEach es X.env:=by exact zaC rfl)(hpl:(backTo cpos (starEach es X.env)).any (·.1)=false:=by exact za3 rfl)
  (hs:swapsWith (.Call (.Name x p) (e::es) [] cpos) none pos.line X.env=pure false:=by rfl):TB X (.Expr (.Call (.Name x p) (e::es) [] cpos) pos) (zjf fa m):=ztQ F hr hg t.g t.F.kp t.b ha hn hl hdb he hpl hs
end
theorem zir {P:Program}{w:World}{K:W.Frag}{mg:Str->Option Value}{base:Heap}{x qual:Str}{st:Stmt}{f:Addr}{fd:FuncData}{N ps:List Str}{k:Nat}{s:Ev->Res Fl}(F:Fun K x qual st f fd)(S:zaw N ps (defScope st))
  (hbody:∀ (cdv:Value) (A:Around) (outer:List PySem.Env) (s0:Shared) (H H₀:Hp) (E:XK),zdE k (A.deeper (envOfC qual (defScope st) s0.heap.objs.size f cdv)) ->
   zvu (zhB (CXE P w) P w K mg base N qual (defScope st) f cdv A outer s0 H E) E H H₀ (defBody st) s):FnOk P w K mg base (CXE P w) (k+1) f fd ps (spF K ps.length (zoI N.length s)):=by
 have hpl:ps.length<=N.length:=by have:=congrArg List.length S.pre;rw[List.length_take] at this;omega
 obtain⟨oc,od,kV,doc,pm,an,cdv,ct,osl,rfl,lk,hcd⟩:=F.ex
 refine zuM lk hcd S (fun vs H Q E h=>h.1) fun A outer s0 H vs Q E hr h=>?_
 obtain⟨hn,H₀,ds,hs,hv,q⟩:=h
 refine⟨_,(hbody cdv A outer s0 H H₀ E hr).o,H₀,ds.map Sl.sh++List.replicate (N.length-ds.length) .no,?_,?_⟩
 ·refine⟨za4.refl hs,zdR hv,fun i d e=>?_,fun i j d d' hij e=>?_,?_,OX.none zfW ze2⟩
  ·by_cases hi:i < ds.length
   ·rw[List.getElem?_append_left (by simpa using hi),List.getElem?_map] at e
    cases q:ds[i]? with
    | none=>rw[q] at e;cases e
    | some d'=>rw[q] at e;cases e
   ·rw[List.getElem?_append_right (by simpa using hi),List.getElem?_replicate] at e
    split at e<;>cases e
  ·by_cases hi:i < ds.length
   ·rw[List.getElem?_append_left (by simpa using hi),List.getElem?_map] at e
    cases q:ds[i]? with
    | none=>rw[q] at e;cases e
    | some d'=>rw[q] at e;cases e
   ·rw[List.getElem?_append_right (by simpa using hi),List.getElem?_replicate] at e
    split at e<;>cases e
  ·unfold L2.start
   have:=hv.length
   simp only[List.length_append,List.length_map,List.length_replicate]
   omega
 ·unfold zoI at q
  cases e1:s (ds.map Sl.sh++List.replicate (N.length-ds.length) .no) with
  | stuck=>rw[e1] at q;exact q
  | exn x=>rw[e1] at q;exact q
  | ok r =>
   rw[e1] at q
   cases r with
   | rt d =>
    cases d with
    | lst es=>exact fun p us H' H₀' g hp h0 hv' rr=>q p us H' H₀' g hp h0 hv' rr
    | _=>exact q.elim
   | _=>exact q.elim
theorem zpf {K:W.Frag}{n:Nat}{m:List D->Res D}{vs:List V}{H:Hp}{Q:VK}{E E':XK}(h:spF K n (noX m) vs H Q E):spF K n m vs H Q E':=by
 obtain⟨hn,H₀,ds,hs,hv,q⟩:=h
 refine⟨hn,H₀,ds,hs,hv,?_⟩
 unfold noX at q
 cases e:m ds with
 | stuck=>rw[e] at q;exact q
 | exn x=>rw[e] at q;exact q.elim
 | ok d=>rw[e] at q;cases d<;>first | exact q | exact q.elim
theorem FnOk.noXF {P:Program}{w:World}{K:W.Frag}{mg:Str->Option Value}{base:Heap}{k n:Nat}{f:Addr}{fd:FuncData}{ps:List Str}{m:List D->Res D}(F:FnOk P w K mg base (CXE P w) k f fd ps (spF K n m)) :
  FnOk P w K mg base CX0 k f fd ps (spF K n (DL.noX m)) :=
 ⟨fun vs H Q E h=>F.len vs H Q E0 (zpf h),fun A outer s H args us vs Q E hr he hb hv h=>codeAny_mono (F.run A outer s H args us vs Q E0 hr he hb hv (zpf h)) fun r s' q=>by
  cases r with
  | ok fl=>cases fl<;>exact q
  | error e=>obtain⟨_,_,_,_,_,_,_,_,_,_,_,_,_,_,_,hE⟩:=q;exact hE.elim⟩
end DL
namespace Com
open PySem L2 DL
def zcy:Ev->Res Fl :=
 (zar (zh1 (zgR 1) (zac (zae 1) (dC (.int 0)) dNe)
 (zar (zq2 0 1 (zad (zae 1) (zad (zac (zae 0) (zae 1) zez) zaz)))
 zal))
 (zar (zco (zan (zad (zae 0) zaz) (m1 zvs)))
 zal))
def zfo:List D->Res D:=zdz 2 zcy
def zcQ:Ev->Res Fl :=
 (zar (zbN 2 (zan (zad (zae 0) (zad (zae 1) zaz)) zfo))
 (zar (zco (zan (zad (zac (zae 0) (zae 2) zow) (zad (zac (zae 1) (zae 2) zow) zaz)) zjl))
 zal))
def zj9:List D->Res D:=zdz 3 zcQ
def zoD:Ev->Res Fl :=
 (zar (zco (zhr (zbv (zae 0) (zce "int")) (zdD (zbv (zae 0) (zce "bool")))))
 zal)
def zbu:List D->Res D:=zdz 1 zoD
def zb2:Ev->Res Fl :=
 (zar (zbN 2 (zan (zad (zae 0) zaz) (m1 zvs)))
 (zar (zbN 3 (zan (zad (zae 1) zaz) (m1 zvs)))
 (zar (zh1 (zgR 3) (zac (zae 3) (dC (.int 0)) dNe)
 (zar (zbN 4 (zac (zae 2) (zae 3) zez))
 (zar (zbN 2 (zae 3))
 (zar (zbN 3 (zae 4))
 zal))))
 (zar (zco (zae 2))
 zal))))
def za8:List D->Res D:=zdz 5 zb2
def zg0:Ev->Res Fl :=
 (zar (sIf (dOr (zdD (zan (zad (zae 0) zaz) zbu)) (zdD (zan (zad (zae 1) zaz) zbu)))
 (zar zcl
 zal)
 zal)
 (zar (sIf (zac (zae 1) (dC (.int 0)) dEq)
 (zar zcl
 zal)
 zal)
 (zar (zbN 2 (zan (zad (zae 0) (zad (zae 1) zaz)) za8))
 (zar (sIf (zac (zae 1) (dC (.int 0)) dLt)
 (zar (zbN 2 (zbv (zae 2) zoM))
 zal)
 zal)
 (zar (zco (zan (zad (zac (zae 0) (zae 2) zow) (zad (zac (zae 1) (zae 2) zow) zaz)) zjl))
 zal)))))
def zeL:List D->Res D:=zdz 3 zg0
def zlF:Ev->Res Fl :=
 (zar (zco (zan (zad (zac (zac (zac (zae 0) (dC (.int 0)) dIx) (zac (zae 1) (dC (.int 1)) dIx) zb5) (zac (zac (zae 1) (dC (.int 0)) dIx) (zac (zae 0) (dC (.int 1)) dIx) zb5) zcv) (zad (zac (zac (zae 0) (dC (.int 1)) dIx) (zac (zae 1) (dC (.int 1)) dIx) zb5) zaz)) zeL))
 zal)
def zhf:List D->Res D:=zdz 2 zlF
def zgl:Ev->Res Fl :=
 (zar (zbN 1 (dC (.tup [(.int 0),(.int 1)])))
 (zar (zpt (zae 0) (zcV 2)
 (zar (zbN 1 (zan (zad (zae 1) (zad (zae 2) zaz)) zhf))
 zal))
 (zar (zco (zae 1))
 zal)))
def ze6:List D->Res D:=zdz 3 zgl
theorem bok {α β:Type}{a:α}{f:α->Res β}:(Res.ok a).bind f=f a:=rfl
theorem zef {s t:Ev->Res Fl}{ρ ρ':Ev}(h:s ρ=.ok (.nx ρ')):zar s t ρ=t ρ':=by unfold zar;rw[h];rfl
theorem zjc {s t:Ev->Res Fl}{ρ:Ev}{d:D}(h:s ρ=.ok (.rt d)):zar s t ρ=.ok (.rt d):=by unfold zar;rw[h];rfl
theorem zmT {s:Ev->Res Fl}{ρ ρ':Ev}(h:s ρ=.ok (.nx ρ')):zar s zal ρ=.ok (.nx ρ'):=by unfold zar;rw[h];rfl
theorem zmR {i:Nat}{f:Ev->Res D}{ρ:Ev}{d:D}(h:f ρ=.ok d):zbN i f ρ=.ok (.nx (ρ.set i (.sh d))):=by unfold zbN;rw[h];rfl
theorem zjg {f:Ev->Res D}{ρ:Ev}{d:D}(h:f (shr ρ)=.ok d):zco f ρ=.ok (.rt d):=by unfold zco;rw[h];rfl
theorem zyv {c:Ev->Res D}{s t:Ev->Res Fl}{ρ:Ev}(h:c (shr ρ)=.ok (.bl false)):sIf c s t ρ=t ρ:=by unfold sIf;rw[h];rfl
theorem ne_int {i j:Int}:dNe (.int i) (.int j)=.ok (.bl (!(i==j))):=by unfold dNe;rw[if_pos ⟨rfl,rfl⟩,eqD]
theorem eq_int {i j:Int}:dEq (.int i) (.int j)=.ok (.bl (i==j)):=by unfold dEq;rw[if_pos ⟨rfl,rfl⟩,eqD]
theorem zsZ {n:Nat}{s:Ev->Res Fl}{ds:List D}{d:D}(h:s (ds.map Sl.sh++List.replicate (n-ds.length) .no)=.ok (.rt d)):zdz n s ds=.ok d:=by unfold zdz;rw[h];rfl
theorem zdt {f:Ev->Res D}{fa:Ev->Res (List D)}{ρ:Ev}{x:D}{xs:List D}(h:f ρ=.ok x)(h':fa ρ=.ok xs):zad f fa ρ=.ok (x::xs):=by unfold zad;rw[h,bok,h'];rfl
theorem zcO {f g:Ev->Res D}{op:D->D->Res D}{ρ:Ev}{x y:D}(h:f ρ=.ok x)(h':g ρ=.ok y):zac f g op ρ=op x y:=by unfold zac;rw[h,bok,h'];rfl
theorem zfd {fa:Ev->Res (List D)}{m:List D->Res D}{ρ:Ev}{xs:List D}(h:fa ρ=.ok xs):zan fa m ρ=m xs:=by unfold zan;rw[h];rfl
theorem zp1 {a b:Int}(h:b≠0):zez (.int a) (.int b)=.ok (.int (a.fmod b)):=by
 show(if decide (b≠0)=true then Res.ok (D.int (a.fmod b)) else .stuck)=_
 rw[if_pos (decide_eq_true h)]
theorem znB {a b:Int}(h:zfe a b=true):zow (.int a) (.int b)=.ok (.int (a.fdiv b)):=by
 show(if zfe a b=true then Res.ok (D.int (a.fdiv b)) else .stuck)=_
 rw[if_pos h]
theorem zp0 {a b:Int}(h:zdA a b=true):zb5 (.int a) (.int b)=.ok (.int (a*b)):=by
 show(if zdA a b=true then Res.ok (D.int (a*b)) else .stuck)=_
 rw[if_pos h]
theorem zkd (a b:Int):Int.gcd b (a.fmod b)=Int.gcd a b:=by
 rw[Int.fmod_def,Int.gcd_sub_mul_left_right,Int.gcd_comm]
theorem zqm {a b:Int}(h:b≠0):(a.fmod b).natAbs < b.natAbs:=by
 rcases Int.lt_or_gt_of_ne h with hb | hb
 ·have h1:=Int.fmod_lt_of_pos (-a) (show 0 < -b by omega)
  have h2:=Int.fmod_nonneg_of_pos (-a) (show 0 < -b by omega)
  rw[Int.neg_fmod_neg] at h1 h2
  omega
 ·have h1:=Int.fmod_lt_of_pos a hb
  have h2:=Int.fmod_nonneg_of_pos a hb
  omega
theorem zhk:∀ (n:Nat) (a b:Int),b.natAbs < n->∃ g:Int,g.natAbs=Int.gcd a b /\
  zbY (zac (zae 1) (dC (.int 0)) dNe) (zar (zq2 0 1 (zad (zae 1) (zad (zac (zae 0) (zae 1) zez) zaz))) zal) n [.sh (.int a),.sh (.int b)]=.ok (.nx [.sh (.int g),.sh (.int 0)])
 | 0,a,b,h=>absurd h (Nat.not_lt_zero _)
 | n+1,a,b,h=>by
  unfold zbY
  have c:(zac (zae 1) (dC (.int 0)) dNe) (shr [.sh (.int a),.sh (.int b)])=.ok (.bl (!(b==0))):=ne_int
  rw[c]
  by_cases hb:b=0
  ·subst hb
   exact⟨a,by simp,rfl⟩
  ·have e:(!(b==0))=true:=by simp [hb]
   obtain⟨g,h1,h2⟩:=zhk n b (a.fmod b) (by have:=zqm (a:=a) hb;omega)
   refine⟨g,by rw[h1,zkd],?_⟩
   rw[← h2]
   rw[e]
   have st:(zar (zq2 0 1 (zad (zae 1) (zad (zac (zae 0) (zae 1) zez) zaz))) zal) [.sh (.int a),.sh (.int b)]=.ok (.nx [.sh (.int b),.sh (.int (a.fmod b))]):=by
    refine zmT ?_
    unfold zq2
    have:(zad (zae 1) (zad (zac (zae 0) (zae 1) zez) zaz)) [.sh (.int a),.sh (.int b)]=.ok [.int b,.int (a.fmod b)]:=by
     exact zdt rfl (zdt (zp1 hb) rfl)
    rw[this]
    rfl
   show(Res.bind _ _)=_
   rw[st]
   rfl
theorem zot (a b:Int):zfo [.int a,.int b]=.ok (.int (Int.gcd a b)):=by
 obtain⟨g,h1,h2⟩:=zhk (b.natAbs+1) a b (Nat.lt_succ_self _)
 have w:zh1 (zgR 1) (zac (zae 1) (dC (.int 0)) dNe) (zar (zq2 0 1 (zad (zae 1) (zad (zac (zae 0) (zae 1) zez) zaz))) zal) [.sh (.int a),.sh (.int b)]=.ok (.nx [.sh (.int g),.sh (.int 0)]):=h2
 have r:zcy [.sh (.int a),.sh (.int b)]=.ok (.rt (.int (if g < 0 then -g else g))):=by
  unfold zcy
  rw[zef w]
  exact zjc (zjg rfl)
 show(zcy [.sh (.int a),.sh (.int b)]).bind _=_
 rw[r]
 show Res.ok (D.int (if g < 0 then -g else g))=_
 congr 2
 rw[← h1]
 split<;>omega
theorem ziF:∀ (n:Nat) (x y:D) (a b:Int) (r:Sl),0<=a->0<=b->b.natAbs < n->∃ r',
  zbY (zac (zae 3) (dC (.int 0)) dNe) (zar (zbN 4 (zac (zae 2) (zae 3) zez)) (zar (zbN 2 (zae 3)) (zar (zbN 3 (zae 4)) zal))) n [.sh x,.sh y,.sh (.int a),.sh (.int b),r]=.ok (.nx [.sh x,.sh y,.sh (.int (Int.gcd a b)),.sh (.int 0),r'])
 | 0,_,_,a,b,_,_,_,h=>absurd h (Nat.not_lt_zero _)
 | n+1,x,y,a,b,r,ha,hb0,h=>by
  unfold zbY
  have c:∀ r,(zac (zae 3) (dC (.int 0)) dNe) (shr [.sh x,.sh y,.sh (.int a),.sh (.int b),r])=.ok (.bl (!(b==0))):=fun r=>ne_int
  rw[c]
  by_cases hb:b=0
  ·subst hb
   refine⟨r,?_⟩
   have e:((Int.gcd a 0:Nat):Int)=a:=by simp;omega
   rw[e]
   rfl
  ·have e:(!(b==0))=true:=by simp [hb]
   have hp:0 < b:=by omega
   obtain⟨r',h2⟩:=ziF n x y b (a.fmod b) (.sh (.int (a.fmod b))) hb0 (Int.fmod_nonneg_of_pos a hp) (by have:=zqm (a:=a) hb;omega)
   refine⟨r',?_⟩
   rw[zkd] at h2
   rw[← h2,e]
   have st:(zar (zbN 4 (zac (zae 2) (zae 3) zez)) (zar (zbN 2 (zae 3)) (zar (zbN 3 (zae 4)) zal))) [.sh x,.sh y,.sh (.int a),.sh (.int b),r]=.ok (.nx [.sh x,.sh y,.sh (.int b),.sh (.int (a.fmod b)),.sh (.int (a.fmod b))]):=by
    have m:(zac (zae 2) (zae 3) zez) [.sh x,.sh y,.sh (.int a),.sh (.int b),r]=.ok (.int (a.fmod b)):=by
     exact zp1 hb
    rw[zef (zmR m)]
    rfl
   show(Res.bind _ _)=_
   rw[st]
   rfl
theorem ziG (a b:Int):za8 [.int a,.int b]=.ok (.int (Int.gcd a b)):=by
 have e:∀ i:Int,(if i < 0 then -i else i)=(i.natAbs:Int):=fun i=>by split<;>omega
 obtain⟨r',h⟩:=ziF ((b.natAbs:Int).natAbs+1) (.int a) (.int b) a.natAbs b.natAbs .no (Int.natCast_nonneg _) (Int.natCast_nonneg _) (Nat.lt_succ_self _)
 have hg:Int.gcd (a.natAbs:Int) (b.natAbs:Int)=Int.gcd a b:=by simp [Int.gcd]
 rw[hg] at h
 have r:zb2 [.sh (.int a),.sh (.int b),.no,.no,.no]=.ok (.rt (.int (Int.gcd a b))):=by
  unfold zb2
  rw[zef (ρ':=[.sh (.int a),.sh (.int b),.sh (.int (a.natAbs:Int)),.no,.no]) (by rw[← e a];rfl)]
  rw[zef (ρ':=[.sh (.int a),.sh (.int b),.sh (.int (a.natAbs:Int)),.sh (.int (b.natAbs:Int)),.no]) (by rw[← e b];rfl)]
  have w:zh1 (zgR 3) (zac (zae 3) (dC (.int 0)) dNe) (zar (zbN 4 (zac (zae 2) (zae 3) zez)) (zar (zbN 2 (zae 3)) (zar (zbN 3 (zae 4)) zal))) [.sh (.int a),.sh (.int b),.sh (.int (a.natAbs:Int)),.sh (.int (b.natAbs:Int)),.no]=.ok (.nx [.sh (.int a),.sh (.int b),.sh (.int (Int.gcd a b)),.sh (.int 0),r']):=h
  rw[zef w]
  exact zjc (zjg rfl)
 show(zb2 [.sh (.int a),.sh (.int b),.no,.no,.no]).bind _=_
 rw[r]
 rfl
theorem zn5:(2:Nat) ^ 64<=B60:=by rw[zjR];exact Nat.pow_le_pow_right (by decide) (by decide)
theorem zzl {i:Int}(h:i.natAbs < 18446744073709551616):i.natAbs < B60:=Nat.lt_of_lt_of_le h zn5
theorem zd4 {i j:Int}(h:i.natAbs < 18446744073709551616)(h':j.natAbs < 18446744073709551616):zdA i j=true:=by
 unfold zdA
 rw[Bool.and_eq_true]
 exact⟨decide_eq_true (zzl h),decide_eq_true (zzl h')⟩
theorem zig {i j:Int}(h:i.natAbs < B60)(h':j.natAbs < B60):zdA i j=true:=by
 unfold zdA
 rw[Bool.and_eq_true]
 exact⟨decide_eq_true h,decide_eq_true h'⟩
theorem zxe {i j:Int}(h0:j≠0)(h:j.natAbs < B9):zfe i j=true:=by
 unfold zfe
 rw[Bool.and_eq_true,Bool.or_eq_true]
 exact⟨decide_eq_true h0,.inl (decide_eq_true h)⟩
theorem zjx {i j:Int}(h0:j≠0)(h:i.natAbs < B13):zfe i j=true:=by
 unfold zfe
 rw[Bool.and_eq_true,Bool.or_eq_true]
 exact⟨decide_eq_true h0,.inr (decide_eq_true h)⟩
theorem zjq {ds:List D}{k:Nat}{d:D}(h:ds[k]?=some d):dIx (.lst ds) (.int (k:Int))=.ok d:=by
 unfold dIx
 simp only[zbm h]
theorem zey {a b:Int}(hb:0 < b):0<=a.fmod b/\a.fmod b < b:=⟨Int.fmod_nonneg_of_pos a hb,Int.fmod_lt_of_pos a hb⟩
theorem zlh {n k:Nat}(h:k < n):(DL.intsFrom 0 n).drop k=.int (k:Int)::(DL.intsFrom 0 n).drop (k+1):=by
 have hl:(DL.intsFrom 0 n).length=n:=by unfold DL.intsFrom;simp
 rw[List.drop_eq_getElem_cons (by rw[hl];exact h)]
 congr 1
 unfold DL.intsFrom
 simp
theorem znn {n:Nat}:(DL.intsFrom 0 n).drop n=[]:=by
 have hl:(DL.intsFrom 0 n).length=n:=by unfold DL.intsFrom;simp
 exact List.drop_eq_nil_of_le (by omega)
theorem zkg {tg:Ev->D->Res Ev}{s:Ev->Res Fl}{d:D}{r:List D}{ρ ρ1 ρ2:Ev}(h1:tg ρ d=.ok ρ1)(h2:s ρ1=.ok (.nx ρ2)):zcB tg s (d::r) ρ=zcB tg s r ρ2:=by
 rw[zcB,h1,bok,h2,bok]
def isI:D->Bool
 | .int _=>true
 | _=>false
theorem zaZ (d:D):zbu [d]=.ok (.bl (isI d)):=by cases d<;>first | rfl | (rename_i k _;cases k<;>rfl)
theorem ze7 {a g:Int}(hg:0 < g):a.fdiv g=a / g:=Int.fdiv_eq_ediv_of_nonneg a (by omega)
theorem ziq {a b:Int}(h:b≠0):0 < (Int.gcd a b:Int):=by
 have:=Int.gcd_pos_of_ne_zero_right a h
 omega
theorem zwL {a b:Int}(hb:0 < b)(h1:a.natAbs < B13)(h2:b.natAbs < B13):zj9 [.int a,.int b]=.ok (.tup [.int (a / Int.gcd a b),.int (b / Int.gcd a b)]):=by
 have hg:=ziq (a:=a) (b:=b) (by omega)
 have r:zcQ [.sh (.int a),.sh (.int b),.no]=.ok (.rt (.tup [.int (a / Int.gcd a b),.int (b / Int.gcd a b)])):=by
  unfold zcQ
  rw[zef (ρ':=[.sh (.int a),.sh (.int b),.sh (.int (Int.gcd a b))]) (zmR ((zfd (xs:=[.int a,.int b]) rfl).trans (zot a b)))]
  refine zjc (zjg ?_)
  refine(zfd (xs:=[.int (a / Int.gcd a b),.int (b / Int.gcd a b)]) (zdt ?_ (zdt ?_ rfl))).trans rfl
  ·rw[← ze7 hg]
   exact(zcO (x:=.int a) (y:=.int (Int.gcd a b)) rfl rfl).trans (znB (zjx (by omega) h1))
  ·rw[← ze7 hg]
   exact(zcO (x:=.int b) (y:=.int (Int.gcd a b)) rfl rfl).trans (znB (zjx (by omega) h2))
 show(zcQ [.sh (.int a),.sh (.int b),.no]).bind _=_
 rw[r]
 rfl
theorem zrz {a b:Int}(hb:0 < b)(h1:a.natAbs < B13)(h2:b.natAbs < B13):zeL [.int a,.int b]=.ok (.tup [.int (a / Int.gcd a b),.int (b / Int.gcd a b)]):=by
 have hg:=ziq (a:=a) (b:=b) (by omega)
 have r:zg0 [.sh (.int a),.sh (.int b),.no]=.ok (.rt (.tup [.int (a / Int.gcd a b),.int (b / Int.gcd a b)])):=by
  unfold zg0
  rw[zef (ρ':=[.sh (.int a),.sh (.int b),.no]) (zyv (t:=zal) rfl)]
  rw[zef (ρ':=[.sh (.int a),.sh (.int b),.no]) (zyv (t:=zal) ((zcO (x:=.int b) (y:=.int 0) rfl rfl).trans (eq_int.trans (by rw[beq_eq_false_iff_ne.mpr (by omega)]))))]
  rw[zef (ρ':=[.sh (.int a),.sh (.int b),.sh (.int (Int.gcd a b))]) (zmR ((zfd (xs:=[.int a,.int b]) rfl).trans (ziG a b)))]
  rw[zef (ρ':=[.sh (.int a),.sh (.int b),.sh (.int (Int.gcd a b))]) (zyv (t:=zal) (by
   show Res.ok (D.bl (decide (b < 0)))=_
   rw[decide_eq_false (by omega)]))]
  refine zjc (zjg ?_)
  refine(zfd (xs:=[.int (a / Int.gcd a b),.int (b / Int.gcd a b)]) (zdt ?_ (zdt ?_ rfl))).trans rfl
  ·rw[← ze7 hg]
   exact(zcO (x:=.int a) (y:=.int (Int.gcd a b)) rfl rfl).trans (znB (zjx (by omega) h1))
  ·rw[← ze7 hg]
   exact(zcO (x:=.int b) (y:=.int (Int.gcd a b)) rfl rfl).trans (znB (zjx (by omega) h2))
 show(zg0 [.sh (.int a),.sh (.int b),.no]).bind _=_
 rw[r]
 rfl
def zyC (p q:Int):D:=.tup [.int p,.int q]
abbrev Fra:=Int×Int
def fr (x:Fra):D:=zyC x.1 x.2
def N60:Nat:=1000000000000000000000000000000000000000000000000000000000000
theorem zvj:N60<=B13:=by rw[znT];exact Nat.le_trans (show N60<=2 ^ 200 by decide) (Nat.pow_le_pow_right (by decide) (by decide))
theorem zkC:N60<=B60:=by rw[zjR];exact Nat.le_trans (show N60<=2 ^ 200 by decide) (Nat.pow_le_pow_right (by decide) (by decide))
theorem zq1:B13<=B60:=by rw[znT,zjR];exact Nat.pow_le_pow_right (by decide) (by decide)
structure Low (x:Fra):Prop where
 q1:1<=x.2
 g1:Int.gcd x.1 x.2=1
structure zhE (x:Fra):Prop extends Low x where
 pN:x.1.natAbs < N60
 qN:x.2.natAbs < N60
def low (a b:Int):Fra:=(a / Int.gcd a b,b / Int.gcd a b)
theorem zgO {a b:Int}(hb:0 < b):Low (low a b):=by
 have hg:=ziq (a:=a) (b:=b) (by omega)
 refine⟨?_,Int.gcd_ediv_gcd_ediv_gcd (by omega)⟩
 have:=Int.ediv_gcd_ne_zero_if_ne_zero_right a (show b≠0 by omega)
 have h2:0<=b / (Int.gcd a b:Int):=Int.ediv_nonneg (by omega) (by omega)
 show 1<=b / (Int.gcd a b:Int)
 omega
theorem zmg {a b:Int}:(low a b).1*b=a*(low a b).2:=by
 unfold low
 obtain⟨x,hx⟩:=Int.gcd_dvd_left a b
 obtain⟨y,hy⟩:=Int.gcd_dvd_right a b
 by_cases hg:(Int.gcd a b:Int)=0
 ·simp only[hg,Int.ediv_zero,Int.zero_mul,Int.mul_zero]
 ·generalize hG:(Int.gcd a b:Int)=G at *
  have e1:a / G=x:=by rw[hx];exact Int.mul_ediv_cancel_left x hg
  have e2:b / G=y:=by rw[hy];exact Int.mul_ediv_cancel_left y hg
  show a / G*b=a*(b / G)
  rw[e1,e2]
  calc x*b=x*(G*y):=by rw[← hy]
   _=G*x*y:=by grind
   _=a*y:=by rw[← hx]
theorem zmi {a b:Int}:(low a b).1.natAbs<=a.natAbs:=Int.natAbs_ediv_le_natAbs _ _
theorem zmh {a b:Int}:(low a b).2.natAbs<=b.natAbs:=Int.natAbs_ediv_le_natAbs _ _
theorem zrX {x y:Fra}(hx:Low x)(hy:Low y)(h:x.1*y.2=y.1*x.2):x=y:=by
 have d1:x.2∣y.2:=by
  have:x.2∣x.1*y.2:=⟨y.1,by rw[h];exact Int.mul_comm _ _⟩
  rw[← Int.dvd_gcd_mul_iff_dvd_mul,Int.gcd_comm,hx.g1] at this
  simpa using this
 have d2:y.2∣x.2:=by
  have:y.2∣y.1*x.2:=⟨x.1,by rw[← h];exact Int.mul_comm _ _⟩
  rw[← Int.dvd_gcd_mul_iff_dvd_mul,Int.gcd_comm,hy.g1] at this
  simpa using this
 have e:x.2=y.2:=Int.dvd_antisymm (by have:=hx.q1;omega) (by have:=hy.q1;omega) d1 d2
 have e1:x.1=y.1:=by
  rw[e] at h
  exact Int.eq_of_mul_eq_mul_right (by have:=hy.q1;omega) h
 exact Prod.ext e1 e
theorem zry {a b:Int}(hb:0 < b)(h1:a.natAbs < B13)(h2:b.natAbs < B13):zeL [.int a,.int b]=.ok (fr (low a b)):=zrz hb h1 h2
theorem zyt {a b:Int}(hb:0 < b)(h1:a.natAbs < N60)(h2:b.natAbs < N60):zhE (low a b):=⟨zgO hb,Nat.lt_of_le_of_lt zmi h1,Nat.lt_of_le_of_lt zmh h2⟩
theorem zpn {n:Nat}(x:Fra):zbs (n+1) (fr x)=true:=by
 cases n<;>rfl
theorem zyG {x y:Fra}:eqD (fr x) (fr y)=(x.1==y.1&&x.2==y.2):=by
 unfold fr zyC
 simp [eqD,eqDs]
theorem zor {x:Fra}:eqD (fr x) (fr x)=true:=by rw[zyG];simp
def bnd (k:Nat):Nat:=2 ^ (201*k)
theorem zkz {k:Nat}(h:k<=62):bnd k < B13:=by
 rw[znT];unfold bnd
 exact Nat.pow_lt_pow_right (by decide) (by omega)
theorem zq0:N60<=2 ^ 200:=by decide
theorem znM (k:Nat):bnd (k+1)=bnd k*2 ^ 200+2 ^ 200*bnd k:=by
 unfold bnd
 rw[show 201*(k+1)=201*k+201 by omega,Nat.pow_add]
 generalize 2 ^ (201*k)=z
 omega
def un (s x:Fra):Fra:=(s.1*x.2+x.1*s.2,s.2*x.2)
structure Acc (k:Nat) (s:Fra):Prop where
 pos:0 < s.2
 b1:s.1.natAbs<=bnd k
 b2:s.2.natAbs<=bnd k
theorem Acc.step {k:Nat}{s x:Fra}(h:Acc k s)(hx:zhE x):Acc (k+1) (un s x):=by
 have h1:x.1.natAbs<=2 ^ 200:=Nat.le_trans (Nat.le_of_lt hx.pN) zq0
 have h2:x.2.natAbs<=2 ^ 200:=Nat.le_trans (Nat.le_of_lt hx.qN) zq0
 have m1:=Nat.mul_le_mul h.b1 h2
 have m2:=Nat.mul_le_mul h1 h.b2
 have m3:=Nat.mul_le_mul h.b2 h2
 refine⟨Int.mul_pos h.pos (by have:=hx.q1;omega),?_,?_⟩
 ·show(s.1*x.2+x.1*s.2).natAbs<=_
  rw[znM]
  refine Nat.le_trans (Int.natAbs_add_le _ _) ?_
  rw[Int.natAbs_mul,Int.natAbs_mul]
  exact Nat.add_le_add m1 m2
 ·show(s.2*x.2).natAbs<=_
  rw[znM,Int.natAbs_mul]
  exact Nat.le_trans m3 (Nat.le_add_right _ _)
theorem Acc.start:Acc 0 (0,1):=⟨by decide,by decide,by decide⟩
theorem zni {s x:Fra}(hs:0 < s.2)(hx:1<=x.2):low ((low s.1 s.2).1*x.2+x.1*(low s.1 s.2).2) ((low s.1 s.2).2*x.2)=low (un s x).1 (un s x).2:=by
 have ht:=zgO (a:=s.1) hs
 have hr:=zmg (a:=s.1) (b:=s.2)
 generalize low s.1 s.2=t at *
 have hq:0 < t.2*x.2:=Int.mul_pos (by have:=ht.q1;omega) (by omega)
 have hq2:0 < (un s x).2:=Int.mul_pos hs (by omega)
 have l1:=zgO (a:=t.1*x.2+x.1*t.2) hq
 have r1:=zmg (a:=t.1*x.2+x.1*t.2) (b:=t.2*x.2)
 have l2:=zgO (a:=(un s x).1) hq2
 have r2:=zmg (a:=(un s x).1) (b:=(un s x).2)
 generalize low (t.1*x.2+x.1*t.2) (t.2*x.2)=u at *
 generalize low (un s x).1 (un s x).2=v at *
 refine zrX l1 l2 ?_
 have r2':v.1*(s.2*x.2)=(s.1*x.2+x.1*s.2)*v.2:=r2
 have hk:0 < t.2*x.2*(s.2*x.2):=Int.mul_pos hq hq2
 have:u.1*v.2*(t.2*x.2*(s.2*x.2))=v.1*u.2*(t.2*x.2*(s.2*x.2)):=by
  have e1:u.1*v.2*(t.2*x.2*(s.2*x.2))=(u.1*(t.2*x.2))*v.2*(s.2*x.2):=by grind
  have e2:v.1*u.2*(t.2*x.2*(s.2*x.2))=(v.1*(s.2*x.2))*u.2*(t.2*x.2):=by grind
  rw[e1,e2,r1,r2']
  grind
 exact Int.eq_of_mul_eq_mul_right (by omega) this
theorem zt6 {k:Nat}{s x:Fra}(h:Acc k s)(hk:k<=61)(hx:zhE x):zhf [fr (low s.1 s.2),fr x]=.ok (fr (low (un s x).1 (un s x).2)):=by
 have ht:=zgO (a:=s.1) h.pos
 have a1:(low s.1 s.2).1.natAbs<=bnd k:=Nat.le_trans zmi h.b1
 have a2:(low s.1 s.2).2.natAbs<=bnd k:=Nat.le_trans zmh h.b2
 have hst:=zni h.pos hx.q1
 have hA:Acc k (low s.1 s.2):=⟨by have:=ht.q1;omega,a1,a2⟩
 have hB:=hA.step hx
 rw[← hst]
 generalize low s.1 s.2=t at *
 have b60:bnd k < B60:=Nat.lt_of_lt_of_le (zkz (by omega)) zq1
 have bb:bnd (k+1) < B13:=zkz (by omega)
 have x1:x.1.natAbs < B60:=Nat.lt_of_lt_of_le hx.pN zkC
 have x2:x.2.natAbs < B60:=Nat.lt_of_lt_of_le hx.qN zkC
 refine zsZ (n:=2) (ds:=[fr t,fr x]) ?_
 show zlF [.sh (fr t),.sh (fr x)]=_
 unfold zlF
 refine zjc (zjg ?_)
 refine(zfd (xs:=[.int (t.1*x.2+x.1*t.2),.int (t.2*x.2)]) (zdt ?_ (zdt ?_ rfl))).trans ?_
 ·refine(zcO (x:=.int (t.1*x.2)) (y:=.int (x.1*t.2)) ?_ ?_).trans rfl
  ·exact(zcO (x:=.int t.1) (y:=.int x.2) rfl rfl).trans (zp0 (zig (Nat.lt_of_le_of_lt a1 b60) x2))
  ·exact(zcO (x:=.int x.1) (y:=.int t.2) rfl rfl).trans (zp0 (zig x1 (Nat.lt_of_le_of_lt a2 b60)))
 ·exact(zcO (x:=.int t.2) (y:=.int x.2) rfl rfl).trans (zp0 (zig (Nat.lt_of_le_of_lt a2 b60) x2))
 ·exact zry hB.pos (Nat.lt_of_le_of_lt hB.b1 bb) (Nat.lt_of_le_of_lt hB.b2 bb)
theorem zmO {L:Sl}:∀ (xs:List Fra) (k:Nat) (s:Fra) (z:Sl),Acc k s->k+xs.length<=61->(∀ x∈xs,zhE x)->∃ z',zcB (zcV 2) (zar (zbN 1 (zan (zad (zae 1) (zad (zae 2) zaz)) zhf)) zal) (xs.map fr) [L,.sh (fr (low s.1 s.2)),z] =
  .ok (.nx [L,.sh (fr (low (xs.foldl un s).1 (xs.foldl un s).2)),z'])/\Acc (k+xs.length) (xs.foldl un s)
 | [],k,s,z,h,_,_=>⟨z,rfl,h⟩
 | x::xs,k,s,z,h,hk,hx=>by
  have hx0:=hx x List.mem_cons_self
  simp only[List.length_cons] at hk
  obtain⟨z',e,a⟩:=zmO xs (k+1) (un s x) (.sh (fr x)) (h.step hx0) (by omega) fun y hy=>hx y (List.mem_cons_of_mem _ hy)
  refine⟨z',?_,by rw[List.length_cons,show k+(xs.length+1)=k+1+xs.length by omega];exact a⟩
  rw[List.map_cons,zkg (ρ1:=[L,.sh (fr (low s.1 s.2)),.sh (fr x)]) (ρ2:=[L,.sh (fr (low (un s x).1 (un s x).2)),.sh (fr x)]) rfl]
  ·exact e
  ·exact zmT (zmR ((zfd (xs:=[fr (low s.1 s.2),fr x]) rfl).trans (zt6 h (by omega) hx0)))
theorem zwY {f:Ev->Res D}{tg:Ev->D->Res Ev}{s:Ev->Res Fl}{ρ:Ev}{ds:List D}(h:f ρ=.ok (.lst ds)):zpt f tg s ρ=zcB tg s ds ρ:=by unfold zpt;rw[h];rfl
def tot (xs:List Fra):Fra:=xs.foldl un (0,1)
theorem zpd {xs:List Fra}(hl:xs.length<=61)(hx:∀ x∈xs,zhE x):ze6 [.lst (xs.map fr)]=.ok (fr (low (tot xs).1 (tot xs).2)):=by
 obtain⟨z',e,a⟩:=zmO (L:=.sh (.lst (xs.map fr))) xs 0 (0,1) .no Acc.start (by omega) hx
 refine zsZ (n:=3) (ds:=[.lst (xs.map fr)]) ?_
 show zgl [.sh (.lst (xs.map fr)),.no,.no]=_
 unfold zgl
 rw[zef (ρ':=[.sh (.lst (xs.map fr)),.sh (fr (low 0 1)),.no]) rfl]
 refine(zef ((zwY (ds:=xs.map fr) rfl).trans e)).trans ?_
 exact zjc (zjg rfl)
theorem zaq {α:Type}{a b:α}(h:a=b):a=b:=h
def zv2 (t:Ev->Res Fl)(r:Fl):Res Fl:=match r with
 | .nx ρ'=>t ρ'
 | r=>.ok r
def zy2 (i:Nat)(ρ:Ev)(d:D):Res Fl:=.ok (.nx (ρ.set i (.sh d)))
def zy3 (d:D):Res Fl:=.ok (.rt d)
def zuU (ρ:Ev)(_:D):Res Fl:=.ok (.nx ρ)
def ifK (s t:Ev->Res Fl)(ρ:Ev)(x:D):Res Fl:=match x with
 | .bl b=>if b=true then s ρ else t ρ
 | _=>.stuck
def zzf (i:Nat)(ρ:Ev)(d:D):Res Fl:=match d with
 | .lst ds=>.ok (.nx (ρ.set i (.ow (.lst ds))))
 | _=>.stuck
def zwx (s:Option Sl)(k:List D->Res Fl):Res Fl:=match s with
 | some (.ow (.lst ds))=>k ds
 | _=>.stuck
def zzp (i:Nat)(ρ:Ev)(ds:List D)(d:D):Res Fl:=if ds.length < line then .ok (.nx (ρ.set i (.ow (.lst (ds++[d]))))) else .stuck
def zxu (i:Nat)(ρ:Ev)(ds:List D)(d:D):Res Fl:=if zkE d=true/\ds.length < line then .ok (.nx (ρ.set i (.ow (.lst (ds++[d]))))) else .stuck
def zyg (i:Nat)(ρ:Ev)(k:Ev->Res D)(ds:List D)(d:D):Res Fl:=(k ρ).bind (DL.putAt ρ i ds d)
def zs3 (i:Nat)(ρ:Ev)(ds:List D)(d j:D):Res Fl:=if zkE d=true then DL.putAt ρ i ds d j else .stuck
def zwj (i:Nat)(ρ:Ev)(k:Ev->Res D)(ds:List D)(d:D):Res Fl:=(k (shr ρ)).bind (zs3 i ρ ds d)
def zvF (is:List Nat)(ρ:Ev)(d:D):Res Fl:=match zdZ is.length d with
 | some ds=>.ok (.nx (zcX ρ is ds))
 | none=>.stuck
def zzd (i j:Nat)(ρ:Ev)(ds:List D):Res Fl:=match ds with
 | [x,y]=>.ok (.nx ((ρ.set i (.sh x)).set j (.sh y)))
 | _=>.stuck
def k2 (g:Ev->Res D)(op:D->D->Res D)(ρ:Ev)(x:D):Res D:=(g ρ).bind (op x)
def zqK (x:D)(xs:List D):Res (List D):=.ok (x::xs)
def zxm (fa:Ev->Res (List D))(ρ:Ev)(x:D):Res (List D):=(fa ρ).bind (zqK x)
def zyR (g:Ev->Res D)(ρ:Ev)(x:D):Res D:=match x with
 | .bl true=>g ρ
 | .bl false=>.ok (.bl false)
 | _=>.stuck
def orK (g:Ev->Res D)(ρ:Ev)(x:D):Res D:=match x with
 | .bl true=>.ok (.bl true)
 | .bl false=>g ρ
 | _=>.stuck
def zzh (x:D):Res D:=match x with
 | .bl b=>.ok (.bl (!b))
 | _=>.stuck
def zyu (f g:Ev->Res D)(ρ:Ev)(x:D):Res D:=match x with
 | .bl true=>f ρ
 | .bl false=>g ρ
 | _=>.stuck
def zyX (s:Option Sl):Res D:=match s with
 | some (.sh d)=>.ok d
 | _=>.stuck
def zvn (s:Sl):Sl:=match s with
 | .ow d=>.sh d
 | .ox _ ds=>.sh (.tup ds)
 | x=>x
def zyb (r:Fl):Res D:=match r with
 | .nx _=>.ok .non
 | .rt d=>.ok d
 | _=>.stuck
def osK (x:D):Res (Option Int):=match x with
 | .int i=>.ok (some i)
 | _=>.stuck
def zxF (x:D)(l:Option Int)(h:Option Int):Res D:=zkP x l h
def slK (hi:Ev->Res (Option Int))(ρ:Ev)(x:D)(l:Option Int):Res D:=(hi ρ).bind (zxF x l)
def zy1 (lo hi:Ev->Res (Option Int))(ρ:Ev)(x:D):Res D:=(lo ρ).bind (slK hi ρ x)
def zzo (tg:Ev->D->Res Ev)(s:Ev->Res Fl)(ρ:Ev)(d:D):Res Fl:=match d with
 | .lst ds=>zcB tg s ds ρ
 | _=>.stuck
def zxO (op':D->D->Res D)(h:Ev->Res D)(ρ:Ev)(y z:D):Res D:=match z with
 | .bl true=>(h ρ).bind (op' y)
 | .bl false=>.ok (.bl false)
 | _=>.stuck
def zyP (op op':D->D->Res D)(h:Ev->Res D)(ρ:Ev)(x y:D):Res D:=(op x y).bind (zxO op' h ρ y)
def chK (op op':D->D->Res D)(g h:Ev->Res D)(ρ:Ev)(x:D):Res D:=(g ρ).bind (zyP op op' h ρ x)
section
variable {s t:Ev->Res Fl}{f g h:Ev->Res D}{fa:Ev->Res (List D)}{ρ r:Ev}{i j:Nat}{d x y:D}{ds xs:List D}{op op':D->D->Res D}{a b:Int}
theorem ev_ok {α β:Type}{a:α}{k:α->Res β}:(Res.ok a).bind k=k a:=zaq rfl
theorem ev_seq:zar s t ρ=(s ρ).bind (zv2 t):=zaq rfl
theorem ev_seq1:zv2 t (.nx ρ)=t ρ:=zaq rfl
theorem ev_seq2:zv2 t (.rt d)=.ok (.rt d):=zaq rfl
theorem ev_seq3:zv2 t (.bk ρ)=.ok (.bk ρ):=zaq rfl
theorem ev_seq4:zv2 t (.ct ρ)=.ok (.ct ρ):=zaq rfl
theorem ev_next:zal ρ=.ok (.nx ρ):=zaq rfl
theorem ev_set:zbN i f ρ=(f ρ).bind (zy2 i ρ):=zaq rfl
theorem ev_set1:zy2 i ρ d=.ok (.nx (ρ.set i (.sh d))):=zaq rfl
theorem ev_ret:zco f ρ=(f (shr ρ)).bind zy3:=zaq rfl
theorem ev_ret1:zy3 d=.ok (.rt d):=zaq rfl
theorem ev_retN:zx8 ρ=.ok (.rt .non):=zaq rfl
theorem ev_drop:zh3 f ρ=(f (shr ρ)).bind (zuU ρ):=zaq rfl
theorem ev_drop1:zuU ρ d=.ok (.nx ρ):=zaq rfl
theorem ev_if:sIf f s t ρ=(f (shr ρ)).bind (ifK s t ρ):=zaq rfl
theorem ev_if1:ifK s t ρ (.bl true)=s ρ:=zaq rfl
theorem ev_if2:ifK s t ρ (.bl false)=t ρ:=zaq rfl
theorem ev_own:zje i f ρ=(f ρ).bind (zzf i ρ):=zaq rfl
theorem ev_own1:zzf i ρ (.lst ds)=.ok (.nx (ρ.set i (.ow (.lst ds)))):=zaq rfl
theorem ev_app:zbX i f ρ=zwx ρ[i]? fun ds=>(f ρ).bind (zzp i ρ ds):=zaq rfl
theorem ev_ownS {k:List D->Res Fl}:zwx (some (.ow (.lst ds))) k=k ds:=zaq rfl
theorem ev_app1 (h:decide (ds.length<=999)=true):zzp i ρ ds d=.ok (.nx (ρ.set i (.ow (.lst (ds++[d]))))):=if_pos (Nat.lt_of_le_of_lt (of_decide_eq_true h) (by decide))
theorem ev_appL:zru i f ρ=zwx ρ[i]? fun ds=>(f (shr ρ)).bind (zxu i ρ ds):=zaq rfl
theorem ev_appL1 (hf:zkE d=true)(h:decide (ds.length<=999)=true):zxu i ρ ds d=.ok (.nx (ρ.set i (.ow (.lst (ds++[d]))))):=if_pos ⟨hf,Nat.lt_of_le_of_lt (of_decide_eq_true h) (by decide)⟩
theorem ev_put:zv5 i f g ρ=zwx ρ[i]? fun ds=>(f ρ).bind (zyg i ρ g ds):=zaq rfl
theorem ev_put1:zyg i ρ g ds d=(g ρ).bind (DL.putAt ρ i ds d):=zaq rfl
theorem ev_putL:zx9 i f g ρ=zwx ρ[i]? fun ds=>(f (shr ρ)).bind (zwj i ρ g ds):=zaq rfl
theorem ev_putL1:zwj i ρ g ds d=(g (shr ρ)).bind (zs3 i ρ ds d):=zaq rfl
theorem ev_frz:zvp i s ρ=s (unown i ρ):=zaq rfl
theorem ev_unp {is:List Nat}:zzK is f ρ=(f ρ).bind (zvF is ρ):=zaq rfl
theorem ev_par:zq2 i j fa ρ=(fa ρ).bind (zzd i j ρ):=zaq rfl
theorem ev_par1:zzd i j ρ [x,y]=.ok (.nx ((ρ.set i (.sh x)).set j (.sh y))):=zaq rfl
theorem ev_b1 {o:D->Res D}:zbv f o ρ=(f ρ).bind o:=zaq rfl
theorem ev_b2:zac f g op ρ=(f ρ).bind (k2 g op ρ):=zaq rfl
theorem ev_b21:k2 g op ρ x=(g ρ).bind (op x):=zaq rfl
theorem ev_bA {m:List D->Res D}:zan fa m ρ=(fa ρ).bind m:=zaq rfl
theorem ev_nil:zaz ρ=.ok []:=zaq rfl
theorem ev_cons:zad f fa ρ=(f ρ).bind (zxm fa ρ):=zaq rfl
theorem ev_cons1:zxm fa ρ x=(fa ρ).bind (zqK x):=zaq rfl
theorem ev_cons2:zqK x xs=.ok (x::xs):=zaq rfl
theorem ev_and:zhr f g ρ=(f ρ).bind (zyR g ρ):=zaq rfl
theorem ev_and1:zyR g ρ (.bl true)=g ρ:=zaq rfl
theorem ev_and2:zyR g ρ (.bl false)=.ok (.bl false):=zaq rfl
theorem ev_or:dOr f g ρ=(f ρ).bind (orK g ρ):=zaq rfl
theorem ev_or1:orK g ρ (.bl true)=.ok (.bl true):=zaq rfl
theorem ev_or2:orK g ρ (.bl false)=g ρ:=zaq rfl
theorem ev_not:zdD f ρ=(f ρ).bind zzh:=zaq rfl
theorem ev_not1 {c:Bool}:zzh (.bl c)=.ok (.bl (!c)):=zaq rfl
theorem ev_ifx:dIf h f g ρ=(h ρ).bind (zyu f g ρ):=zaq rfl
theorem ev_ifx1:zyu f g ρ (.bl true)=f ρ:=zaq rfl
theorem ev_ifx2:zyu f g ρ (.bl false)=g ρ:=zaq rfl
theorem ev_var:zae i ρ=zyX ρ[i]?:=zaq rfl
theorem ev_var1:zyX (some (.sh d))=.ok d:=zaq rfl
theorem ev_C:dC d ρ=.ok d:=zaq rfl
theorem ev_shr0:shr []=[]:=zaq rfl
theorem ev_shr {c:Sl}:shr (c::r)=zvn c::shr r:=zaq rfl
theorem ev_shr1:zvn (.ow d)=.sh d:=zaq rfl
theorem ev_shr4:zvn (.ox j ds)=.sh (.tup ds):=zaq rfl
theorem ev_shr2:zvn (.sh d)=.sh d:=zaq rfl
theorem ev_shr3:zvn .no=.no:=zaq rfl
theorem ev_run {n:Nat}:zdz n s ds=(s (ds.map Sl.sh++List.replicate (n-ds.length) .no)).bind zyb:=zaq rfl
theorem ev_run1:zyb (.rt d)=.ok d:=zaq rfl
theorem ev_run2:zyb (.nx ρ)=.ok .non:=zaq rfl
theorem ev_os:zc2 f ρ=(f ρ).bind osK:=zaq rfl
theorem ev_os1:osK (.int a)=.ok (some a):=zaq rfl
theorem ev_on:zdi ρ=.ok none:=zaq rfl
theorem ev_sl {lo hi:Ev->Res (Option Int)}:zoL f lo hi ρ=(f ρ).bind (zy1 lo hi ρ):=zaq rfl
theorem ev_sl0 {lo hi:Ev->Res (Option Int)}:zy1 lo hi ρ x=(lo ρ).bind (slK hi ρ x):=zaq rfl
theorem ev_sl1 {hi:Ev->Res (Option Int)}{l:Option Int}:slK hi ρ x l=(hi ρ).bind (zxF x l):=zaq rfl
theorem ev_sl2 {l l':Option Int}:zxF (.lst ds) l l'=.ok (.lst (zdj ds l l')):=zaq rfl
theorem ev_for {tg:Ev->D->Res Ev}:zpt f tg s ρ=(f ρ).bind (zzo tg s ρ):=zaq rfl
theorem ev_for1 {tg:Ev->D->Res Ev}:zzo tg s ρ (.lst ds)=zcB tg s ds ρ:=zaq rfl
theorem ev_chain:zeT op op' f g h ρ=(f ρ).bind (chK op op' g h ρ):=zaq rfl
theorem ev_ch:chK op op' g h ρ x=(g ρ).bind (zyP op op' h ρ x):=zaq rfl
theorem ev_ch1:zyP op op' h ρ x y=(op x y).bind (zxO op' h ρ y):=zaq rfl
theorem ev_ch2:zxO op' h ρ y (.bl true)=(h ρ).bind (op' y):=zaq rfl
theorem ev_ch3:zxO op' h ρ y (.bl false)=.ok (.bl false):=zaq rfl
theorem ev_iop {o:Int->Int->D}:iop (fun _ _=>true) o (.int a) (.int b)=.ok (o a b):=zaq rfl
theorem ev_add:zcv (.int a) (.int b)=.ok (.int (a+b)):=zaq rfl
theorem ev_addL {es:List D}(h:decide (ds.length+es.length<=1000)=true):zcv (.lst ds) (.lst es)=.ok (.lst (ds++es)):=if_pos (Nat.le_trans (of_decide_eq_true h) (by decide))
theorem ev_neg:zoM (.int a)=.ok (.int (-a)):=zaq rfl
theorem ev_m1 {m:D->Res D}:m1 m [x]=m x:=zaq rfl
theorem ev_m2 {m:D->D->Res D}:m2 m [x,y]=m x y:=zaq rfl
theorem ev_lenL:ze9 (.lst ds)=.ok (.int ds.length):=zaq rfl
theorem ev_lenT:ze9 (.tup ds)=.ok (.int ds.length):=zaq rfl
theorem ev_tup (h:decide (ds.length<=1000)=true):zjl ds=.ok (.tup ds):=if_pos (Nat.le_trans (of_decide_eq_true h) (by decide))
theorem ev_lst (h:decide (ds.length<=1000)=true):zdQ ds=.ok (.lst ds):=if_pos (Nat.le_trans (of_decide_eq_true h) (by decide))
theorem ev_is_bool_non:zce "bool" (.non)=.ok (.bl false):=zaq rfl
theorem ev_is_bool_bl {c:Bool}:zce "bool" (.bl c)=.ok (.bl true):=zaq rfl
theorem ev_is_bool_int:zce "bool" (.int a)=.ok (.bl false):=zaq rfl
theorem ev_is_bool_str {z:Str}:zce "bool" (.str z)=.ok (.bl false):=zaq rfl
theorem ev_is_bool_tup:zce "bool" (.tup ds)=.ok (.bl false):=zaq rfl
theorem ev_is_bool_lst:zce "bool" (.lst ds)=.ok (.bl false):=zaq rfl
theorem ev_is_bool_dic {ks:List Str}:zce "bool" (.dic ks ds)=.ok (.bl false):=zaq rfl
theorem ev_is_int_non:zce "int" (.non)=.ok (.bl false):=zaq rfl
theorem ev_is_int_bl {c:Bool}:zce "int" (.bl c)=.ok (.bl true):=zaq rfl
theorem ev_is_int_int:zce "int" (.int a)=.ok (.bl true):=zaq rfl
theorem ev_is_int_str {z:Str}:zce "int" (.str z)=.ok (.bl false):=zaq rfl
theorem ev_is_int_tup:zce "int" (.tup ds)=.ok (.bl false):=zaq rfl
theorem ev_is_int_lst:zce "int" (.lst ds)=.ok (.bl false):=zaq rfl
theorem ev_is_int_dic {ks:List Str}:zce "int" (.dic ks ds)=.ok (.bl false):=zaq rfl
theorem ev_is_str_non:zce "str" (.non)=.ok (.bl false):=zaq rfl
theorem ev_is_str_bl {c:Bool}:zce "str" (.bl c)=.ok (.bl false):=zaq rfl
theorem ev_is_str_int:zce "str" (.int a)=.ok (.bl false):=zaq rfl
theorem ev_is_str_str {z:Str}:zce "str" (.str z)=.ok (.bl true):=zaq rfl
theorem ev_is_str_tup:zce "str" (.tup ds)=.ok (.bl false):=zaq rfl
theorem ev_is_str_lst:zce "str" (.lst ds)=.ok (.bl false):=zaq rfl
theorem ev_is_str_dic {ks:List Str}:zce "str" (.dic ks ds)=.ok (.bl false):=zaq rfl
theorem ev_is_tuple_non:zce "tuple" (.non)=.ok (.bl false):=zaq rfl
theorem ev_is_tuple_bl {c:Bool}:zce "tuple" (.bl c)=.ok (.bl false):=zaq rfl
theorem ev_is_tuple_int:zce "tuple" (.int a)=.ok (.bl false):=zaq rfl
theorem ev_is_tuple_str {z:Str}:zce "tuple" (.str z)=.ok (.bl false):=zaq rfl
theorem ev_is_tuple_tup:zce "tuple" (.tup ds)=.ok (.bl true):=zaq rfl
theorem ev_is_tuple_lst:zce "tuple" (.lst ds)=.ok (.bl false):=zaq rfl
theorem ev_is_tuple_dic {ks:List Str}:zce "tuple" (.dic ks ds)=.ok (.bl false):=zaq rfl
theorem ev_is_list_non:zce "list" (.non)=.ok (.bl false):=zaq rfl
theorem ev_is_list_bl {c:Bool}:zce "list" (.bl c)=.ok (.bl false):=zaq rfl
theorem ev_is_list_int:zce "list" (.int a)=.ok (.bl false):=zaq rfl
theorem ev_is_list_str {z:Str}:zce "list" (.str z)=.ok (.bl false):=zaq rfl
theorem ev_is_list_tup:zce "list" (.tup ds)=.ok (.bl false):=zaq rfl
theorem ev_is_list_lst:zce "list" (.lst ds)=.ok (.bl true):=zaq rfl
theorem ev_is_list_dic {ks:List Str}:zce "list" (.dic ks ds)=.ok (.bl false):=zaq rfl
theorem ev_is_dict_non:zce "dict" (.non)=.ok (.bl false):=zaq rfl
theorem ev_is_dict_bl {c:Bool}:zce "dict" (.bl c)=.ok (.bl false):=zaq rfl
theorem ev_is_dict_int:zce "dict" (.int a)=.ok (.bl false):=zaq rfl
theorem ev_is_dict_str {z:Str}:zce "dict" (.str z)=.ok (.bl false):=zaq rfl
theorem ev_is_dict_tup:zce "dict" (.tup ds)=.ok (.bl false):=zaq rfl
theorem ev_is_dict_lst:zce "dict" (.lst ds)=.ok (.bl false):=zaq rfl
theorem ev_is_dict_dic {ks:List Str}:zce "dict" (.dic ks ds)=.ok (.bl true):=zaq rfl
theorem ev_isN_non:zlM (.non) .non=.ok (.bl true):=zaq rfl
theorem ev_notN_non:zgi (.non) .non=.ok (.bl false):=zaq rfl
theorem ev_isN_bl {c:Bool}:zlM (.bl c) .non=.ok (.bl false):=zaq rfl
theorem ev_notN_bl {c:Bool}:zgi (.bl c) .non=.ok (.bl true):=zaq rfl
theorem ev_isN_int:zlM (.int a) .non=.ok (.bl false):=zaq rfl
theorem ev_notN_int:zgi (.int a) .non=.ok (.bl true):=zaq rfl
theorem ev_isN_str {z:Str}:zlM (.str z) .non=.ok (.bl false):=zaq rfl
theorem ev_notN_str {z:Str}:zgi (.str z) .non=.ok (.bl true):=zaq rfl
theorem ev_isN_tup:zlM (.tup ds) .non=.ok (.bl false):=zaq rfl
theorem ev_notN_tup:zgi (.tup ds) .non=.ok (.bl true):=zaq rfl
theorem ev_isN_lst:zlM (.lst ds) .non=.ok (.bl false):=zaq rfl
theorem ev_notN_lst:zgi (.lst ds) .non=.ok (.bl true):=zaq rfl
theorem ev_isN_dic {ks:List Str}:zlM (.dic ks ds) .non=.ok (.bl false):=zaq rfl
theorem ev_notN_dic {ks:List Str}:zgi (.dic ks ds) .non=.ok (.bl true):=zaq rfl
theorem zdp (h:zdA a b=true):zb5 (.int a) (.int b)=.ok (.int (a*b)):=if_pos h
theorem ev_mod (h:(b==0)=false):zez (.int a) (.int b)=.ok (.int (a.fmod b)):=zp1 (fun z=>by rw[z] at h;cases h)
theorem znu (h:zfe a b=true):zow (.int a) (.int b)=.ok (.int (a.fdiv b)):=if_pos h
theorem ev_unpL {is:List Nat}(h:(ds.length==is.length)=true):zvF is ρ (.lst ds)=.ok (.nx (zcX ρ is ds)):=by
 unfold zvF zdZ
 simp only[if_pos (eq_of_beq h)]
theorem ev_unpT {is:List Nat}(h:(ds.length==is.length)=true):zvF is ρ (.tup ds)=.ok (.nx (zcX ρ is ds)):=by
 unfold zvF zdZ
 simp only[if_pos (eq_of_beq h)]
theorem ev_sa {is:List Nat}:zcX ρ (i::is) (d::ds)=zcX (ρ.set i (.sh d)) is ds:=zaq rfl
theorem ev_sa0:zcX ρ [] ds=ρ:=zaq rfl
def unK (i:Nat)(ρ:Ev)(s:Option Sl):Ev:=match s with
 | some (.ow d)=>ρ.set i (.sh d)
 | _=>ρ
theorem ev_un:unown i ρ=unK i ρ ρ[i]?:=zaq rfl
theorem ev_un1:unK i ρ (some (.ow d))=ρ.set i (.sh d):=zaq rfl
theorem ev_un2:unK i ρ (some (.sh d))=ρ:=zaq rfl
theorem ev_un3:unK i ρ (some .no)=ρ:=zaq rfl
theorem zea {n:Nat}{j:Int}(h:ixN ds.length j=some n):DL.putAt ρ i ds d (.int j)=.ok (.nx (ρ.set i (.ow (.lst (ds.set n d))))):=by
 unfold DL.putAt
 simp only[h]
theorem ev_ixL0 {x0:D}:dIx (.lst (x0::xs)) (.int 0)=.ok x0:=by
 unfold dIx
 simp only[show atI (x0::xs) 0=some x0 from zbm (j:=0) rfl]
theorem ev_ixT0 {x0:D}:dIx (.tup (x0::xs)) (.int 0)=.ok x0:=by
 unfold dIx
 simp only[show atI (x0::xs) 0=some x0 from zbm (j:=0) rfl]
theorem ev_ixL1 {x0 x1:D}:dIx (.lst (x0::x1::xs)) (.int 1)=.ok x1:=by
 unfold dIx
 simp only[show atI (x0::x1::xs) 1=some x1 from zbm (j:=1) rfl]
theorem ev_ixT1 {x0 x1:D}:dIx (.tup (x0::x1::xs)) (.int 1)=.ok x1:=by
 unfold dIx
 simp only[show atI (x0::x1::xs) 1=some x1 from zbm (j:=1) rfl]
theorem ev_ixL2 {x0 x1 x2:D}:dIx (.lst (x0::x1::x2::xs)) (.int 2)=.ok x2:=by
 unfold dIx
 simp only[show atI (x0::x1::x2::xs) 2=some x2 from zbm (j:=2) rfl]
theorem ev_ixT2 {x0 x1 x2:D}:dIx (.tup (x0::x1::x2::xs)) (.int 2)=.ok x2:=by
 unfold dIx
 simp only[show atI (x0::x1::x2::xs) 2=some x2 from zbm (j:=2) rfl]
theorem ev_ixL3 {x0 x1 x2 x3:D}:dIx (.lst (x0::x1::x2::x3::xs)) (.int 3)=.ok x3:=by
 unfold dIx
 simp only[show atI (x0::x1::x2::x3::xs) 3=some x3 from zbm (j:=3) rfl]
theorem ev_ixT3 {x0 x1 x2 x3:D}:dIx (.tup (x0::x1::x2::x3::xs)) (.int 3)=.ok x3:=by
 unfold dIx
 simp only[show atI (x0::x1::x2::x3::xs) 3=some x3 from zbm (j:=3) rfl]
theorem ev_ixL4 {x0 x1 x2 x3 x4:D}:dIx (.lst (x0::x1::x2::x3::x4::xs)) (.int 4)=.ok x4:=by
 unfold dIx
 simp only[show atI (x0::x1::x2::x3::x4::xs) 4=some x4 from zbm (j:=4) rfl]
theorem ev_ixT4 {x0 x1 x2 x3 x4:D}:dIx (.tup (x0::x1::x2::x3::x4::xs)) (.int 4)=.ok x4:=by
 unfold dIx
 simp only[show atI (x0::x1::x2::x3::x4::xs) 4=some x4 from zbm (j:=4) rfl]
theorem ev_ixL5 {x0 x1 x2 x3 x4 x5:D}:dIx (.lst (x0::x1::x2::x3::x4::x5::xs)) (.int 5)=.ok x5:=by
 unfold dIx
 simp only[show atI (x0::x1::x2::x3::x4::x5::xs) 5=some x5 from zbm (j:=5) rfl]
theorem ev_ixT5 {x0 x1 x2 x3 x4 x5:D}:dIx (.tup (x0::x1::x2::x3::x4::x5::xs)) (.int 5)=.ok x5:=by
 unfold dIx
 simp only[show atI (x0::x1::x2::x3::x4::x5::xs) 5=some x5 from zbm (j:=5) rfl]
theorem ev_ixL6 {x0 x1 x2 x3 x4 x5 x6:D}:dIx (.lst (x0::x1::x2::x3::x4::x5::x6::xs)) (.int 6)=.ok x6:=by
 unfold dIx
 simp only[show atI (x0::x1::x2::x3::x4::x5::x6::xs) 6=some x6 from zbm (j:=6) rfl]
theorem ev_ixL7 {x0 x1 x2 x3 x4 x5 x6 x7:D}:dIx (.lst (x0::x1::x2::x3::x4::x5::x6::x7::xs)) (.int 7)=.ok x7:=by
 unfold dIx
 simp only[show atI (x0::x1::x2::x3::x4::x5::x6::x7::xs) 7=some x7 from zbm (j:=7) rfl]
theorem ev_ixL8 {x0 x1 x2 x3 x4 x5 x6 x7 x8:D}:dIx (.lst (x0::x1::x2::x3::x4::x5::x6::x7::x8::xs)) (.int 8)=.ok x8:=by
 unfold dIx
 simp only[show atI (x0::x1::x2::x3::x4::x5::x6::x7::x8::xs) 8=some x8 from zbm (j:=8) rfl]
theorem ev_ixL9 {x0 x1 x2 x3 x4 x5 x6 x7 x8 x9:D}:dIx (.lst (x0::x1::x2::x3::x4::x5::x6::x7::x8::x9::xs)) (.int 9)=.ok x9:=by
 unfold dIx
 simp only[show atI (x0::x1::x2::x3::x4::x5::x6::x7::x8::x9::xs) 9=some x9 from zbm (j:=9) rfl]
theorem ev_ixL10 {x0 x1 x2 x3 x4 x5 x6 x7 x8 x9 x10:D}:dIx (.lst (x0::x1::x2::x3::x4::x5::x6::x7::x8::x9::x10::xs)) (.int 10)=.ok x10:=by
 unfold dIx
 simp only[show atI (x0::x1::x2::x3::x4::x5::x6::x7::x8::x9::x10::xs) 10=some x10 from zbm (j:=10) rfl]
theorem ev_ixL11 {x0 x1 x2 x3 x4 x5 x6 x7 x8 x9 x10 x11:D}:dIx (.lst (x0::x1::x2::x3::x4::x5::x6::x7::x8::x9::x10::x11::xs)) (.int 11)=.ok x11:=by
 unfold dIx
 simp only[show atI (x0::x1::x2::x3::x4::x5::x6::x7::x8::x9::x10::x11::xs) 11=some x11 from zbm (j:=11) rfl]
theorem ev_ixL12 {x0 x1 x2 x3 x4 x5 x6 x7 x8 x9 x10 x11 x12:D}:dIx (.lst (x0::x1::x2::x3::x4::x5::x6::x7::x8::x9::x10::x11::x12::xs)) (.int 12)=.ok x12:=by
 unfold dIx
 simp only[show atI (x0::x1::x2::x3::x4::x5::x6::x7::x8::x9::x10::x11::x12::xs) 12=some x12 from zbm (j:=12) rfl]
theorem ev_ixL13 {x0 x1 x2 x3 x4 x5 x6 x7 x8 x9 x10 x11 x12 x13:D}:dIx (.lst (x0::x1::x2::x3::x4::x5::x6::x7::x8::x9::x10::x11::x12::x13::xs)) (.int 13)=.ok x13:=by
 unfold dIx
 simp only[show atI (x0::x1::x2::x3::x4::x5::x6::x7::x8::x9::x10::x11::x12::x13::xs) 13=some x13 from zbm (j:=13) rfl]
theorem ev_c0:((0:Nat):Int)=0:=zaq rfl
theorem ev_c1:((1:Nat):Int)=1:=zaq rfl
theorem ev_c2:((2:Nat):Int)=2:=zaq rfl
theorem ev_c3:((3:Nat):Int)=3:=zaq rfl
theorem ev_c4:((4:Nat):Int)=4:=zaq rfl
theorem ev_c5:((5:Nat):Int)=5:=zaq rfl
theorem ev_c6:((6:Nat):Int)=6:=zaq rfl
theorem ev_c7:((7:Nat):Int)=7:=zaq rfl
theorem ev_c8:((8:Nat):Int)=8:=zaq rfl
theorem ev_c9:((9:Nat):Int)=9:=zaq rfl
theorem ev_c10:((10:Nat):Int)=10:=zaq rfl
theorem ev_c11:((11:Nat):Int)=11:=zaq rfl
theorem ev_pt0 {x0:D}:DL.putAt ρ i (x0::xs) d (.int 0)=.ok (.nx (ρ.set i (.ow (.lst (d::xs))))):=by
 refine(zea (n:=0) ?_).trans rfl
 unfold ixN
 rw[if_pos (by decide),if_pos (by simp only[List.length_cons];omega)]
 rfl
theorem ev_pt1 {x0 x1:D}:DL.putAt ρ i (x0::x1::xs) d (.int 1)=.ok (.nx (ρ.set i (.ow (.lst (x0::d::xs))))):=by
 refine(zea (n:=1) ?_).trans rfl
 unfold ixN
 rw[if_pos (by decide),if_pos (by simp only[List.length_cons];omega)]
 rfl
theorem ev_pt2 {x0 x1 x2:D}:DL.putAt ρ i (x0::x1::x2::xs) d (.int 2)=.ok (.nx (ρ.set i (.ow (.lst (x0::x1::d::xs))))):=by
 refine(zea (n:=2) ?_).trans rfl
 unfold ixN
 rw[if_pos (by decide),if_pos (by simp only[List.length_cons];omega)]
 rfl
theorem ev_pt3 {x0 x1 x2 x3:D}:DL.putAt ρ i (x0::x1::x2::x3::xs) d (.int 3)=.ok (.nx (ρ.set i (.ow (.lst (x0::x1::x2::d::xs))))):=by
 refine(zea (n:=3) ?_).trans rfl
 unfold ixN
 rw[if_pos (by decide),if_pos (by simp only[List.length_cons];omega)]
 rfl
theorem ev_pt4 {x0 x1 x2 x3 x4:D}:DL.putAt ρ i (x0::x1::x2::x3::x4::xs) d (.int 4)=.ok (.nx (ρ.set i (.ow (.lst (x0::x1::x2::x3::d::xs))))):=by
 refine(zea (n:=4) ?_).trans rfl
 unfold ixN
 rw[if_pos (by decide),if_pos (by simp only[List.length_cons];omega)]
 rfl
theorem ev_p60:znK (.int 10) (.int 60)=.ok (.int (N60:Int)):=by
 have e:(10:Int) ^ (60:Int).toNat=(N60:Int):=by decide
 rw[← e]
 rfl
end
def zwT (fa:Ev->Res (List D))(ρ:Ev)(x:D):Res D:=match x with
 | .str z=>(fa ρ).bind (zka z)
 | _=>.stuck
theorem ev_join {f:Ev->Res D}{fa:Ev->Res (List D)}{ρ:Ev}:zov f fa ρ=(f ρ).bind (zwT fa ρ):=zaq rfl
theorem ev_join1 {fa:Ev->Res (List D)}{ρ:Ev}{z:Str}:zwT fa ρ (.str z)=(fa ρ).bind (zka z):=zaq rfl
def zy4 (g:Ev->Res D)(ρ:Ev)(x:D):Res D:=match x with
 | .lst ds=>(g ρ).bind (zxj (.lst ds))
 | _=>.stuck
theorem ev_rep {f g:Ev->Res D}{ρ:Ev}:zzL f g ρ=(f ρ).bind (zy4 g ρ):=zaq rfl
theorem ev_rep1 {g:Ev->Res D}{ρ:Ev}{ds:List D}:zy4 g ρ (.lst ds)=(g ρ).bind (zxj (.lst ds)):=zaq rfl
theorem znq {α:Type}{x:α}:∀ {n:Nat},(List.replicate n [x]).flatten=List.replicate n x
 | 0=>rfl
 | n+1=>by rw[List.replicate_succ,List.flatten_cons,znq,List.replicate_succ];rfl
theorem ev_rep2 {x:D}{k:Int}(h:(decide (0<=k)&&decide (k<=1000))=true):zxj (.lst [x]) (.int k)=.ok (.lst (List.replicate k.toNat x)):=by
 simp only[Bool.and_eq_true,decide_eq_true_eq] at h
 unfold zxj
 have:([x]:List D).length*k.toNat<=line/\-9223372036854775808<=k/\k < 9223372036854775808:=⟨by
  have h2:k.toNat<=1000:=by omega
  show 1*k.toNat<=line
  have:(1000:Nat)<=line:=by decide
  omega,by omega,by omega⟩
 simp only[if_pos this,znq]
end Com
local macro_rules | `(tactic| open_line with[$xs,*])=>`(tactic| simp only[Com.ev_ok,Com.ev_seq,Com.ev_seq1,Com.ev_seq2,Com.ev_seq3,Com.ev_seq4,Com.ev_next,Com.ev_set,Com.ev_set1,Com.ev_ret,Com.ev_ret1,Com.ev_retN,Com.ev_drop,Com.ev_drop1,Com.ev_if,Com.ev_if1,Com.ev_if2,Com.ev_own,Com.ev_own1,Com.ev_app,Com.ev_ownS,Com.ev_appL,Com.ev_put,Com.ev_put1,Com.ev_putL,Com.ev_putL1,Com.ev_frz,Com.ev_unp,Com.ev_par,Com.ev_par1,Com.ev_b1,Com.ev_b2,Com.ev_b21,Com.ev_bA,Com.ev_nil,Com.ev_cons,Com.ev_cons1,Com.ev_cons2,Com.ev_and,Com.ev_and1,Com.ev_and2,Com.ev_or,Com.ev_or1,Com.ev_or2,Com.ev_not,Com.ev_not1,Com.ev_ifx,Com.ev_ifx1,Com.ev_ifx2,Com.ev_var,Com.ev_var1,Com.ev_C,Com.ev_shr0,Com.ev_shr,Com.ev_shr1,Com.ev_shr2,Com.ev_shr3,Com.ev_run,Com.ev_run1,Com.ev_run2,Com.ev_os,Com.ev_os1,Com.ev_on,Com.ev_sl,Com.ev_sl0,Com.ev_sl1,Com.ev_sl2,Com.ev_for,Com.ev_for1,Com.ev_chain,Com.ev_ch,Com.ev_ch1,Com.ev_ch2,Com.ev_ch3,Com.ev_iop,Com.ev_add,Com.ev_neg,Com.ev_m1,Com.ev_m2,Com.ev_lenL,Com.ev_lenT,Com.ev_p60,Com.eq_int,Com.ne_int,List.map_cons,List.map_nil,List.length_cons,List.length_nil,List.replicate_succ,List.replicate_zero,List.nil_append,List.cons_append,List.getElem?_cons_zero,List.getElem?_cons_succ,List.set_cons_zero,List.set_cons_succ,Nat.sub_zero,Nat.reduceSub,Nat.reduceAdd,Nat.add_zero,Nat.zero_add,Bool.not_true,Bool.not_false,Com.ev_tup,Com.ev_lst,Com.ev_addL,Com.ev_app1,Com.ev_appL1,Com.ev_mod,Com.ev_unpL,Com.ev_unpT,Com.ev_sa,Com.ev_sa0,Com.ev_un,Com.ev_un1,Com.ev_un2,Com.ev_un3,Com.ev_ixL0,Com.ev_ixL1,Com.ev_ixL2,Com.ev_ixL3,Com.ev_ixL4,Com.ev_ixL5,Com.ev_ixL6,Com.ev_ixL7,Com.ev_ixL8,Com.ev_ixL9,Com.ev_ixL10,Com.ev_ixL11,Com.ev_ixL12,Com.ev_ixL13,Com.ev_ixT0,Com.ev_ixT1,Com.ev_ixT2,Com.ev_ixT3,Com.ev_ixT4,Com.ev_ixT5,decide_true,decide_false,Nat.reduceLeDiff,Nat.reduceBEq,Int.reduceBEq,beq_self_eq_true,DL.dOne,DL.mYes,Com.ev_is_bool_non,Com.ev_is_bool_bl,Com.ev_is_bool_int,Com.ev_is_bool_str,Com.ev_is_bool_tup,Com.ev_is_bool_lst,Com.ev_is_bool_dic,Com.ev_is_int_non,Com.ev_is_int_bl,Com.ev_is_int_int,Com.ev_is_int_str,Com.ev_is_int_tup,Com.ev_is_int_lst,Com.ev_is_int_dic,Com.ev_is_str_non,Com.ev_is_str_bl,Com.ev_is_str_int,Com.ev_is_str_str,Com.ev_is_str_tup,Com.ev_is_str_lst,Com.ev_is_str_dic,Com.ev_is_tuple_non,Com.ev_is_tuple_bl,Com.ev_is_tuple_int,Com.ev_is_tuple_str,Com.ev_is_tuple_tup,Com.ev_is_tuple_lst,Com.ev_is_tuple_dic,Com.ev_is_list_non,Com.ev_is_list_bl,Com.ev_is_list_int,Com.ev_is_list_str,Com.ev_is_list_tup,Com.ev_is_list_lst,Com.ev_is_list_dic,Com.ev_is_dict_non,Com.ev_is_dict_bl,Com.ev_is_dict_int,Com.ev_is_dict_str,Com.ev_is_dict_tup,Com.ev_is_dict_lst,Com.ev_is_dict_dic,Com.ev_isN_non,Com.ev_notN_non,Com.ev_isN_bl,Com.ev_notN_bl,Com.ev_isN_int,Com.ev_notN_int,Com.ev_isN_str,Com.ev_notN_str,Com.ev_isN_tup,Com.ev_notN_tup,Com.ev_isN_lst,Com.ev_notN_lst,Com.ev_isN_dic,Com.ev_notN_dic,Com.ev_c0,Com.ev_c1,Com.ev_c2,Com.ev_c3,Com.ev_c4,Com.ev_c5,Com.ev_c6,Com.ev_c7,Com.ev_c8,Com.ev_c9,Com.ev_c10,Com.ev_c11,Int.reduceLT,Int.reduceLE,Int.reduceSub,Int.reduceAdd,Int.reduceMul,Int.reduceNeg,Com.ev_join,Com.ev_join1,Com.ev_pt0,Com.ev_pt1,Com.ev_pt2,Com.ev_pt3,Com.ev_pt4,Com.ev_rep,Com.ev_rep1,Com.ev_rep2,Int.reduceToNat,Bool.and_self,$[$xs:term],*])
namespace Com
open PySem L2 DL
def zeY:Ev->Res Fl :=
 (zar (sIf (dOr (zdD (zbv (zae 0) (zce "str"))) (zdD (zeT dLe dLe (dC (.int 1)) (zan (zad (zae 0) zaz) (m1 ze9)) (dC (.int 8)))))
 (zar (zco (dC (.bl false)))
 zal)
 zal)
 (zar (zco (zan (zad (zeU 1 [] (zxD (zae 0)) (zcV 0) mYes (zac (zae 0) (dC (.str "abcdefghijklmnopqrstuvwxyz")) dIn)) zaz) (m1 zxN)))
 zal))
def zb0:List D->Res D:=zdz 1 zeY
def zcc:Ev->Res Fl :=
 (zar (sIf (dOr (zdD (zbv (zae 0) (zce "tuple"))) (zac (zan (zad (zae 0) zaz) (m1 ze9)) (dC (.int 2)) dNe))
 (zar (zco (dC (.bl false)))
 zal)
 zal)
 (zar (sIf (dOr (zdD (zan (zad (zac (zae 0) (dC (.int 0)) dIx) zaz) zbu)) (zdD (zan (zad (zac (zae 0) (dC (.int 1)) dIx) zaz) zbu)))
 (zar (zco (dC (.bl false)))
 zal)
 zal)
 (zar (zco (zhr (zac (zac (zae 0) (dC (.int 1)) dIx) (dC (.int 1)) dGe) (zac (zan (zad (zac (zae 0) (dC (.int 0)) dIx) (zad (zac (zae 0) (dC (.int 1)) dIx) zaz)) za8) (dC (.int 1)) dEq)))
 zal)))
def zcp:List D->Res D:=zdz 1 zcc
def abc:Str:="abcdefghijklmnopqrstuvwxyz"
def zli (c:Nat):Bool:=occ ⟨#[c]⟩ abc
def nameB (z:Str):Bool:=decide (1<=z.length)&&(decide (z.length<=8)&&z.cps.toList.all zli)
def zys:D->Bool
 | .str z=>nameB z
 | _=>false
def fit:D->Bool
 | .str z=>decide (z.length<=line)
 | _=>true
theorem zlx {b:Ev}{tg:Ev->D->Res Ev}{tt fe:Ev->Res D}{F:D->D}:∀ {ds:List D},(∀ d∈ds,∃ ρ1,tg b d=.ok ρ1/\tt ρ1=.ok (.bl true)/\fe ρ1=.ok (F d))->zbT b tg tt fe ds=.ok (ds.map F)
 | [],_=>rfl
 | d::r,h=>by
  obtain⟨ρ1,h1,h2,h3⟩:=h d List.mem_cons_self
  rw[zeV h1 h2 h3,zlx (fun e he=>h e (List.mem_cons_of_mem _ he))]
  rfl
theorem ziO {α:Type}(F:α->Bool):∀ (cs:List α),zeW (cs.map fun c=>D.bl (F c))=some (cs.map F)
 | []=>rfl
 | c::r=>by
  show(zeW (r.map fun c=>D.bl (F c))).map (F c::·)=_
  rw[ziO F r];rfl
theorem zoc {z:Str}(hz:z.length<=line):zeU 1 [] (zxD (zae 0)) (zcV 0) mYes (zac (zae 0) (dC (.str "abcdefghijklmnopqrstuvwxyz")) dIn) [.sh (.str z)]=.ok (.lst (z.cps.toList.map fun c=>.bl (zli c))):=by
 have hl:(zg7 z).length<=line:=by rw[zgz];exact hz
 unfold zeU
 show(if(zg7 z).length<=line then _ else _)=_
 rw[if_pos hl]
 have:zbT (zcP 1 [] [.sh (.str z)]) (zcV 0) mYes (zac (zae 0) (dC (.str "abcdefghijklmnopqrstuvwxyz")) dIn) (zg7 z)=.ok (z.cps.toList.map fun c=>D.bl (zli c)):=by
  unfold zg7
  induction z.cps.toList with
  | nil=>rfl
  | cons c r ih =>
   rw[List.map_cons,zeV (x:=.bl (zli c)) rfl rfl rfl,ih]
   rfl
 rw[this]
theorem zol {d:D}(h:fit d=true):zb0 [d]=.ok (.bl (zys d)):=by
 cases d with
 | str z =>
  have hz:z.length<=line:=of_decide_eq_true h
  have hlen:ze9 (.str z)=.ok (.int z.length):=if_pos hz
  show zdz 1 zeY _=.ok (.bl (nameB z))
  unfold nameB
  by_cases h1:1<=z.length
  ·by_cases h8:z.length<=8
   ·have e1:decide ((1:Int)<=(z.length:Int))=true:=decide_eq_true (by omega)
    have e2:decide ((z.length:Int)<=8)=true:=decide_eq_true (by omega)
    open_line with[zeY,hlen,e1,e2,zoc hz,zxN,ziO,decide_eq_true h1,decide_eq_true h8,Bool.true_and]
    simp [List.all_map,Function.comp_def]
   ·have e1:decide ((1:Int)<=(z.length:Int))=true:=decide_eq_true (by omega)
    have e2:decide ((z.length:Int)<=8)=false:=decide_eq_false (by omega)
    open_line with[zeY,hlen,e1,e2,decide_eq_true h1,decide_eq_false h8,Bool.false_and,Bool.and_false]
  ·have e1:decide ((1:Int)<=(z.length:Int))=false:=decide_eq_false (by omega)
   open_line with[zeY,hlen,e1,decide_eq_false h1,Bool.false_and]
 | ob k _=>cases k<;>rfl
 | _=>rfl
def zkU:D->Bool
 | .tup [.int p,.int q]=>decide (1<=q)&&(Int.gcd p q==1)
 | _=>false
theorem zw3 {g:Nat}:((g:Int)==1)=(g==1):=by
 cases h:(g==1) with
 | true=>rw[eq_of_beq h];rfl
 | false =>
  have:g≠1:=fun z=>by rw[z] at h;cases h
  exact beq_eq_false_iff_ne.mpr (by omega)
theorem zvI {xs:List D}:(∃ x y,xs=[x,y])∨xs.length≠2:=by
 match xs with
 | []=>exact .inr (by decide)
 | [x]=>exact .inr (by simp)
 | [x,y]=>exact .inl ⟨x,y,rfl⟩
 | x::y::z::r=>exact .inr (by simp)
theorem zrx:∀ {xs:List D},xs.length≠2->zkU (.tup xs)=false
 | [],_=>rfl
 | [x],_=>by cases x<;>rfl
 | [x,y],h=>absurd rfl h
 | x::y::z::r,_=>by cases x<;>cases y<;>rfl
theorem zn3 {x y:D}:zkU (.tup [x,y])=(isI x&&(isI y&&zkU (.tup [x,y]))):=by
 cases x<;>cases y<;>rfl
theorem zlf (d:D):zcp [d]=.ok (.bl (zkU d)):=by
 cases d with
 | tup xs =>
  rcases zvI (xs:=xs) with⟨x,y,rfl⟩ | h
  ·rw[zn3]
   show zdz 1 zcc _=_
   cases hx:isI x with
   | false=>open_line with[zcc,zaZ,hx,Bool.false_and]
   | true =>
    cases hy:isI y with
    | false=>open_line with[zcc,zaZ,hx,hy,Bool.false_and,Bool.true_and]
    | true =>
     cases x<;>first | (cases hx;done) | skip
     cases y<;>first | (cases hy;done) | skip
     rename_i p q
     show _=Res.ok (D.bl (decide (1<=q)&&(Int.gcd p q==1)))
     by_cases hq:1<=q
     ·open_line with[zcc,zaZ,hx,hy,ziG,Bool.true_and,decide_eq_true hq,zw3]
     ·open_line with[zcc,zaZ,hx,hy,ziG,Bool.true_and,decide_eq_false hq,Bool.false_and]
  ·have e2:((xs.length:Int)==2)=false:=beq_eq_false_iff_ne.mpr (by omega)
   rw[zrx h]
   show zdz 1 zcc _=_
   open_line with[zcc,e2]
 | ob k _=>cases k<;>rfl
 | _=>rfl
theorem zu6 {α:Type}{F:α->D}{xs:List α}{lo hi:Option Int}:zdj (xs.map F) lo hi=((xs.drop (HT.sIx xs.length 0 lo)).take (HT.sIx xs.length xs.length hi-HT.sIx xs.length 0 lo)).map F:=by
 unfold zdj
 rw[List.length_map,← List.map_drop,← List.map_take]
section
variable {α β:Type}
theorem ev_exn {x:Exn}{f:α->Res β}:(Res.exn x:Res α).bind f=.exn x:=zaq rfl
end
def zxV (hit:Str->Bool)(ni:Nat)(sh:Ev->Res Fl)(ρ:Ev)(r:Res Fl):Res Fl:=match r with
 | .exn x=>if hit x.cls=true then(sh (ρ.set ni (.sh (zso x)))).bind (zwz ni) else .stuck
 | r=>r
theorem zte {g:Ev->Res Fl}{hit:Str->Bool}{ni:Nat}{sh:Ev->Res Fl}{ρ:Ev}:zvo g hit ni sh ρ=zxV hit ni sh ρ (g ρ):=zaq rfl
theorem ztf {ni:Nat}{ρ:Ev}:zwz ni (.nx ρ)=.ok (.nx (ρ.set ni .no)):=zaq rfl
def zwZ (tg:Ev->D->Res Ev)(s:Ev->Res Fl)(ρ:Ev)(ds:List D):Res Fl:=zcB tg s ds ρ
def zvV (d:D):Res (List D):=match d with
 | .lst ds=>.ok (numbered 0 ds)
 | _=>.stuck
def zvU (d:D):Res (List D):=match d with
 | .lst ds=>.ok ds
 | _=>.stuck
def zvT (d:D):Res (List D):=match d with
 | .tup ds=>.ok ds
 | _=>.stuck
def zoz (n:Nat)(fr:List Nat)(tg:Ev->D->Res Ev)(tt fe:Ev->Res D)(ρ:Ev)(ds:List D):Res D:=if ds.length<=line then match zbT (zcP n fr ρ) tg tt fe ds with
  | .ok es=>.ok (.lst es)
  | _=>.stuck
 else .stuck
def liK (fe:Ev->Res D)(ρ:Ev)(x:D):Res D:=match x with
 | .lst ds=>(fe ρ).bind (zqI (.lst ds))
 | _=>.stuck
def zqL (x:D)(xs:List D):Res (List D):=.ok (x::xs)
def frK (fa:Ev->Res (List D))(ρ:Ev)(x:D):Res (List D):=match x with
 | .lst ds=>(fa ρ).bind (zqL (.lst ds))
 | _=>.stuck
theorem ev_frc {x:D}{xs:List D}:zqL x xs=.ok (x::xs):=zaq rfl
def zuL (tg:Ev->D->Res Ev)(s:Ev->Res Fl)(ρ:Ev)(d:D):Res Fl:=match d with
 | .int j=>if -4611686018427387904<=j/\j < 4611686018427387904 then zcB tg s (intsFrom 0 j.toNat) ρ else .stuck
 | _=>.stuck
section
variable {s t:Ev->Res Fl}{f g h:Ev->Res D}{src:Ev->Res (List D)}{fa:Ev->Res (List D)}{ρ r:Ev}{i j n:Nat}{d x y:D}{ds es xs:List D}{a b:Int}{tg:Ev->D->Res Ev}{tt fe:Ev->Res D}{fr:List Nat}
theorem ev_forI:zkS src tg s ρ=(src ρ).bind (zwZ tg s ρ):=zaq rfl
theorem ev_forI1:zwZ tg s ρ ds=zcB tg s ds ρ:=zaq rfl
theorem ev_srcE:zvm f ρ=(f ρ).bind zvV:=zaq rfl
theorem ev_srcE1:zvV (.lst ds)=.ok (numbered 0 ds):=zaq rfl
theorem ev_srcL:ztW f ρ=(f ρ).bind zvU:=zaq rfl
theorem ev_srcL1:zvU (.lst ds)=.ok ds:=zaq rfl
theorem ev_srcT:zzJ f ρ=(f ρ).bind zvT:=zaq rfl
theorem ev_srcT1:zvT (.tup ds)=.ok ds:=zaq rfl
theorem ev_comp:zeU n fr src tg tt fe ρ=(src ρ).bind (zoz n fr tg tt fe ρ):=zaq rfl
theorem ev_fld {c f:Str}{ks:List Str}:zz0 f (.ob (.ins c ks) ds)=(match zlK f ks ds with | some d=>.ok d | none=>.stuck):=zaq rfl
theorem ev_fld0 {f k:Str}{ks:List Str}:zlK f (k::ks) (d::ds)=if f=k then some d else zlK f ks ds:=zaq rfl
theorem ev_fld1 {f:Str}:zlK f (f::ks) (d::ds)=some d:=by unfold zlK;rw[if_pos rfl]
theorem ev_fld2 {c:Str}{ks:List Str}(h:(ds.length==ks.length)=true):zzR c ks ds=.ok (.ob (.ins c ks) ds):=if_pos (eq_of_beq h)
theorem ev_lI:zu5 f g ρ=(f ρ).bind (liK g ρ):=zaq rfl
theorem ev_lI1:liK g ρ (.lst ds)=(g ρ).bind (zqI (.lst ds)):=zaq rfl
theorem ev_gU {is:List Nat}(h:(ds.length==is.length)=true):zlk is ρ (.tup ds)=.ok (zcX ρ is ds):=by
 show(match (if ds.length=is.length then some ds else none) with | some ds=>Res.ok (zcX ρ is ds) | none=>.stuck)=_
 rw[if_pos (eq_of_beq h)]
theorem ev_fr1:aFr f fa ρ=(f ρ).bind (frK fa ρ):=zaq (by unfold aFr;cases f ρ with | ok x=>cases x<;>rfl | _=>rfl)
theorem ev_fr2:frK fa ρ (.lst ds)=(fa ρ).bind (zqL (.lst ds)):=zaq rfl
theorem ev_ownT:zya i j fa ρ=(fa ρ).bind (zze i j ρ):=zaq rfl
theorem ev_clrAt:zv7 i j ρ=zu9 i j ρ ρ[i]?:=zaq rfl
theorem ev_clrAt1:zu9 i j ρ (some (.ox j ds))=.ok (.nx (ρ.set i (.ox j (ds.set j (.lst []))))):=if_pos rfl
theorem ev_gS:zcV i ρ d=.ok (ρ.set i (.sh d)):=zaq rfl
theorem ev_forR:zlZ f tg s ρ=(f (shr ρ)).bind (zuL tg s ρ):=zaq rfl
theorem zdn {k:Nat}(h:k<=1000000):zuL tg s ρ (.int (k:Int))=zcB tg s (intsFrom 0 k) ρ:=by
 unfold zuL
 dsimp only
 rw[if_pos ⟨by omega,by omega⟩,Int.toNat_natCast]
theorem ev_slT {l h:Option Int}(c:(HT.sIx ds.length 0 l==0&&HT.sIx ds.length ds.length h==ds.length)=false):zxF (.tup ds) l h=.ok (.tup (zdj ds l h)):=by
 show(if _ then _ else _)=_
 rw[if_neg (fun z=>by rw[z.1,z.2] at c;simp at c)]
theorem ev_addT {x:D}(h:decide (ds.length+es.length<=1000)=true):zcv (.tup (x::ds)) (.tup es)=.ok (.tup (x::ds++es)):=by
 refine if_pos ⟨rfl,?_⟩
 have:=of_decide_eq_true h
 show ds.length+1+es.length<=line
 have:(1001:Nat)<=line:=by decide
 omega
theorem ev_addS {x y:Str}(h:decide (x.length+y.length<=1000)=true):zcv (.str x) (.str y)=.ok (.str (x++y)):=if_pos (Nat.le_trans (of_decide_eq_true h) (by decide))
theorem ev_lenS {z:Str}(h:decide (z.length<=1000)=true):ze9 (.str z)=.ok (.int z.length):=if_pos (Nat.le_trans (of_decide_eq_true h) (by decide))
theorem ev_mx:zyO (.int a) (.int b)=.ok (.int (if b > a then b else a)):=zaq rfl
theorem ev_io:ziD (.bl true)=.ok (.int 1):=zaq rfl
theorem ev_io1:ziD (.bl false)=.ok (.int 0):=zaq rfl
theorem ev_li:zxk (.lst ds)=.ok (.lst ds):=zaq rfl
theorem ev_li1:zxk (.tup ds)=.ok (.lst ds):=zaq rfl
theorem ev_p18:znK (.int 10) (.int 18)=.ok (.int 1000000000000000000):=zaq rfl
theorem ev_p9:znK (.int 10) (.int 9)=.ok (.int 1000000000):=zaq rfl
theorem zkp {F:D->D}(hl:ds.length<=1000000)(h:∀ d∈ds,∃ ρ1,tg (zcP n fr ρ) d=.ok ρ1/\tt ρ1=.ok (.bl true)/\fe ρ1=.ok (F d)):zoz n fr tg tt fe ρ ds=.ok (.lst (ds.map F)):=by
 unfold zoz
 rw[if_pos (show ds.length<=line from hl),zlx h]
end
end Com
local macro_rules | `(tactic| open_line with[$xs,*])=>`(tactic| simp only[Com.ev_ok,Com.ev_seq,Com.ev_seq1,Com.ev_seq2,Com.ev_seq3,Com.ev_seq4,Com.ev_next,Com.ev_set,Com.ev_set1,Com.ev_ret,Com.ev_ret1,Com.ev_retN,Com.ev_drop,Com.ev_drop1,Com.ev_if,Com.ev_if1,Com.ev_if2,Com.ev_own,Com.ev_own1,Com.ev_app,Com.ev_ownS,Com.ev_appL,Com.ev_put,Com.ev_put1,Com.ev_putL,Com.ev_putL1,Com.ev_frz,Com.ev_unp,Com.ev_par,Com.ev_par1,Com.ev_b1,Com.ev_b2,Com.ev_b21,Com.ev_bA,Com.ev_nil,Com.ev_cons,Com.ev_cons1,Com.ev_cons2,Com.ev_and,Com.ev_and1,Com.ev_and2,Com.ev_or,Com.ev_or1,Com.ev_or2,Com.ev_not,Com.ev_not1,Com.ev_ifx,Com.ev_ifx1,Com.ev_ifx2,Com.ev_var,Com.ev_var1,Com.ev_C,Com.ev_shr0,Com.ev_shr,Com.ev_shr1,Com.ev_shr2,Com.ev_shr3,Com.ev_shr4,Com.ev_fr1,Com.ev_fr2,Com.ev_frc,Com.ev_ownT,Com.ev_clrAt,Com.ev_clrAt1,Com.ev_run,Com.ev_run1,Com.ev_run2,Com.ev_os,Com.ev_os1,Com.ev_on,Com.ev_sl,Com.ev_sl0,Com.ev_sl1,Com.ev_sl2,Com.ev_for,Com.ev_for1,Com.ev_chain,Com.ev_ch,Com.ev_ch1,Com.ev_ch2,Com.ev_ch3,Com.ev_iop,Com.ev_add,Com.ev_neg,Com.ev_m1,Com.ev_m2,Com.ev_lenL,Com.ev_lenT,Com.ev_p60,Com.eq_int,Com.ne_int,List.map_cons,List.map_nil,List.length_cons,List.length_nil,List.replicate_succ,List.replicate_zero,List.nil_append,List.cons_append,List.getElem?_cons_zero,List.getElem?_cons_succ,List.set_cons_zero,List.set_cons_succ,Nat.sub_zero,Nat.reduceSub,Nat.reduceAdd,Nat.add_zero,Nat.zero_add,Bool.not_true,Bool.not_false,Com.ev_tup,Com.ev_lst,Com.ev_addL,Com.ev_app1,Com.ev_appL1,Com.ev_mod,Com.ev_unpL,Com.ev_unpT,Com.ev_sa,Com.ev_sa0,Com.ev_un,Com.ev_un1,Com.ev_un2,Com.ev_un3,Com.ev_ixL0,Com.ev_ixL1,Com.ev_ixL2,Com.ev_ixL3,Com.ev_ixL4,Com.ev_ixL5,Com.ev_ixL6,Com.ev_ixL7,Com.ev_ixL8,Com.ev_ixL9,Com.ev_ixL10,Com.ev_ixL11,Com.ev_ixL12,Com.ev_ixL13,Com.ev_ixT0,Com.ev_ixT1,Com.ev_ixT2,Com.ev_ixT3,Com.ev_ixT4,Com.ev_ixT5,decide_true,decide_false,Nat.reduceLeDiff,Nat.reduceBEq,Int.reduceBEq,beq_self_eq_true,DL.dOne,DL.mYes,Com.ev_is_bool_non,Com.ev_is_bool_bl,Com.ev_is_bool_int,Com.ev_is_bool_str,Com.ev_is_bool_tup,Com.ev_is_bool_lst,Com.ev_is_bool_dic,Com.ev_is_int_non,Com.ev_is_int_bl,Com.ev_is_int_int,Com.ev_is_int_str,Com.ev_is_int_tup,Com.ev_is_int_lst,Com.ev_is_int_dic,Com.ev_is_str_non,Com.ev_is_str_bl,Com.ev_is_str_int,Com.ev_is_str_str,Com.ev_is_str_tup,Com.ev_is_str_lst,Com.ev_is_str_dic,Com.ev_is_tuple_non,Com.ev_is_tuple_bl,Com.ev_is_tuple_int,Com.ev_is_tuple_str,Com.ev_is_tuple_tup,Com.ev_is_tuple_lst,Com.ev_is_tuple_dic,Com.ev_is_list_non,Com.ev_is_list_bl,Com.ev_is_list_int,Com.ev_is_list_str,Com.ev_is_list_tup,Com.ev_is_list_lst,Com.ev_is_list_dic,Com.ev_is_dict_non,Com.ev_is_dict_bl,Com.ev_is_dict_int,Com.ev_is_dict_str,Com.ev_is_dict_tup,Com.ev_is_dict_lst,Com.ev_is_dict_dic,Com.ev_isN_non,Com.ev_notN_non,Com.ev_isN_bl,Com.ev_notN_bl,Com.ev_isN_int,Com.ev_notN_int,Com.ev_isN_str,Com.ev_notN_str,Com.ev_isN_tup,Com.ev_notN_tup,Com.ev_isN_lst,Com.ev_notN_lst,Com.ev_isN_dic,Com.ev_notN_dic,Com.ev_c0,Com.ev_c1,Com.ev_c2,Com.ev_c3,Com.ev_c4,Com.ev_c5,Com.ev_c6,Com.ev_c7,Com.ev_c8,Com.ev_c9,Com.ev_c10,Com.ev_c11,Int.reduceLT,Int.reduceLE,Int.reduceSub,Int.reduceAdd,Int.reduceMul,Int.reduceNeg,Com.ev_join,Com.ev_join1,Com.ev_pt0,Com.ev_pt1,Com.ev_pt2,Com.ev_pt3,Com.ev_pt4,Com.ev_rep,Com.ev_rep1,Com.ev_rep2,Int.reduceToNat,Bool.and_self,Com.ev_forI,Com.ev_forI1,Com.ev_srcE,Com.ev_srcE1,Com.ev_srcL,Com.ev_srcL1,Com.ev_srcT,Com.ev_srcT1,Com.ev_comp,Com.ev_fld,Com.ev_fld0,Com.ev_fld1,Com.ev_fld2,Com.ev_lI,Com.ev_lI1,Com.ev_gU,Com.ev_forR,Com.ev_slT,Com.ev_addT,Com.ev_addS,Com.ev_lenS,Com.ev_mx,Com.ev_io,Com.ev_io1,Com.ev_li,Com.ev_li1,Com.ev_gS,Com.ev_p18,Com.ev_p9,$[$xs:term],*])
local macro_rules | `(tactic| open_line with[$xs,*] seeing $h)=>`(tactic| simp only[Com.ev_ok,Com.ev_seq,Com.ev_seq1,Com.ev_seq2,Com.ev_seq3,Com.ev_seq4,Com.ev_next,Com.ev_set,Com.ev_set1,Com.ev_ret,Com.ev_ret1,Com.ev_retN,Com.ev_drop,Com.ev_drop1,Com.ev_if,Com.ev_if1,Com.ev_if2,Com.ev_own,Com.ev_own1,Com.ev_app,Com.ev_ownS,Com.ev_appL,Com.ev_put,Com.ev_put1,Com.ev_putL,Com.ev_putL1,Com.ev_frz,Com.ev_unp,Com.ev_par,Com.ev_par1,Com.ev_b1,Com.ev_b2,Com.ev_b21,Com.ev_bA,Com.ev_nil,Com.ev_cons,Com.ev_cons1,Com.ev_cons2,Com.ev_and,Com.ev_and1,Com.ev_and2,Com.ev_or,Com.ev_or1,Com.ev_or2,Com.ev_not,Com.ev_not1,Com.ev_ifx,Com.ev_ifx1,Com.ev_ifx2,Com.ev_var,Com.ev_var1,Com.ev_C,Com.ev_shr0,Com.ev_shr,Com.ev_shr1,Com.ev_shr2,Com.ev_shr3,Com.ev_shr4,Com.ev_fr1,Com.ev_fr2,Com.ev_frc,Com.ev_ownT,Com.ev_clrAt,Com.ev_clrAt1,Com.ev_run,Com.ev_run1,Com.ev_run2,Com.ev_os,Com.ev_os1,Com.ev_on,Com.ev_sl,Com.ev_sl0,Com.ev_sl1,Com.ev_sl2,Com.ev_for,Com.ev_for1,Com.ev_chain,Com.ev_ch,Com.ev_ch1,Com.ev_ch2,Com.ev_ch3,Com.ev_iop,Com.ev_add,Com.ev_neg,Com.ev_m1,Com.ev_m2,Com.ev_lenL,Com.ev_lenT,Com.ev_p60,Com.eq_int,Com.ne_int,List.map_cons,List.map_nil,List.length_cons,List.length_nil,List.replicate_succ,List.replicate_zero,List.nil_append,List.cons_append,List.getElem?_cons_zero,List.getElem?_cons_succ,List.set_cons_zero,List.set_cons_succ,Nat.sub_zero,Nat.reduceSub,Nat.reduceAdd,Nat.add_zero,Nat.zero_add,Bool.not_true,Bool.not_false,Com.ev_tup,Com.ev_lst,Com.ev_addL,Com.ev_app1,Com.ev_appL1,Com.ev_mod,Com.ev_unpL,Com.ev_unpT,Com.ev_sa,Com.ev_sa0,Com.ev_un,Com.ev_un1,Com.ev_un2,Com.ev_un3,Com.ev_ixL0,Com.ev_ixL1,Com.ev_ixL2,Com.ev_ixL3,Com.ev_ixL4,Com.ev_ixL5,Com.ev_ixL6,Com.ev_ixL7,Com.ev_ixL8,Com.ev_ixL9,Com.ev_ixL10,Com.ev_ixL11,Com.ev_ixL12,Com.ev_ixL13,Com.ev_ixT0,Com.ev_ixT1,Com.ev_ixT2,Com.ev_ixT3,Com.ev_ixT4,Com.ev_ixT5,decide_true,decide_false,Nat.reduceLeDiff,Nat.reduceBEq,Int.reduceBEq,beq_self_eq_true,DL.dOne,DL.mYes,Com.ev_is_bool_non,Com.ev_is_bool_bl,Com.ev_is_bool_int,Com.ev_is_bool_str,Com.ev_is_bool_tup,Com.ev_is_bool_lst,Com.ev_is_bool_dic,Com.ev_is_int_non,Com.ev_is_int_bl,Com.ev_is_int_int,Com.ev_is_int_str,Com.ev_is_int_tup,Com.ev_is_int_lst,Com.ev_is_int_dic,Com.ev_is_str_non,Com.ev_is_str_bl,Com.ev_is_str_int,Com.ev_is_str_str,Com.ev_is_str_tup,Com.ev_is_str_lst,Com.ev_is_str_dic,Com.ev_is_tuple_non,Com.ev_is_tuple_bl,Com.ev_is_tuple_int,Com.ev_is_tuple_str,Com.ev_is_tuple_tup,Com.ev_is_tuple_lst,Com.ev_is_tuple_dic,Com.ev_is_list_non,Com.ev_is_list_bl,Com.ev_is_list_int,Com.ev_is_list_str,Com.ev_is_list_tup,Com.ev_is_list_lst,Com.ev_is_list_dic,Com.ev_is_dict_non,Com.ev_is_dict_bl,Com.ev_is_dict_int,Com.ev_is_dict_str,Com.ev_is_dict_tup,Com.ev_is_dict_lst,Com.ev_is_dict_dic,Com.ev_isN_non,Com.ev_notN_non,Com.ev_isN_bl,Com.ev_notN_bl,Com.ev_isN_int,Com.ev_notN_int,Com.ev_isN_str,Com.ev_notN_str,Com.ev_isN_tup,Com.ev_notN_tup,Com.ev_isN_lst,Com.ev_notN_lst,Com.ev_isN_dic,Com.ev_notN_dic,Com.ev_c0,Com.ev_c1,Com.ev_c2,Com.ev_c3,Com.ev_c4,Com.ev_c5,Com.ev_c6,Com.ev_c7,Com.ev_c8,Com.ev_c9,Com.ev_c10,Com.ev_c11,Int.reduceLT,Int.reduceLE,Int.reduceSub,Int.reduceAdd,Int.reduceMul,Int.reduceNeg,Com.ev_join,Com.ev_join1,Com.ev_pt0,Com.ev_pt1,Com.ev_pt2,Com.ev_pt3,Com.ev_pt4,Com.ev_rep,Com.ev_rep1,Com.ev_rep2,Int.reduceToNat,Bool.and_self,Com.ev_forI,Com.ev_forI1,Com.ev_srcE,Com.ev_srcE1,Com.ev_srcL,Com.ev_srcL1,Com.ev_srcT,Com.ev_srcT1,Com.ev_comp,Com.ev_fld,Com.ev_fld0,Com.ev_fld1,Com.ev_fld2,Com.ev_lI,Com.ev_lI1,Com.ev_gU,Com.ev_forR,Com.ev_slT,Com.ev_addT,Com.ev_addS,Com.ev_lenS,Com.ev_mx,Com.ev_io,Com.ev_io1,Com.ev_li,Com.ev_li1,Com.ev_gS,Com.ev_p18,Com.ev_p9,$[$xs:term],*] at $(⟨h⟩):ident)
namespace Com
open PySem L2 DL
theorem zoi {a b:Int}(ha:0<=a)(hb:0 < b):0<=(low a b).1:=Int.ediv_nonneg ha (by omega)
theorem zuz {a b:Int}(ha:0 < a)(hb:0 < b):0 < (low a b).1:=by
 have hg:0 < (Int.gcd a b:Int):=ziq (by omega)
 have hd:(Int.gcd a b:Int)∣a:=Int.gcd_dvd_left ..
 exact Int.ediv_pos_of_pos_of_dvd ha (by omega) hd
theorem zw1 {a:Int}(h0:0<=a)(h1:a < (N60:Int)):zhE (a,1):=⟨⟨by show(1:Int)<=1;decide,by show Int.gcd a 1=1;exact Int.gcd_one_right ..⟩,by show a.natAbs < N60;omega,by show(1:Int).natAbs < N60;decide⟩
theorem zzm {a:Int}(h0:0<=a)(h1:a < (N60:Int)):a.natAbs < B13:=Nat.lt_of_lt_of_le (show a.natAbs < N60 by omega) zvj
theorem zmm {i:Nat}{body:Ev->Res Fl}(P:Nat->Ev->Prop){n:Nat}(h:∀ k,k < n->∀ ρ,P k ρ->∃ ρ2,body (ρ.set i (.sh (.int (k:Int))))=.ok (.nx ρ2)/\P (k+1) ρ2){ρ:Ev}(h0:P 0 ρ):∃ ρ',zcB (zcV i) body (intsFrom 0 n) ρ=.ok (.nx ρ')/\P n ρ':=by
 have key:∀ (m k:Nat) (ρ:Ev),k+m=n->P k ρ->∃ ρ',zcB (zcV i) body ((intsFrom 0 n).drop k) ρ=.ok (.nx ρ')/\P n ρ':=by
  intro m
  induction m with
  | zero =>
   intro k ρ hk hp
   have:k=n:=by omega
   subst this
   rw[znn]
   exact⟨ρ,rfl,hp⟩
  | succ m ih =>
   intro k ρ hk hp
   obtain⟨ρ2,h1,h2⟩:=h k (by omega) ρ hp
   rw[zlh (by omega),zkg (tg:=zcV i) rfl h1]
   exact ih (k+1) ρ2 (by omega) h2
 exact key n 0 ρ (by omega) h0
theorem zmn {tg:Ev->D->Res Ev}{body:Ev->Res Fl}{ds:List D}(P:Nat->Ev->Prop)(h:∀ k d,ds[k]?=some d->∀ ρ,P k ρ->∃ ρ1 ρ2,tg ρ d=.ok ρ1/\body ρ1=.ok (.nx ρ2)/\P (k+1) ρ2){ρ:Ev}(h0:P 0 ρ):∃ ρ',zcB tg body ds ρ=.ok (.nx ρ')/\P ds.length ρ':=by
 have key:∀ (m k:Nat) (ρ:Ev),k+m=ds.length->P k ρ->∃ ρ',zcB tg body (ds.drop k) ρ=.ok (.nx ρ')/\P ds.length ρ':=by
  intro m
  induction m with
  | zero =>
   intro k ρ hk hp
   have:k=ds.length:=by omega
   subst this
   rw[List.drop_length]
   exact⟨ρ,rfl,hp⟩
  | succ m ih =>
   intro k ρ hk hp
   have hlt:k < ds.length:=by omega
   obtain⟨ρ1,ρ2,h1,h2,h3⟩:=h k ds[k] (List.getElem?_eq_getElem hlt) ρ hp
   rw[List.drop_eq_getElem_cons hlt,zkg h1 h2]
   exact ih (k+1) ρ2 (by omega) h3
 exact key ds.length 0 ρ (by omega) h0
structure Drawn (sz vs:List Int):Prop where
 len:vs.length=sz.length
 bnd:∀ (i:Nat) (v s:Int),vs[i]?=some v->sz[i]?=some s->0<=v/\v < s
theorem Drawn.at {sz vs:List Int}(W:Drawn sz vs)(i:Nat){s:Int}(h:sz[i]?=some s):∃ v,vs[i]?=some v/\(0<=v/\v < s)/\dIx (.lst (vs.map D.int)) (.int (i:Int))=.ok (.int v):=by
 have hi:i < vs.length:=by rw[W.len];exact(List.getElem?_eq_some_iff.mp h).1
 refine⟨vs[i],List.getElem?_eq_getElem hi,W.bnd i _ _ (List.getElem?_eq_getElem hi) h,zjq ?_⟩
 rw[List.getElem?_map,List.getElem?_eq_getElem hi];rfl
theorem zmA:("abcdefghijklmnopqrstuvwxyz" : Str).cps.toList=(List.range 26).map (97 + ·):=by decide +kernel
theorem zxy:∀ n,n < 26->zli (97+n)=true:=by decide +kernel
theorem zxx {v:Int}(h0:0<=v)(h1:v < 26):dIx (.str "abcdefghijklmnopqrstuvwxyz") (.int v)=.ok (.str ⟨#[97+v.toNat]⟩):=by
 obtain⟨n,rfl⟩:=Int.eq_ofNat_of_zero_le h0
 have hn:n < 26:=by omega
 have e:atI ("abcdefghijklmnopqrstuvwxyz" : Str).cps.toList ((n:Nat):Int)=some (97+n):=zbm (by rw[zmA];simp [hn])
 show(if("abcdefghijklmnopqrstuvwxyz" : Str).length<=line then(match atI ("abcdefghijklmnopqrstuvwxyz" : Str).cps.toList ((n:Nat):Int) with | some c=>Res.ok (D.str ⟨#[c]⟩) | none=>.stuck) else .stuck)=_
 rw[if_pos (by decide),e]
 rfl
theorem zp9:∀ cs:List Nat,Str.join "" (cs.map fun c=>(⟨#[c]⟩:Str))=⟨cs.toArray⟩
 | []=>rfl
 | [c]=>rfl
 | c::d::cs=>by
  show(⟨#[c]⟩:Str)++""++Str.join "" ((d::cs).map fun c=>(⟨#[c]⟩:Str))=_
  rw[zp9 (d::cs)]
  apply Str.ext'
  show(#[c]++("" : Str).cps)++(d::cs).toArray=_
  have:("" : Str).cps=#[]:=rfl
  rw[this]
  simp
theorem zpe:∀ cs:List Nat,zfh (cs.map fun c=>D.str ⟨#[c]⟩)=some (cs.map fun c=>(⟨#[c]⟩:Str))
 | []=>rfl
 | c::cs=>by
  show(zfh (cs.map fun c=>D.str ⟨#[c]⟩)).map _=_
  rw[zpe cs];rfl
theorem zok {cs:List Nat}(h:cs.length<=1000):zka "" [.lst (cs.map fun c=>D.str ⟨#[c]⟩)]=.ok (.str ⟨cs.toArray⟩):=by
 have fit:zeM "" (cs.map fun c=>(⟨#[c]⟩:Str))=true:=by
  unfold zeM
  have e:((cs.map fun c=>(⟨#[c]⟩:Str)).map (·.length)).sum=cs.length:=by
   clear h
   induction cs with
   | nil=>rfl
   | cons c cs ih =>
    simp only[List.map_cons,List.sum_cons,List.length_cons,ih]
    show 1+cs.length=_
    omega
  rw[e,Bool.and_eq_true]
  exact⟨by decide,decide_eq_true (by rw[List.length_map];omega)⟩
 show(match zfh (cs.map fun c=>D.str ⟨#[c]⟩) with | some ys=>if zeM "" ys=true then Res.ok (D.str (Txt.join "" ys)) else .stuck | none=>.stuck)=_
 rw[zpe]
 show(if zeM "" _=true then Res.ok (D.str (Txt.join "" _)) else .stuck)=_
 rw[if_pos fit]
 show Res.ok (D.str (Builtin.Str.glued "" _))=_
 rw[StrLaws.glued_eq_join,zp9]
structure ziY (zs:List Str):Prop where
 nd:zs.Nodup
 nm:∀ z∈zs,nameB z=true
theorem zxl (a:List Nat):(⟨a.toArray⟩:Str).length=a.length:=by show a.toArray.size=_;simp
structure Tie where
 a:Str
 b:Str
 w:Str
 l:Fra
 o:Option Fra
def zfg:Option Fra->D
 | none=>.non
 | some x=>fr x
def zdu (t:Tie):D:=.tup [.str t.a,.str t.b,.str t.w,fr t.l,zfg t.o]
structure zoH (zs:List Str) (t:Tie):Prop where
 a:t.a∈zs
 b:t.b∈zs
 ne:t.a≠t.b
 w:t.w="one"∨t.w="both"
 l:zhE t.l
 l0:0<=t.l.1
 o:∀ x,t.o=some x->zhE x/\0 < x.1
theorem zja {zs:List Str}{k:Int}(h0:0<=k)(h1:k < zs.length):∃ z,zs[k.toNat]?=some z/\dIx (.lst (zs.map D.str)) (.int k)=.ok (.str z):=by
 obtain⟨n,rfl⟩:=Int.eq_ofNat_of_zero_le h0
 have hn:n < zs.length:=by omega
 refine⟨zs[n],by simp [hn],zjq ?_⟩
 rw[List.getElem?_map,List.getElem?_eq_getElem hn];rfl
theorem ztG {k:Int}(h0:0<=k)(h1:k < 2):∃ z:Str,(z="one"∨z="both")/\dIx (.lst [.str "one",.str "both"]) (.int k)=.ok (.str z):=by
 have:k=0∨k=1:=by omega
 rcases this with rfl | rfl
 ·exact⟨_,.inl rfl,ev_ixL0⟩
 ·exact⟨_,.inr rfl,ev_ixL1⟩
theorem zlG {n d e:Int}(h2:2<=n)(d0:0<=d)(d1:d < n)(e0:0<=e)(e1:e < n-1):(0<=(d+1+e).fmod n/\(d+1+e).fmod n < n)/\(d+1+e).fmod n≠d:=by
 refine⟨zey (by omega),?_⟩
 rw[Int.fmod_eq_emod_of_nonneg _ (by omega)]
 by_cases h:d+1+e < n
 ·rw[Int.emod_eq_of_lt (by omega) h];omega
 ·have:(d+1+e) % n=d+1+e-n:=by
   rw[← Int.sub_emod_right (d+1+e) n,Int.emod_eq_of_lt (by omega) (by omega)]
  rw[this];omega
theorem zhK {α:Type}{zs:List α}(nd:zs.Nodup){i j:Nat}{x y:α}(hi:zs[i]?=some x)(hj:zs[j]?=some y)(hij:i≠j):x≠y:=by
 intro e
 subst e
 obtain⟨h1,e1⟩:=List.getElem?_eq_some_iff.mp hi
 obtain⟨h2,e2⟩:=List.getElem?_eq_some_iff.mp hj
 exact hij ((List.getElem_inj nd).mp (e1.trans e2.symm))
def ziP:Ev->Res Fl :=
 (zar (zco (zhr (zan (zad (zae 0) zaz) zcp) (zac (zac (zae 0) (dC (.int 0)) dIx) (dC (.int 0)) dGe)))
 zal)
def zcr:List D->Res D:=zdz 1 ziP
def zjH:Ev->Res Fl :=
 (zar (zco (dOr (zac (zae 0) (dC (.non)) zlM) (zhr (zan (zad (zae 0) zaz) zcp) (zac (zac (zae 0) (dC (.int 0)) dIx) (dC (.int 0)) dGt))))
 zal)
def zcU:List D->Res D:=zdz 1 zjH
def znO:Ev->Res Fl :=
 (zar (sIf (dOr (zdD (zbv (zae 0) (zce "tuple"))) (zac (zan (zad (zae 0) zaz) (m1 ze9)) (dC (.int 5)) dNe))
 (zar (zco (dC (.bl false)))
 zal)
 zal)
 (zar (sIf (dOr (zdD (zan (zad (zac (zae 0) (dC (.int 0)) dIx) zaz) zb0)) (dOr (zdD (zan (zad (zac (zae 0) (dC (.int 1)) dIx) zaz) zb0)) (zac (zac (zae 0) (dC (.int 0)) dIx) (zac (zae 0) (dC (.int 1)) dIx) dEq)))
 (zar (zco (dC (.bl false)))
 zal)
 zal)
 (zar (sIf (dOr (zdD (zbv (zac (zae 0) (dC (.int 2)) dIx) (zce "str"))) (zac (zac (zae 0) (dC (.int 2)) dIx) (dC (.tup [(.str "one"),(.str "both")])) zbW))
 (zar (zco (dC (.bl false)))
 zal)
 zal)
 (zar (zco (zhr (zan (zad (zac (zae 0) (dC (.int 3)) dIx) zaz) zcr) (zan (zad (zac (zae 0) (dC (.int 4)) dIx) zaz) zcU)))
 zal))))
def zd5:List D->Res D:=zdz 1 znO
def zet:Ev->Res Fl :=
 (zar (sIf (dOr (zdD (zbv (zae 0) (zce "list"))) (zdD (zeT dLe dLe (dC (.int 2)) (zan (zad (zae 0) zaz) (m1 ze9)) (dC (.int 7)))))
 (zar zcl
 zal)
 zal)
 (zar (zkS (zvm (zae 0)) (zlk [1,2])
 (zar (sIf (dOr (zdD (zan (zad (zae 2) zaz) zb0)) (zac (zae 2) (zoL (zae 0) zdi (zc2 (zae 1))) dIn))
 (zar zcl
 zal)
 zal)
 zal))
 zal))
def zbn:List D->Res D:=zdz 3 zet
def zfw:Ev->Res Fl :=
 (zar (sIf (dOr (zdD (zbv (zae 0) (zce "list"))) (zac (zan (zad (zae 0) zaz) (m1 ze9)) (dC (.int 14)) dGt))
 (zar zcl
 zal)
 zal)
 (zar (zkS (zvm (zae 0)) (zlk [2,3])
 (zar (sIf (dOr (zdD (zan (zad (zae 3) zaz) zd5)) (dOr (zac (zac (zae 3) (dC (.int 0)) dIx) (zae 1) zbW) (zac (zac (zae 3) (dC (.int 1)) dIx) (zae 1) zbW)))
 (zar zcl
 zal)
 zal)
 zal))
 zal))
def zbE:List D->Res D:=zdz 4 zfw
def zjI:Ev->Res Fl :=
 (zar (zco (zhr (zan (zad (zae 0) zaz) zb0) (zac (zae 0) (zae 1) dIn)))
 zal)
def zcq:List D->Res D:=zdz 2 zjI
def zgm:Ev->Res Fl :=
 (zar (sIf (dOr (zdD (zbv (zae 0) (zce "tuple"))) (zac (zan (zad (zae 0) zaz) (m1 ze9)) (dC (.int 4)) dNe))
 (zar zcl
 zal)
 zal)
 (zar (zh3 (zan (zad (zac (zae 0) (dC (.int 0)) dIx) zaz) zbn))
 (zar (zh3 (zan (zad (zac (zae 0) (dC (.int 1)) dIx) (zad (zac (zae 0) (dC (.int 0)) dIx) zaz)) zbE))
 (zar (sIf (zdD (zan (zad (zac (zae 0) (dC (.int 2)) dIx) (zad (zac (zae 0) (dC (.int 0)) dIx) zaz)) zcq))
 (zar zcl
 zal)
 zal)
 (zar (sIf (dOr (zdD (zan (zad (zac (zae 0) (dC (.int 3)) dIx) (zad (zac (zae 0) (dC (.int 0)) dIx) zaz)) zcq)) (zac (zac (zae 0) (dC (.int 3)) dIx) (zac (zae 0) (dC (.int 2)) dIx) dEq))
 (zar zcl
 zal)
 zal)
 zal)))))
def zbe:List D->Res D:=zdz 1 zgm
def zaN:Ev->Res Fl :=
 (zar (zco (zhr (zan (zad (zae 1) zaz) zbu) (zeT dLe dLt (dC (.int 0)) (zae 1) (zan (zad (zac (zae 0) (dC (.int 1)) dIx) zaz) (m1 ze9)))))
 zal)
def zao:List D->Res D:=zdz 2 zaN
def zes:Ev->Res Fl :=
 (zar (zh3 (zan (zad (zae 0) zaz) zbe))
 (zar (sIf (zdD (zbv (zae 1) (zce "list")))
 (zar zcl
 zal)
 zal)
 (zar (zbN 2 (zbv (dC (.int 1)) zoM))
 (zar (zpt (zae 1) (zcV 3)
 (zar (sIf (dOr (zdD (zan (zad (zae 0) (zad (zae 3) zaz)) zao)) (zac (zae 3) (zae 2) dLe))
 (zar zcl
 zal)
 zal)
 (zar (sIf (zac (zac (zac (zac (zae 0) (dC (.int 1)) dIx) (zae 3) dIx) (dC (.int 4)) dIx) (dC (.non)) zlM)
 (zar zcl
 zal)
 zal)
 (zar (zbN 2 (zae 3))
 zal))))
 zal))))
def zaV:List D->Res D:=zdz 4 zes
structure Web where
 ps:List Str
 ts:List Tie
 fi:Str
 la:Str
def zba (w:Web):D:=.tup [.lst (w.ps.map D.str),.lst (w.ts.map zdu),.str w.fi,.str w.la]
structure zcR (w:Web):Prop where
 n2:2<=w.ps.length
 n7:w.ps.length<=7
 nm:ziY w.ps
 t14:w.ts.length<=14
 ts:∀ t∈w.ts,zoH w.ps t
 fi:w.fi∈w.ps
 la:w.la∈w.ps
 ne:w.fi≠w.la
theorem zf1 {z:Str}(h:nameB z=true):zb0 [.str z]=.ok (.bl true):=by
 have hl:z.length<=8:=by
  unfold nameB at h
  simp only[Bool.and_eq_true,decide_eq_true_eq] at h
  exact h.2.1
 rw[zol (show fit (.str z)=true from decide_eq_true (Nat.le_trans hl (by decide)))]
 show Res.ok (D.bl (nameB z))=_
 rw[h]
theorem zjh {x:Fra}(h:Low x):zcp [fr x]=.ok (.bl true):=by
 rw[zlf]
 show Res.ok (D.bl (zkU (.tup [.int x.1,.int x.2])))=_
 have h1:=h.q1
 have h2:=h.g1
 show Res.ok (D.bl (decide (1<=x.2)&&(Int.gcd x.1 x.2==1)))=_
 rw[decide_eq_true h1,h2];rfl
theorem zmj {x:Fra}(h:Low x)(h0:0<=x.1):zcr [fr x]=.ok (.bl true):=by
 have e:fr x=.tup [.int x.1,.int x.2]:=rfl
 have h1:=zjh h
 rw[e] at h1 ⊢
 open_line with[zcr,ziP,h1,decide_eq_true h0,decide_eq_true (show x.1≥0 from h0)]
theorem znW {o:Option Fra}(h:∀ x,o=some x->Low x/\0 < x.1):zcU [zfg o]=.ok (.bl true):=by
 cases o with
 | none=>rfl
 | some x =>
  obtain⟨hx,h0⟩:=h x rfl
  have e:zfg (some x)=.tup [.int x.1,.int x.2]:=rfl
  have h1:=zjh hx
  rw[show fr x=.tup [.int x.1,.int x.2] from rfl] at h1
  rw[e]
  open_line with[zcU,zjH,h1,decide_eq_true h0]
theorem zqt {x y:Str}:dEq (.str x) (.str y)=.ok (.bl (x==y)):=by unfold dEq;rw[if_pos ⟨rfl,rfl⟩,eqD]
theorem zrk {zs:List Str}{t:Tie}(nm:ziY zs)(h:zoH zs t):zd5 [zdu t]=.ok (.bl true):=by
 obtain⟨a,b,w,l,o⟩:=t
 obtain⟨ha,hb,hne,hw,hl,hl0,ho⟩:=h
 have h1:=zf1 (nm.nm a ha)
 have h2:=zf1 (nm.nm b hb)
 have h3:=zmj hl.toLow hl0
 have h4:=znW (o:=o) fun x hx=>⟨(ho x hx).1.toLow,(ho x hx).2⟩
 have h5:(a==b)=false:=beq_eq_false_iff_ne.mpr hne
 have h6:zbW (.str w) (.tup [.str "one",.str "both"])=.ok (.bl false):=by
  rcases hw with rfl | rfl<;>rfl
 have e:zdu ⟨a,b,w,l,o⟩=.tup [.str a,.str b,.str w,fr l,zfg o]:=rfl
 rw[e]
 open_line with[zd5,znO,h1,h2,zqt,h5,h6,h3,h4]
theorem zqW {zs:List Str}{z:Str}:(zs.map D.str).any (fun d=>eqD d (.str z))=decide (z∈zs):=by
 induction zs with
 | nil=>rfl
 | cons y zs ih =>
  rw[List.map_cons,List.any_cons,ih]
  show((y==z)||decide (z∈zs))=_
  by_cases h:y=z
  ·subst h;simp
  ·have:(y==z)=false:=beq_eq_false_iff_ne.mpr h
   rw[this,Bool.false_or]
   have:z∈y::zs↔z∈zs:=by simp [Ne.symm h]
   exact decide_eq_decide.mpr this.symm
theorem zhT {n:Nat}{zs:List Str}:(zs.map D.str).all (zbs n)=true:=List.all_eq_true.mpr fun d hd=>by
 obtain⟨z,_,rfl⟩:=List.mem_map.mp hd
 cases n<;>rfl
theorem zkb {zs:List Str}{z:Str}:dIn (.str z) (.lst (zs.map D.str))=.ok (.bl (decide (z∈zs))):=by
 have e:inD (.str z) (.lst (zs.map D.str))=some (decide (z∈zs)):=(if_pos ⟨rfl,zhT⟩).trans (congrArg some zqW)
 unfold dIn
 rw[e]
theorem zcS {zs:List Str}{z:Str}:zbW (.str z) (.lst (zs.map D.str))=.ok (.bl (!(decide (z∈zs)))):=by
 have e:inD (.str z) (.lst (zs.map D.str))=some (decide (z∈zs)):=(if_pos ⟨rfl,zhT⟩).trans (congrArg some zqW)
 unfold zbW
 rw[e]
theorem zjj {zs:List Str}{z:Str}(h:nameB z=true)(hz:z∈zs):zcq [.str z,.lst (zs.map D.str)]=.ok (.bl true):=by
 open_line with[zcq,zjI,zf1 h,zkb,decide_eq_true hz]
theorem zhe {α:Type}{F:α->D}{xs:List α}{k:Nat}{d:D}(h:(numbered 0 (xs.map F))[k]?=some d):∃ x,xs[k]?=some x/\d=.tup [.int (k:Int),F x]:=by
 rw[zeK,List.getElem?_map] at h
 cases e:xs[k]? with
 | none=>rw[e] at h;cases h
 | some x =>
  rw[e] at h
  cases h
  exact⟨x,rfl,by simp⟩
theorem ztm {α:Type}{F:α->D}{xs:List α}{k:Nat}(h:k<=xs.length):zdj (xs.map F) none (some (k:Int))=(xs.take k).map F:=by
 rw[zu6,HT.sIx_none,HT.sIx_nat,Nat.min_eq_left h,List.drop_zero,Nat.sub_zero]
theorem zh7 {zs:List Str}(h2:2<=zs.length)(h7:zs.length<=7)(nm:ziY zs):zbn [.lst (zs.map D.str)]=.ok .non:=by
 obtain⟨ρ',hl,_⟩:=zmn (ds:=numbered 0 (zs.map D.str)) (tg:=zlk [1,2]) (ρ:=[.sh (.lst (zs.map D.str)),.no,.no])
  (body:=(zar (sIf (dOr (zdD (zan (zad (zae 2) zaz) zb0)) (zac (zae 2) (zoL (zae 0) zdi (zc2 (zae 1))) dIn)) (zar zcl zal) zal) zal))
  (fun k ρ=>∃ a b,ρ=[.sh (.lst (zs.map D.str)),a,b]) (by
   rintro k d hd ρ ⟨a,b,rfl⟩
   obtain⟨z,hz,rfl⟩:=zhe hd
   refine⟨_,[.sh (.lst (zs.map D.str)),.sh (.int (k:Int)),.sh (.str z)],ev_gU rfl,?_,_,_,rfl⟩
   have hk:k < zs.length:=(List.getElem?_eq_some_iff.mp hz).1
   have hnot:decide (z∈zs.take k)=false:=decide_eq_false fun hm=>by
    obtain⟨j,hj⟩:=List.mem_iff_getElem?.mp hm
    have hjk:j < k:=by have:=(List.getElem?_eq_some_iff.mp hj).1;simp at this;omega
    rw[List.getElem?_take_of_lt hjk] at hj
    exact zhK nm.nd hj hz (by omega) rfl
   open_line with[zf1 (nm.nm z (List.mem_of_getElem? hz)),ztm (Nat.le_of_lt hk),zkb,hnot]) ⟨.no,.no,rfl⟩
 have e1:decide ((2:Int)<=(zs.length:Int))=true:=decide_eq_true (by omega)
 have e2:decide ((zs.length:Int)<=7)=true:=decide_eq_true (by omega)
 open_line with[zbn,zet,List.length_map,e1,e2,hl]
theorem ztO {zs:List Str}{ts:List Tie}(h14:ts.length<=14)(nm:ziY zs)(ht:∀ t∈ts,zoH zs t):zbE [.lst (ts.map zdu),.lst (zs.map D.str)]=.ok .non:=by
 obtain⟨ρ',hl,_⟩:=zmn (ds:=numbered 0 (ts.map zdu)) (tg:=zlk [2,3]) (ρ:=[.sh (.lst (ts.map zdu)),.sh (.lst (zs.map D.str)),.no,.no])
  (body:=(zar (sIf (dOr (zdD (zan (zad (zae 3) zaz) zd5)) (dOr (zac (zac (zae 3) (dC (.int 0)) dIx) (zae 1) zbW) (zac (zac (zae 3) (dC (.int 1)) dIx) (zae 1) zbW))) (zar zcl zal) zal) zal))
  (fun k ρ=>∃ a b,ρ=[.sh (.lst (ts.map zdu)),.sh (.lst (zs.map D.str)),a,b]) (by
   rintro k d hd ρ ⟨a,b,rfl⟩
   obtain⟨t,ht',rfl⟩:=zhe hd
   refine⟨_,[.sh (.lst (ts.map zdu)),.sh (.lst (zs.map D.str)),.sh (.int (k:Int)),.sh (zdu t)],ev_gU rfl,?_,_,_,rfl⟩
   have hT:=ht t (List.mem_of_getElem? ht')
   have h1:=zrk nm hT
   rw[show zdu t=.tup [.str t.a,.str t.b,.str t.w,fr t.l,zfg t.o] from rfl] at h1 ⊢
   open_line with[h1,zcS,decide_eq_true hT.a,decide_eq_true hT.b]) ⟨.no,.no,rfl⟩
 have e1:decide ((14:Int) < (ts.length:Int))=false:=decide_eq_false (by omega)
 open_line with[zbE,zfw,List.length_map,e1,decide_eq_false (show ¬ (ts.length:Int) > 14 by omega),hl]
theorem web_ok {w:Web}(h:zcR w):zbe [zba w]=.ok .non:=by
 obtain⟨ps,ts,fi,la⟩:=w
 have h1:=zh7 h.n2 h.n7 h.nm
 have h2:=ztO h.t14 h.nm h.ts
 have h3:=zjj (h.nm.nm fi h.fi) h.fi
 have h4:=zjj (h.nm.nm la h.la) h.la
 have h5:(la==fi)=false:=beq_eq_false_iff_ne.mpr (Ne.symm h.ne)
 rw[show zba ⟨ps,ts,fi,la⟩=.tup [.lst (ps.map D.str),.lst (ts.map zdu),.str fi,.str la] from rfl]
 open_line with[zbe,zgm,h1,h2,h3,h4,zqt,h5]
def zcL (ks:List Nat):D:=.lst (ks.map fun(k:Nat)=>D.int (k:Int))
structure zsO (w:Web) (ks:List Nat):Prop where
 up:ks.Pairwise (· < ·)
 wo:∀ k∈ks,∃ t x,w.ts[k]?=some t/\t.o=some x
theorem zsO.lt {w:Web}{ks:List Nat}(T:zsO w ks):∀ k∈ks,k < w.ts.length:=fun k hk=>by
 obtain⟨t,x,h1,h2⟩:=T.wo k hk
 exact(List.getElem?_eq_some_iff.mp h1).1
theorem zi9 {w:Web}{k:Nat}{t:Tie}(h:w.ts[k]?=some t):dIx (.lst (w.ts.map zdu)) (.int (k:Int))=.ok (zdu t):=zjq (by rw[List.getElem?_map,h];rfl)
theorem zmc {w:Web}{k:Nat}(h:k < w.ts.length):zao [zba w,.int (k:Int)]=.ok (.bl true):=by
 rw[show zba w=.tup [.lst (w.ps.map D.str),.lst (w.ts.map zdu),.str w.fi,.str w.la] from rfl]
 open_line with[zao,zaN,zaZ,isI,List.length_map,decide_eq_true (show(0:Int)<=(k:Int) by omega),decide_eq_true (show(k:Int) < (w.ts.length:Int) by omega)]
theorem taking_ok {w:Web}{ks:List Nat}(W:zcR w)(T:zsO w ks):zaV [zba w,zcL ks]=.ok .non:=by
 obtain⟨ρ',hl,_⟩:=zmn (ds:=ks.map fun(k:Nat)=>D.int (k:Int)) (tg:=zcV 3) (ρ:=[.sh (zba w),.sh (zcL ks),.sh (.int (-1)),.no])
  (body:=(zar (sIf (dOr (zdD (zan (zad (zae 0) (zad (zae 3) zaz)) zao)) (zac (zae 3) (zae 2) dLe))
   (zar zcl zal) zal)
   (zar (sIf (zac (zac (zac (zac (zae 0) (dC (.int 1)) dIx) (zae 3) dIx) (dC (.int 4)) dIx) (dC (.non)) zlM)
   (zar zcl zal) zal)
   (zar (zbN 2 (zae 3)) zal))))
  (fun j ρ=>∃ (ah:Int) (x:Sl),ρ=[.sh (zba w),.sh (zcL ks),.sh (.int ah),x]/\∀ v∈ks.drop j,ah < (v:Int)) (by
   rintro j d hd ρ ⟨ah,x,rfl,hah⟩
   rw[List.getElem?_map] at hd
   cases e:ks[j]? with
   | none=>rw[e] at hd;cases hd
   | some k =>
    rw[e] at hd
    cases hd
    have hj:j < ks.length:=(List.getElem?_eq_some_iff.mp e).1
    have hkm:=List.mem_of_getElem? e
    obtain⟨t,y,h1,h2⟩:=T.wo k hkm
    have hdr:ks.drop j=k::ks.drop (j+1):=by
     rw[List.drop_eq_getElem_cons hj]
     congr 1
     rw[List.getElem?_eq_getElem hj] at e
     exact Option.some.inj e
    have hk:ah < (k:Int):=hah k (by rw[hdr];exact List.mem_cons_self)
    refine⟨_,[.sh (zba w),.sh (zcL ks),.sh (.int (k:Int)),.sh (.int (k:Int))],rfl,?_,_,_,rfl,fun v hv=>?_⟩
    ·have hn:=zmc (T.lt k hkm)
     have hix:=zi9 h1
     rw[show zba w=.tup [.lst (w.ps.map D.str),.lst (w.ts.map zdu),.str w.fi,.str w.la] from rfl] at hn ⊢
     rw[show zdu t=.tup [.str t.a,.str t.b,.str t.w,fr t.l,zfg t.o] from rfl,h2] at hix
     open_line with[hn,decide_eq_false (show ¬ (k:Int)<=ah by omega),hix,zfg,fr,zyC]
    ·have hp:(k::ks.drop (j+1)).Pairwise (· < ·):=by rw[← hdr];exact T.up.sublist (List.drop_sublist _ _)
     have:=(List.pairwise_cons.mp hp).1 v hv
     omega) ⟨-1,.no,rfl,fun v _=>by omega⟩
 have hw:=web_ok W
 unfold zcL at hl ⊢
 open_line with[zaV,zes,hw,hl]
theorem zqa {xs:List D}{x:D}:dIx (.lst (xs++[x])) (.int (-1))=.ok x:=by
 have e:atI (xs++[x]) (-1)=some x:=by
  unfold atI ixN
  rw[if_neg (by decide)]
  have h:(-((xs++[x]).length:Int))<=-1:=by simp;omega
  rw[if_pos h]
  have e:(-1+((xs++[x]).length:Int)).toNat=xs.length:=by simp;omega
  rw[e]
  simp
 show(match atI (xs++[x]) (-1) with | some d=>Res.ok d | none=>.stuck)=_
 rw[e]
def zv1 (i:Nat)(ρ:Ev)(d:D):Res Fl:=if zkE d=true then .ok (.nx (ρ.set i (.sh d))) else .stuck
theorem zyF {i:Nat}{f:Ev->Res D}{ρ:Ev}:zlX i f ρ=(f (shr ρ)).bind (zv1 i ρ):=rfl
theorem zx7 {i:Nat}{ρ:Ev}{x:Fra}:zv1 i ρ (fr x)=.ok (.nx (ρ.set i (.sh (fr x)))):=rfl
theorem zyr {x:Fra}:dNe (fr x) (fr x)=.ok (.bl false):=by
 unfold dNe
 rw[if_pos ⟨zpn x,zpn x⟩,zor];rfl
theorem zrd {c:Ev->Res D}{s:Ev->Res Fl}{n:Nat}{ρ ρ2:Ev}(h1:c (shr ρ)=.ok (.bl true))(h2:s ρ=.ok (.nx ρ2)):zbY c s (n+1) ρ=zbY c s n ρ2:=by
 conv=>lhs;unfold zbY
 rw[h1,h2]
 rfl
theorem zo3 {c:Ev->Res D}{s:Ev->Res Fl}{n:Nat}{ρ:Ev}(h1:c (shr ρ)=.ok (.bl false)):zbY c s (n+1) ρ=.ok (.nx ρ):=by
 conv=>lhs;unfold zbY
 rw[h1]
 rfl
end Com
namespace Cod
open PySem L2 DL Com
theorem zxv {c:Int}:zvs (.int c)=.ok (.int (c.natAbs:Int)):=by
 show Res.ok (D.int (if c < 0 then -c else c))=_
 congr 2
 split<;>omega
def zjJ:Ev->Res Fl :=
 (zar (zbN 2 (zan (zad (zae 0) zaz) (m1 zvs)))
 (zar (zbN 3 (zae 1))
 (zar (zh1 (zgR 3) (zac (zae 3) (dC (.int 0)) dNe)
 (zar (zq2 2 3 (zad (zae 3) (zad (zac (zae 2) (zae 3) zez) zaz)))
 zal))
 (zar (zco (zan (zad (zac (zae 0) (zae 2) zow) (zad (zac (zae 1) (zae 2) zow) zaz)) zjl))
 zal))))
def zbG:List D->Res D:=zdz 4 zjJ
theorem znj {A B:Sl}:∀ (n:Nat) (a b:Int),0<=a->0<=b->b.natAbs < n->zbY (zac (zae 3) (dC (.int 0)) dNe) (zar (zq2 2 3 (zad (zae 3) (zad (zac (zae 2) (zae 3) zez) zaz))) zal) n [A,B,.sh (.int a),.sh (.int b)]=.ok (.nx [A,B,.sh (.int (Int.gcd a b:Int)),.sh (.int 0)])
 | 0,a,b,_,_,h=>absurd h (Nat.not_lt_zero _)
 | n+1,a,b,ha,hb,h=>by
  by_cases h0:b=0
  ·subst h0
   have hc:(zac (zae 3) (dC (.int 0)) dNe) (shr [A,B,.sh (.int a),.sh (.int 0)])=.ok (.bl false):=by
    cases A<;>cases B<;>rfl
   rw[zo3 hc]
   have:((Int.gcd a 0:Nat):Int)=a:=by rw[Int.gcd_zero_right];omega
   rw[this]
  ·have hc:(zac (zae 3) (dC (.int 0)) dNe) (shr [A,B,.sh (.int a),.sh (.int b)])=.ok (.bl true):=by
    have:(b==0)=false:=beq_eq_false_iff_ne.mpr h0
    cases A<;>cases B<;>open_line with[this]
   have f:=zey (a:=a) (b:=b) (by omega)
   have hb0:(b==0)=false:=beq_eq_false_iff_ne.mpr h0
   rw[zrd (ρ2:=[A,B,.sh (.int b),.sh (.int (a.fmod b))]) hc ?_,znj n b (a.fmod b) (by omega) f.1 (by omega)]
   ·rw[zkd]
   ·cases A<;>cases B<;>open_line with[hb0]
theorem low_ok {a b:Int}(hb:0 < b)(h1:a.natAbs < B13)(h2:b.natAbs < B13):zbG [.int a,.int b]=.ok (fr (low a b)):=by
 have hg:0 < (Int.gcd a b:Int):=ziq (by omega)
 have hgn:(Int.gcd (a.natAbs:Int) b:Int)=(Int.gcd a b:Int):=by
  congr 1
 have hl:=znj (A:=.sh (.int a)) (B:=.sh (.int b)) (b.natAbs+1) (a.natAbs:Int) b (by omega) (by omega) (Nat.lt_succ_self _)
 rw[hgn] at hl
 have hwh:∀ (c:Ev->Res D) (s:Ev->Res Fl),zh1 (zgR 3) c s [.sh (.int a),.sh (.int b),.sh (.int (a.natAbs:Int)),.sh (.int b)]=zbY c s (b.natAbs+1) [.sh (.int a),.sh (.int b),.sh (.int (a.natAbs:Int)),.sh (.int b)]:=fun _ _=>rfl
 have d1:(Int.gcd a b:Int)∣a:=Int.gcd_dvd_left ..
 have d2:(Int.gcd a b:Int)∣b:=Int.gcd_dvd_right ..
 have q1:zfe a (Int.gcd a b:Int)=true:=zjx (by omega) h1
 have q2:zfe b (Int.gcd a b:Int)=true:=zjx (by omega) h2
 have e1:a.fdiv (Int.gcd a b:Int)=a / (Int.gcd a b:Int):=ze7 hg
 have e2:b.fdiv (Int.gcd a b:Int)=b / (Int.gcd a b:Int):=ze7 hg
 open_line with[zbG,zjJ,zxv,hwh,hl,znu q1,znu q2,e1,e2]
 rfl
def S (cs:List Nat):Str:=⟨cs.toArray⟩
theorem S_inj {a b:List Nat}(h:S a=S b):a=b:=by
 have:=congrArg (fun s:Str=>s.cps.toList) h
 simpa [S] using this
theorem zyT (a:List Nat):(S a).length=a.length:=zxl a
structure IsNm (cs:List Nat):Prop where
 l1:1<=cs.length
 l8:cs.length<=8
 ab:∀ x∈cs,zli x=true
theorem IsNm.nameB {cs:List Nat}(h:IsNm cs):Com.nameB (S cs)=true:=by
 unfold Com.nameB
 rw[zyT]
 simp only[Bool.and_eq_true,decide_eq_true_eq]
 exact⟨h.l1,h.l8,List.all_eq_true.mpr fun x hx=>h.ab x (by simpa [S] using hx)⟩
def nmsD (css:List (List Nat)):List D:=css.map fun cs=>D.str (S cs)
theorem nodup_le {α:Type}[DecidableEq α]:∀ {l m:List α},l.Nodup->(∀ x∈l,x∈m)->l.length<=m.length
 | [],_,_,_=>Nat.zero_le _
 | a::l,m,nd,h=>by
  rw[List.nodup_cons] at nd
  have ha:=h a List.mem_cons_self
  have:=nodup_le (l:=l) (m:=m.erase a) nd.2 fun x hx=>by
   have hne:x≠a:=fun z=>nd.1 (z▸hx)
   exact(List.mem_erase_of_ne hne).mpr (h x (List.mem_cons_of_mem _ hx))
  rw[List.length_erase_of_mem ha] at this
  have:=List.length_pos_of_mem ha
  simp only[List.length_cons]
  omega
def first (es:List Int)(m:Nat):List Nat:=(List.range m).map fun j=>97+((es[2+j]?).getD 0).toNat
theorem nodup_snoc {α:Type}{l:List α}{x:α}(h:l.Nodup)(hx:x∉l):(l++[x]).Nodup:=by
 rw[List.nodup_append]
 refine⟨h,by simp,fun a ha b hb=>?_⟩
 have:b=x:=by simpa using hb
 subst this
 intro z;subst z;exact hx ha
end Cod
namespace DL
open PySem L2
section
variable {α β:Type}
def Rf (a b:Res α):Prop:=a=.stuck∨a=b
theorem zb3 {a b:Res α}{f g:α->Res β}(h:Rf a b)(k:∀ x,Rf (f x) (g x)):Rf (a.bind f) (b.bind g):=by
 rcases h with rfl | rfl
 ·exact .inl rfl
 ·cases a with
  | ok x=>exact k x
  | exn x=>exact .inr rfl
  | stuck=>exact .inl rfl
structure RfF (f g:Ev->Res α):Prop where
 o:∀ ρ,Rf (f ρ) (g ρ)
end
structure RfM (f g:List D->Res D):Prop where
 o:∀ ds,Rf (f ds) (g ds)
theorem RfM.ok {f g:List D->Res D}(h:RfM f g){ds:List D}{d:D}(e:f ds=.ok d):g ds=.ok d:=by
 rcases h.o ds with q | q
 ·rw[q] at e;cases e
 ·rw[← q];exact e
theorem rfm_refl {f:List D->Res D}:RfM f f:=⟨fun _=>.inr rfl⟩
theorem rf_refl {α:Type}{f:Ev->Res α}:RfF f f:=⟨fun _=>.inr rfl⟩
section
variable {s s' t t':Ev->Res Fl}{c c' f f':Ev->Res D}{fa fa':Ev->Res (List D)}{m m':List D->Res D}
theorem rf_stuck:RfF zcl s:=⟨fun _=>.inl rfl⟩
theorem rf_seq (h1:RfF s s')(h2:RfF t t'):RfF (zar s t) (zar s' t'):=⟨fun ρ=>zb3 (h1.o ρ) fun r=>by
 cases r with
 | nx ρ'=>exact h2.o ρ'
 | _=>exact .inr rfl⟩
theorem rf_if (hc:RfF c c')(h1:RfF s s')(h2:RfF t t'):RfF (sIf c s t) (sIf c' s' t'):=⟨fun ρ=>zb3 (hc.o _) fun r=>by
 cases r with
 | bl b=>cases b with
  | true=>exact h1.o ρ
  | false=>exact h2.o ρ
 | _=>exact .inr rfl⟩
theorem zj0 {tg:Ev->D->Res Ev}(h:RfF s s'):∀ (ds:List D) (ρ:Ev),Rf (zcB tg s ds ρ) (zcB tg s' ds ρ)
 | [],ρ=>.inr rfl
 | d::r,ρ=>by
  unfold zcB
  refine zb3 (.inr rfl) fun ρ1=>zb3 (h.o ρ1) fun x=>?_
  cases x with
  | nx ρ2=>exact zj0 h r ρ2
  | ct ρ2=>exact zj0 h r ρ2
  | bk ρ2=>exact .inr rfl
  | rt d=>exact .inr rfl
theorem rf_for {tg:Ev->D->Res Ev}(hf:RfF f f')(h:RfF s s'):RfF (zpt f tg s) (zpt f' tg s'):=⟨fun ρ=>zb3 (hf.o ρ) fun d=>by
 cases d with
 | lst ds=>exact zj0 h ds ρ
 | _=>exact .inr rfl⟩
theorem rf_forI {tg:Ev->D->Res Ev}{src:Ev->Res (List D)}(h:RfF s s'):RfF (zkS src tg s) (zkS src tg s'):=⟨fun ρ=>zb3 (.inr rfl) fun ds=>zj0 h ds ρ⟩
theorem rf_drop (h:RfF f f'):RfF (zh3 f) (zh3 f'):=⟨fun ρ=>zb3 (h.o _) fun _=>.inr rfl⟩
theorem rf_ret (h:RfF f f'):RfF (zco f) (zco f'):=⟨fun ρ=>zb3 (h.o _) fun _=>.inr rfl⟩
theorem rf_set {i:Nat}(h:RfF f f'):RfF (zbN i f) (zbN i f'):=⟨fun ρ=>zb3 (h.o _) fun _=>.inr rfl⟩
theorem rf_b1 {op:D->Res D}(h:RfF f f'):RfF (zbv f op) (zbv f' op):=⟨fun ρ=>zb3 (h.o _) fun _=>.inr rfl⟩
theorem rf_not (h:RfF f f'):RfF (zdD f) (zdD f'):=rf_b1 h
theorem rf_b2 {op:D->D->Res D}(h:RfF f f')(h2:RfF c c'):RfF (zac f c op) (zac f' c' op):=⟨fun ρ=>zb3 (h.o _) fun _=>zb3 (h2.o _) fun _=>.inr rfl⟩
theorem rf_bA (h:RfF fa fa')(hm:RfM m m'):RfF (zan fa m) (zan fa' m'):=⟨fun ρ=>zb3 (h.o _) fun ds=>hm.o ds⟩
theorem rf_cons (h:RfF f f')(h2:RfF fa fa'):RfF (zad f fa) (zad f' fa'):=⟨fun ρ=>zb3 (h.o _) fun _=>zb3 (h2.o _) fun _=>.inr rfl⟩
end
end DL
local macro_rules | `(tactic| open_line with[rf_go])=>`(tactic| repeat (first | with_reducible exact DL.rf_refl | with_reducible exact DL.rf_stuck | with_reducible assumption | with_reducible exact DL.rfm_refl | with_reducible refine DL.rf_seq ?_ ?_ | with_reducible refine DL.rf_if ?_ ?_ ?_ | with_reducible refine DL.rf_for ?_ ?_ | with_reducible refine DL.rf_forI ?_ | with_reducible refine DL.rf_drop ?_ | with_reducible refine DL.rf_ret ?_ | with_reducible refine DL.rf_set ?_ | with_reducible refine DL.rf_not ?_ | with_reducible refine DL.rf_bA ?_ ?_ | with_reducible refine DL.rf_cons ?_ ?_ | with_reducible refine DL.rf_b1 ?_ | with_reducible refine DL.rf_b2 ?_ ?_))
namespace Wex
open PySem L2 DL Com
def zg0:Ev->Res Fl :=
 (zar (sIf (dOr (zdD (zan (zad (zae 0) zaz) zbu)) (zdD (zan (zad (zae 1) zaz) zbu)))
 (zar (zsY "NoNumber" (zad (dC (.str "a fraction is made of two whole numbers")) zaz))
 zal)
 zal)
 (zar (sIf (zac (zae 1) (dC (.int 0)) dEq)
 (zar (zsY "NoNumber" (zad (dC (.str "a fraction's second number is not 0")) zaz))
 zal)
 zal)
 (zar (zbN 2 (zan (zad (zae 0) (zad (zae 1) zaz)) za8))
 (zar (sIf (zac (zae 1) (dC (.int 0)) dLt)
 (zar (zbN 2 (zbv (zae 2) zoM))
 zal)
 zal)
 (zar (zco (zan (zad (zac (zae 0) (zae 2) zow) (zad (zac (zae 1) (zae 2) zow) zaz)) zjl))
 zal)))))
def zeL:List D->Res D:=zdz 3 zg0
def zlF:Ev->Res Fl :=
 (zar (zco (zan (zad (zac (zac (zac (zae 0) (dC (.int 0)) dIx) (zac (zae 1) (dC (.int 1)) dIx) zb5) (zac (zac (zae 1) (dC (.int 0)) dIx) (zac (zae 0) (dC (.int 1)) dIx) zb5) zcv) (zad (zac (zac (zae 0) (dC (.int 1)) dIx) (zac (zae 1) (dC (.int 1)) dIx) zb5) zaz)) zeL))
 zal)
def zhf:List D->Res D:=zdz 2 zlF
def zgl:Ev->Res Fl :=
 (zar (zbN 1 (dC (.tup [(.int 0),(.int 1)])))
 (zar (zpt (zae 0) (zcV 2)
 (zar (zbN 1 (zan (zad (zae 1) (zad (zae 2) zaz)) zhf))
 zal))
 (zar (zco (zae 1))
 zal)))
def ze6:List D->Res D:=zdz 3 zgl
section
variable {d t p:D}{x:Exn}
end
def plainD:D->Bool
 | .non=>true
 | .bl _=>true
 | .int _=>true
 | .str _=>true
 | .tup _=>true
 | .lst _=>true
 | _=>false
theorem number_odd {w:Web}{d:D}(hd:plainD d=true)(hi:∀ n,d≠.int n):zao [zba w,d]=.ok (.bl false):=by
 rw[show zba w=.tup [.lst (w.ps.map D.str),.lst (w.ts.map zdu),.str w.fi,.str w.la] from rfl]
 cases d with
 | int n=>exact absurd rfl (hi n)
 | non=>open_line with[zao,zaN,zaZ,isI]
 | bl b=>open_line with[zao,zaN,zaZ,isI]
 | str b=>open_line with[zao,zaN,zaZ,isI]
 | tup b=>open_line with[zao,zaN,zaZ,isI]
 | lst b=>open_line with[zao,zaN,zaZ,isI]
 | _=>cases hd
theorem number_int {w:Web}{n:Int}:zao [zba w,.int n]=.ok (.bl (decide (0<=n)&&decide (n < (w.ts.length:Int)))):=by
 rw[show zba w=.tup [.lst (w.ps.map D.str),.lst (w.ts.map zdu),.str w.fi,.str w.la] from rfl]
 cases h:decide ((0:Int)<=n) with
 | false=>open_line with[zao,zaN,zaZ,isI,List.length_map,h,Bool.false_and]
 | true=>open_line with[zao,zaN,zaZ,isI,List.length_map,h,Bool.true_and]
end Wex
namespace Com
open PySem L2 DL
theorem zyE {c f:Str}{d:D}:zso ⟨c,[(f,d)]⟩=.ob (.exf c [f]) [d]:=by
 show(if([f]:List Str).Nodup then D.ob (.exf c [f]) [d] else .exc c)=_
 rw[if_pos (by simp)]
theorem zuN {hit:Str->Bool}{ni:Nat}{sh:Ev->Res Fl}{ρ:Ev}{x:Exn}(h:hit x.cls=true):zxV hit ni sh ρ (.exn x)=(sh (ρ.set ni (.sh (zso x)))).bind (zwz ni):=if_pos h
def zpx (x:Str)(ks:List Str)(ds:List D):Res Fl:=if ds.length=ks.length then .exn ⟨x,ks.zip ds⟩ else .stuck
theorem zcC {x:Str}{ks:List Str}{fa:Ev->Res (List D)}{ρ:Ev}:zfH x ks fa ρ=(fa (shr ρ)).bind (zpx x ks):=zaq rfl
theorem zcb {x f:Str}{d:D}:zpx x [f] [d]=.exn ⟨x,[(f,d)]⟩:=if_pos rfl
theorem zsp {tab:Str->Option Bool}{c f:Str}{d:D}{b:Bool}(h:tab c=some b):zms tab f (.ob (.exf c [f]) [d])=.ok d:=by
 unfold zms
 simp only[h]
 rw[show zlK f [f] [d]=some d by unfold zlK;rw[if_pos rfl]]
def mpK (st:List D)(d:D):Res (D×List D):=.ok (d,st)
def mrF (st:List D)(d:D):Res MFl:=.ok (.rt d st)
def zpQ {α:Type}(b:Bool)(x:Res α):Res α:=if b=true then x else .stuck
def mbK (g:Ev->List D->Res (D×List D))(op:D->D->Res D)(ρ:Ev)(p:D×List D):Res (D×List D):=(g ρ p.2).bind fun q=>(op p.1 q.1).bind fun d=>.ok (d,q.2)
def zzk (op:D->D->Res D)(x:D)(q:D×List D):Res (D×List D):=(op x q.1).bind (mpK q.2)
def mcK (fa:Ev->List D->Res (List D×List D))(ρ:Ev)(p:D×List D):Res (List D×List D):=(fa ρ p.2).bind fun q=>.ok (p.1::q.1,q.2)
def zzj (x:D)(q:List D×List D):Res (List D×List D):=.ok (x::q.1,q.2)
def maK (m:List D->Res D)(p:List D×List D):Res (D×List D):=(m p.1).bind fun d=>.ok (d,p.2)
def msK (st ds:List D):Res (List D×List D):=.ok (ds,st)
def mfK (tg:Ev->D->Res Ev)(s:Ev->List D->Res MFl)(ρ:Ev)(p:List D×List D):Res MFl:=forM tg s p.1 ρ p.2
def muK (k:Ev->List D->Res (D×List D))(ρ:Ev)(p:D×List D):Res MFl:=(k ρ p.2).bind (zh5 ρ p.1)
section
variable {s t:Ev->List D->Res MFl}{S:Ev->Res Fl}{f g h:Ev->List D->Res (D×List D)}{F:Ev->Res D}{fa:Ev->List D->Res (List D×List D)}{src:Ev->Res (List D)}{srm:Ev->List D->Res (List D×List D)}{tg:Ev->D->Res Ev}{ρ r:Ev}{i j n:Nat}{d x y:D}{st ds xs:List D}{op:D->D->Res D}{a:Addr}
theorem em_seq:zbl s t ρ st=(s ρ st).bind (zog t):=zaq rfl
theorem em_seq1:zog t (.nx ρ st)=t ρ st:=zaq rfl
theorem em_seq2:zog t (.rt d st)=.ok (.rt d st):=zaq rfl
theorem em_seq3:zog t (.bk ρ st)=.ok (.bk ρ st):=zaq rfl
theorem em_seq4:zog t (.ct ρ st)=.ok (.ct ρ st):=zaq rfl
theorem em_next:zbJ ρ st=.ok (.nx ρ st):=zaq rfl
theorem em_pure:zcd S ρ st=(S ρ).bind (zk2 st):=zaq rfl
theorem em_pure1:zk2 st (.nx ρ)=.ok (.nx ρ st):=zaq rfl
theorem em_pure3:zk2 st (.bk ρ)=.ok (.bk ρ st):=zaq rfl
theorem em_pure4:zk2 st (.ct ρ)=.ok (.ct ρ st):=zaq rfl
theorem em_set:zfp i f ρ st=(f ρ st).bind (zuq i ρ):=zaq rfl
theorem em_set1:zuq i ρ (d,st)=.ok (.nx (ρ.set i (.sh d)) st):=zaq rfl
theorem em_ret:zwJ f ρ st=(f ρ st).bind zur:=zaq rfl
theorem em_ret1:zur (d,st)=.ok (.rt d st):=zaq rfl
theorem em_retF:zgN F ρ st=(F (shr ρ)).bind (mrF st):=zaq rfl
theorem em_retF1:mrF st d=.ok (.rt d st):=zaq rfl
theorem em_if:mIf f s t ρ st=(f ρ st).bind (zxJ s t ρ):=zaq rfl
theorem em_if1:zxJ s t ρ (.bl true,st)=s ρ st:=zaq rfl
theorem em_if2:zxJ s t ρ (.bl false,st)=t ρ st:=zaq rfl
theorem em_P:mP F ρ st=(F ρ).bind (mpK st):=zaq rfl
theorem em_P1:mpK st d=.ok (d,st):=zaq rfl
theorem em_L:mL F ρ st=(F (shr ρ)).bind (zi5 st):=zaq rfl
theorem em_fi {k:Int}:zi5 st (.int k)=.ok (.int k,st):=zaq rfl
theorem em_fb {b:Bool}:zi5 st (.bl b)=.ok (.bl b,st):=zaq rfl
theorem em_fs {z:Str}:zi5 st (.str z)=.ok (.str z,st):=zaq rfl
theorem em_fn:zi5 st .non=.ok (.non,st):=zaq rfl
theorem em_V:mV i a F ρ st=zpQ (zlg ρ[i]? a) ((F (vw i ρ st)).bind (zi5 st)):=zaq rfl
theorem em_T:mT F ρ st=(F (shr ρ)).bind (mpK st):=zaq rfl
theorem em_TV:mTV i a F ρ st=zpQ (zlg ρ[i]? a) ((F (vw i ρ st)).bind (mpK st)):=zaq rfl
theorem em_pt:zlg (some (.pt a)) a=true:=beq_self_eq_true a
theorem em_only {α:Type}{z:Res α}:zpQ true z=z:=if_pos rfl
theorem em_vw:vw i ρ st=(shr ρ).set i (.sh (.lst st)):=zaq rfl
theorem em_shr:zvn (.pt a)=.pt a:=zaq rfl
theorem em_B:mB f g op ρ st=(f ρ st).bind (mbK g op ρ):=zaq rfl
theorem em_B1:mbK g op ρ (x,st)=(g ρ st).bind (zzk op x):=zaq rfl
theorem em_B2:zzk op x (y,st)=(op x y).bind (mpK st):=zaq rfl
theorem em_nil:zdh ρ st=.ok ([],st):=zaq rfl
theorem em_cons:zaU f fa ρ st=(f ρ st).bind (mcK fa ρ):=zaq rfl
theorem em_cons1:mcK fa ρ (x,st)=(fa ρ st).bind (zzj x):=zaq rfl
theorem em_cons2:zzj x (xs,st)=.ok (x::xs,st):=zaq rfl
theorem em_A {m:List D->Res D}:mA fa m ρ st=(fa ρ st).bind (maK m):=zaq rfl
theorem em_A1 {m:List D->Res D}:maK m (ds,st)=(m ds).bind (mpK st):=zaq rfl
theorem em_call {m:Addr->List D->List D->Res (D×List D)}:zbr i a fa m ρ st=zpQ (zlg ρ[i]? a) ((fa ρ st).bind (zqS a m)):=zaq rfl
theorem em_call1 {m:Addr->List D->List D->Res (D×List D)}:zqS a m (ds,st)=m a st ds:=zaq rfl
theorem em_put:zta i a f h ρ st=zpQ (zlg ρ[i]? a) ((f ρ st).bind (muK h ρ)):=zaq rfl
theorem em_put1:muK h ρ (d,st)=(h ρ st).bind (zh5 ρ d):=zaq rfl
theorem em_put2 {k m:Nat}(e:ixN st.length k=some m):zh5 ρ d (.int k,st)=.ok (.nx ρ (st.set m d)):=by unfold zh5;simp only[e]
theorem em_app:zuu i f ρ st=zxG ρ[i]? fun ds=>(f ρ st).bind (zoh i ρ ds):=zaq rfl
theorem em_ownM {k:List D->Res MFl}:zxG (some (.ow (.lst ds))) k=k ds:=zaq rfl
theorem em_app1 (e:decide (ds.length<=999)=true):zoh i ρ ds (d,st)=.ok (.nx (ρ.set i (.ow (.lst (ds++[d])))) st):=if_pos (Nat.lt_of_le_of_lt (of_decide_eq_true e) (by decide))
theorem em_frz:zut i s ρ st=s (unown i ρ) st:=zaq rfl
theorem em_and:zzS f g ρ st=(f ρ st).bind (zrV g ρ):=zaq rfl
theorem em_and1:zrV g ρ (.bl true,st)=g ρ st:=zaq rfl
theorem em_and2:zrV g ρ (.bl false,st)=.ok (.bl false,st):=zaq rfl
theorem em_src:zup src ρ st=(src ρ).bind (msK st):=zaq rfl
theorem em_src1:msK st ds=.ok (ds,st):=zaq rfl
theorem em_srcR:zrU f ρ st=(f ρ st).bind znh:=zaq rfl
theorem em_srcR1 {k:Int}(e:-4611686018427387904<=k/\k < 4611686018427387904):znh (.int k,st)=.ok (intsFrom 0 k.toNat,st):=if_pos e
theorem em_for:zmf srm tg s ρ st=(srm ρ st).bind (mfK tg s ρ):=zaq rfl
theorem em_for1:mfK tg s ρ (ds,st)=forM tg s ds ρ st:=zaq rfl
theorem em_comp {fr:List Nat}:zlv n fr srm tg f ρ st=(srm ρ st).bind (zlu (zeA n fr ρ) tg f):=zaq rfl
theorem em_run {b:Addr->Ev->List D->Res MFl}:zq3 n b a st ds=(b a (.pt a::ds.map Sl.sh++List.replicate (n-(ds.length+1)) .no) st).bind zrv:=zaq rfl
theorem em_run1:zrv (.rt d st)=.ok (d,st):=zaq rfl
theorem em_run2:zrv (.nx ρ st)=.ok (.non,st):=zaq rfl
end
theorem zkf {tg:Ev->D->Res Ev}{body:Ev->List D->Res MFl}(I:Nat->Ev->List D->Prop)(ds:List D)(step:∀ (j:Nat) (d:D) (ρ:Ev) (st:List D),ds[j]?=some d->I j ρ st->∃ ρ1 ρ2 st2,tg ρ d=.ok ρ1/\(body ρ1 st=.ok (.nx ρ2 st2)∨body ρ1 st=.ok (.ct ρ2 st2))/\I (j+1) ρ2 st2) :
  ∀ (j:Nat) (ρ:Ev) (st:List D),j<=ds.length->I j ρ st->∃ ρ2 st2,forM tg body (ds.drop j) ρ st=.ok (.nx ρ2 st2)/\I ds.length ρ2 st2:=by
 intro j ρ st hj h
 generalize hk:ds.length-j=k
 induction k generalizing j ρ st with
 | zero =>
  have:j=ds.length:=by omega
  subst this
  exact⟨ρ,st,by rw[List.drop_length];rfl,h⟩
 | succ k ih =>
  have hlt:j < ds.length:=by omega
  obtain⟨ρ1,ρ2,st2,h1,h2,h3⟩:=step j ds[j] ρ st (List.getElem?_eq_getElem hlt) h
  obtain⟨ρ3,st3,h4,h5⟩:=ih (j+1) ρ2 st2 (by omega) h3 (by omega)
  refine⟨ρ3,st3,?_,h5⟩
  rw[List.drop_eq_getElem_cons hlt]
  unfold DL.forM
  rw[h1]
  rcases h2 with h2 | h2
  ·simp only[Res.bind,h2];exact h4
  ·simp only[Res.bind,h2];exact h4
theorem zlw {b:Ev}{tg:Ev->D->Res Ev}{fm:Ev->List D->Res (D×List D)}(I:List D->Prop)(P:D->Prop):∀ (ds st:List D),I st->(∀ d st,d∈ds->I st->∃ ρ1 y st2,tg b d=.ok ρ1/\fm ρ1 st=.ok (y,st2)/\P y/\I st2)->∃ es st2,zgZ b tg fm ds st=.ok (es,st2)/\es.length=ds.length/\(∀ e∈es,P e)/\I st2
 | [],st,h,_=>⟨[],st,rfl,rfl,fun e he=>by simp at he,h⟩
 | d::ds,st,h,step=>by
  obtain⟨ρ1,y,st1,h1,h2,h3,h4⟩:=step d st (by simp) h
  obtain⟨es,st2,k1,k2,k3,k4⟩:=zlw I P ds st1 h4 fun d' st' hd=>step d' st' (List.mem_cons_of_mem _ hd)
  refine⟨y::es,st2,?_,by simp [k2],fun e he=>?_,k4⟩
  ·unfold zgZ
   rw[h1]
   simp only[Res.bind,h2,k1]
  ·rcases List.mem_cons.mp he with rfl | he
   ·exact h3
   ·exact k3 e he
end Com
namespace Bor
open PySem L2 DL
abbrev zbG:List D->Res D:=Cod.zbG
def zeZ:Ev->Res Fl :=
 (zhA (zbN 2 (dC (.int 0)))
 (zhA (sIf (zac (zae 1) (zan (zad (zae 0) zaz) (m1 ze9)) dLt)
 (zar (zbN 2 (zac (zae 0) (zae 1) dIx))
 zal)
 zal)
 (zlY (zan (zad (zae 2) (zad (zac (zac (zac (zac (zae 2) (dC (.int 2147483587)) zez) (zac (zac (dC (.int 104729)) (zae 1) zb5) (zae 1) zb5) zcv) (dC (.int 7)) zcv) (dC (.int 2147483587)) zez) (zad (zac (zae 2) (zac (dC (.int 10)) (dC (.int 18)) znK) dGe) zaz))) zdQ))))
def zbg:List D->Res D:=zoI 3 zeZ
def zfP:Addr->Ev->List D->Res MFl:=fun a =>
 (zbl (mIf (mTV 0 a (zac (zae 0) (dC (.int 2)) dIx))
 (zbl (zfp 2 (mV 0 a (zac (zac (zae 0) (dC (.int 0)) dIx) (zae 1) zez)))
 (zbl (zta 0 a (mV 0 a (zac (zac (zae 0) (dC (.int 0)) dIx) (zae 1) zow)) (mP (dC (.int 0))))
 (zbl (zta 0 a (mV 0 a (zac (zac (zae 0) (dC (.int 0)) dIx) (dC (.int 0)) dGt)) (mP (dC (.int 2))))
 (zbl (zgN (zae 2))
 zbJ))))
 zbJ)
 (zbl (zcd (zbN 3 (dC (.int 0))))
 (zbl (zmf (zup (zgy (zac (dC (.int 1)) (zac (dC (.int 2)) (zan (zad (zac (zae 1) (zac (dC (.int 10)) (dC (.int 6)) znK) dGt) zaz) (m1 ziD)) zb5) zcv))) (zcV 4)
 (zbl (zta 0 a (mV 0 a (zac (zac (zac (zac (zae 0) (dC (.int 1)) dIx) (dC (.int 39373)) zb5) (dC (.int 17)) zcv) (dC (.int 2147483647)) zez)) (mP (dC (.int 1))))
 (zbl (zfp 3 (mV 0 a (zac (zac (zae 3) (dC (.int 2147483587)) zb5) (zac (zac (zac (zae 0) (dC (.int 1)) dIx) (zac (zae 0) (dC (.int 1)) dIx) zb5) (dC (.int 2147483587)) zez) zcv)))
 zbJ)))
 (zbl (zgN (zac (zac (zae 3) (dC (.int 64)) zow) (zae 1) zez))
 zbJ))))
def zap:Addr->List D->List D->Res (D×List D):=zq3 5 zfP
def zhs:Addr->Ev->List D->Res MFl:=fun a =>
 (zbl (zfp 2 (zlv 1 [0] (zup (zgy (dC (.int 8)))) (zcV 0) (zbr 1 a (zaU (mP (dC (.int 26))) zdh) zap)))
 (zbl (zfp 3 (mB (mP (dC (.int 1))) (zbr 0 a (zaU (mP (dC (.int 8))) zdh) zap) zcv))
 (zbl (zfp 4 (zbr 0 a (zaU (mP (zae 3)) zdh) zap))
 (zbl (zfp 5 (zbr 0 a (zaU (mP (dC (.int 26))) zdh) zap))
 (zbl (zfp 6 (mB (mP (zan (zad (dC (.int 1)) (zad (dC (.int 3)) (zad (dC (.int 5)) (zad (dC (.int 7)) (zad (dC (.int 9)) (zad (dC (.int 11)) zaz)))))) zdQ)) (zbr 0 a (zaU (mP (dC (.int 6))) zdh) zap) dIx))
 (zbl (zfp 7 (mB (zbr 0 a (zaU (mP (dC (.int 3))) zdh) zap) (mP (dC (.int 0))) dEq))
 (zbl (zcd (zje 8 (zan zaz zdQ)))
 (zbl (zcd (zlZ (zae 1) (zcV 9)
 (zar (zje 10 (zoK (zae 2) zdi (zc2 (zae 3))))
 (zar (zv5 10 (zac (zac (zae 5) (zac (zae 6) (zae 9) zb5) zcv) (dC (.int 26)) zez) (zae 4))
 (zar (sIf (zae 7)
 (zar (zje 10 (zoK (zae 2) zdi (zc2 (zac (dC (.int 1)) (zac (zac (zae 5) (zae 9) zcv) (dC (.int 8)) zez) zcv))))
 zal)
 zal)
 (zar (zvp 10 (zbX 8 (zov (dC (.str "")) (zad (zeU 1 [] (ztW (zae 10)) (zcV 0) mYes (zac (dC (.str "abcdefghijklmnopqrstuvwxyz")) (zae 0) dIx)) zaz))))
 zal))))))
 (zbl (zgN (zae 8))
 zbJ)))))))))
def zca:Addr->List D->List D->Res (D×List D):=zq3 11 zhs
def zgn:Addr->Ev->List D->Res MFl:=fun a =>
 (zbl (zfp 2 (zbr 0 a (zaU (mP (dC (.int 6))) zdh) zap))
 (zbl (zfp 3 (mB (mP (zae 1)) (zbr 0 a (zaU (mP (zac (zan (zad (dC (.int 3)) (zad (dC (.int 6)) (zad (dC (.int 20)) (zad (dC (.int 12)) (zad (dC (.int 90)) (zad (zac (dC (.int 10)) (dC (.int 12)) znK) zaz)))))) zdQ) (zae 2) dIx)) zdh) zap) zcv))
 (zbl (zcd (zbN 4 (zac (zan (zad (dC (.int 1)) (zad (dC (.int 1)) (zad (dC (.int 1)) (zad (dC (.int 4)) (zad (dC (.int 12)) (zad (dC (.int 12)) zaz)))))) zdQ) (zae 2) dIx)))
 (zbl (zcd (zbN 5 (zan (zad (dC (.int 1)) (zad (dC (.int 2)) (zad (dC (.int 3)) (zad (dC (.int 4)) (zad (dC (.int 5)) (zad (dC (.int 6)) (zad (dC (.int 10)) (zad (dC (.int 12)) (zad (dC (.int 15)) (zad (dC (.int 20)) (zad (dC (.int 30)) (zad (dC (.int 60)) zaz)))))))))))) zdQ)))
 (zbl (zwJ (mA (zaU (mP (zae 3)) (zaU (mB (mP (zae 5)) (zbr 0 a (zaU (mP (zae 4)) zdh) zap) dIx) zdh)) zbG))
 zbJ)))))
def zby:Addr->List D->List D->Res (D×List D):=zq3 6 zgn
def zdO:Addr->Ev->List D->Res MFl:=fun a =>
 (zbl (zcd (zbN 3 (zan (zad (zae 1) zaz) (m1 ze9))))
 (zbl (zfp 4 (zbr 0 a (zaU (mP (zae 3)) zdh) zap))
 (zbl (zfp 5 (mB (mB (mP (zac (zae 4) (dC (.int 1)) zcv)) (zbr 0 a (zaU (mP (zac (zae 3) (dC (.int 1)) zqH)) zdh) zap) zcv) (mP (zae 3)) zez))
 (zbl (mIf (mB (zbr 0 a (zaU (mP (dC (.int 2))) zdh) zap) (mP (dC (.int 0))) dEq)
 (zbl (zcd (zbN 4 (zac (zae 2) (zae 3) zez)))
 (zbl (zcd (zbN 5 (zac (zac (zae 2) (dC (.int 1)) zcv) (zae 3) zez)))
 zbJ))
 zbJ)
 (zbl (zfp 6 (mB (mP (zan (zad (dC (.str "one")) (zad (dC (.str "both")) zaz)) zdQ)) (zbr 0 a (zaU (mP (dC (.int 2))) zdh) zap) dIx))
 (zbl (zfp 7 (zbr 0 a (zaU (mP (dC (.int 0))) zdh) zby))
 (zbl (zfp 8 (zbr 0 a (zaU (mP (dC (.int 1))) zdh) zby))
 (zbl (mIf (mB (zbr 0 a (zaU (mP (dC (.int 4))) zdh) zap) (mP (dC (.int 0))) dEq)
 (zbl (zcd (zbN 8 (dC (.non))))
 zbJ)
 zbJ)
 (zbl (zgN (zan (zad (zac (zae 1) (zae 4) dIx) (zad (zac (zae 1) (zae 5) dIx) (zad (zae 6) (zad (zae 7) (zad (zae 8) zaz))))) zjl))
 zbJ)))))))))
def zbF:Addr->List D->List D->Res (D×List D):=zq3 9 zdO
def zg1:Addr->Ev->List D->Res MFl:=fun a =>
 (zbl (zfp 3 (zbr 0 a (zaU (mB (mP (dC (.int 2))) (zbr 0 a (zaU (mP (zac (zae 1) (dC (.int 1)) zqH)) zdh) zap) zcv) zdh) zca))
 (zbl (zcd (zbN 4 (zan (zad (zae 3) zaz) (m1 ze9))))
 (zbl (zcd (zje 5 (zan zaz zdQ)))
 (zbl (zmf (zrU (zbr 0 a (zaU (mP (zac (zae 2) (dC (.int 1)) zcv)) zdh) zap)) (zcV 6)
 (zbl (zuu 5 (zbr 0 a (zaU (mP (zae 3)) (zaU (mP (zae 6)) zdh)) zbF))
 zbJ))
 (zbl (zcd (zbN 7 (dC (.int 0))))
 (zbl (zcd (zbN 8 (zac (zae 4) (dC (.int 1)) zqH)))
 (zbl (mIf (mB (zbr 0 a (zaU (mP (dC (.int 2))) zdh) zap) (mP (dC (.int 0))) dEq)
 (zbl (zfp 7 (zbr 0 a (zaU (mP (zae 4)) zdh) zap))
 (zbl (zfp 8 (mB (mB (mP (zac (zae 7) (dC (.int 1)) zcv)) (zbr 0 a (zaU (mP (zac (zae 4) (dC (.int 1)) zqH)) zdh) zap) zcv) (mP (zae 4)) zez))
 zbJ))
 zbJ)
 (zbl (zgN (zan (zad (zae 3) (zad (zae 5) (zad (zac (zae 3) (zae 7) dIx) (zad (zac (zae 3) (zae 8) dIx) zaz)))) zjl))
 zbJ))))))))
def zbS:Addr->List D->List D->Res (D×List D):=zq3 9 zg1
end Bor
local macro_rules | `(tactic| open_line with[$xs,*])=>`(tactic| simp only[Com.ev_ok,Com.ev_seq,Com.ev_seq1,Com.ev_seq2,Com.ev_seq3,Com.ev_seq4,Com.ev_next,Com.ev_set,Com.ev_set1,Com.ev_ret,Com.ev_ret1,Com.ev_retN,Com.ev_drop,Com.ev_drop1,Com.ev_if,Com.ev_if1,Com.ev_if2,Com.ev_own,Com.ev_own1,Com.ev_app,Com.ev_ownS,Com.ev_appL,Com.ev_put,Com.ev_put1,Com.ev_putL,Com.ev_putL1,Com.ev_frz,Com.ev_unp,Com.ev_par,Com.ev_par1,Com.ev_b1,Com.ev_b2,Com.ev_b21,Com.ev_bA,Com.ev_nil,Com.ev_cons,Com.ev_cons1,Com.ev_cons2,Com.ev_and,Com.ev_and1,Com.ev_and2,Com.ev_or,Com.ev_or1,Com.ev_or2,Com.ev_not,Com.ev_not1,Com.ev_ifx,Com.ev_ifx1,Com.ev_ifx2,Com.ev_var,Com.ev_var1,Com.ev_C,Com.ev_shr0,Com.ev_shr,Com.ev_shr1,Com.ev_shr2,Com.ev_shr3,Com.ev_shr4,Com.ev_fr1,Com.ev_fr2,Com.ev_frc,Com.ev_ownT,Com.ev_clrAt,Com.ev_clrAt1,Com.ev_run,Com.ev_run1,Com.ev_run2,Com.ev_os,Com.ev_os1,Com.ev_on,Com.ev_sl,Com.ev_sl0,Com.ev_sl1,Com.ev_sl2,Com.ev_for,Com.ev_for1,Com.ev_chain,Com.ev_ch,Com.ev_ch1,Com.ev_ch2,Com.ev_ch3,Com.ev_iop,Com.ev_add,Com.ev_neg,Com.ev_m1,Com.ev_m2,Com.ev_lenL,Com.ev_lenT,Com.ev_p60,Com.eq_int,Com.ne_int,List.map_cons,List.map_nil,List.length_cons,List.length_nil,List.replicate_succ,List.replicate_zero,List.nil_append,List.cons_append,List.getElem?_cons_zero,List.getElem?_cons_succ,List.set_cons_zero,List.set_cons_succ,Nat.sub_zero,Nat.reduceSub,Nat.reduceAdd,Nat.add_zero,Nat.zero_add,Bool.not_true,Bool.not_false,Com.ev_tup,Com.ev_lst,Com.ev_addL,Com.ev_app1,Com.ev_appL1,Com.ev_mod,Com.ev_unpL,Com.ev_unpT,Com.ev_sa,Com.ev_sa0,Com.ev_un,Com.ev_un1,Com.ev_un2,Com.ev_un3,Com.ev_ixL0,Com.ev_ixL1,Com.ev_ixL2,Com.ev_ixL3,Com.ev_ixL4,Com.ev_ixL5,Com.ev_ixL6,Com.ev_ixL7,Com.ev_ixL8,Com.ev_ixL9,Com.ev_ixL10,Com.ev_ixL11,Com.ev_ixL12,Com.ev_ixL13,Com.ev_ixT0,Com.ev_ixT1,Com.ev_ixT2,Com.ev_ixT3,Com.ev_ixT4,Com.ev_ixT5,decide_true,decide_false,Nat.reduceLeDiff,Nat.reduceBEq,Int.reduceBEq,beq_self_eq_true,DL.dOne,DL.mYes,Com.ev_is_bool_non,Com.ev_is_bool_bl,Com.ev_is_bool_int,Com.ev_is_bool_str,Com.ev_is_bool_tup,Com.ev_is_bool_lst,Com.ev_is_bool_dic,Com.ev_is_int_non,Com.ev_is_int_bl,Com.ev_is_int_int,Com.ev_is_int_str,Com.ev_is_int_tup,Com.ev_is_int_lst,Com.ev_is_int_dic,Com.ev_is_str_non,Com.ev_is_str_bl,Com.ev_is_str_int,Com.ev_is_str_str,Com.ev_is_str_tup,Com.ev_is_str_lst,Com.ev_is_str_dic,Com.ev_is_tuple_non,Com.ev_is_tuple_bl,Com.ev_is_tuple_int,Com.ev_is_tuple_str,Com.ev_is_tuple_tup,Com.ev_is_tuple_lst,Com.ev_is_tuple_dic,Com.ev_is_list_non,Com.ev_is_list_bl,Com.ev_is_list_int,Com.ev_is_list_str,Com.ev_is_list_tup,Com.ev_is_list_lst,Com.ev_is_list_dic,Com.ev_is_dict_non,Com.ev_is_dict_bl,Com.ev_is_dict_int,Com.ev_is_dict_str,Com.ev_is_dict_tup,Com.ev_is_dict_lst,Com.ev_is_dict_dic,Com.ev_isN_non,Com.ev_notN_non,Com.ev_isN_bl,Com.ev_notN_bl,Com.ev_isN_int,Com.ev_notN_int,Com.ev_isN_str,Com.ev_notN_str,Com.ev_isN_tup,Com.ev_notN_tup,Com.ev_isN_lst,Com.ev_notN_lst,Com.ev_isN_dic,Com.ev_notN_dic,Com.ev_c0,Com.ev_c1,Com.ev_c2,Com.ev_c3,Com.ev_c4,Com.ev_c5,Com.ev_c6,Com.ev_c7,Com.ev_c8,Com.ev_c9,Com.ev_c10,Com.ev_c11,Int.reduceLT,Int.reduceLE,Int.reduceSub,Int.reduceAdd,Int.reduceMul,Int.reduceNeg,Com.ev_join,Com.ev_join1,Com.ev_pt0,Com.ev_pt1,Com.ev_pt2,Com.ev_pt3,Com.ev_pt4,Com.ev_rep,Com.ev_rep1,Com.ev_rep2,Int.reduceToNat,Bool.and_self,Com.ev_forI,Com.ev_forI1,Com.ev_srcE,Com.ev_srcE1,Com.ev_srcL,Com.ev_srcL1,Com.ev_srcT,Com.ev_srcT1,Com.ev_comp,Com.ev_fld,Com.ev_fld0,Com.ev_fld1,Com.ev_fld2,Com.ev_lI,Com.ev_lI1,Com.ev_gU,Com.ev_forR,Com.ev_slT,Com.ev_addT,Com.ev_addS,Com.ev_lenS,Com.ev_mx,Com.ev_io,Com.ev_io1,Com.ev_li,Com.ev_li1,Com.ev_gS,Com.ev_p18,Com.ev_p9,Com.em_seq,Com.em_seq1,Com.em_seq2,Com.em_seq3,Com.em_seq4,Com.em_next,Com.em_pure,Com.em_pure1,Com.em_pure3,Com.em_pure4,Com.em_set,Com.em_set1,Com.em_ret,Com.em_ret1,Com.em_retF,Com.em_retF1,Com.em_if,Com.em_if1,Com.em_if2,Com.em_P,Com.em_P1,Com.em_L,Com.em_fi,Com.em_fb,Com.em_fs,Com.em_fn,Com.em_V,Com.em_T,Com.em_TV,Com.em_pt,Com.em_only,Com.em_vw,Com.em_shr,Com.em_B,Com.em_B1,Com.em_B2,Com.em_nil,Com.em_cons,Com.em_cons1,Com.em_cons2,Com.em_A,Com.em_A1,Com.em_call,Com.em_call1,Com.em_put,Com.em_put1,Com.em_put2,Com.em_app,Com.em_ownM,Com.em_app1,Com.em_frz,Com.em_and,Com.em_and1,Com.em_and2,Com.em_src,Com.em_src1,Com.em_srcR,Com.em_srcR1,Com.em_for,Com.em_for1,Com.em_comp,Com.em_run,Com.em_run1,Com.em_run2,$[$xs:term],*])
local macro_rules | `(tactic| open_line with[$xs,*] seeing $h)=>`(tactic| simp only[Com.ev_ok,Com.ev_seq,Com.ev_seq1,Com.ev_seq2,Com.ev_seq3,Com.ev_seq4,Com.ev_next,Com.ev_set,Com.ev_set1,Com.ev_ret,Com.ev_ret1,Com.ev_retN,Com.ev_drop,Com.ev_drop1,Com.ev_if,Com.ev_if1,Com.ev_if2,Com.ev_own,Com.ev_own1,Com.ev_app,Com.ev_ownS,Com.ev_appL,Com.ev_put,Com.ev_put1,Com.ev_putL,Com.ev_putL1,Com.ev_frz,Com.ev_unp,Com.ev_par,Com.ev_par1,Com.ev_b1,Com.ev_b2,Com.ev_b21,Com.ev_bA,Com.ev_nil,Com.ev_cons,Com.ev_cons1,Com.ev_cons2,Com.ev_and,Com.ev_and1,Com.ev_and2,Com.ev_or,Com.ev_or1,Com.ev_or2,Com.ev_not,Com.ev_not1,Com.ev_ifx,Com.ev_ifx1,Com.ev_ifx2,Com.ev_var,Com.ev_var1,Com.ev_C,Com.ev_shr0,Com.ev_shr,Com.ev_shr1,Com.ev_shr2,Com.ev_shr3,Com.ev_shr4,Com.ev_fr1,Com.ev_fr2,Com.ev_frc,Com.ev_ownT,Com.ev_clrAt,Com.ev_clrAt1,Com.ev_run,Com.ev_run1,Com.ev_run2,Com.ev_os,Com.ev_os1,Com.ev_on,Com.ev_sl,Com.ev_sl0,Com.ev_sl1,Com.ev_sl2,Com.ev_for,Com.ev_for1,Com.ev_chain,Com.ev_ch,Com.ev_ch1,Com.ev_ch2,Com.ev_ch3,Com.ev_iop,Com.ev_add,Com.ev_neg,Com.ev_m1,Com.ev_m2,Com.ev_lenL,Com.ev_lenT,Com.ev_p60,Com.eq_int,Com.ne_int,List.map_cons,List.map_nil,List.length_cons,List.length_nil,List.replicate_succ,List.replicate_zero,List.nil_append,List.cons_append,List.getElem?_cons_zero,List.getElem?_cons_succ,List.set_cons_zero,List.set_cons_succ,Nat.sub_zero,Nat.reduceSub,Nat.reduceAdd,Nat.add_zero,Nat.zero_add,Bool.not_true,Bool.not_false,Com.ev_tup,Com.ev_lst,Com.ev_addL,Com.ev_app1,Com.ev_appL1,Com.ev_mod,Com.ev_unpL,Com.ev_unpT,Com.ev_sa,Com.ev_sa0,Com.ev_un,Com.ev_un1,Com.ev_un2,Com.ev_un3,Com.ev_ixL0,Com.ev_ixL1,Com.ev_ixL2,Com.ev_ixL3,Com.ev_ixL4,Com.ev_ixL5,Com.ev_ixL6,Com.ev_ixL7,Com.ev_ixL8,Com.ev_ixL9,Com.ev_ixL10,Com.ev_ixL11,Com.ev_ixL12,Com.ev_ixL13,Com.ev_ixT0,Com.ev_ixT1,Com.ev_ixT2,Com.ev_ixT3,Com.ev_ixT4,Com.ev_ixT5,decide_true,decide_false,Nat.reduceLeDiff,Nat.reduceBEq,Int.reduceBEq,beq_self_eq_true,DL.dOne,DL.mYes,Com.ev_is_bool_non,Com.ev_is_bool_bl,Com.ev_is_bool_int,Com.ev_is_bool_str,Com.ev_is_bool_tup,Com.ev_is_bool_lst,Com.ev_is_bool_dic,Com.ev_is_int_non,Com.ev_is_int_bl,Com.ev_is_int_int,Com.ev_is_int_str,Com.ev_is_int_tup,Com.ev_is_int_lst,Com.ev_is_int_dic,Com.ev_is_str_non,Com.ev_is_str_bl,Com.ev_is_str_int,Com.ev_is_str_str,Com.ev_is_str_tup,Com.ev_is_str_lst,Com.ev_is_str_dic,Com.ev_is_tuple_non,Com.ev_is_tuple_bl,Com.ev_is_tuple_int,Com.ev_is_tuple_str,Com.ev_is_tuple_tup,Com.ev_is_tuple_lst,Com.ev_is_tuple_dic,Com.ev_is_list_non,Com.ev_is_list_bl,Com.ev_is_list_int,Com.ev_is_list_str,Com.ev_is_list_tup,Com.ev_is_list_lst,Com.ev_is_list_dic,Com.ev_is_dict_non,Com.ev_is_dict_bl,Com.ev_is_dict_int,Com.ev_is_dict_str,Com.ev_is_dict_tup,Com.ev_is_dict_lst,Com.ev_is_dict_dic,Com.ev_isN_non,Com.ev_notN_non,Com.ev_isN_bl,Com.ev_notN_bl,Com.ev_isN_int,Com.ev_notN_int,Com.ev_isN_str,Com.ev_notN_str,Com.ev_isN_tup,Com.ev_notN_tup,Com.ev_isN_lst,Com.ev_notN_lst,Com.ev_isN_dic,Com.ev_notN_dic,Com.ev_c0,Com.ev_c1,Com.ev_c2,Com.ev_c3,Com.ev_c4,Com.ev_c5,Com.ev_c6,Com.ev_c7,Com.ev_c8,Com.ev_c9,Com.ev_c10,Com.ev_c11,Int.reduceLT,Int.reduceLE,Int.reduceSub,Int.reduceAdd,Int.reduceMul,Int.reduceNeg,Com.ev_join,Com.ev_join1,Com.ev_pt0,Com.ev_pt1,Com.ev_pt2,Com.ev_pt3,Com.ev_pt4,Com.ev_rep,Com.ev_rep1,Com.ev_rep2,Int.reduceToNat,Bool.and_self,Com.ev_forI,Com.ev_forI1,Com.ev_srcE,Com.ev_srcE1,Com.ev_srcL,Com.ev_srcL1,Com.ev_srcT,Com.ev_srcT1,Com.ev_comp,Com.ev_fld,Com.ev_fld0,Com.ev_fld1,Com.ev_fld2,Com.ev_lI,Com.ev_lI1,Com.ev_gU,Com.ev_forR,Com.ev_slT,Com.ev_addT,Com.ev_addS,Com.ev_lenS,Com.ev_mx,Com.ev_io,Com.ev_io1,Com.ev_li,Com.ev_li1,Com.ev_gS,Com.ev_p18,Com.ev_p9,Com.em_seq,Com.em_seq1,Com.em_seq2,Com.em_seq3,Com.em_seq4,Com.em_next,Com.em_pure,Com.em_pure1,Com.em_pure3,Com.em_pure4,Com.em_set,Com.em_set1,Com.em_ret,Com.em_ret1,Com.em_retF,Com.em_retF1,Com.em_if,Com.em_if1,Com.em_if2,Com.em_P,Com.em_P1,Com.em_L,Com.em_fi,Com.em_fb,Com.em_fs,Com.em_fn,Com.em_V,Com.em_T,Com.em_TV,Com.em_pt,Com.em_only,Com.em_vw,Com.em_shr,Com.em_B,Com.em_B1,Com.em_B2,Com.em_nil,Com.em_cons,Com.em_cons1,Com.em_cons2,Com.em_A,Com.em_A1,Com.em_call,Com.em_call1,Com.em_put,Com.em_put1,Com.em_put2,Com.em_app,Com.em_ownM,Com.em_app1,Com.em_frz,Com.em_and,Com.em_and1,Com.em_and2,Com.em_src,Com.em_src1,Com.em_srcR,Com.em_srcR1,Com.em_for,Com.em_for1,Com.em_comp,Com.em_run,Com.em_run1,Com.em_run2,$[$xs:term],*] at $(⟨h⟩):ident)
namespace Bor
open PySem L2 DL Com
def St (st:List D):Prop:=∃ (c s:Int) (b:Bool),st=[.int c,.int s,.bl b]/\0<=s/\s < 2147483647
theorem p6:znK (.int 10) (.int 6)=.ok (.int 1000000):=zaq rfl
def next (s:Int):Int:=(s*39373+17).fmod 2147483647
theorem zpZ (s:Int):0<=next s/\next s < 2147483647:=zey (by decide)
def mix (m s:Int):Int:=m*2147483587+(s*s).fmod 2147483587
theorem ztM {a:Addr}{n c s m:Int}{b:Bool}{k:Int}(h0:0<=s)(h1:s < 2147483647)(hm:0<=m/\m < 1000000000000000000000000000) :
  (zbl (zta 0 a (mV 0 a (zac (zac (zac (zac (zae 0) (dC (.int 1)) dIx) (dC (.int 39373)) zb5) (dC (.int 17)) zcv) (dC (.int 2147483647)) zez)) (mP (dC (.int 1))))
 (zbl (zfp 3 (mV 0 a (zac (zac (zae 3) (dC (.int 2147483587)) zb5) (zac (zac (zac (zae 0) (dC (.int 1)) dIx) (zac (zae 0) (dC (.int 1)) dIx) zb5) (dC (.int 2147483587)) zez) zcv)))
 zbJ)) [.pt a,.sh (.int n),.no,.sh (.int m),.sh (.int k)] [.int c,.int s,.bl b]=.ok (.nx [.pt a,.sh (.int n),.no,.sh (.int (mix m (next s))),.sh (.int k)] [.int c,.int (next s),.bl b]):=by
 have o1:zdA s 39373=true:=zd4 (by omega) (by decide)
 have g:=zpZ s
 have o2:zdA (next s) (next s)=true:=zd4 (by omega) (by omega)
 have o3:zdA m 2147483587=true:=zig (Nat.lt_trans (show m.natAbs < 1000000000000000000000000000 by omega) (by rw[zjR];decide +kernel)) (Nat.lt_trans (show(2147483587:Int).natAbs < 2147483588 by decide) (by rw[zjR];decide +kernel))
 have e:(s*39373+17).fmod 2147483647=next s:=rfl
 have hp:∀ (ρ:Ev) (d:D),zh5 ρ d (.int 1,[.int c,.int s,.bl b])=.ok (.nx ρ [.int c,d,.bl b]):=fun _ _=>rfl
 open_line with[zdp o1,e,zdp o2,zdp o3,hp,mix]
theorem zbb (a:Addr){n:Int}(n0:0 < n)(n1:n<=1000000000000000000){st:List D}(h:St st):∃ (d:Int) (st':List D),zap a st [.int n]=.ok (.int d,st')/\0<=d/\d < n/\St st':=by
 obtain⟨c,s,b,rfl,s0,s1⟩:=h
 have hn0:(n==0)=false:=beq_eq_false_iff_ne.mpr (by omega)
 have hd:zfe c n=true:=zxe (by omega) (Nat.lt_of_le_of_lt (show n.natAbs<=1000000000000000000 by omega) (by rw[zvl];decide +kernel))
 cases b with
 | true =>
  have f:=zey (a:=c) (b:=n) n0
  have p0:∀ (ρ:Ev) (d:D),zh5 ρ d (.int 0,[.int c,.int s,.bl true])=.ok (.nx ρ [d,.int s,.bl true]):=fun _ _=>rfl
  have p2:∀ (ρ:Ev) (d:D),zh5 ρ d (.int 2,[.int (c.fdiv n),.int s,.bl true])=.ok (.nx ρ [.int (c.fdiv n),.int s,d]):=fun _ _=>rfl
  refine⟨c.fmod n,[.int (c.fdiv n),.int s,.bl (decide (c.fdiv n > 0))],?_,f.1,f.2,_,_,_,rfl,s0,s1⟩
  open_line with[zap,zfP,hn0,znu hd,p0,p2]
 | false =>
  have key:∃ t:Nat,t<=3/\∀ x2 x3 x4:Sl,(zgy (zac (dC (.int 1)) (zac (dC (.int 2)) (zan (zad (zac (zae 1) (zac (dC (.int 10)) (dC (.int 6)) znK) dGt) zaz) (m1 ziD)) zb5) zcv)) [.pt a,.sh (.int n),x2,x3,x4]=.ok (intsFrom 0 t):=by
   by_cases hb:n > 1000000
   ·refine⟨3,by decide,fun x2 x3 x4=>?_⟩
    have o:zdA 2 1=true:=zd4 (by decide) (by decide)
    have:(zac (dC (.int 1)) (zac (dC (.int 2)) (zan (zad (zac (zae 1) (zac (dC (.int 10)) (dC (.int 6)) znK) dGt) zaz) (m1 ziD)) zb5) zcv) [.pt a,.sh (.int n),x2,x3,x4]=.ok (.int 3):=by
     open_line with[p6,decide_eq_true hb,zdp o]
    unfold zgy
    rw[this]
    rfl
   ·refine⟨1,by decide,fun x2 x3 x4=>?_⟩
    have o:zdA 2 0=true:=zd4 (by decide) (by decide)
    have:(zac (dC (.int 1)) (zac (dC (.int 2)) (zan (zad (zac (zae 1) (zac (dC (.int 10)) (dC (.int 6)) znK) dGt) zaz) (m1 ziD)) zb5) zcv) [.pt a,.sh (.int n),x2,x3,x4]=.ok (.int 1):=by
     open_line with[p6,decide_eq_false hb,zdp o]
    unfold zgy
    rw[this]
    rfl
  obtain⟨t,ht,hsrc⟩:=key
  have hlen:(intsFrom 0 t).length=t:=by unfold DL.intsFrom;simp
  obtain⟨ρ2,st2,hl,m,s',x4,rfl,rfl,k0,k1,m0,_⟩:=zkf (tg:=zcV 4) (body:=(zbl (zta 0 a (mV 0 a (zac (zac (zac (zac (zae 0) (dC (.int 1)) dIx) (dC (.int 39373)) zb5) (dC (.int 17)) zcv) (dC (.int 2147483647)) zez)) (mP (dC (.int 1))))
 (zbl (zfp 3 (mV 0 a (zac (zac (zae 3) (dC (.int 2147483587)) zb5) (zac (zac (zac (zae 0) (dC (.int 1)) dIx) (zac (zae 0) (dC (.int 1)) dIx) zb5) (dC (.int 2147483587)) zez) zcv)))
 zbJ)))
   (fun j ρ st=>∃ (m s:Int) (x4:Sl),ρ=[.pt a,.sh (.int n),.no,.sh (.int m),x4]/\st=[.int c,.int s,.bl false]/\0<=s/\s < 2147483647/\0<=m/\m < (2147483587:Int) ^ j)
   (intsFrom 0 t) (by
    rintro j d ρ st hj ⟨m,s,x4,rfl,rfl,s0,s1,m0,m1⟩
    have hjt:j < t:=by have:=(List.getElem?_eq_some_iff.mp hj).1;omega
    have hd:d=.int (j:Int):=by
     unfold DL.intsFrom at hj
     rw[List.getElem?_map,List.getElem?_range hjt] at hj
     simp at hj;exact hj.symm
    subst hd
    have hm:m < 1000000000000000000000000000:=by
     have hj3:j=0∨j=1∨j=2:=by omega
     rcases hj3 with rfl | rfl | rfl<;>omega
    have g:=zpZ s
    have r:=zey (a:=next s*next s) (b:=2147483587) (by decide)
    refine⟨_,_,_,rfl,.inl (ztM (k:=(j:Int)) s0 s1 ⟨m0,hm⟩),mix m (next s),next s,_,rfl,rfl,g.1,g.2,?_,?_⟩
    ·unfold mix
     have:0<=m*2147483587:=Int.mul_nonneg m0 (by decide)
     omega
    ·unfold mix
     rw[Int.pow_succ]
     omega) 0 [.pt a,.sh (.int n),.no,.sh (.int 0),.no] [.int c,.int s,.bl false] (Nat.zero_le _) ⟨0,s,_,rfl,rfl,s0,s1,by decide,by decide⟩
  rw[List.drop_zero] at hl
  have f:=zey (a:=m.fdiv 64) (b:=n) n0
  have hd64:zfe m 64=true:=zxe (by decide) (by rw[zvl];decide +kernel)
  refine⟨(m.fdiv 64).fmod n,[.int c,.int s',.bl false],?_,f.1,f.2,c,s',false,rfl,k0,k1⟩
  open_line with[zap,zfP,hsrc,hl,znu hd64,hn0]
theorem zsK (ns:List Int)(k:Nat)(hk:k<=1000)(hl:ns.length<=63):∃ st,zbg [.lst (ns.map D.int),.int k]=.ok (.lst st)/\St st:=by
 have hlen:ze9 (.lst (ns.map D.int))=.ok (.int ns.length):=by
  rw[ev_lenL,List.length_map]
 have o1:zdA 104729 (k:Int)=true:=zd4 (by decide) (by omega)
 have o2:zdA (104729*(k:Int)) (k:Int)=true:=zd4 (by omega) (by omega)
 by_cases h:k < ns.length
 ·have hix:dIx (.lst (ns.map D.int)) (.int (k:Int))=.ok (.int ns[k]):=zjq (by rw[List.getElem?_map,List.getElem?_eq_getElem h];rfl)
  have f:=zey (a:=(ns[k].fmod 2147483587+104729*(k:Int)*(k:Int)+7)) (b:=2147483587) (by decide)
  refine⟨[.int ns[k],.int ((ns[k].fmod 2147483587+104729*(k:Int)*(k:Int)+7).fmod 2147483587),.bl (decide (ns[k]≥1000000000000000000))],?_,_,_,_,rfl,f.1,by omega⟩
  unfold zbg zoI zeZ
  open_line with[hlen,hix,ev_p18,zdp o1,zdp o2,decide_eq_true (show(k:Int) < (ns.length:Int) by omega),zhA,zv3,zlY,zwy]
 ·have f:=zey (a:=((0:Int).fmod 2147483587+104729*(k:Int)*(k:Int)+7)) (b:=2147483587) (by decide)
  refine⟨[.int 0,.int (((0:Int).fmod 2147483587+104729*(k:Int)*(k:Int)+7).fmod 2147483587),.bl false],?_,_,_,_,rfl,f.1,by omega⟩
  unfold zbg zoI zeZ
  open_line with[hlen,ev_p18,zdp o1,zdp o2,decide_eq_false (show ¬ (k:Int) < (ns.length:Int) by omega),zhA,zv3,zlY,zwy]
theorem p12:znK (.int 10) (.int 12)=.ok (.int 1000000000000):=zaq rfl
theorem zlH (a:Addr){l:Int}(hl:l=0∨l=1){st:List D}(h:St st):∃ (x:Fra) (st':List D),zby a st [.int l]=.ok (fr x,st')/\zhE x/\0<=x.1/\(l=1->0 < x.1)/\St st':=by
 have hN:(1000000000000000000000:Int) < (N60:Int):=by decide
 obtain⟨w,st1,t1,w0,w1,S1⟩:=zbb a (n:=6) (by decide) (by decide) h
 obtain⟨t,m,ht,hm,i1,i2⟩:∃ t m:Int,(0 < t/\t<=1000000000000)/\(0 < m/\m<=12)/\dIx (.lst [.int 3,.int 6,.int 20,.int 12,.int 90,.int 1000000000000]) (.int w)=.ok (.int t)/\dIx (.lst [.int 1,.int 1,.int 1,.int 4,.int 12,.int 12]) (.int w)=.ok (.int m):=by
  have:w=0∨w=1∨w=2∨w=3∨w=4∨w=5:=by omega
  rcases this with rfl | rfl | rfl | rfl | rfl | rfl
  ·exact⟨3,1,by decide,by decide,rfl,rfl⟩
  ·exact⟨6,1,by decide,by decide,rfl,rfl⟩
  ·exact⟨20,1,by decide,by decide,rfl,rfl⟩
  ·exact⟨12,4,by decide,by decide,rfl,rfl⟩
  ·exact⟨90,12,by decide,by decide,rfl,rfl⟩
  ·exact⟨1000000000000,12,by decide,by decide,rfl,rfl⟩
 obtain⟨u,st2,t2,u0,u1,S2⟩:=zbb a (n:=t) ht.1 (by omega) S1
 obtain⟨v,st3,t3,v0,v1,S3⟩:=zbb a (n:=m) hm.1 (by omega) S2
 obtain⟨q,hq,i3⟩:∃ q:Int,(0 < q/\q<=60)/\dIx (.lst [.int 1,.int 2,.int 3,.int 4,.int 5,.int 6,.int 10,.int 12,.int 15,.int 20,.int 30,.int 60]) (.int v)=.ok (.int q):=by
  have:v=0∨v=1∨v=2∨v=3∨v=4∨v=5∨v=6∨v=7∨v=8∨v=9∨v=10∨v=11:=by omega
  rcases this with rfl | rfl | rfl | rfl | rfl | rfl | rfl | rfl | rfl | rfl | rfl | rfl
  ·exact⟨1,by decide,rfl⟩
  ·exact⟨2,by decide,rfl⟩
  ·exact⟨3,by decide,rfl⟩
  ·exact⟨4,by decide,rfl⟩
  ·exact⟨5,by decide,rfl⟩
  ·exact⟨6,by decide,rfl⟩
  ·exact⟨10,by decide,rfl⟩
  ·exact⟨12,by decide,rfl⟩
  ·exact⟨15,by decide,rfl⟩
  ·exact⟨20,by decide,rfl⟩
  ·exact⟨30,by decide,rfl⟩
  ·exact⟨60,by decide,rfl⟩
 have hlo:=Cod.low_ok (a:=l+u) (b:=q) (by omega) (zzm (by omega) (by omega)) (zzm (by omega) (by omega))
 refine⟨low (l+u) q,st3,?_,zyt (by omega) (by omega) (by omega),zoi (by omega) (by omega),fun e=>zuz (by omega) (by omega),S3⟩
 open_line with[zby,zgn,t1,t2,t3,i1,i2,i3,p12,hlo]
theorem zob {k n:Int}(hn:2<=n):k.fmod n≠(k+1).fmod n:=by
 rw[Int.fmod_eq_emod_of_nonneg _ (by omega),Int.fmod_eq_emod_of_nonneg _ (by omega)]
 intro e
 have:=Int.emod_eq_emod_iff_emod_sub_eq_zero.mp e.symm
 rw[show k+1-k=1 by omega,Int.emod_eq_of_lt (by decide) (by omega)] at this
 cases this
theorem zvJ (a:Addr){zs:List Str}{k:Nat}(h2:2<=zs.length)(h8:zs.length<=8)(nd:zs.Nodup){st:List D}(h:St st):∃ (t:Tie) (st':List D),zbF a st [.lst (zs.map D.str),.int k]=.ok (zdu t,st')/\zoH zs t/\St st':=by
 have hlen:ze9 (.lst (zs.map D.str))=.ok (.int zs.length):=by rw[ev_lenL,List.length_map]
 have hn0:((zs.length:Int)==0)=false:=beq_eq_false_iff_ne.mpr (by omega)
 obtain⟨d,st1,t1,d0,d1,S1⟩:=zbb a (n:=(zs.length:Int)) (by omega) (by omega) h
 obtain⟨e,st2,t2,e0,e1,S2⟩:=zbb a (n:=(zs.length:Int)-1) (by omega) (by omega) S1
 obtain⟨f,st3,t3,f0,f1,S3⟩:=zbb a (n:=2) (by decide) (by decide) S2
 obtain⟨g,st4,t4,g0,g1,S4⟩:=zbb a (n:=2) (by decide) (by decide) S3
 obtain⟨x,st5,t5,fx,lx,_,S5⟩:=zlH a (l:=0) (.inl rfl) S4
 obtain⟨y,st6,t6,fy,_,ly,S6⟩:=zlH a (l:=1) (.inr rfl) S5
 obtain⟨v,st7,t7,v0,v1,S7⟩:=zbb a (n:=4) (by decide) (by decide) S6
 obtain⟨wd,hw,jw⟩:=ztG g0 g1
 obtain⟨p,q,hp,hq,hpq,hplace⟩:∃ p q:Int,(0<=p/\p < (zs.length:Int))/\(0<=q/\q < (zs.length:Int))/\p≠q/\(((f==0)=true/\p=(k:Int).fmod (zs.length:Int)/\q=((k:Int)+1).fmod (zs.length:Int))∨((f==0)=false/\p=d/\q=(d+1+e).fmod (zs.length:Int))):=by
  cases h10:(f==0) with
  | true=>exact⟨_,_,zey (by omega),zey (by omega),zob (by omega),.inl ⟨rfl,rfl,rfl⟩⟩
  | false =>
   obtain⟨hr,hne⟩:=zlG (n:=(zs.length:Int)) (d:=d) (e:=e) (by omega) d0 d1 e0 e1
   exact⟨_,_,⟨d0,d1⟩,hr,Ne.symm hne,.inr ⟨rfl,rfl,rfl⟩⟩
 obtain⟨z1,k1,j1⟩:=zja (zs:=zs) hp.1 hp.2
 obtain⟨z2,k2,j2⟩:=zja (zs:=zs) hq.1 hq.2
 have hz12:z1≠z2:=zhK nd k1 k2 (by omega)
 cases h4:(v==0) with
 | true =>
  refine⟨⟨z1,z2,wd,x,none⟩,st7,?_,⟨List.mem_of_getElem? k1,List.mem_of_getElem? k2,hz12,hw,fx,lx,fun _ hv=>nomatch hv⟩,S7⟩
  rw[show zdu ⟨z1,z2,wd,x,none⟩=.tup [.str z1,.str z2,.str wd,fr x,.non] from rfl]
  rcases hplace with⟨h10,e1,e2⟩ | ⟨h10,e1,e2⟩
  ·rw[e2] at j2;rw[e1] at j1
   open_line with[zbF,zdO,hlen,t1,t2,t3,t4,t5,t6,t7,zqH,hn0,h10,h4,jw,j1,j2]
  ·rw[e2] at j2;rw[e1] at j1
   open_line with[zbF,zdO,hlen,t1,t2,t3,t4,t5,t6,t7,zqH,hn0,h10,h4,jw,j1,j2]
 | false =>
  refine⟨⟨z1,z2,wd,x,some y⟩,st7,?_,⟨List.mem_of_getElem? k1,List.mem_of_getElem? k2,hz12,hw,fx,lx,fun _ hv=>by cases hv;exact⟨fy,ly rfl⟩⟩,S7⟩
  rw[show zdu ⟨z1,z2,wd,x,some y⟩=.tup [.str z1,.str z2,.str wd,fr x,fr y] from rfl]
  rcases hplace with⟨h10,e1,e2⟩ | ⟨h10,e1,e2⟩
  ·rw[e2] at j2;rw[e1] at j1
   open_line with[zbF,zdO,hlen,t1,t2,t3,t4,t5,t6,t7,zqH,hn0,h10,h4,jw,j1,j2]
  ·rw[e2] at j2;rw[e1] at j1
   open_line with[zbF,zdO,hlen,t1,t2,t3,t4,t5,t6,t7,zqH,hn0,h10,h4,jw,j1,j2]
theorem zqg:∀ {es:List D}{P:Int->Prop},(∀ e∈es,∃ l,e=D.int l/\P l)->∃ ls:List Int,es=ls.map D.int/\∀ l∈ls,P l
 | [],P,_=>⟨[],rfl,fun l h=>by simp at h⟩
 | e::es,P,h=>by
  obtain⟨l,rfl,hl⟩:=h e (by simp)
  obtain⟨ls,rfl,hs⟩:=zqg (es:=es) (P:=P) fun e he=>h e (List.mem_cons_of_mem _ he)
  exact⟨l::ls,rfl,fun x hx=>by
   rcases List.mem_cons.mp hx with rfl | hx
   ·exact hl
   ·exact hs x hx⟩
theorem zoj (a:Addr){st:List D}(h:St st):∃ (ls:List Int) (st':List D),zlu [.no,.pt a] (zcV 0) (zbr 1 a (zaU (mP (dC (.int 26))) zdh) zap) (DL.intsFrom 0 8,st)=.ok (.lst (ls.map D.int),st')/\ls.length=8/\(∀ l∈ls,0<=l/\l < 26)/\St st':=by
 obtain⟨es,st',h1,h2,h3,h4⟩:=zlw (b:=[.no,.pt a]) (tg:=zcV 0) (fm:=zbr 1 a (zaU (mP (dC (.int 26))) zdh) zap) St (fun e=>∃ l,e=D.int l/\0<=l/\l < 26) (DL.intsFrom 0 8) st h (by
  intro d st _ h
  obtain⟨x,st',t1,x0,x1,S1⟩:=zbb a (n:=26) (by decide) (by decide) h
  refine⟨_,.int x,st',rfl,?_,⟨x,rfl,x0,x1⟩,S1⟩
  open_line with[t1])
 obtain⟨ls,rfl,hls⟩:=zqg h3
 refine⟨ls,st',?_,by simpa [DL.intsFrom] using h2,hls,h4⟩
 unfold zlu
 rw[if_pos (show(DL.intsFrom 0 8).length<=line by decide),h1]
 rfl
def zto (l:Int):Nat:=97+l.toNat
theorem zsX {f g:Ev->Res D}{ρ:Ev}{ls:List Int}{m:Nat}(hf:f ρ=.ok (.lst (ls.map D.int)))(hg:g ρ=.ok (.int (m:Int)))(hm:m<=ls.length)(hl:ls.length<=1000):zoK f zdi (zc2 g) ρ=.ok (.lst ((ls.take m).map D.int)):=by
 unfold zoK
 rw[hf]
 simp only[Res.bind,zdi,zc2,hg]
 exact congrArg (fun z=>Res.ok (D.lst z)) (ztm hm)
theorem ztY {ρ:Ev}{ls:List Int}(hl:ls.length<=100)(hb:∀ l∈ls,0<=l/\l < 26):zoz 1 [] (zcV 0) mYes (zac (dC (.str "abcdefghijklmnopqrstuvwxyz")) (zae 0) dIx) ρ (ls.map D.int)=.ok (.lst ((ls.map zto).map fun c=>D.str ⟨#[c]⟩)):=by
 rw[zkp (F:=fun d=>match d with | .int l=>.str ⟨#[zto l]⟩ | d=>d) (by rw[List.length_map];omega)]
 ·congr 2
  rw[List.map_map,List.map_map]
  rfl
 ·intro d hd
  obtain⟨l,hl',rfl⟩:=List.mem_map.mp hd
  obtain⟨b0,b1⟩:=hb l hl'
  refine⟨[.sh (.int l)],rfl,rfl,?_⟩
  open_line with[zxx b0 b1]
  rfl
theorem ztX {ls:List Int}(hl:ls.length<=100):zka "" [.lst ((ls.map zto).map fun c=>D.str ⟨#[c]⟩)]=.ok (.str (Cod.S (ls.map zto))):=zok (cs:=ls.map zto) (by rw[List.length_map];omega)
def zoJ (ls:List Int)(lg at_:Nat)(tu sp:Int)(ne:Bool)(k:Nat):List Int:=if ne=true then ls.take (1+((tu+(k:Int)).fmod 8).toNat) else(ls.take lg).set at_ ((tu+sp*(k:Int)).fmod 26)
def nm (ls:List Int)(lg at_:Nat)(tu sp:Int)(ne:Bool)(k:Nat):List Nat:=(zoJ ls lg at_ tu sp ne k).map zto
section
variable {ls:List Int}{lg at_:Nat}{tu sp:Int}{ne:Bool}(h8:ls.length=8) (hb:∀ l∈ls,0<=l/\l < 26) (g1:1<=lg) (g8:lg<=8) (ha:at_ < lg)
include hb in
theorem zp5 {k:Nat}:∀ l∈zoJ ls lg at_ tu sp ne k,0<=l/\l < 26:=by
 intro l hl
 unfold zoJ at hl
 cases ne with
 | true=>rw[if_pos rfl] at hl;exact hb l (List.mem_of_mem_take hl)
 | false =>
  rw[if_neg (by decide)] at hl
  rcases List.mem_or_eq_of_mem_set hl with hl | rfl
  ·exact hb l (List.mem_of_mem_take hl)
  ·exact zey (by decide)
include h8 g8 in
theorem zhL {k:Nat}:(zoJ ls lg at_ tu sp ne k).length=if ne=true then 1+((tu+(k:Int)).fmod 8).toNat else lg:=by
 unfold zoJ
 have:=zey (a:=tu+(k:Int)) (b:=8) (by decide)
 cases ne with
 | true=>rw[if_pos rfl,if_pos rfl,List.length_take,h8];omega
 | false=>rw[if_neg (by decide),if_neg (by decide),List.length_set,List.length_take,h8];omega
include h8 hb g1 g8 in
theorem zyq {k:Nat}:Cod.IsNm (nm ls lg at_ tu sp ne k):=by
 have hl:=zhL (tu:=tu) (sp:=sp) (ne:=ne) (at_:=at_) h8 g8 (k:=k)
 have:=zey (a:=tu+(k:Int)) (b:=8) (by decide)
 refine⟨?_,?_,fun x hx=>?_⟩
 ·unfold nm;rw[List.length_map,hl];split<;>omega
 ·unfold nm;rw[List.length_map,hl];split<;>omega
 ·unfold nm at hx
  obtain⟨l,hl,rfl⟩:=List.mem_map.mp hx
  have:=zp5 hb l hl
  exact zxy _ (by omega)
include h8 g8 ha in
theorem zrQ {i j:Nat}(hij:i < j)(hj:j < 7)(hs:sp=1∨sp=3∨sp=5∨sp=7∨sp=9∨sp=11):nm ls lg at_ tu sp ne i≠nm ls lg at_ tu sp ne j:=by
 intro e
 cases ne with
 | true =>
  have hl:=congrArg List.length e
  unfold nm at hl
  rw[List.length_map,List.length_map,zhL h8 g8,zhL h8 g8,if_pos rfl,if_pos rfl] at hl
  have f1:=zey (a:=tu+(i:Int)) (b:=8) (by decide)
  have f2:=zey (a:=tu+(j:Int)) (b:=8) (by decide)
  have he:(tu+(i:Int)).fmod 8=(tu+(j:Int)).fmod 8:=by omega
  rw[Int.fmod_eq_emod_of_nonneg _ (by decide),Int.fmod_eq_emod_of_nonneg _ (by decide)] at he
  omega
 | false =>
  have h1:(nm ls lg at_ tu sp false i)[at_]?=(nm ls lg at_ tu sp false j)[at_]?:=by rw[e]
  unfold nm zoJ at h1
  rw[if_neg (by decide),if_neg (by decide),List.getElem?_map,List.getElem?_map,List.getElem?_set_self (by rw[List.length_take,h8];omega),List.getElem?_set_self (by rw[List.length_take,h8];omega)] at h1
  simp only[Option.map_some,Option.some.injEq,zto] at h1
  have f1:=zey (a:=tu+sp*(i:Int)) (b:=26) (by decide)
  have f2:=zey (a:=tu+sp*(j:Int)) (b:=26) (by decide)
  have he:(tu+sp*(i:Int)).fmod 26=(tu+sp*(j:Int)).fmod 26:=by omega
  rw[Int.fmod_eq_emod_of_nonneg _ (by decide),Int.fmod_eq_emod_of_nonneg _ (by decide)] at he
  rcases hs with rfl | rfl | rfl | rfl | rfl | rfl<;>omega
include h8 g8 ha in
theorem zpY (hs:sp=1∨sp=3∨sp=5∨sp=7∨sp=9∨sp=11):∀ n:Nat,n<=7->((List.range n).map (nm ls lg at_ tu sp ne)).Nodup:=by
 intro n hn
 rw[List.nodup_iff_pairwise_ne,List.pairwise_map]
 have:(List.range n).Pairwise (· < ·):=List.pairwise_lt_range
 refine List.Pairwise.imp_of_mem (fun {i j} hi hj hij=>?_) this
 rw[List.mem_range] at hj
 exact zrQ h8 g8 ha hij (by omega) hs
end
def zif (ls:List Int)(lg at_:Nat)(tu sp:Int)(ne:Bool)(k:Nat):List (List Nat):=(List.range k).map (nm ls lg at_ tu sp ne)
theorem zoa {ls:List Int}{lg at_:Nat}{tu sp:Int}{ne:Bool}{k:Nat}:Cod.nmsD (zif ls lg at_ tu sp ne (k+1))=Cod.nmsD (zif ls lg at_ tu sp ne k)++[.str (Cod.S (nm ls lg at_ tu sp ne k))]:=by
 unfold zif Cod.nmsD
 rw[List.range_succ,List.map_append,List.map_append]
 rfl
theorem zrP {a:Addr}{ls:List Int}{lg at_ n:Nat}{tu sp:Int}{ne:Bool}(h8:ls.length=8)(hb:∀ l∈ls,0<=l/\l < 26)(g1:1<=lg)(g8:lg<=8)(ha:at_ < lg)(t0:0<=tu/\tu < 26)(s0:0<=sp/\sp<=11)(hn:n<=7) :
  ∃ x9 x10,zcB (zcV 9) (zar (zje 10 (zoK (zae 2) zdi (zc2 (zae 3))))
 (zar (zv5 10 (zac (zac (zae 5) (zac (zae 6) (zae 9) zb5) zcv) (dC (.int 26)) zez) (zae 4))
 (zar (sIf (zae 7)
 (zar (zje 10 (zoK (zae 2) zdi (zc2 (zac (dC (.int 1)) (zac (zac (zae 5) (zae 9) zcv) (dC (.int 8)) zez) zcv))))
 zal)
 zal)
 (zar (zvp 10 (zbX 8 (zov (dC (.str "")) (zad (zeU 1 [] (ztW (zae 10)) (zcV 0) mYes (zac (dC (.str "abcdefghijklmnopqrstuvwxyz")) (zae 0) dIx)) zaz))))
 zal)))) (DL.intsFrom 0 n) [.pt a,.sh (.int (n:Int)),.sh (.lst (ls.map D.int)),.sh (.int (lg:Int)),.sh (.int (at_:Int)),.sh (.int tu),.sh (.int sp),.sh (.bl ne),.ow (.lst []),.no,.no] =
   .ok (.nx [.pt a,.sh (.int (n:Int)),.sh (.lst (ls.map D.int)),.sh (.int (lg:Int)),.sh (.int (at_:Int)),.sh (.int tu),.sh (.int sp),.sh (.bl ne),.ow (.lst (Cod.nmsD (zif ls lg at_ tu sp ne n))),x9,x10]):=by
 obtain⟨ρ',hl,x9,x10,rfl⟩:=zmm (i:=9) (n:=n)
  (ρ:=[.pt a,.sh (.int (n:Int)),.sh (.lst (ls.map D.int)),.sh (.int (lg:Int)),.sh (.int (at_:Int)),.sh (.int tu),.sh (.int sp),.sh (.bl ne),.ow (.lst []),.no,.no])
  (body:=(zar (zje 10 (zoK (zae 2) zdi (zc2 (zae 3))))
 (zar (zv5 10 (zac (zac (zae 5) (zac (zae 6) (zae 9) zb5) zcv) (dC (.int 26)) zez) (zae 4))
 (zar (sIf (zae 7)
 (zar (zje 10 (zoK (zae 2) zdi (zc2 (zac (dC (.int 1)) (zac (zac (zae 5) (zae 9) zcv) (dC (.int 8)) zez) zcv))))
 zal)
 zal)
 (zar (zvp 10 (zbX 8 (zov (dC (.str "")) (zad (zeU 1 [] (ztW (zae 10)) (zcV 0) mYes (zac (dC (.str "abcdefghijklmnopqrstuvwxyz")) (zae 0) dIx)) zaz))))
 zal)))))
  (fun k ρ=>∃ x9 x10,ρ=[.pt a,.sh (.int (n:Int)),.sh (.lst (ls.map D.int)),.sh (.int (lg:Int)),.sh (.int (at_:Int)),.sh (.int tu),.sh (.int sp),.sh (.bl ne),.ow (.lst (Cod.nmsD (zif ls lg at_ tu sp ne k))),x9,x10]) (by
   rintro k hk ρ ⟨x9,x10,rfl⟩
   have hlen:=zhL (tu:=tu) (sp:=sp) (ne:=ne) (at_:=at_) h8 g8 (k:=k)
   have f8:=zey (a:=tu+(k:Int)) (b:=8) (by decide)
   have om:zdA sp (k:Int)=true:=zd4 (by omega) (by omega)
   have hap:decide ((Cod.nmsD (zif ls lg at_ tu sp ne k)).length<=999)=true:=decide_eq_true (by unfold Cod.nmsD zif;simp;omega)
   have hs1:∀ x8 x10,zoK (zae 2) zdi (zc2 (zae 3)) [.pt a,.sh (.int (n:Int)),.sh (.lst (ls.map D.int)),.sh (.int (lg:Int)),.sh (.int (at_:Int)),.sh (.int tu),.sh (.int sp),.sh (.bl ne),x8,.sh (.int (k:Int)),x10]=.ok (.lst ((ls.take lg).map D.int)):=fun _ _=>zsX rfl rfl (by omega) (by omega)
   have hix:ixN ((ls.take lg).map D.int).length (at_:Int)=some at_:=by
    rw[List.length_map,List.length_take,h8]
    unfold ixN
    rw[if_pos (by omega),if_pos (by omega)]
    simp
   have hset:((ls.take lg).map D.int).set at_ (.int ((tu+sp*(k:Int)).fmod 26))=((ls.take lg).set at_ ((tu+sp*(k:Int)).fmod 26)).map D.int:=(List.map_set ..).symm
   have hll:(zoJ ls lg at_ tu sp ne k).length<=100:=by rw[hlen];split<;>omega
   have hc:=fun ρ=>ztY (ρ:=ρ) hll (zp5 hb)
   have hj:zka "" [.lst (((zoJ ls lg at_ tu sp ne k).map zto).map fun c=>D.str ⟨#[c]⟩)]=.ok (.str (Cod.S (nm ls lg at_ tu sp ne k))):=ztX hll
   refine⟨[.pt a,.sh (.int (n:Int)),.sh (.lst (ls.map D.int)),.sh (.int (lg:Int)),.sh (.int (at_:Int)),.sh (.int tu),.sh (.int sp),.sh (.bl ne),.ow (.lst (Cod.nmsD (zif ls lg at_ tu sp ne (k+1)))),.sh (.int (k:Int)),.sh (.lst ((zoJ ls lg at_ tu sp ne k).map D.int))],?_,_,_,rfl⟩
   rw[zoa]
   cases ne with
   | true =>
    have e1:zoJ ls lg at_ tu sp true k=ls.take (1+((tu+(k:Int)).fmod 8).toNat):=if_pos rfl
    have hs2:∀ x8 x10,zoK (zae 2) zdi (zc2 (zac (dC (.int 1)) (zac (zac (zae 5) (zae 9) zcv) (dC (.int 8)) zez) zcv)) [.pt a,.sh (.int (n:Int)),.sh (.lst (ls.map D.int)),.sh (.int (lg:Int)),.sh (.int (at_:Int)),.sh (.int tu),.sh (.int sp),.sh (.bl true),x8,.sh (.int (k:Int)),x10]=.ok (.lst ((zoJ ls lg at_ tu sp true k).map D.int)):=fun x8 x10=>by
     rw[e1]
     refine zsX rfl ?_ (by omega) (by omega)
     open_line with[]
     congr 2
     omega
    open_line with[hs1,zdp om,zea hix,hset,hs2,hc,hj,ev_app1 hap]
   | false =>
    have e1:(ls.take lg).set at_ ((tu+sp*(k:Int)).fmod 26)=zoJ ls lg at_ tu sp false k:=(if_neg (by decide)).symm
    rw[e1] at hset
    open_line with[hs1,zdp om,zea hix,hset,hc,hj,ev_app1 hap]) ⟨_,_,rfl⟩
 exact⟨x9,x10,hl⟩
theorem zrT (a:Addr){n:Nat}(hn:n<=7){st:List D}(h:St st):∃ (css:List (List Nat)) (st':List D),zca a st [.int (n:Int)]=.ok (.lst (Cod.nmsD css),st')/\css.length=n/\css.Nodup/\(∀ cs∈css,Cod.IsNm cs)/\St st':=by
 obtain⟨ls,st1,t1,h8,hb,S1⟩:=zoj a h
 obtain⟨d,st2,t2,d0,d1,S2⟩:=zbb a (n:=8) (by decide) (by decide) S1
 obtain⟨at_,st3,t3,a0,a1,S3⟩:=zbb a (n:=1+d) (by omega) (by omega) S2
 obtain⟨tu,st4,t4,u0,u1,S4⟩:=zbb a (n:=26) (by decide) (by decide) S3
 obtain⟨e,st5,t5,e0,e1,S5⟩:=zbb a (n:=6) (by decide) (by decide) S4
 obtain⟨f,st6,t6,f0,f1,S6⟩:=zbb a (n:=3) (by decide) (by decide) S5
 obtain⟨sp,hs,i1⟩:∃ sp:Int,(sp=1∨sp=3∨sp=5∨sp=7∨sp=9∨sp=11)/\dIx (.lst [.int 1,.int 3,.int 5,.int 7,.int 9,.int 11]) (.int e)=.ok (.int sp):=by
  have:e=0∨e=1∨e=2∨e=3∨e=4∨e=5:=by omega
  rcases this with rfl | rfl | rfl | rfl | rfl | rfl
  ·exact⟨1,by decide,rfl⟩
  ·exact⟨3,by decide,rfl⟩
  ·exact⟨5,by decide,rfl⟩
  ·exact⟨7,by decide,rfl⟩
  ·exact⟨9,by decide,rfl⟩
  ·exact⟨11,by decide,rfl⟩
 obtain⟨lg,hlg⟩:=Int.eq_ofNat_of_zero_le (show 0<=1+d by omega)
 obtain⟨at',rfl⟩:=Int.eq_ofNat_of_zero_le a0
 rw[hlg] at t3
 obtain⟨x9,x10,hl⟩:=zrP (a:=a) (ls:=ls) (lg:=lg) (at_:=at') (n:=n) (tu:=tu) (sp:=sp) (ne:=(f==0)) h8 hb (by omega) (by omega) (by omega) ⟨u0,u1⟩ (by omega) hn
 refine⟨zif ls lg at' tu sp (f==0) n,st6,?_,by unfold zif;simp,zpY h8 (by omega) (by omega) hs n hn,fun cs hc=>?_,S6⟩
 ·have hsrc:∀ ρ,zgy (dC (.int 8)) ρ=.ok (DL.intsFrom 0 8):=fun _=>rfl
  have hbm:∀ x1 x2 x3 x4 x5 x6 x7 x8 x9 x10,zeA 1 [0] [.pt a,x1,x2,x3,x4,x5,x6,x7,x8,x9,x10]=[.no,.pt a]:=fun _ _ _ _ _ _ _ _ _ _=>rfl
  open_line with[zca,zhs,hsrc,hbm,t1,t2,hlg,t3,t4,t5,i1,t6,ev_forR,zdn (show n<=1000000 by omega),hl]
 ·unfold zif at hc
  obtain⟨k,_,rfl⟩:=List.mem_map.mp hc
  exact zyq h8 hb (by omega) (by omega)
theorem web_ok (a:Addr){p q:Nat}(hp:2<=p/\p<=7)(hq:q<=14){st:List D}(h:St st):∃ (w:Web) (st':List D),zbS a st [.int (p:Int),.int (q:Int)]=.ok (zba w,st')/\zcR w/\St st':=by
 obtain⟨m,st1,t1,m0,m1,S1⟩:=zbb a (n:=(p:Int)-1) (by omega) (by omega) h
 obtain⟨m,rfl⟩:=Int.eq_ofNat_of_zero_le m0
 obtain⟨css,st2,t2,hcl,hnd,hall,S2⟩:=zrT a (n:=2+m) (by omega) S1
 have hnm:Cod.nmsD css=(css.map Cod.S).map D.str:=by unfold Cod.nmsD;rw[List.map_map];rfl
 have hzl:(css.map Cod.S).length=2+m:=by rw[List.length_map,hcl]
 have nd:(css.map Cod.S).Nodup:=by
  rw[List.nodup_iff_pairwise_ne,List.pairwise_map]
  exact List.Pairwise.imp (fun h z=>h (Cod.S_inj z)) (List.nodup_iff_pairwise_ne.mp hnd)
 have nm:ziY (css.map Cod.S):=⟨nd,fun z hz=>by
  obtain⟨cs,hc,rfl⟩:=List.mem_map.mp hz
  exact(hall cs hc).nameB⟩
 rw[hnm] at t2
 generalize css.map Cod.S=zs at *
 have hlen:ze9 (.lst (zs.map D.str))=.ok (.int zs.length):=by rw[ev_lenL,List.length_map]
 have hn0:((zs.length:Int)==0)=false:=beq_eq_false_iff_ne.mpr (by omega)
 obtain⟨c,st3,t3,c0,c1,S3⟩:=zbb a (n:=(q:Int)+1) (by omega) (by omega) S2
 obtain⟨c,rfl⟩:=Int.eq_ofNat_of_zero_le c0
 have hlenI:(DL.intsFrom 0 c).length=c:=by unfold DL.intsFrom;simp
 obtain⟨ρ2,st4,hl,ts,x6,rfl,htl,hts,S4⟩:=zkf (tg:=zcV 6) (body:=(zbl (zuu 5 (zbr 0 a (zaU (mP (zae 3)) (zaU (mP (zae 6)) zdh)) zbF))
 zbJ))
  (fun j ρ st=>∃ (ts:List Tie) (x6:Sl),ρ=[.pt a,.sh (.int (p:Int)),.sh (.int (q:Int)),.sh (.lst (zs.map D.str)),.sh (.int (zs.length:Int)),.ow (.lst (ts.map zdu)),x6,.no,.no]/\ts.length=j/\(∀ t∈ts,zoH zs t)/\St st) (DL.intsFrom 0 c) (by
   rintro j d ρ st hj ⟨ts,x6,rfl,rfl,hts,S⟩
   have hjt:ts.length < c:=by have:=(List.getElem?_eq_some_iff.mp hj).1;omega
   have hd:d=.int (ts.length:Int):=by
    unfold DL.intsFrom at hj
    rw[List.getElem?_map,List.getElem?_range hjt] at hj
    simp at hj;exact hj.symm
   subst hd
   obtain⟨t,st',tt,tk,S'⟩:=zvJ a (zs:=zs) (k:=ts.length) (by omega) (by omega) nd S
   have hap:decide ((ts.map zdu).length<=999)=true:=decide_eq_true (by rw[List.length_map];omega)
   refine⟨_,[.pt a,.sh (.int (p:Int)),.sh (.int (q:Int)),.sh (.lst (zs.map D.str)),.sh (.int (zs.length:Int)),.ow (.lst ((ts++[t]).map zdu)),.sh (.int (ts.length:Int)),.no,.no],st',rfl,.inl ?_,ts++[t],_,rfl,by simp,fun u hu=>?_,S'⟩
   ·open_line with[tt,em_app1 hap,List.map_append]
   ·rw[List.mem_append] at hu
    rcases hu with hu | hu
    ·exact hts u hu
    ·have:u=t:=by simpa using hu
     subst this;exact tk) 0 [.pt a,.sh (.int (p:Int)),.sh (.int (q:Int)),.sh (.lst (zs.map D.str)),.sh (.int (zs.length:Int)),.ow (.lst []),.no,.no,.no] st3 (Nat.zero_le _) ⟨[],_,rfl,rfl,fun t ht=>by simp at ht,S3⟩
 rw[List.drop_zero] at hl
 rw[hlenI] at htl
 have hsr:znh (.int (c:Int),st3)=.ok (DL.intsFrom 0 c,st3):=em_srcR1 (by omega)
 have h2m:(2:Int)+(m:Int)=((2+m:Nat):Int):=by omega
 rw[← h2m] at t2
 obtain⟨g,st5,t5,g0,g1,S5⟩:=zbb a (n:=2) (by decide) (by decide) S4
 cases hg:(g==0) with
 | true =>
  obtain⟨d,st6,t6,d0,d1,S6⟩:=zbb a (n:=(zs.length:Int)) (by omega) (by omega) S5
  obtain⟨e,st7,t7,e0,e1,S7⟩:=zbb a (n:=(zs.length:Int)-1) (by omega) (by omega) S6
  obtain⟨hr,hne⟩:=zlG (n:=(zs.length:Int)) (d:=d) (e:=e) (by omega) d0 d1 e0 e1
  obtain⟨z1,k1,j1⟩:=zja (zs:=zs) d0 d1
  obtain⟨z2,k2,j2⟩:=zja (zs:=zs) hr.1 hr.2
  have hz12:z1≠z2:=zhK nd k1 k2 (by omega)
  refine⟨⟨zs,ts,z1,z2⟩,st7,?_,⟨by show 2<=zs.length;omega,by show zs.length<=7;omega,nm,by show ts.length<=14;omega,hts,List.mem_of_getElem? k1,List.mem_of_getElem? k2,hz12⟩,S7⟩
  open_line with[zbS,zg1,zqH,t1,t2,hlen,t3,hsr,hl,t5,hg,t6,t7,hn0,j1,j2,zba]
 | false =>
  obtain⟨z1,k1,j1⟩:=zja (zs:=zs) (k:=0) (by decide) (by omega)
  obtain⟨z2,k2,j2⟩:=zja (zs:=zs) (k:=(zs.length:Int)-1) (by omega) (by omega)
  have hz12:z1≠z2:=zhK nd k1 k2 (by omega)
  refine⟨⟨zs,ts,z1,z2⟩,st5,?_,⟨by show 2<=zs.length;omega,by show zs.length<=7;omega,nm,by show ts.length<=14;omega,hts,List.mem_of_getElem? k1,List.mem_of_getElem? k2,hz12⟩,S5⟩
  open_line with[zbS,zg1,zqH,t1,t2,hlen,t3,hsr,hl,t5,hg,j1,j2,zba]
end Bor
namespace DL
open PySem PySem.Spec PyProof.Rows L2
def Rp (d:D)(n k:Nat):Prop:=∃ p,zhH d=some p/\p.showable=true/\p.depth<=k/\p.shown.length<=n
def Rps (ds:List D)(n k:Nat):Prop:=∃ ps,toPys ds=some ps/\ps.length=ds.length/\PyData.showableAll ps=true/\PyData.depthAll ps<=k/\((PyData.shownAll ps).map (fun x=>x.length)).sum<=n
theorem zeC:∀ (ps:List PyData),(PyData.shownAll ps).length=ps.length
 | []=>by rw[PyData.shownAll];rfl
 | p::ps=>by rw[PyData.shownAll,List.length_cons,zeC ps,List.length_cons]
theorem Rp.up {d:D}{n k n' k':Nat}(h:Rp d n k)(hn:n<=n')(hk:k<=k'):Rp d n' k':=by
 obtain⟨p,h1,h2,h3,h4⟩:=h
 exact⟨p,h1,h2,Nat.le_trans h3 hk,Nat.le_trans h4 hn⟩
theorem Rps.nil {k:Nat}:Rps [] 0 k:=⟨[],rfl,rfl,rfl,by rw[PyData.depthAll];omega,by rw[PyData.shownAll];exact Nat.le_refl _⟩
theorem Rps.cons {d:D}{ds:List D}{a n k:Nat}(h:Rp d a k)(t:Rps ds n k):Rps (d::ds) (a+n) k:=by
 obtain⟨p,h1,h2,h3,h4⟩:=h
 obtain⟨ps,t1,t2,t3,t4,t5⟩:=t
 refine⟨p::ps,by rw[toPys,h1,t1],by rw[List.length_cons,t2,List.length_cons],by rw[PyData.showableAll,h2,t3];rfl,?_,?_⟩
 ·rw[PyData.depthAll];omega
 ·rw[PyData.shownAll,List.map_cons,List.sum_cons];omega
theorem Rps.all {a k:Nat}:∀ {ds:List D},(∀ d∈ds,Rp d a k)->Rps ds (a*ds.length) k:=by
 intro ds
 induction ds with
 | nil=>intro _;exact Rps.nil
 | cons d ds ih =>
  intro h
  have:=Rps.cons (h d (List.mem_cons_self ..)) (ih fun x hx=>h x (List.mem_cons_of_mem _ hx))
  rw[List.length_cons,Nat.mul_add,Nat.mul_one,Nat.add_comm]
  exact this
theorem Rp.lst {ds:List D}{n k:Nat}(h:Rps ds n k):Rp (.lst ds) (n+2*ds.length+3) (k+1):=by
 obtain⟨ps,t1,t2,t3,t4,t5⟩:=h
 refine⟨.list ps,by rw[zhH,t1];rfl,by rw[PyData.showable];exact t3,by rw[PyData.depth];omega,?_⟩
 rw[PyData.shown]
 have:=listText_len_le (PyData.shownAll ps)
 rw[zeC] at this
 omega
theorem Rp.tup {ds:List D}{n k:Nat}(h:Rps ds n k):Rp (.tup ds) (n+2*ds.length+3) (k+1):=by
 obtain⟨ps,t1,t2,t3,t4,t5⟩:=h
 refine⟨.tuple ps,by rw[zhH,t1];rfl,by rw[PyData.showable];exact t3,by rw[PyData.depth];omega,?_⟩
 rw[PyData.shown]
 have:=tupleText_len_le (PyData.shownAll ps)
 rw[zeC] at this
 omega
theorem Rp.non:Rp .non 4 0:=⟨.none,by rw[zhH],by rw[PyData.showable],by rw[PyData.depth];omega,by rw[PyData.shown,PySem.ofString_length];decide⟩
theorem Rp.bl {b:Bool}:Rp (.bl b) 5 0:=⟨.bool b,by rw[zhH],by rw[PyData.showable],by rw[PyData.depth]<;>simp,by rw[PyData.shown];cases b<;>simp [PySem.ofString_length]<;>decide⟩
theorem Rp.int {i:Int}(h:i.natAbs < 2 ^ 200):Rp (.int i) 201 0:=by
 refine⟨.int i,by rw[zhH],?_,by rw[PyData.depth]<;>simp,?_⟩
 ·rw[PyData.showable]
  refine decide_eq_true ?_
  by_cases h0:i.natAbs=0
  ·rw[h0];decide
  ·exact Nat.lt_trans ((Nat.log2_lt h0).mpr h) (by decide)
 ·rw[PyData.shown,PySem.ofString_length]
  cases i with
  | ofNat m =>
   have:=nat_repr_length_le (n:=m) (k:=200) (by decide) h
   show(Nat.repr m).length<=201
   omega
  | negSucc m =>
   have:=nat_repr_length_le (n:=m+1) (k:=200) (by decide) h
   show("-"++Nat.repr (m+1)).length<=201
   rw[String.length_append]
   have h1 : "-".length=1:=rfl
   omega
theorem Rp.str {z:Str}{n:Nat}(hl:z.length<=n)(h:∀ c∈z.cps.toList,c < 16 ^ 8):Rp (.str z) (10*n+2) 0:=by
 refine⟨.str z,by rw[zhH],by rw[PyData.showable],by rw[PyData.depth]<;>simp,?_⟩
 rw[PyData.shown]
 have:=StrLaws.reprText_len z h
 omega
theorem Rp.emp {k:Nat}:Rp (.dic [] []) 100 1:=by
 refine⟨.dict [],by rw[zhH];rfl,by rw[PyData.showable,PyData.showableKv],by rw[PyData.depth,PyData.depthKv];omega,?_⟩
 rw[PyData.shown,PyData.shownKv]
 exact(show(dictText []).length<=100 by decide +kernel)
theorem Rp.repr {ds:List D}{n k:Nat}(h:Rp (.lst ds) n k)(hn:n<=sizeLine)(hk:k<=100):∃ z,zko (.lst ds)=.ok (.str z):=by
 obtain⟨p,h1,h2,h3,h4⟩:=h
 refine⟨p.shown,?_⟩
 unfold zko
 rw[h1]
 show(if _ then _ else _)=_
 have hs:zkQ p=true:=by
  unfold zkQ
  rw[h2,decide_eq_true (Nat.le_trans h3 hk),decide_eq_true (Nat.le_trans h4 hn)]
  rfl
 rw[if_pos ⟨rfl,hs⟩]
end DL
namespace Bor
open PySem L2 DL Com
theorem zll {α β γ:Type}:∀ (l:List α) (b:β×γ),List.foldl (fun b _=>(b.1,b.2)) b l=b
 | [],_=>rfl
 | _::l,b=>zll l b
theorem zmA:∀ c∈abc.cps.toList,c < 16 ^ 8:=by decide +kernel
theorem zxw {c:Nat}(h:zli c=true):c < 16 ^ 8:=by
 refine Nat.lt_of_not_le fun hc=>?_
 have hs:∀ i,Builtin.Str.subAt abc ⟨#[c]⟩ i=false:=by
  intro i
  unfold Builtin.Str.subAt
  rw[beq_eq_false_iff_ne]
  intro e
  have:c∈(abc.cps.extract i (i+(⟨#[c]⟩:Str).length)):=by rw[e];simp
  have h2:c∈abc.cps:=by
   obtain⟨j,hj,e⟩:=Array.mem_iff_getElem.mp this
   rw[Array.getElem_extract] at e
   rw[← e];exact Array.getElem_mem _
  have:=zmA c (Array.mem_toList_iff.mpr h2)
  omega
 have:Builtin.Str.occurrences abc ⟨#[c]⟩ 0 abc.length 1=[]:=by
  unfold Builtin.Str.occurrences
  simp [hs,zll]
 unfold zli occ at h
 rw[this] at h
 cases h
theorem zh4 {z:Str}(h:nameB z=true):Rp (.str z) 82 0:=by
 unfold nameB at h
 simp only[Bool.and_eq_true,decide_eq_true_eq,List.all_eq_true] at h
 refine Rp.str (n:=8) h.2.1 fun c hc=>?_
 exact zxw (h.2.2 c hc)
theorem zs1 {x:Fra}(h:zhE x):Rp (fr x) 409 1:=by
 have hN:N60<=2 ^ 200:=by decide
 have h1:=h.pN
 have h2:=h.qN
 exact(Rp.tup (Rps.cons (Rp.int (Nat.lt_of_lt_of_le h1 hN)) (Rps.cons (Rp.int (Nat.lt_of_lt_of_le h2 hN)) Rps.nil))).up (by simp) (Nat.le_refl _)
theorem zwc {zs:List Str}{t:Tie}(h:zoH zs t)(hz:∀ z∈zs,nameB z=true):Rp (zdu t) 1100 2:=by
 have ha:=(zh4 (hz _ h.a)).up (k':=1) (Nat.le_refl _) (by decide)
 have hb:=(zh4 (hz _ h.b)).up (k':=1) (Nat.le_refl _) (by decide)
 have hw:Rp (.str t.w) 82 1:=by
  rcases h.w with e | e<;>rw[e]
  ·exact(Rp.str (n:=8) (by decide) (by decide)).up (by decide) (by decide)
  ·exact(Rp.str (n:=8) (by decide) (by decide)).up (by decide) (by decide)
 have hl:=zs1 h.l
 have ho:Rp (zfg t.o) 409 1:=by
  cases e:t.o with
  | none=>exact Rp.non.up (by decide) (by decide)
  | some x=>exact zs1 (h.o x e).1
 exact(Rp.tup (Rps.cons ha (Rps.cons hb (Rps.cons hw (Rps.cons hl (Rps.cons ho Rps.nil)))))).up (by simp) (Nat.le_refl _)
theorem zrw {ds:List Str}{n:Nat}(hl:ds.length<=n)(h:∀ z∈ds,nameB z=true):Rp (.lst (ds.map D.str)) (84*n+3) 1:=by
 have:=Rp.lst (Rps.all (a:=82) (k:=0) (ds:=ds.map D.str) fun d hd=>by
  obtain⟨z,hz,rfl⟩:=List.mem_map.mp hd
  exact zh4 (h z hz))
 rw[List.length_map] at this
 exact this.up (by omega) (Nat.le_refl _)
theorem zwa {w:Web}(W:zcR w):Rp (zba w) 20000 4:=by
 have h1:=(zrw W.n7 W.nm.nm).up (k':=3) (Nat.le_refl _) (by decide)
 have h2:Rp (.lst (w.ts.map zdu)) 15700 3:=by
  have:=Rp.lst (Rps.all (a:=1100) (k:=2) (ds:=w.ts.map zdu) fun d hd=>by
   obtain⟨t,ht,rfl⟩:=List.mem_map.mp hd
   exact zwc (W.ts t ht) W.nm.nm)
  rw[List.length_map] at this
  have t14:=W.t14
  exact this.up (by omega) (Nat.le_refl _)
 have h3:=(zh4 (W.nm.nm _ W.fi)).up (k':=3) (Nat.le_refl _) (by decide)
 have h4:=(zh4 (W.nm.nm _ W.la)).up (k':=3) (Nat.le_refl _) (by decide)
 exact(Rp.tup (Rps.cons h1 (Rps.cons h2 (Rps.cons h3 (Rps.cons h4 Rps.nil))))).up (by simp) (Nat.le_refl _)
end Bor
namespace K11
open PySem L2 DL
abbrev zap:Addr->List D->List D->Res (D×List D):=Bor.zap
def zcE:Ev->Res Fl :=
 (zar (sIf (zac (zac (zae 0) (dC (.int 0)) dIx) (zae 1) dEq)
 (zar (zco (zac (zae 0) (dC (.int 1)) dIx))
 zal)
 zal)
 (zar (sIf (zhr (zac (zac (zae 0) (dC (.int 1)) dIx) (zae 1) dEq) (zac (zac (zae 0) (dC (.int 2)) dIx) (dC (.str "both")) dEq))
 (zar (zco (zac (zae 0) (dC (.int 0)) dIx))
 zal)
 zal)
 (zar (zco (dC (.non)))
 zal)))
def zaJ:List D->Res D:=zdz 2 zcE
def zee:Addr->Ev->List D->Res MFl:=fun a =>
 (zbl (zcd (zbN 3 (zac (zae 1) (dC (.int 2)) dIx)))
 (zbl (zcd (zje 4 (zan (zad (zae 3) zaz) zdQ)))
 (zbl (zcd (zje 5 (zan zaz zdQ)))
 (zbl (zp4 (fun _=>8) (mT (zac (zae 3) (zac (zae 1) (dC (.int 3)) dIx) dNe))
 (zbl (zcd (zje 6 (zan zaz zdQ)))
 (zbl (zcd (zlZ (zan (zad (zac (zae 1) (dC (.int 1)) dIx) zaz) (m1 ze9)) (zcV 7)
 (zar (zbN 8 (zan (zad (zac (zac (zae 1) (dC (.int 1)) dIx) (zae 7) dIx) (zad (zae 3) zaz)) zaJ))
 (zar (sIf (zhr (zac (zae 8) (dC (.non)) zgi) (zhr (zac (zae 8) (zae 4) zbW) (zac (zae 7) (zae 2) zbW)))
 (zar (zbX 6 (zae 7))
 zal)
 zal)
 zal))))
 (zbl (zut 6 (mIf (mT (zac (zae 6) (zan zaz zdQ) dEq))
 (zbl (zgN (zae 5))
 zbJ)
 zbJ))
 (zbl (zut 6 (zuu 5 (mB (mP (zae 6)) (zbr 0 a (zaU (mP (zan (zad (zae 6) zaz) (m1 ze9))) zdh) zap) dIx)))
 (zbl (zcd (zlX 3 (zan (zad (zac (zac (zae 1) (dC (.int 1)) dIx) (zac (zae 5) (zbv (dC (.int 1)) zoM) dIx) dIx) (zad (zae 3) zaz)) zaJ)))
 (zbl (zcd (zbX 4 (zae 3)))
 zbJ)))))))
 (zbl (zgN (zae 5))
 zbJ)))))
def zbf:Addr->List D->List D->Res (D×List D):=zq3 9 zee
def zaP:Ev->Res Fl :=
 (zar (sIf (dOr (zdD (zbv (zae 1) (zce "int"))) (zbv (zae 1) (zce "bool")))
 (zar (zco (dC (.bl false)))
 zal)
 zal)
 (zar (zco (zeT dLe dLt (dC (.int 0)) (zae 1) (zan (zad (zac (zae 0) (dC (.int 1)) dIx) zaz) (m1 ze9))))
 zal))
def zau:List D->Res D:=zdz 2 zaP
def za6:Ev->Res Fl :=
 (zar (sIf (zdD (zbv (zae 2) (zce "list")))
 (zar (zco (zan (zad (dC (.str "at")) (zad (dC (.non)) zaz)) zjl))
 zal)
 zal)
 (zar (zbN 3 (zac (zae 0) (dC (.int 2)) dIx))
 (zar (zje 4 (zan (zad (zae 3) zaz) zdQ))
 (zar (zlZ (zan (zad (zae 2) zaz) (m1 ze9)) (zcV 5)
 (zar (zbN 6 (zac (zae 2) (zae 5) dIx))
 (zar (zbN 7 (dC (.non)))
 (zar (sIf (zhr (zac (zae 3) (zac (zae 0) (dC (.int 3)) dIx) dNe) (zhr (zan (zad (zae 0) (zad (zae 6) zaz)) zau) (zac (zae 6) (zae 1) zbW)))
 (zar (zbN 7 (zan (zad (zac (zac (zae 0) (dC (.int 1)) dIx) (zae 6) dIx) (zad (zae 3) zaz)) zaJ))
 zal)
 zal)
 (zar (sIf (dOr (zac (zae 7) (dC (.non)) zlM) (zac (zae 7) (zae 4) dIn))
 (zar (zco (zan (zad (dC (.str "at")) (zad (zae 5) zaz)) zjl))
 zal)
 zal)
 (zar (zbN 3 (zae 7))
 (zar (zbX 4 (zae 3))
 zal)))))))
 (zar (sIf (zac (zae 3) (zac (zae 0) (dC (.int 3)) dIx) dNe)
 (zar (zco (zan (zad (dC (.str "at")) (zad (zan (zad (zae 2) zaz) (m1 ze9)) zaz)) zjl))
 zal)
 zal)
 (zar (zco (zan (zad (dC (.str "way")) (zad (zae 4) zaz)) zjl))
 zal))))))
def zaA:List D->Res D:=zdz 8 za6
abbrev zao:List D->Res D:=Com.zao
def zec:Ev->Res Fl :=
 (zar (zbN 1 (zan (zad (zac (zae 0) (dC (.int 0)) dIx) (zad (zac (zae 0) (dC (.int 1)) dIx) zaz)) zjl))
 (zar (sIf (zac (zac (zae 0) (dC (.int 2)) dIx) (dC (.str "one")) dEq)
 (zar (zco (zan (zad (zae 1) zaz) zdQ))
 zal)
 zal)
 (zar (zco (zan (zad (zae 1) (zad (zan (zad (zac (zae 0) (dC (.int 1)) dIx) (zad (zac (zae 0) (dC (.int 0)) dIx) zaz)) zjl) zaz)) zdQ))
 zal)))
def zbw:List D->Res D:=zdz 2 zec
def zbp:Ev->Res Fl :=
 (zar (sIf (dOr (zac (zac (zae 2) (zbv (dC (.int 1)) zoM) dIx) (zac (zae 0) (dC (.int 3)) dIx) dEq) (dOr (zdD (zan (zad (zae 0) (zad (zae 3) zaz)) zao)) (zac (zae 3) (zae 1) dIn)))
 (zar (zco (dC (.non)))
 zal)
 zal)
 (zar (zpt (zan (zad (zac (zac (zae 0) (dC (.int 1)) dIx) (zae 3) dIx) zaz) zbw) (zlk [4,5])
 (zar (sIf (zhr (zac (zae 4) (zac (zae 2) (zbv (dC (.int 1)) zoM) dIx) dEq) (zac (zae 5) (zae 2) zbW))
 (zar (zco (zae 5))
 zal)
 zal)
 zal))
 (zar (zco (dC (.non)))
 zal)))
def zaF:List D->Res D:=zdz 6 zbp
end K11
namespace K11
open PySem L2 DL Com
def there (t:Tie)(z:Str):Option Str:=if t.a=z then some t.b else if t.b=z/\t.w="both" then some t.a else none
def oS:Option Str->D
 | some z=>.str z
 | none=>.non
theorem zcD {x y:Str}:dEq (.str x) (.str y)=.ok (.bl (decide (x=y))):=by
 have h:dEq (.str x) (.str y)=.ok (.bl (x==y)):=rfl
 rw[h]
 by_cases e:x=y
 ·rw[decide_eq_true e,e,beq_self_eq_true]
 ·rw[decide_eq_false e,beq_eq_false_iff_ne.mpr e]
theorem zhI {t:Tie}{z:Str}:zaJ [zdu t,.str z]=.ok (oS (there t z)):=by
 obtain⟨a,b,w,l,o⟩:=t
 rw[show zdu ⟨a,b,w,l,o⟩=.tup [.str a,.str b,.str w,fr l,zfg o] from rfl]
 unfold there
 by_cases h1:a=z
 ·rw[if_pos h1]
  open_line with[zaJ,zcE,zcD,decide_eq_true h1,oS]
 ·rw[if_neg h1]
  by_cases h2:b=z
  ·by_cases h3:w="both"
   ·rw[if_pos ⟨h2,h3⟩]
    open_line with[zaJ,zcE,zcD,decide_eq_false h1,decide_eq_true h2,decide_eq_true h3,oS]
   ·rw[if_neg (fun h=>h3 h.2)]
    open_line with[zaJ,zcE,zcD,decide_eq_false h1,decide_eq_true h2,decide_eq_false h3,oS]
  ·rw[if_neg (fun h=>h2 h.1)]
   open_line with[zaJ,zcE,zcD,decide_eq_false h1,decide_eq_false h2,oS]
def ways (t:Tie):List (Str×Str):=if t.w="one" then[(t.a,t.b)] else[(t.a,t.b),(t.b,t.a)]
def pr (p:Str×Str):D:=.tup [.str p.1,.str p.2]
theorem zmQ {t:Tie}:zbw [zdu t]=.ok (.lst ((ways t).map pr)):=by
 obtain⟨a,b,w,l,o⟩:=t
 rw[show zdu ⟨a,b,w,l,o⟩=.tup [.str a,.str b,.str w,fr l,zfg o] from rfl]
 unfold ways
 by_cases h:w="one"
 ·rw[if_pos h]
  open_line with[zbw,zec,zcD,decide_eq_true h,pr]
 ·rw[if_neg h]
  open_line with[zbw,zec,zcD,decide_eq_false h,pr]
theorem zhU {m:Nat}{ks:List Nat}:(ks.map fun(k:Nat)=>D.int (k:Int)).all (zbs m)=true:=List.all_eq_true.mpr fun d hd=>by
 obtain⟨z,_,rfl⟩:=List.mem_map.mp hd
 cases m<;>rfl
theorem zmz {n:Nat}:∀ {ks:List Nat},((ks.map fun(k:Nat)=>D.int (k:Int)).any fun d=>eqD d (.int (n:Int)))=decide (n∈ks)
 | []=>rfl
 | k::ks=>by
  rw[List.map_cons,List.any_cons,zmz]
  have e:eqD (.int (k:Int)) (.int (n:Int))=((k:Int)==(n:Int)):=by rw[eqD]
  rw[e]
  by_cases h:n=k
  ·subst h;simp
  ·have h1:((k:Int)==(n:Int))=false:=beq_eq_false_iff_ne.mpr (by omega)
   rw[h1,Bool.false_or]
   have:n∈k::ks↔n∈ks:=by simp [h]
   exact decide_eq_decide.mpr this.symm
theorem zml {ks:List Nat}{n:Nat}:dIn (.int (n:Int)) (.lst (ks.map fun(k:Nat)=>D.int (k:Int)))=.ok (.bl (decide (n∈ks))):=by
 have e:inD (.int (n:Int)) (.lst (ks.map fun(k:Nat)=>D.int (k:Int)))=some (decide (n∈ks)):=(if_pos ⟨rfl,zhU⟩).trans (congrArg some zmz)
 unfold dIn
 rw[e]
theorem zcT {ks:List Nat}{n:Nat}:zbW (.int (n:Int)) (.lst (ks.map fun(k:Nat)=>D.int (k:Int)))=.ok (.bl (!(decide (n∈ks)))):=by
 have e:inD (.int (n:Int)) (.lst (ks.map fun(k:Nat)=>D.int (k:Int)))=some (decide (n∈ks)):=(if_pos ⟨rfl,zhU⟩).trans (congrArg some zmz)
 unfold zbW
 rw[e]
theorem zn9 {w:Web}:Com.zao [zba w,.dic [] []]=.ok (.bl false):=by
 rw[show zba w=.tup [.lst (w.ps.map D.str),.lst (w.ts.map zdu),.str w.fi,.str w.la] from rfl]
 open_line with[Com.zao,Com.zaN,zaZ,isI]
def zqk (w:Web)(ks:List Nat)(seen:List Str)(here:Str)(d:D):Option Str :=
 if here=w.la then none else match d with
 | .int n=>if 0<=n/\n < (w.ts.length:Int)/\n.toNat∉ks then match w.ts[n.toNat]? with
   | some t=>match there t here with
    | some y=>if y∈seen then none else some y
    | none=>none
   | none=>none
  else none
 | _=>none
def zbA (seen:List Str)(here:Str):List (Str×Str)->Option Str
 | []=>none
 | p::r=>if p.1=here/\p.2∉seen then some p.2 else zbA seen here r
theorem zmo {t:Tie}{seen:List Str}{here:Str}(ne:t.a≠t.b)(hw:t.w="one"∨t.w="both"):zbA seen here (ways t)=match there t here with
  | some y=>if y∈seen then none else some y
  | none=>none:=by
 unfold ways there
 by_cases h:t.w="one"
 ·have hb:t.w≠"both":=by rw[h];decide
  rw[if_pos h]
  by_cases h1:t.a=here
  ·rw[if_pos h1]
   by_cases h2:t.b∈seen
   ·simp [zbA,h2]
   ·simp [zbA,h1,h2]
  ·rw[if_neg h1,if_neg (fun z=>hb z.2)]
   simp [zbA,h1]
 ·have hb:t.w="both":=hw.resolve_left h
  rw[if_neg h]
  by_cases h1:t.a=here
  ·have h3:t.b≠here:=fun z=>ne (h1.trans z.symm)
   rw[if_pos h1]
   by_cases h2:t.b∈seen
   ·simp [zbA,h2,h3]
   ·simp [zbA,h1,h2]
  ·rw[if_neg h1]
   by_cases h3:t.b=here
   ·rw[if_pos ⟨h3,hb⟩]
    by_cases h2:t.a∈seen
    ·simp [zbA,h1,h2]
    ·simp [zbA,h1,h2,h3]
   ·rw[if_neg (fun z=>h3 z.1)]
    simp [zbA,h1,h3]
def Elt (d:D):Prop:=Wex.plainD d=true∨d=.dic [] []
abbrev zpK:Ev->Res Fl:=(zar (sIf (zhr (zac (zae 4) (zac (zae 2) (zbv (dC (.int 1)) zoM) dIx) dEq) (zac (zae 5) (zae 2) zbW))
 (zar (zco (zae 5))
 zal)
 zal)
 zal)
theorem zc6 {pre:List Str}{here:Str}:dIx (.lst ((pre++[here]).map D.str)) (.int (-1))=.ok (.str here):=by
 rw[List.map_append]
 exact zqa
theorem zpJ {pre:List Str}{here:Str}{x0 x1 d:D}:∀ (ps:List (Str×Str)) (x4 x5:Sl),
  (∃ y,zbA (pre++[here]) here ps=some y/\zcB (zlk [4,5]) zpK (ps.map pr) [.sh x0,.sh x1,.sh (.lst ((pre++[here]).map D.str)),.sh d,x4,x5]=.ok (.rt (.str y))) ∨
  (zbA (pre++[here]) here ps=none/\∃ y4 y5,zcB (zlk [4,5]) zpK (ps.map pr) [.sh x0,.sh x1,.sh (.lst ((pre++[here]).map D.str)),.sh d,x4,x5]=.ok (.nx [.sh x0,.sh x1,.sh (.lst ((pre++[here]).map D.str)),.sh d,y4,y5]))
 | [],x4,x5=>.inr ⟨rfl,x4,x5,rfl⟩
 | (p,q)::ps,x4,x5=>by
  have hg:zlk [4,5] [.sh x0,.sh x1,.sh (.lst ((pre++[here]).map D.str)),.sh d,x4,x5] (pr (p,q))=.ok [.sh x0,.sh x1,.sh (.lst ((pre++[here]).map D.str)),.sh d,.sh (.str p),.sh (.str q)]:=rfl
  rw[List.map_cons]
  unfold zcB
  rw[hg]
  by_cases h1:p=here
  ·by_cases h2:q∈pre++[here]
   ·have hb:zpK [.sh x0,.sh x1,.sh (.lst ((pre++[here]).map D.str)),.sh d,.sh (.str p),.sh (.str q)]=.ok (.nx [.sh x0,.sh x1,.sh (.lst ((pre++[here]).map D.str)),.sh d,.sh (.str p),.sh (.str q)]):=by
     open_line with[zc6,zcD,decide_eq_true h1,zcS,decide_eq_true h2]
    have hf:zbA (pre++[here]) here ((p,q)::ps)=zbA (pre++[here]) here ps:=by
     rw[zbA,if_neg (fun z=>z.2 h2)]
    rw[hf]
    simp only[Res.bind,hb]
    exact zpJ ps _ _
   ·have hb:zpK [.sh x0,.sh x1,.sh (.lst ((pre++[here]).map D.str)),.sh d,.sh (.str p),.sh (.str q)]=.ok (.rt (.str q)):=by
     open_line with[zc6,zcD,decide_eq_true h1,zcS,decide_eq_false h2]
    refine .inl ⟨q,?_,?_⟩
    ·rw[zbA,if_pos ⟨h1,h2⟩]
    ·simp only[Res.bind,hb]
  ·have hb:zpK [.sh x0,.sh x1,.sh (.lst ((pre++[here]).map D.str)),.sh d,.sh (.str p),.sh (.str q)]=.ok (.nx [.sh x0,.sh x1,.sh (.lst ((pre++[here]).map D.str)),.sh d,.sh (.str p),.sh (.str q)]):=by
    open_line with[zc6,zcD,decide_eq_false h1]
   have hf:zbA (pre++[here]) here ((p,q)::ps)=zbA (pre++[here]) here ps:=by
    rw[zbA,if_neg (fun z=>h1 z.1)]
   rw[hf]
   simp only[Res.bind,hb]
   exact zpJ ps _ _
theorem zqT {w:Web}(W:zcR w){ks:List Nat}{pre:List Str}{here:Str}{d:D}(hd:Elt d):zaF [zba w,zcL ks,.lst ((pre++[here]).map D.str),d]=.ok (oS (zqk w ks (pre++[here]) here d)):=by
 have i3:dIx (zba w) (.int 3)=.ok (.str w.la):=rfl
 have i1:dIx (zba w) (.int 1)=.ok (.lst (w.ts.map zdu)):=rfl
 unfold zqk
 by_cases h0:here=w.la
 ·rw[if_pos h0]
  open_line with[zaF,zbp,zc6,i3,zcD,decide_eq_true h0,oS]
 rw[if_neg h0]
 by_cases hi:∃ n,d=.int n
 ·obtain⟨n,rfl⟩:=hi
  have hn:zao [zba w,.int n]=.ok (.bl (decide (0<=n)&&decide (n < (w.ts.length:Int)))):=Wex.number_int
  by_cases h1:0<=n/\n < (w.ts.length:Int)
  ·obtain⟨k,rfl⟩:=Int.eq_ofNat_of_zero_le h1.1
   rw[decide_eq_true h1.1,decide_eq_true h1.2] at hn
   have hkt:((k:Int)).toNat=k:=by omega
   by_cases h2:k∈ks
   ·simp only[hkt]
    rw[if_neg (fun z=>z.2.2 h2)]
    open_line with[zaF,zbp,zc6,i3,zcD,decide_eq_false h0,hn,zcL,zml,decide_eq_true h2,oS]
   ·simp only[hkt]
    rw[if_pos ⟨h1.1,h1.2,h2⟩]
    have hk:k < w.ts.length:=by omega
    have ht:w.ts[k]?=some w.ts[k]:=List.getElem?_eq_getElem hk
    have hix:=zi9 ht
    have tk:=W.ts w.ts[k] (List.getElem_mem hk)
    rw[ht]
    simp only
    rw[← zmo tk.ne tk.w]
    rcases zpJ (x0:=zba w) (x1:=.lst (ks.map fun(k:Nat)=>D.int (k:Int))) (d:=.int (k:Int)) (pre:=pre) (here:=here) (ways w.ts[k]) .no .no with⟨y,e1,e2⟩ | ⟨e1,y4,y5,e2⟩
    ·rw[e1]
     open_line with[zaF,zbp,zc6,i3,zcD,decide_eq_false h0,hn,zcL,zml,decide_eq_false h2,i1,hix,zmQ,e2,oS]
    ·rw[e1]
     open_line with[zaF,zbp,zc6,i3,zcD,decide_eq_false h0,hn,zcL,zml,decide_eq_false h2,i1,hix,zmQ,e2,oS]
  ·have hf:(decide (0<=n)&&decide (n < (w.ts.length:Int)))=false:=by
    rw[Bool.and_eq_false_iff]
    by_cases h2:0<=n
    ·exact .inr (decide_eq_false fun z=>h1 ⟨h2,z⟩)
    ·exact .inl (decide_eq_false h2)
   rw[hf] at hn
   simp only
   rw[if_neg (fun z=>h1 ⟨z.1,z.2.1⟩)]
   open_line with[zaF,zbp,zc6,i3,zcD,decide_eq_false h0,hn,oS]
 ·have hn:zao [zba w,d]=.ok (.bl false):=by
   rcases hd with hd | rfl
   ·exact Wex.number_odd hd fun n z=>hi ⟨n,z⟩
   ·exact zn9
  have key:zaF [zba w,zcL ks,.lst ((pre++[here]).map D.str),d]=.ok .non:=by
   open_line with[zaF,zbp,zc6,i3,zcD,decide_eq_false h0,hn]
  rw[key]
  cases d with
  | int n=>exact absurd ⟨n,rfl⟩ hi
  | _=>rfl
theorem zqd {w:Web}{n:Int}:zau [zba w,.int n]=.ok (.bl (decide (0<=n)&&decide (n < (w.ts.length:Int)))):=by
 have i1:dIx (zba w) (.int 1)=.ok (.lst (w.ts.map zdu)):=rfl
 cases h:decide ((0:Int)<=n) with
 | false=>open_line with[zau,zaP,i1,List.length_map,h,Bool.false_and]
 | true=>open_line with[zau,zaP,i1,List.length_map,h,Bool.true_and]
theorem zqc {w:Web}{d:D}(hd:Elt d)(hi:¬ ∃ n,d=.int n):zau [zba w,d]=.ok (.bl false):=by
 rcases hd with hd | rfl
 ·cases d with
  | int n=>exact absurd ⟨n,rfl⟩ hi
  | non=>open_line with[zau,zaP]
  | bl b=>open_line with[zau,zaP]
  | str b=>open_line with[zau,zaP]
  | tup b=>open_line with[zau,zaP]
  | lst b=>open_line with[zau,zaP]
  | _=>cases hd
 ·open_line with[zau,zaP]
abbrev zrg:Ev->Res Fl:=(zar (zbN 6 (zac (zae 2) (zae 5) dIx))
 (zar (zbN 7 (dC (.non)))
 (zar (sIf (zhr (zac (zae 3) (zac (zae 0) (dC (.int 3)) dIx) dNe) (zhr (zan (zad (zae 0) (zad (zae 6) zaz)) zau) (zac (zae 6) (zae 1) zbW)))
 (zar (zbN 7 (zan (zad (zac (zac (zae 0) (dC (.int 1)) dIx) (zae 6) dIx) (zad (zae 3) zaz)) zaJ))
 zal)
 zal)
 (zar (sIf (dOr (zac (zae 7) (dC (.non)) zlM) (zac (zae 7) (zae 4) dIn))
 (zar (zco (zan (zad (dC (.str "at")) (zad (zae 5) zaz)) zjl))
 zal)
 zal)
 (zar (zbN 3 (zae 7))
 (zar (zbX 4 (zae 3))
 zal))))))
theorem zdL {x y:Str}:dNe (.str x) (.str y)=.ok (.bl (!(decide (x=y)))):=by
 have h:dNe (.str x) (.str y)=.ok (.bl (!(x==y))):=rfl
 rw[h]
 by_cases e:x=y
 ·rw[decide_eq_true e,e,beq_self_eq_true]
 ·rw[decide_eq_false e,beq_eq_false_iff_ne.mpr e]
def wEv (w:Web)(ks:List Nat)(th:List D)(here:Str)(seen:List Str)(x5 x6 x7:Sl):Ev:=[.sh (zba w),.sh (.lst (ks.map fun(k:Nat)=>D.int (k:Int))),.sh (.lst th),.sh (.str here),.ow (.lst (seen.map D.str)),x5,x6,x7]
theorem zvD {w:Web}{ks:List Nat}{th:List D}{here:Str}{pre:List Str}{i:Nat}{d:D}{x6 x7:Sl}(hd:Elt d)(hi:th[i]?=some d)(hl:pre.length<=900) :
  zrg (wEv w ks th here (pre++[here]) (.sh (.int (i:Int))) x6 x7)=match zqk w ks (pre++[here]) here d with
   | none=>.ok (.rt (.tup [.str "at",.int (i:Int)]))
   | some y=>.ok (.nx (wEv w ks th y (pre++[here]++[y]) (.sh (.int (i:Int))) (.sh d) (.sh (.str y)))):=by
 have i3:dIx (zba w) (.int 3)=.ok (.str w.la):=rfl
 have i1:dIx (zba w) (.int 1)=.ok (.lst (w.ts.map zdu)):=rfl
 have hix:dIx (.lst th) (.int (i:Int))=.ok d:=zjq hi
 have hap:decide (((pre++[here]).map D.str).length<=999)=true:=decide_eq_true (by simp;omega)
 unfold zqk wEv
 by_cases h0:here=w.la
 ·rw[if_pos h0]
  open_line with[hix,i3,zdL,decide_eq_true h0]
 rw[if_neg h0]
 by_cases hn:∃ n,d=.int n
 ·obtain⟨n,rfl⟩:=hn
  have e1:=zqd (w:=w) (n:=n)
  by_cases h1:0<=n/\n < (w.ts.length:Int)
  ·obtain⟨k,rfl⟩:=Int.eq_ofNat_of_zero_le h1.1
   rw[decide_eq_true h1.1,decide_eq_true h1.2] at e1
   have hkt:((k:Int)).toNat=k:=by omega
   by_cases h2:k∈ks
   ·simp only[hkt]
    rw[if_neg (fun z=>z.2.2 h2)]
    open_line with[hix,i3,zdL,decide_eq_false h0,e1,zcT,decide_eq_true h2]
   ·simp only[hkt]
    rw[if_pos ⟨h1.1,h1.2,h2⟩]
    have hk:k < w.ts.length:=by omega
    have ht:w.ts[k]?=some w.ts[k]:=List.getElem?_eq_getElem hk
    have hti:=zi9 ht
    rw[ht]
    simp only
    cases hth:there w.ts[k] here with
    | none =>
     have e2:=zhI (t:=w.ts[k]) (z:=here)
     rw[hth] at e2
     simp only[oS] at e2
     open_line with[hix,i3,zdL,decide_eq_false h0,e1,zcT,decide_eq_false h2,i1,hti,e2]
    | some y =>
     have e2:=zhI (t:=w.ts[k]) (z:=here)
     rw[hth] at e2
     simp only[oS] at e2
     by_cases h3:y∈pre++[here]
     ·simp only[if_pos h3]
      open_line with[hix,i3,zdL,decide_eq_false h0,e1,zcT,decide_eq_false h2,i1,hti,e2,zkb,decide_eq_true h3]
     ·simp only[if_neg h3]
      have hma:(pre++[here]++[y]).map D.str=(pre++[here]).map D.str++[.str y]:=by rw[List.map_append];rfl
      rw[hma]
      open_line with[hix,i3,zdL,decide_eq_false h0,e1,zcT,decide_eq_false h2,i1,hti,e2,zkb,decide_eq_false h3,ev_app1 hap]
  ·have hf:(decide (0<=n)&&decide (n < (w.ts.length:Int)))=false:=by
    rw[Bool.and_eq_false_iff]
    by_cases h2:0<=n
    ·exact .inr (decide_eq_false fun z=>h1 ⟨h2,z⟩)
    ·exact .inl (decide_eq_false h2)
   rw[hf] at e1
   simp only
   rw[if_neg (fun z=>h1 ⟨z.1,z.2.1⟩)]
   open_line with[hix,i3,zdL,decide_eq_false h0,e1]
 ·have e1:=zqc (w:=w) hd hn
  have key:zrg [.sh (zba w),.sh (.lst (ks.map fun(k:Nat)=>D.int (k:Int))),.sh (.lst th),.sh (.str here),.ow (.lst ((pre++[here]).map D.str)),.sh (.int (i:Int)),x6,x7]=.ok (.rt (.tup [.str "at",.int (i:Int)])):=by
   open_line with[hix,i3,zdL,decide_eq_false h0,e1]
  rw[key]
  cases d with
  | int n=>exact absurd ⟨n,rfl⟩ hn
  | _=>rfl
def zmK (w:Web)(ks:List Nat):List Str->Str->Nat->List D->Nat ⊕ List Str
 | pre,here,_,[]=>.inr (pre++[here])
 | pre,here,i,d::r=>match zqk w ks (pre++[here]) here d with
  | none=>.inl i
  | some y=>zmK w ks (pre++[here]) y (i+1) r
theorem zsT {w:Web}{ks:List Nat}{th:List D}(he:∀ d∈th,Elt d)(hl:th.length<=100):∀ (m i:Nat) (pre:List Str) (here:Str) (x5 x6 x7:Sl),i+m=th.length->pre.length=i ->
  match zmK w ks pre here i (th.drop i) with
  | .inl j=>zcB (zcV 5) zrg ((DL.intsFrom 0 th.length).drop i) (wEv w ks th here (pre++[here]) x5 x6 x7)=.ok (.rt (.tup [.str "at",.int (j:Int)]))
  | .inr seen=>∃ pre' here' x5' x6' x7',seen=pre'++[here']/\zcB (zcV 5) zrg ((DL.intsFrom 0 th.length).drop i) (wEv w ks th here (pre++[here]) x5 x6 x7)=.ok (.nx (wEv w ks th here' seen x5' x6' x7')):=by
 intro m
 induction m with
 | zero =>
  intro i pre here x5 x6 x7 him _
  have:i=th.length:=by omega
  subst this
  rw[List.drop_length,znn]
  exact⟨pre,here,x5,x6,x7,rfl,rfl⟩
 | succ m ih =>
  intro i pre here x5 x6 x7 him hpl
  have hi:i < th.length:=by omega
  rw[List.drop_eq_getElem_cons hi,zlh hi]
  have hb:=zvD (w:=w) (ks:=ks) (th:=th) (here:=here) (pre:=pre) (i:=i) (d:=th[i]) (x6:=x6) (x7:=x7) (he _ (List.getElem_mem hi)) (List.getElem?_eq_getElem hi) (by omega)
  have hg:zcV 5 (wEv w ks th here (pre++[here]) x5 x6 x7) (.int (i:Int))=.ok (wEv w ks th here (pre++[here]) (.sh (.int (i:Int))) x6 x7):=rfl
  unfold zmK zcB
  rw[hg]
  cases e:zqk w ks (pre++[here]) here th[i] with
  | none =>
   rw[e] at hb
   simp only[Res.bind,hb]
  | some y =>
   rw[e] at hb
   simp only[Res.bind,hb]
   exact ih (i+1) (pre++[here]) y _ _ _ (by omega) (by simp;omega)
def zos (w:Web)(n:Nat):Nat ⊕ List Str->Option Nat
 | .inl j=>some j
 | .inr seen=>if seen.getLast?=some w.la then none else some n
def zxK:Option Nat->List Str->D
 | some j,_=>.tup [.str "at",.int (j:Int)]
 | none,seen=>.tup [.str "way",.lst (seen.map D.str)]
theorem znV {w:Web}{ks:List Nat}{th:List D}(he:∀ d∈th,Elt d)(hl:th.length<=100):∃ seen,zaA [zba w,zcL ks,.lst th]=.ok (zxK (zos w th.length (zmK w ks [] w.fi 0 th)) seen):=by
 have i2:dIx (zba w) (.int 2)=.ok (.str w.fi):=rfl
 have i3:dIx (zba w) (.int 3)=.ok (.str w.la):=rfl
 have hlen:ze9 (.lst th)=.ok (.int th.length):=ev_lenL
 have h:=zsT (w:=w) (ks:=ks) he hl th.length 0 [] w.fi .no .no .no (by omega) rfl
 rw[List.drop_zero,List.drop_zero] at h
 unfold wEv at h
 simp only[List.nil_append,List.map_cons,List.map_nil] at h
 cases e:zmK w ks [] w.fi 0 th with
 | inl j =>
  rw[e] at h
  simp only at h
  refine⟨[],?_⟩
  simp only[zos,zxK]
  open_line with[zaA,za6,zcL,i2,hlen,ev_forR,zdn (show th.length<=1000000 by omega),h]
 | inr seen =>
  rw[e] at h
  simp only at h
  obtain⟨pre',here',x5',x6',x7',rfl,h⟩:=h
  refine⟨pre'++[here'],?_⟩
  simp only[zos,List.getLast?_append,List.getLast?_singleton,Option.some_or,Option.some.injEq]
  by_cases hc:here'=w.la
  ·rw[if_pos hc]
   simp only[zxK]
   open_line with[zaA,za6,zcL,i2,hlen,ev_forR,zdn (show th.length<=1000000 by omega),h,i3,zdL,decide_eq_true hc]
  ·rw[if_neg hc]
   simp only[zxK]
   open_line with[zaA,za6,zcL,i2,hlen,ev_forR,zdn (show th.length<=1000000 by omega),h,i3,zdL,decide_eq_false hc]
abbrev zuH:Ev->Res Fl:=(zar (zlX 6 (zan (zad (zae 0) (zad (zae 1) (zad (zae 3) (zad (zae 5) zaz)))) zaF))
 (zar (sIf (zac (zae 6) (dC (.non)) zlM)
 (zar (zfH "NoWay" ["at"] (zad (zae 4) zaz))
 zal)
 zal)
 (zar (zbX 3 (zae 6))
 zal)))
def gEv (w:Web)(ks:List Nat)(th:List D)(seen:List Str)(x4 x5 x6:Sl):Ev:=[.sh (zba w),.sh (zcL ks),.sh (.lst th),.ow (.lst (seen.map D.str)),x4,x5,x6]
def slF (i:Nat)(ρ:Ev)(d:D):Res Fl:=if zkE d=true then .ok (.nx (ρ.set i (.sh d))) else .stuck
theorem zqx {i:Nat}{f:Ev->Res D}{ρ:Ev}:zlX i f ρ=(f (shr ρ)).bind (slF i ρ):=zaq rfl
theorem zyI {i:Nat}{ρ:Ev}:slF i ρ .non=.ok (.nx (ρ.set i (.sh .non))):=zaq rfl
theorem zw7 {i:Nat}{ρ:Ev}{y:Str}:slF i ρ (.str y)=.ok (.nx (ρ.set i (.sh (.str y)))):=zaq rfl
theorem ev_exn {α β:Type}{x:Exn}{k:α->Res β}:(Res.exn x).bind k=.exn x:=zaq rfl
theorem zwX {w:Web}(W:zcR w){ks:List Nat}{th:List D}{here:Str}{pre:List Str}{i:Nat}{d:D}{x6:Sl}(hd:Elt d)(hl:pre.length<=900) :
  zuH (gEv w ks th (pre++[here]) (.sh (.int (i:Int))) (.sh d) x6)=match zqk w ks (pre++[here]) here d with
   | none=>.exn ⟨"NoWay",[("at",.int (i:Int))]⟩
   | some y=>.ok (.nx (gEv w ks th (pre++[here]++[y]) (.sh (.int (i:Int))) (.sh d) (.sh (.str y)))):=by
 have hp:=zqT W (ks:=ks) (pre:=pre) (here:=here) hd
 have hap:decide (((pre++[here]).map D.str).length<=999)=true:=decide_eq_true (by simp;omega)
 unfold gEv
 cases e:zqk w ks (pre++[here]) here d with
 | none =>
  rw[e] at hp
  simp only[oS] at hp
  open_line with[hp,zcC,zcb,ev_exn,zqx,zyI]
 | some y =>
  rw[e] at hp
  simp only[oS] at hp
  have hma:(pre++[here]++[y]).map D.str=(pre++[here]).map D.str++[.str y]:=by rw[List.map_append];rfl
  simp only[hma]
  open_line with[hp,ev_app1 hap,zqx,zw7]
theorem zf0:∀ (th:List D) (n i:Nat) (h:i < th.length),(numbered n th).drop i=.tup [.int ((n+i:Nat):Int),th[i]]::(numbered n th).drop (i+1)
 | d::th,n,0,h=>rfl
 | d::th,n,i+1,h=>by
  have:=zf0 th (n+1) i (by simpa using h)
  rw[DL.numbered,List.drop_succ_cons,this,List.drop_succ_cons,List.getElem_cons_succ,show n+1+i=n+(i+1) by omega]
theorem zwW {w:Web}(W:zcR w){ks:List Nat}{th:List D}(he:∀ d∈th,Elt d)(hl:th.length<=100):∀ (m i:Nat) (pre:List Str) (here:Str) (x4 x5 x6:Sl),i+m=th.length->pre.length=i ->
  match zmK w ks pre here i (th.drop i) with
  | .inl j=>zcB (zlk [4,5]) zuH ((numbered 0 th).drop i) (gEv w ks th (pre++[here]) x4 x5 x6)=.exn ⟨"NoWay",[("at",.int (j:Int))]⟩
  | .inr seen=>∃ pre' here' x4' x5' x6',seen=pre'++[here']/\zcB (zlk [4,5]) zuH ((numbered 0 th).drop i) (gEv w ks th (pre++[here]) x4 x5 x6)=.ok (.nx (gEv w ks th seen x4' x5' x6')):=by
 intro m
 induction m with
 | zero =>
  intro i pre here x4 x5 x6 him _
  have:i=th.length:=by omega
  subst this
  rw[List.drop_length,List.drop_of_length_le (by rw[zdl];exact Nat.le_refl _)]
  exact⟨pre,here,x4,x5,x6,rfl,rfl⟩
 | succ m ih =>
  intro i pre here x4 x5 x6 him hpl
  have hi:i < th.length:=by omega
  rw[List.drop_eq_getElem_cons hi,zf0 th 0 i hi,Nat.zero_add]
  have hb:=zwX W (ks:=ks) (th:=th) (here:=here) (pre:=pre) (i:=i) (d:=th[i]) (x6:=x6) (he _ (List.getElem_mem hi)) (by omega)
  have hg:zlk [4,5] (gEv w ks th (pre++[here]) x4 x5 x6) (.tup [.int (i:Int),th[i]])=.ok (gEv w ks th (pre++[here]) (.sh (.int (i:Int))) (.sh th[i]) x6):=rfl
  unfold zmK zcB
  rw[hg]
  cases e:zqk w ks (pre++[here]) here th[i] with
  | none =>
   rw[e] at hb
   simp only[Res.bind,hb]
  | some y =>
   rw[e] at hb
   simp only[Res.bind,hb]
   exact ih (i+1) (pre++[here]) y _ _ _ (by omega) (by simp;omega)
def zfI (d:D):Exn:=⟨"NoWay",[("at",d)]⟩
theorem zlR {w:Web}{ks:List Nat}{d:D}(hd:Elt d)(hl:∀ ds,d≠.lst ds):zaA [zba w,zcL ks,d]=.ok (.tup [.str "at",.non]):=by
 rcases hd with hd | rfl
 ·cases d with
  | lst ds=>exact absurd rfl (hl ds)
  | non=>open_line with[zaA,za6]
  | bl b=>open_line with[zaA,za6]
  | int b=>open_line with[zaA,za6]
  | str b=>open_line with[zaA,za6]
  | tup b=>open_line with[zaA,za6]
  | _=>cases hd
 ·open_line with[zaA,za6]
theorem zy0 {ρ:Ev}:zgy (dC (.int 2)) ρ=.ok (DL.intsFrom 0 2):=zaq rfl
theorem zsq {j:Int}:dEq (.lst [.tup [.str "at",.int j],.tup [.str "at",.int j]]) (.lst [.tup [.str "at",.int j],.tup [.str "at",.int j]])=.ok (.bl true):=by
 unfold dEq
 rw[if_pos ⟨rfl,rfl⟩]
 simp [eqD,eqDs]
end K11
namespace K11
open PySem L2 DL Com Bor
theorem p30:znK (.int 10) (.int 30)=.ok (.int 1000000000000000000000000000000):=zaq rfl
def zhD (d:D):Prop:=(∃ n:Int,d=.int n/\n.natAbs<=1000000000000000000000000000000)∨d=.bl true∨d=.bl false∨d=.non∨d=.str "0"∨d=.str "a"∨d=.tup [.int 0]∨d=.lst [.int 0]∨d=.dic [] []
theorem zhD.elt {d:D}(h:zhD d):Elt d:=by
 rcases h with⟨n,rfl,_⟩ | rfl | rfl | rfl | rfl | rfl | rfl | rfl | rfl
 ·exact .inl rfl
 ·exact .inl rfl
 ·exact .inl rfl
 ·exact .inl rfl
 ·exact .inl rfl
 ·exact .inl rfl
 ·exact .inl rfl
 ·exact .inl rfl
 ·exact .inr rfl
theorem zu7 {ws:List D}{lo hi:Option Int}:∀ d∈zdj ws lo hi,d∈ws:=fun d hd=>by
 unfold zdj at hd
 exact List.mem_of_mem_drop (List.mem_of_mem_take hd)
theorem zmt {ws:List D}{lo hi:Option Int}:(zdj ws lo hi).length<=ws.length:=by
 unfold zdj
 rw[List.length_take,List.length_drop]
 omega
structure Way (ws:List D) (n:Nat):Prop where
 el:∀ d∈ws,zhD d
 le:ws.length<=n
theorem Way.cut {ws:List D}{n:Nat}(h:Way ws n)(lo hi:Option Int):∀ d∈zdj ws lo hi,zhD d:=fun d hd=>h.el d (zu7 d hd)
theorem zg2 {xs ys:List D}(h:xs.length+ys.length<=1000):zcv (.lst xs) (.lst ys)=.ok (.lst (xs++ys)):=ev_addL (decide_eq_true h)
theorem zfA {xs ys:List D}(hx:∀ d∈xs,zhD d)(hy:∀ d∈ys,zhD d):∀ d∈xs++ys,zhD d:=fun d hd=>by
 rcases List.mem_append.mp hd with h | h
 ·exact hx d h
 ·exact hy d h
abbrev zc3 (ks:List Nat):List D:=ks.map fun(k:Nat)=>D.int (k:Int)
def Opn (w:Web)(ks:List Nat)(seen:List Str)(here:Str)(k:Nat):Prop:=∃ t y,w.ts[k]?=some t/\there t here=some y/\y∉seen
abbrev zv8:Ev->Res Fl:=(zar (zbN 8 (zan (zad (zac (zac (zae 1) (dC (.int 1)) dIx) (zae 7) dIx) (zad (zae 3) zaz)) zaJ))
 (zar (sIf (zhr (zac (zae 8) (dC (.non)) zgi) (zhr (zac (zae 8) (zae 4) zbW) (zac (zae 7) (zae 2) zbW)))
 (zar (zbX 6 (zae 7))
 zal)
 zal)
 zal))
def kEv (a:Addr)(w:Web)(ks:List Nat)(here:Str)(seen:List Str)(way:List Nat)(x6 x7 x8:Sl):Ev:=[.pt a,.sh (zba w),.sh (.lst (zc3 ks)),.sh (.str here),.ow (.lst (seen.map D.str)),.ow (.lst (zc3 way)),x6,x7,x8]
theorem zpi {a:Addr}{w:Web}(W:zcR w){ks:List Nat}{here:Str}{seen:List Str}{way:List Nat}{x7 x8:Sl}:∃ (sm:List Nat) (y7 y8:Sl),zcB (zcV 7) zv8 (DL.intsFrom 0 w.ts.length) (kEv a w ks here seen way (.ow (.lst [])) x7 x8)=.ok (.nx (kEv a w ks here seen way (.ow (.lst (zc3 sm))) y7 y8))/\(∀ k∈sm,Opn w ks seen here k)/\sm.length<=w.ts.length:=by
 have t14:=W.t14
 have i1:dIx (zba w) (.int 1)=.ok (.lst (w.ts.map zdu)):=rfl
 obtain⟨ρ',hl,sm,y7,y8,rfl,h1,h2⟩:=zmm (i:=7) (n:=w.ts.length) (ρ:=kEv a w ks here seen way (.ow (.lst [])) x7 x8) (body:=zv8)
  (fun j ρ=>∃ (sm:List Nat) (y7 y8:Sl),ρ=kEv a w ks here seen way (.ow (.lst (zc3 sm))) y7 y8/\(∀ k∈sm,Opn w ks seen here k)/\sm.length<=j) (by
   rintro j hj ρ ⟨sm,y7,y8,rfl,h1,h2⟩
   have ht:w.ts[j]?=some w.ts[j]:=List.getElem?_eq_getElem hj
   have hti:=zi9 ht
   have hap:decide ((zc3 sm).length<=999)=true:=decide_eq_true (by rw[List.length_map];omega)
   have e2:=zhI (t:=w.ts[j]) (z:=here)
   have hnn:zgi .non .non=.ok (.bl false):=rfl
   have hns:∀ y:Str,zgi (.str y) .non=.ok (.bl true):=fun _=>rfl
   unfold kEv
   cases e:there w.ts[j] here with
   | none =>
    rw[e] at e2
    simp only[oS] at e2
    refine⟨kEv a w ks here seen way (.ow (.lst (zc3 sm))) (.sh (.int (j:Int))) (.sh .non),?_,sm,_,_,rfl,h1,by omega⟩
    unfold kEv
    open_line with[i1,hti,e2,hnn]
   | some y =>
    rw[e] at e2
    simp only[oS] at e2
    by_cases h3:y∈seen
    ·refine⟨kEv a w ks here seen way (.ow (.lst (zc3 sm))) (.sh (.int (j:Int))) (.sh (.str y)),?_,sm,_,_,rfl,h1,by omega⟩
     unfold kEv
     open_line with[i1,hti,e2,hns,zcS,decide_eq_true h3]
    ·by_cases h4:j∈ks
     ·refine⟨kEv a w ks here seen way (.ow (.lst (zc3 sm))) (.sh (.int (j:Int))) (.sh (.str y)),?_,sm,_,_,rfl,h1,by omega⟩
      unfold kEv
      open_line with[i1,hti,e2,hns,zcS,decide_eq_false h3,zcT,decide_eq_true h4]
     ·refine⟨kEv a w ks here seen way (.ow (.lst (zc3 (sm++[j])))) (.sh (.int (j:Int))) (.sh (.str y)),?_,sm++[j],_,_,rfl,fun k hk=>?_,by simp;omega⟩
      ·unfold kEv
       rw[show zc3 (sm++[j])=zc3 sm++[.int (j:Int)] by simp [zc3]]
       open_line with[i1,hti,e2,hns,zcS,decide_eq_false h3,zcT,decide_eq_false h4,ev_app1 hap]
      ·rcases List.mem_append.mp hk with hk | hk
       ·exact h1 k hk
       ·have:k=j:=by simpa using hk
        subst this
        exact⟨_,y,ht,e,h3⟩) ⟨[],x7,x8,rfl,fun k hk=>by simp at hk,by simp⟩
 exact⟨sm,y7,y8,hl,h1,h2⟩
abbrev zr1 (a:Addr):Ev->List D->Res MFl:=(zbl (zcd (zje 6 (zan zaz zdQ)))
 (zbl (zcd (zlZ (zan (zad (zac (zae 1) (dC (.int 1)) dIx) zaz) (m1 ze9)) (zcV 7)
 (zar (zbN 8 (zan (zad (zac (zac (zae 1) (dC (.int 1)) dIx) (zae 7) dIx) (zad (zae 3) zaz)) zaJ))
 (zar (sIf (zhr (zac (zae 8) (dC (.non)) zgi) (zhr (zac (zae 8) (zae 4) zbW) (zac (zae 7) (zae 2) zbW)))
 (zar (zbX 6 (zae 7))
 zal)
 zal)
 zal))))
 (zbl (zut 6 (mIf (mT (zac (zae 6) (zan zaz zdQ) dEq))
 (zbl (zgN (zae 5))
 zbJ)
 zbJ))
 (zbl (zut 6 (zuu 5 (mB (mP (zae 6)) (zbr 0 a (zaU (mP (zan (zad (zae 6) zaz) (m1 ze9))) zdh) zap) dIx)))
 (zbl (zcd (zlX 3 (zan (zad (zac (zac (zae 1) (dC (.int 1)) dIx) (zac (zae 5) (zbv (dC (.int 1)) zoM) dIx) dIx) (zad (zae 3) zaz)) zaJ)))
 (zbl (zcd (zbX 4 (zae 3)))
 zbJ))))))
theorem zwI {x:D}{xs:List D}(h:zbs 39 x=true)(hs:xs.all (zbs 39)=true):dEq (.lst (x::xs)) (.lst [])=.ok (.bl false):=by
 unfold dEq
 rw[if_pos ⟨by rw[zbs,List.all_cons,h,hs];rfl,rfl⟩]
 simp [eqD,eqDs]
theorem zri (a:Addr){w:Web}(W:zcR w){ks:List Nat}{here:Str}{pre:List Str}{way:List Nat}{x6 x7 x8:Sl}{st:List D}(S:St st)(hl:pre.length<=20)(hy:way.length<=20) :
  zr1 a (kEv a w ks here (pre++[here]) way x6 x7 x8) st=.ok (.rt (.lst (zc3 way)) st)∨∃ (k:Nat) (y:Str) (y6 y7 y8:Sl) (st':List D),zr1 a (kEv a w ks here (pre++[here]) way x6 x7 x8) st=.ok (.nx (kEv a w ks y (pre++[here]++[y]) (way++[k]) y6 y7 y8) st')/\k < w.ts.length/\y∉pre++[here]/\y∈w.ps/\St st':=by
 have t14:=W.t14
 have i1:dIx (zba w) (.int 1)=.ok (.lst (w.ts.map zdu)):=rfl
 have hlen:ze9 (.lst (w.ts.map zdu))=.ok (.int w.ts.length):=by rw[ev_lenL,List.length_map]
 obtain⟨sm,y7,y8,h1,h2,h3⟩:=zpi (a:=a) W (ks:=ks) (here:=here) (seen:=pre++[here]) (way:=way) (x7:=x7) (x8:=x8)
 unfold kEv at h1
 cases sm with
 | nil =>
  left
  have en:dEq (.lst []) (.lst [])=.ok (.bl true):=rfl
  have e0:zc3 ([]:List Nat)=[]:=rfl
  rw[e0] at h1
  unfold kEv
  open_line with[i1,hlen,ev_forR,zdn (show w.ts.length<=1000000 by omega),h1,en]
 | cons c cs =>
  right
  obtain⟨v,st1,t1,v0,v1,S1⟩:=zbb a (n:=((c::cs).length:Int)) (by rw[List.length_cons];omega) (by omega) S
  obtain⟨v,rfl⟩:=Int.eq_ofNat_of_zero_le v0
  have hv:v < (c::cs).length:=by omega
  have hix:dIx (.lst (zc3 (c::cs))) (.int (v:Int))=.ok (.int ((c::cs)[v]:Int)):=zjq (by rw[List.getElem?_map,List.getElem?_eq_getElem hv];rfl)
  obtain⟨t,y,k1,k2,k3⟩:=h2 (c::cs)[v] (List.getElem_mem hv)
  generalize (c::cs)[v]=k at *
  have hk:k < w.ts.length:=(List.getElem?_eq_some_iff.mp k1).1
  have hti:=zi9 k1
  have e2:=zhI (t:=t) (z:=here)
  rw[k2] at e2
  simp only[oS] at e2
  have tk:=W.ts t (List.mem_of_getElem? k1)
  have hps:y∈w.ps:=by
   unfold there at k2
   split at k2
   ·cases k2;exact tk.b
   ·split at k2
    ·cases k2;exact tk.a
    ·cases k2
  have hsl:ze9 (.lst (zc3 (c::cs)))=.ok (.int ((c::cs).length:Int)):=by rw[ev_lenL,List.length_map]
  have en:dEq (.lst (zc3 (c::cs))) (.lst [])=.ok (.bl false):=zwI rfl zhU
  have hap:decide ((zc3 way).length<=999)=true:=decide_eq_true (by rw[List.length_map];omega)
  have hap2:decide (((pre++[here]).map D.str).length<=999)=true:=decide_eq_true (by simp;omega)
  have hlast:dIx (.lst (zc3 way++[.int (k:Int)])) (.int (-1))=.ok (.int (k:Int)):=zqa
  generalize zc3 (c::cs)=SM at *
  generalize (c::cs).length=N at *
  refine⟨k,y,.sh (.lst SM),y7,y8,st1,?_,hk,k3,hps,S1⟩
  unfold kEv
  have e5:zc3 (way++[k])=zc3 way++[.int (k:Int)]:=by simp [zc3]
  have e6:(pre++[here]++[y]).map D.str=(pre++[here]).map D.str++[.str y]:=by rw[List.map_append];rfl
  rw[e5,e6]
  open_line with[i1,hlen,ev_forR,zdn (show w.ts.length<=1000000 by omega),h1,en,hsl,t1,hix,em_app1 hap,hlast,hti,e2,zqx,zw7,ev_app1 hap2]
abbrev zuB:Ev->List D->Res (D×List D):=mT (zac (zae 3) (zac (zae 1) (dC (.int 3)) dIx) dNe)
theorem ztP {a:Addr}{w:Web}{ks:List Nat}{here:Str}{seen:List Str}{way:List Nat}{x6 x7 x8:Sl}{st:List D}:zuB (kEv a w ks here seen way x6 x7 x8) st=.ok (.bl (!(decide (here=w.la))),st):=by
 have i3:dIx (zba w) (.int 3)=.ok (.str w.la):=rfl
 unfold kEv
 cases x6<;>cases x7<;>cases x8<;>open_line with[i3,zdL]
section
variable {c:Ev->List D->Res (D×List D)}{s:Ev->List D->Res MFl}{f:Nat}{ρ ρ2:Ev}{st st1 st2:List D}{d:D}
theorem ztH (h:c ρ st=.ok (.bl false,st1)):zb7 c s (f+1) ρ st=.ok (.nx ρ st1):=by
 unfold zb7;rw[h];rfl
theorem ztI (h:c ρ st=.ok (.bl true,st1))(e:s ρ st1=.ok (.nx ρ2 st2)):zb7 c s (f+1) ρ st=zb7 c s f ρ2 st2:=by
 rw[zb7,h]
 show((s ρ st1).bind _)=_
 rw[e];rfl
theorem zvC (h:c ρ st=.ok (.bl true,st1))(e:s ρ st1=.ok (.rt d st2)):zb7 c s (f+1) ρ st=.ok (.rt d st2):=by
 rw[zb7,h]
 show((s ρ st1).bind _)=_
 rw[e];rfl
end
theorem znX (a:Addr){w:Web}(W:zcR w){ks:List Nat}:∀ (f:Nat) (pre:List Str) (here:Str) (way:List Nat) (x6 x7 x8:Sl) (st:List D),pre.length+f=8->(pre++[here]).Nodup->(∀ z∈pre++[here],z∈w.ps)->way.length=pre.length->(∀ k∈way,k < w.ts.length)->St st ->
  ∃ (way':List Nat) (st':List D),(zb7 zuB (zr1 a) f (kEv a w ks here (pre++[here]) way x6 x7 x8) st=.ok (.rt (.lst (zc3 way')) st')∨∃ (here':Str) (seen':List Str) (y6 y7 y8:Sl),zb7 zuB (zr1 a) f (kEv a w ks here (pre++[here]) way x6 x7 x8) st=.ok (.nx (kEv a w ks here' seen' way' y6 y7 y8) st'))/\way'.length<=7/\(∀ k∈way',k < w.ts.length)/\St st':=by
 intro f
 induction f with
 | zero =>
  intro pre here way x6 x7 x8 st hf nd hp _ _ _
  have:=Cod.nodup_le nd hp
  have n7:=W.n7
  simp at this
  omega
 | succ f ih =>
  intro pre here way x6 x7 x8 st hf nd hp hw hk S
  have hle:=Cod.nodup_le nd hp
  have n7:=W.n7
  rw[List.length_append,List.length_singleton] at hle
  have ht:=ztP (a:=a) (w:=w) (ks:=ks) (here:=here) (seen:=pre++[here]) (way:=way) (x6:=x6) (x7:=x7) (x8:=x8) (st:=st)
  by_cases hc:here=w.la
  ·rw[decide_eq_true hc] at ht
   exact⟨way,st,.inr ⟨here,pre++[here],x6,x7,x8,ztH ht⟩,by omega,hk,S⟩
  ·rw[decide_eq_false hc] at ht
   rcases zri a W (ks:=ks) (here:=here) (pre:=pre) (way:=way) (x6:=x6) (x7:=x7) (x8:=x8) S (by omega) (by omega) with e | ⟨k,y,y6,y7,y8,st',e,k1,k2,k3,S'⟩
   ·exact⟨way,st,.inl (zvC ht e),by omega,hk,S⟩
   ·obtain⟨way',st2,h1,h2,h3,h4⟩:=ih (pre++[here]) y (way++[k]) y6 y7 y8 st' (by simp;omega) (Cod.nodup_snoc nd k2) (fun z hz=>by
     rcases List.mem_append.mp hz with hz | hz
     ·exact hp z hz
     ·have:z=y:=by simpa using hz
      rw[this];exact k3) (by simp;omega) (fun j hj=>by
     rcases List.mem_append.mp hj with hj | hj
     ·exact hk j hj
     ·have:j=k:=by simpa using hj
      rw[this];exact k1) S'
    rw[← ztI (f:=f) ht e] at h1
    exact⟨way',st2,h1,h2,h3,h4⟩
theorem zo5 (a:Addr){w:Web}(W:zcR w){ks:List Nat}{st:List D}(S:St st):∃ (way:List Nat) (st':List D),zbf a st [zba w,zcL ks]=.ok (.lst (zc3 way),st')/\way.length<=7/\(∀ k∈way,k < w.ts.length)/\St st':=by
 have i2:dIx (zba w) (.int 2)=.ok (.str w.fi):=rfl
 obtain⟨way,st',h1,h2,h3,h4⟩:=znX a W (ks:=ks) 8 [] w.fi [] .no .no .no st rfl (by simp) (fun z hz=>by
  have:z=w.fi:=by simpa using hz
  rw[this];exact W.fi) rfl (fun k hk=>by simp at hk) S
 refine⟨way,st',?_,h2,h3,h4⟩
 have hwh:∀ (c:Ev->List D->Res (D×List D)) (s:Ev->List D->Res MFl) (ρ:Ev) (st:List D),zp4 (fun _=>8) c s ρ st=zb7 c s 8 ρ st:=fun _ _ _ _=>rfl
 unfold kEv at h1
 simp only[List.nil_append,List.map_cons,List.map_nil] at h1
 rcases h1 with h1 | ⟨here',seen',y6,y7,y8,h1⟩
 ·open_line with[zbf,zee,zcL,i2,hwh,h1]
 ·open_line with[zbf,zee,zcL,i2,hwh,h1]
theorem zmV {d:D}(h:zhD d):Rp d 206 1:=by
 rcases h with⟨n,rfl,hn⟩ | rfl | rfl | rfl | rfl | rfl | rfl | rfl | rfl
 ·exact(Rp.int (Nat.lt_of_le_of_lt hn (by decide))).up (by decide) (by decide)
 ·exact Rp.bl.up (by decide) (by decide)
 ·exact Rp.bl.up (by decide) (by decide)
 ·exact Rp.non.up (by decide) (by decide)
 ·exact(Rp.str (n:=8) (by decide) (by decide)).up (by decide) (by decide)
 ·exact(Rp.str (n:=8) (by decide) (by decide)).up (by decide) (by decide)
 ·exact(Rp.tup (Rps.cons (Rp.int (i:=0) (by decide)) Rps.nil)).up (by decide) (by decide)
 ·exact(Rp.lst (Rps.cons (Rp.int (i:=0) (by decide)) Rps.nil)).up (by decide) (by decide)
 ·exact(Rp.emp (k:=0)).up (by decide) (by decide)
theorem zs0 {ws:List D}{n:Nat}(h:Way ws n):Rp (.lst ws) (208*n+3) 2:=by
 have:=Rp.lst (Rps.all (a:=206) (k:=1) (ds:=ws) fun d hd=>zmV (h.el d hd))
 have hl:=h.le
 exact this.up (by omega) (by decide)
theorem zwb {ws:List D}{n:Nat}(h:Way ws n):Rp (.tup ws) (208*n+3) 2:=by
 have:=Rp.tup (Rps.all (a:=206) (k:=1) (ds:=ws) fun d hd=>zmV (h.el d hd))
 have hl:=h.le
 exact this.up (by omega) (by decide)
end K11
namespace K12
open PySem L2 DL
def zik:List (Str×Bool):=[("NoWay",true)]
def zuJ:Str->Option Bool:=zpa [("NoWay",true)]
abbrev zbg:List D->Res D:=Bor.zbg
abbrev zap:Addr->List D->List D->Res (D×List D):=Bor.zap
abbrev zca:Addr->List D->List D->Res (D×List D):=Bor.zca
abbrev zbG:List D->Res D:=Cod.zbG
abbrev zby:Addr->List D->List D->Res (D×List D):=Bor.zby
abbrev zbF:Addr->List D->List D->Res (D×List D):=Bor.zbF
abbrev zbS:Addr->List D->List D->Res (D×List D):=Bor.zbS
abbrev zaJ:List D->Res D:=K11.zaJ
abbrev zbf:Addr->List D->List D->Res (D×List D):=K11.zbf
abbrev zau:List D->Res D:=K11.zau
abbrev zaA:List D->Res D:=K11.zaA
abbrev zb0:List D->Res D:=Com.zb0
abbrev zbn:List D->Res D:=Com.zbn
abbrev zbu:List D->Res D:=Com.zbu
abbrev za8:List D->Res D:=Com.za8
abbrev zcp:List D->Res D:=Com.zcp
abbrev zcr:List D->Res D:=Com.zcr
abbrev zcU:List D->Res D:=Com.zcU
abbrev zd5:List D->Res D:=Com.zd5
abbrev zbE:List D->Res D:=Com.zbE
abbrev zcq:List D->Res D:=Com.zcq
abbrev zbe:List D->Res D:=Com.zbe
abbrev zao:List D->Res D:=Com.zao
abbrev zaV:List D->Res D:=Com.zaV
abbrev zbw:List D->Res D:=K11.zbw
abbrev zaF:List D->Res D:=K11.zaF
def zbH:Ev->Res Fl :=
 (zhA (sIf (zdD (zbv (zae 2) (zce "list")))
 (zar (zfH "NoWay" ["at"] (zad (dC (.non)) zaz))
 zal)
 zal)
 (zhA (zje 3 (zan (zad (zac (zae 0) (dC (.int 2)) dIx) zaz) zdQ))
 (zhA (zkS (zvm (zae 2)) (zlk [4,5])
 (zar (zlX 6 (zan (zad (zae 0) (zad (zae 1) (zad (zae 3) (zad (zae 5) zaz)))) zaF))
 (zar (sIf (zac (zae 6) (dC (.non)) zlM)
 (zar (zfH "NoWay" ["at"] (zad (zae 4) zaz))
 zal)
 zal)
 (zar (zbX 3 (zae 6))
 zal))))
 (zhA (sIf (zac (zac (zae 3) (zbv (dC (.int 1)) zoM) dIx) (zac (zae 0) (dC (.int 3)) dIx) dNe)
 (zar (zfH "NoWay" ["at"] (zad (zan (zad (zae 2) zaz) (m1 ze9)) zaz))
 zal)
 zal)
 (zrt 3)))))
def zaE:List D->Res D:=zoI 7 zbH
def zed:Ev->Res Fl :=
 (zar (zh3 (zan (zad (zae 0) (zad (zae 1) zaz)) zaV))
 (zar (zh3 (zan (zad (zae 0) (zad (zae 1) (zad (zae 2) zaz))) zaE))
 zal))
def zbR:List D->Res D:=zdz 3 zed
abbrev zeL:List D->Res D:=Com.zeL
abbrev zhf:List D->Res D:=Com.zhf
abbrev ze6:List D->Res D:=Com.ze6
def zfO:Ev->Res Fl :=
 (zar (zh3 (zan (zad (zae 0) (zad (zan zaz zdQ) (zad (zae 1) zaz))) zbR))
 (zar (zco (zan (zad (zeU 1 [0] (ztW (zae 1)) (zcV 0) mYes (zac (zac (zac (zae 1) (dC (.int 1)) dIx) (zae 0) dIx) (dC (.int 3)) dIx)) zaz) ze6))
 zal))
def zbO:List D->Res D:=zdz 2 zfO
def zfN:Ev->Res Fl :=
 (zhA (zh3 (zan (zad (zae 0) zaz) zbe))
 (zlY (zan (zad (zae 0) (zad (zan zaz zdQ) (zad (zae 1) zaz))) zaE)))
def zbx:List D->Res D:=zoI 2 zfN
def zdC:Ev->Res Fl :=
 (zar (zbN 3 (zan (zad (dC (.str "told")) (zad (dC (.non)) zaz)) zjl))
 (zar (zvo (zps (zac (zae 0) (dC (.int 0)) dEq)
 (zjf (zad (zae 1) (zad (zae 2) zaz)) zbO)
 (zjf (zad (zae 1) (zad (zae 2) zaz)) zbx)) (zon zik) 4
 (zar (zbN 3 (zan (zad (dC (.str "at")) (zad (zbv (zae 4) (zms zuJ "at")) zaz)) zjl))
 zal))
 (zar (zco (zae 3))
 zal)))
def za2:List D->Res D:=zdz 5 zdC
def ziQ:Ev->Res Fl :=
 (zar (zco (zan (zad (zac (zac (zac (zae 0) (dC (.int 0)) dIx) (zac (zae 1) (dC (.int 1)) dIx) zb5) (zac (zac (zae 1) (dC (.int 0)) dIx) (zac (zae 0) (dC (.int 1)) dIx) zb5) zcv) (zad (zac (zac (zae 0) (dC (.int 1)) dIx) (zac (zae 1) (dC (.int 1)) dIx) zb5) zaz)) zbG))
 zal)
def zc4:List D->Res D:=zdz 2 ziQ
def zds:Ev->Res Fl :=
 (zar (zbN 2 (zan (zad (zan (zad (zae 0) (zad (zae 1) zaz)) zdQ) zaz) (m1 zko)))
 (zar (zbN 3 (zan (zad (zae 0) (zad (zan zaz zdQ) (zad (zae 1) zaz))) zaA))
 (zar (sIf (zac (zac (zae 3) (dC (.int 0)) dIx) (dC (.str "at")) dEq)
 (zar (zbN 4 (zeU 1 [0,1] (zgy (dC (.int 2))) (zcV 0) mYes (zan (zad (zae 0) (zad (zae 1) (zad (zae 2) zaz))) za2)))
 (zar (zco (zhr (zac (zae 4) (zan (zad (zae 3) (zad (zae 3) zaz)) zdQ) dEq) (zac (zan (zad (zan (zad (zae 0) (zad (zae 1) zaz)) zdQ) zaz) (m1 zko)) (zae 2) dEq)))
 zal))
 zal)
 (zar (zbN 5 (zan (zad (dC (.int 0)) (zad (dC (.int 1)) zaz)) zjl))
 (zar (zpt (zae 1) (zcV 6)
 (zar (zbN 5 (zan (zad (zae 5) (zad (zac (zac (zac (zae 0) (dC (.int 1)) dIx) (zae 6) dIx) (dC (.int 3)) dIx) zaz)) zc4))
 zal))
 (zar (zje 7 (zan (zad (zae 0) (zad (zae 1) zaz)) (noX zbx)))
 (zar (zbN 8 (zan (zad (zae 0) (zad (zae 1) zaz)) (noX zbO)))
 (zar (sIf (dOr (zac (zae 8) (zae 5) dNe) (zdD (zbv (zae 8) (zce "tuple"))))
 (zar (zco (dC (.bl false)))
 zal)
 zal)
 (zar (sIf (dOr (zdD (zbv (zae 7) (zce "list"))) (zac (zae 7) (zac (zae 3) (dC (.int 1)) dIx) dNe))
 (zar (zco (dC (.bl false)))
 zal)
 zal)
 (zar (zbX 7 (dC (.str "more")))
 (zar (sIf (dOr (zac (zan (zad (zae 0) (zad (zae 1) zaz)) (noX zbx)) (zac (zae 3) (dC (.int 1)) dIx) dNe) (zac (zan (zad (zae 0) (zad (zae 1) zaz)) (noX zbO)) (zae 5) dNe))
 (zar (zco (dC (.bl false)))
 zal)
 zal)
 (zar (zco (zac (zan (zad (zan (zad (zae 0) (zad (zae 1) zaz)) zdQ) zaz) (m1 zko)) (zae 2) dEq))
 zal))))))))))))
def zaW:List D->Res D:=zdz 9 zds
def ziR:Addr->Ev->List D->Res MFl:=fun a =>
 (zbl (zfp 2 (zbr 0 a (zaU (mP (zac (zan (zad (zae 1) zaz) (m1 ze9)) (dC (.int 1)) zcv)) zdh) zap))
 (zbl (zfp 3 (zbr 0 a (zaU (mP (dC (.int 15))) zdh) zap))
 (zbl (zcd (zje 4 (zan (zad (zae 1) (zad (zac (zoL (zae 1) zdi (zc2 (zae 2))) (zoL (zae 1) (zc2 (zac (zae 2) (dC (.int 1)) zcv)) zdi) zcv) (zad (zac (zac (zoL (zae 1) zdi (zc2 (zae 2))) (zan (zad (zae 3) zaz) zdQ) zcv) (zoL (zae 1) (zc2 (zae 2)) zdi) zcv) zaz))) zdQ)))
 (zbl (zcd (zbX 4 (zac (zac (zoL (zae 1) zdi (zc2 (zae 2))) (zan (zad (zae 3) zaz) zdQ) zcv) (zoL (zae 1) (zc2 (zac (zae 2) (dC (.int 1)) zcv)) zdi) zcv)))
 (zbl (zfp 5 (mB (mP (zan (zad (dC (.bl true)) (zad (dC (.bl false)) (zad (dC (.non)) (zad (zbv (dC (.int 1)) zoM) (zad (dC (.int 14)) (zad (dC (.str "0")) (zad (zan (zad (dC (.int 0)) zaz) zjl) (zad (zan (zad (dC (.int 0)) zaz) zdQ) (zad (zac (dC (.int 10)) (dC (.int 30)) znK) zaz))))))))) zdQ)) (zbr 0 a (zaU (mP (dC (.int 9))) zdh) zap) dIx))
 (zbl (zcd (zvp 4 (zje 4 (zac (zae 4) (zan (zad (zac (zac (zoL (zae 1) zdi (zc2 (zae 2))) (zan (zad (zae 5) zaz) zdQ) zcv) (zoL (zae 1) (zc2 (zac (zae 2) (dC (.int 1)) zcv)) zdi) zcv) (zad (zan (zad (zae 1) zaz) (m1 zqG)) (zad (dC (.non)) (zad (dC (.int 5)) (zad (dC (.dic [] [])) zaz))))) zdQ) zsD))))
 (zbl (zut 4 (zwJ (mB (mP (zae 4)) (zbr 0 a (zaU (mP (dC (.int 9))) zdh) zap) dIx)))
 zbJ)))))))
def zc5:Addr->List D->List D->Res (D×List D):=zq3 6 ziR
noncomputable def zxt:Ev->Res Fl :=
 (zar (zlZ (zan (zad (dC (.int 1)) (zad (zan (zad (zan (zad (zae 0) zaz) (m1 ze9)) (zad (dC (.int 10)) zaz)) (m2 zxM)) zaz)) (m2 zyO)) (zcV 1)
 (zh2 2 (zan (zad (zae 0) (zad (zae 1) zaz)) zbg) fun a=>(zbl (zfp 3 (zbr 2 a (zaU (mP (dC (.int 7))) (zaU (mP (dC (.int 14))) zdh)) zbS))
 (zbl (zmf (zup (zgy (dC (.int 5)))) (zcV 4)
 (zbl (zfp 5 (zbr 2 a (zaU (mP (zae 3)) (zaU (mP (zan zaz zdQ)) zdh)) zbf))
 (zbl (mIf (mOr (mT (zdD (zan (zad (zae 3) (zad (zae 5) zaz)) zaW))) (zwK (mA (zaU (mP (zae 3)) (zaU (zbr 2 a (zaU (mP (zae 5)) zdh) zc5) zdh)) zaW)))
 (zbl (zgN (dC (.bl false)))
 zbJ)
 zbJ)
 zbJ)))
 zbJ))))
 (zar (zco (dC (.bl true)))
 zal))
noncomputable def zp3:List D->Res D:=zdz 6 zxt
end K12
namespace K12
open PySem L2 DL Com Bor K11
section
variable {s t:Ev->Res Fl}{ρ:Ev}{ds:List D}{n i:Nat}{f:Ev->Res D}{fa:Ev->Res (List D)}{m:List D->Res D}{d:D}
theorem zeP:zhA s t ρ=(s ρ).bind (zv3 t):=zaq rfl
theorem zc8:zv3 t (.nx ρ)=t ρ:=zaq rfl
theorem zuQ:zrt i ρ=zyc ρ[i]?:=zaq rfl
theorem zss:zyc (some (.ow (.lst ds)))=.ok (.rt (.lst ds)):=zaq rfl
theorem zeQ:zoI n s ds=(s (ds.map Sl.sh++List.replicate (n-ds.length) .no)).bind zwy:=zaq rfl
theorem ztg:zwy (.rt (.lst ds))=.ok (.lst ds):=zaq rfl
def zwd (d:D):Res Fl:=.ok (.rt d)
theorem zqw:zlY f ρ=(f ρ).bind zwd:=zaq rfl
theorem zst:zwd d=.ok (.rt d):=zaq rfl
def zqA (m:List D->Res D)(ρ:Ev)(r:Res (List D)):Res Fl:=match r with
 | .ok ds=>(m ds).bind fun _=>.ok (.nx ρ)
 | _=>.stuck
theorem znx:zjf fa m ρ=zqA m ρ (fa ρ):=zaq rfl
theorem zln {x:Exn}(h:m ds=.exn x):zqA m ρ (.ok ds)=.exn x:=by unfold zqA;simp only[h];rfl
def zyw (a b:Ev->Res Fl)(ρ:Ev)(r:Res D):Res Fl:=match r with
 | .ok (.bl c)=>if c=true then a ρ else b ρ
 | _=>.stuck
theorem zti:zps f s t ρ=zyw s t ρ (f (shr ρ)):=zaq rfl
theorem zuS:zyw s t ρ (.ok (.bl true))=s ρ:=zaq rfl
theorem zuR:zyw s t ρ (.ok (.bl false))=t ρ:=zaq rfl
theorem zth {d:D}(h:m ds=.ok d):noX m ds=.ok d:=zwG h
end
theorem zre {w:Web}(W:zcR w){ks:List Nat}{th:List D}(he:∀ d∈th,Elt d)(hl:th.length<=100):(∃ j,zos w th.length (zmK w ks [] w.fi 0 th)=some j/\zaE [zba w,zcL ks,.lst th]=.exn (zfI (.int (j:Int)))) ∨
  (∃ seen,zmK w ks [] w.fi 0 th=.inr seen/\zos w th.length (zmK w ks [] w.fi 0 th)=none/\zaE [zba w,zcL ks,.lst th]=.ok (.lst (seen.map D.str))/\zaA [zba w,zcL ks,.lst th]=.ok (.tup [.str "way",.lst (seen.map D.str)])):=by
 have i2:dIx (zba w) (.int 2)=.ok (.str w.fi):=rfl
 have i3:dIx (zba w) (.int 3)=.ok (.str w.la):=rfl
 have hlen:ze9 (.lst th)=.ok (.int th.length):=ev_lenL
 have h:=zwW W (ks:=ks) he hl th.length 0 [] w.fi .no .no .no (by omega) rfl
 rw[List.drop_zero,List.drop_zero] at h
 have h':=zsT (w:=w) (ks:=ks) he hl th.length 0 [] w.fi .no .no .no (by omega) rfl
 rw[List.drop_zero,List.drop_zero] at h'
 unfold gEv at h
 unfold wEv at h'
 simp only[List.nil_append,List.map_cons,List.map_nil] at h h'
 cases e:zmK w ks [] w.fi 0 th with
 | inl j =>
  rw[e] at h
  simp only at h
  refine .inl ⟨j,rfl,?_⟩
  open_line with[zaE,zbH,zeQ,zeP,zc8,i2,h,Com.ev_exn,zfI]
 | inr seen =>
  rw[e] at h h'
  simp only at h h'
  obtain⟨pre',here',x5',x6',x7',hs,h⟩:=h
  obtain⟨pre2,here2,y5',y6',y7',hs2,h'⟩:=h'
  subst hs
  obtain⟨rfl,hh⟩:=List.append_inj' hs2 rfl
  obtain rfl:here2=here':=by simpa using hh.symm
  simp only[zos,List.getLast?_append,List.getLast?_singleton,Option.some_or,Option.some.injEq]
  by_cases hc:here2=w.la
  ·rw[if_pos hc]
   refine .inr ⟨_,rfl,rfl,?_,?_⟩
   ·open_line with[zaE,zbH,zeQ,zeP,zc8,zuQ,zss,ztg,i2,h,zc6,i3,zdL,decide_eq_true hc]
   ·open_line with[K11.zaA,K11.za6,zcL,i2,hlen,ev_forR,zdn (show th.length<=1000000 by omega),h',i3,zdL,decide_eq_true hc]
  ·rw[if_neg hc]
   refine .inl ⟨th.length,rfl,?_⟩
   open_line with[zaE,zbH,zeQ,zeP,zc8,i2,h,zc6,i3,zdL,decide_eq_false hc,hlen,zcC,zcb,Com.ev_exn,zfI]
theorem zo4 {w:Web}{ks:List Nat}{d:D}(hd:Elt d)(hl:∀ ds,d≠.lst ds):zaE [zba w,zcL ks,d]=.exn (zfI .non):=by
 rcases hd with hd | rfl
 ·cases d with
  | lst ds=>exact absurd rfl (hl ds)
  | non=>open_line with[zaE,zbH,zeQ,zeP,zc8,zcC,zcb,Com.ev_exn,zfI]
  | bl b=>open_line with[zaE,zbH,zeQ,zeP,zc8,zcC,zcb,Com.ev_exn,zfI]
  | int b=>open_line with[zaE,zbH,zeQ,zeP,zc8,zcC,zcb,Com.ev_exn,zfI]
  | str b=>open_line with[zaE,zbH,zeQ,zeP,zc8,zcC,zcb,Com.ev_exn,zfI]
  | tup b=>open_line with[zaE,zbH,zeQ,zeP,zc8,zcC,zcb,Com.ev_exn,zfI]
  | _=>cases hd
 ·open_line with[zaE,zbH,zeQ,zeP,zc8,zcC,zcb,Com.ev_exn,zfI]
theorem zyZ {w:Web}:zsO w []:=⟨List.Pairwise.nil,fun k hk=>(nomatch hk)⟩
theorem zl0 {w:Web}(W:zcR w){d:D}{x:Exn}(h:zaE [zba w,.lst [],d]=.exn x):zbO [zba w,d]=.exn x/\zbx [zba w,d]=.exn x:=by
 have ht:zaV [zba w,.lst []]=.ok .non:=Com.taking_ok W zyZ
 have hw:zbe [zba w]=.ok .non:=Com.web_ok W
 have hl:zbR [zba w,.lst [],d]=.exn x:=by open_line with[zbR,zed,ht,h,Com.ev_exn]
 constructor
 ·open_line with[zbO,zfO,hl,Com.ev_exn]
 ·open_line with[zbx,zfN,zeQ,zeP,zc8,zqw,hw,h,Com.ev_exn]
theorem zn2 {w:Web}(W:zcR w){d v:D}(h:zaE [zba w,.lst [],d]=.exn (zfI v)){k:Nat}(hk:k < 2):za2 [.int (k:Int),zba w,d]=.ok (.tup [.str "at",v]):=by
 obtain⟨h1,h2⟩:=zl0 W h
 have hF:zon zik "NoWay"=true:=rfl
 have ht:∀ (d:D) (ni:Nat) (sh:Ev->Res Fl) (ρ:Ev),zxV (zon zik) ni sh ρ (.exn (zfI d))=(sh (ρ.set ni (.sh (.ob (.exf "NoWay" ["at"]) [d])))).bind (zwz ni):=fun d _ _ _=>by
  rw[zuN (x:=zfI d) hF,show zso (zfI d)=.ob (.exf "NoWay" ["at"]) [d] from zyE]
 have hfa:∀ d,zms zuJ "at" (.ob (.exf "NoWay" ["at"]) [d])=.ok d:=fun d=>zsp (b:=true) rfl
 have:k=0∨k=1:=by omega
 rcases this with rfl | rfl
 ·have e0:dEq (.int ((0:Nat):Int)) (.int 0)=.ok (.bl true):=rfl
  open_line with[za2,zdC,zte,zti,zuS,e0,znx,zln h1,ht,ztf,hfa]
 ·have e0:dEq (.int ((1:Nat):Int)) (.int 0)=.ok (.bl false):=rfl
  open_line with[za2,zdC,zte,zti,zuR,e0,znx,zln h2,ht,ztf,hfa]
theorem zkJ {w:Web}{ks:List Nat}:∀ (th:List D) (pre:List Str) (here:Str) (i:Nat) (seen:List Str),zmK w ks pre here i th=.inr seen->(∃ ns:List Nat,th=zc3 ns/\∀ n∈ns,n < w.ts.length)/\seen.length=pre.length+1+th.length
 | [],pre,here,i,seen,h=>by
  rw[zmK] at h
  cases h
  exact⟨⟨[],rfl,fun n hn=>(nomatch hn)⟩,by simp⟩
 | d::r,pre,here,i,seen,h=>by
  rw[zmK] at h
  cases e:zqk w ks (pre++[here]) here d with
  | none=>rw[e] at h;cases h
  | some y =>
   rw[e] at h
   obtain⟨⟨ns,h1,h2⟩,h3⟩:=zkJ r (pre++[here]) y (i+1) seen h
   have hd:∃ n:Nat,d=.int (n:Int)/\n < w.ts.length:=by
    unfold zqk at e
    split at e
    ·cases e
    ·cases d with
     | int n =>
      simp only at e
      split at e
      ·next hc =>
       obtain⟨m,rfl⟩:=Int.eq_ofNat_of_zero_le hc.1
       exact⟨m,rfl,by have:=hc.2.1;omega⟩
      ·cases e
     | _=>cases e
   obtain⟨n,rfl,hn⟩:=hd
   refine⟨⟨n::ns,by rw[h1];rfl,fun k hk=>?_⟩,by rw[h3];simp;omega⟩
   rcases List.mem_cons.mp hk with rfl | hk
   ·exact hn
   ·exact h2 k hk
def zf2 (w:Web)(k:Nat):Fra:=((w.ts[k]?).map Tie.l).getD (0,1)
theorem znk {w:Web}{k:Nat}{t:Tie}(h:w.ts[k]?=some t):zf2 w k=t.l:=by unfold zf2;rw[h];rfl
theorem zk6 {w:Web}(W:zcR w){k:Nat}(h:k < w.ts.length):zhE (zf2 w k):=by
 rw[znk (List.getElem?_eq_getElem h)]
 exact(W.ts _ (List.getElem_mem h)).l
def zzn (w:Web)(ns:List Nat):Fra:=low (tot (ns.map (zf2 w))).1 (tot (ns.map (zf2 w))).2
theorem ztb {w:Web}{k:Nat}(h:k < w.ts.length):dIx (.lst (w.ts.map zdu)) (.int (k:Int))=.ok (zdu w.ts[k])/\dIx (zdu w.ts[k]) (.int 3)=.ok (fr (zf2 w k)):=by
 refine⟨zi9 (List.getElem?_eq_getElem h),?_⟩
 rw[znk (List.getElem?_eq_getElem h)]
 rfl
theorem zp6 {w:Web}(W:zcR w){ns:List Nat}(hn:∀ n∈ns,n < w.ts.length)(hl:ns.length<=61){v:D}(h:zaE [zba w,.lst [],.lst (zc3 ns)]=.ok v):zbO [zba w,.lst (zc3 ns)]=.ok (fr (zzn w ns)):=by
 have ht:zaV [zba w,.lst []]=.ok .non:=Com.taking_ok W zyZ
 have hlw:zbR [zba w,.lst [],.lst (zc3 ns)]=.ok .non:=by open_line with[zbR,zed,ht,h]
 have hs:=zpd (xs:=ns.map (zf2 w)) (by rw[List.length_map];omega) (fun x hx=>by
  obtain⟨k,hk,rfl⟩:=List.mem_map.mp hx
  exact zk6 W (hn k hk))
 have i1:dIx (zba w) (.int 1)=.ok (.lst (w.ts.map zdu)):=rfl
 have hc:zoz 1 [0] (zcV 0) mYes (zac (zac (zac (zae 1) (dC (.int 1)) dIx) (zae 0) dIx) (dC (.int 3)) dIx) [.sh (zba w),.sh (.lst (zc3 ns))] (zc3 ns)=.ok (.lst ((ns.map (zf2 w)).map fr)):=by
  rw[zkp (F:=fun d=>match d with | .int v=>fr (zf2 w v.toNat) | d=>d) (by rw[List.length_map];omega)]
  ·rw[List.map_map,List.map_map];rfl
  ·intro d hd
   obtain⟨k,hk,rfl⟩:=List.mem_map.mp hd
   refine⟨[.sh (.int (k:Int)),.sh (zba w)],rfl,rfl,?_⟩
   obtain⟨x1,x2⟩:=ztb (hn k hk)
   open_line with[i1,x1,x2,Int.toNat_natCast]
 open_line with[zbO,zfO,hlw,hc,hs]
 rfl
theorem zh7 {w:Web}(W:zcR w){d:D}{es:List D}(h:zaE [zba w,.lst [],d]=.ok (.lst es)):zbx [zba w,d]=.ok (.lst es):=by
 have hw:zbe [zba w]=.ok .non:=Com.web_ok W
 open_line with[zbx,zfN,zeQ,zeP,zc8,zqw,zst,ztg,hw,h]
theorem zrW {k:Nat}{s x:Fra}(h:Acc k s)(hk:k<=61)(hx:zhE x):zc4 [fr (low s.1 s.2),fr x]=.ok (fr (low (un s x).1 (un s x).2)):=by
 have ht:=zgO (a:=s.1) h.pos
 have a1:(low s.1 s.2).1.natAbs<=bnd k:=Nat.le_trans zmi h.b1
 have a2:(low s.1 s.2).2.natAbs<=bnd k:=Nat.le_trans zmh h.b2
 have hst:=zni h.pos hx.q1
 have hA:Acc k (low s.1 s.2):=⟨by have:=ht.q1;omega,a1,a2⟩
 have hB:=hA.step hx
 rw[← hst]
 generalize low s.1 s.2=t at *
 have b60:bnd k < B60:=Nat.lt_of_lt_of_le (zkz (by omega)) zq1
 have bb:bnd (k+1) < B13:=zkz (by omega)
 have x1:x.1.natAbs < B60:=Nat.lt_of_lt_of_le hx.pN zkC
 have x2:x.2.natAbs < B60:=Nat.lt_of_lt_of_le hx.qN zkC
 have i0:∀ u:Fra,dIx (fr u) (.int 0)=.ok (.int u.1):=fun _=>rfl
 have i1:∀ u:Fra,dIx (fr u) (.int 1)=.ok (.int u.2):=fun _=>rfl
 have m1:=zdp (zig (Nat.lt_of_le_of_lt a1 b60) x2)
 have m2:=zdp (zig x1 (Nat.lt_of_le_of_lt a2 b60))
 have m3:=zdp (zig (Nat.lt_of_le_of_lt a2 b60) x2)
 have hlo:zbG [.int (t.1*x.2+x.1*t.2),.int (t.2*x.2)]=.ok (fr (low (t.1*x.2+x.1*t.2) (t.2*x.2))):=Cod.low_ok hB.pos (Nat.lt_of_le_of_lt hB.b1 bb) (Nat.lt_of_le_of_lt hB.b2 bb)
 open_line with[zc4,ziQ,i0,i1,m1,m2,m3,hlo]
abbrev zvS:Ev->Res Fl:=(zar (zbN 5 (zan (zad (zae 5) (zad (zac (zac (zac (zae 0) (dC (.int 1)) dIx) (zae 6) dIx) (dC (.int 3)) dIx) zaz)) zc4))
 zal)
theorem zmM {w:Web}(W:zcR w){d1 d2 d3:D}:∀ (ns:List Nat) (k:Nat) (s:Fra) (z:Sl),Acc k s->k+ns.length<=61->(∀ n∈ns,n < w.ts.length) ->
  ∃ z',zcB (zcV 6) zvS (zc3 ns) [.sh (zba w),.sh d1,.sh d2,.sh d3,.no,.sh (fr (low s.1 s.2)),z,.no,.no]=.ok (.nx [.sh (zba w),.sh d1,.sh d2,.sh d3,.no,.sh (fr (low ((ns.map (zf2 w)).foldl un s).1 ((ns.map (zf2 w)).foldl un s).2)),z',.no,.no])
 | [],k,s,z,_,_,_=>⟨z,rfl⟩
 | n::ns,k,s,z,h,hk,hn=>by
  have hlt:=hn n List.mem_cons_self
  have hx0:=zk6 W hlt
  simp only[List.length_cons] at hk
  obtain⟨z',e⟩:=zmM W (d1:=d1) (d2:=d2) (d3:=d3) ns (k+1) (un s (zf2 w n)) (.sh (.int (n:Int))) (h.step hx0) (by omega) fun y hy=>hn y (List.mem_cons_of_mem _ hy)
  refine⟨z',?_⟩
  have i1:dIx (zba w) (.int 1)=.ok (.lst (w.ts.map zdu)):=rfl
  obtain⟨y1,y2⟩:=ztb hlt
  have hp:=zrW h (by omega) hx0
  rw[show zc3 (n::ns)=.int (n:Int)::zc3 ns from rfl]
  rw[zkg (ρ1:=[.sh (zba w),.sh d1,.sh d2,.sh d3,.no,.sh (fr (low s.1 s.2)),.sh (.int (n:Int)),.no,.no]) (ρ2:=[.sh (zba w),.sh d1,.sh d2,.sh d3,.no,.sh (fr (low (un s (zf2 w n)).1 (un s (zf2 w n)).2)),.sh (.int (n:Int)),.no,.no]) rfl]
  ·exact e
  ·open_line with[i1,y1,y2,hp]
theorem zrS {zs:List Str}:dNe (.lst (zs.map D.str)) (.lst (zs.map D.str))=.ok (.bl false):=by
 have h:zbs 40 (.lst (zs.map D.str))=true:=zhT (n:=39)
 unfold dNe
 rw[if_pos ⟨h,h⟩,zf8 40 _ h]
 rfl
theorem zz1 {w:Web}{d v x2 x3:D}(h:∀ k:Nat,k < 2->za2 [.int (k:Int),zba w,d]=.ok v):zoz 1 [0,1] (zcV 0) mYes (zan (zad (zae 0) (zad (zae 1) (zad (zae 2) zaz))) za2) [.sh (zba w),.sh d,.sh x2,.sh x3,.no,.no,.no,.no,.no] (DL.intsFrom 0 2)=.ok (.lst [v,v]):=by
 have h0:za2 [.int 0,zba w,d]=.ok v:=h 0 (by decide)
 have h1:za2 [.int 1,zba w,d]=.ok v:=h 1 (by decide)
 rw[zkp (F:=fun _=>v) (by decide)]
 ·rfl
 ·intro z hz
  have:z=.int 0∨z=.int 1:=by
   have e:DL.intsFrom 0 2=[.int 0,.int 1]:=rfl
   rw[e] at hz;simpa using hz
  refine⟨[.sh z,.sh (zba w),.sh d],rfl,rfl,?_⟩
  rcases this with rfl | rfl
  ·open_line with[h0]
  ·open_line with[h1]
theorem zmW {w:Web}(W:zcR w){d v:D}{z:Str}(hz:zko (.lst [zba w,d])=.ok (.str z))(hv:v=.non∨∃ j:Int,v=.int j)
  (h1:zaA [zba w,.lst [],d]=.ok (.tup [.str "at",v]))(h2:zaE [zba w,.lst [],d]=.exn (zfI v)):zaW [zba w,d]=.ok (.bl true):=by
 have ez:dEq (.str z) (.str z)=.ok (.bl true):=by rw[zcD];simp
 have t:=fun x2 x3=>zz1 (x2:=x2) (x3:=x3) (fun k hk=>zn2 W h2 (k:=k) hk)
 have ew:dEq (.str "at") (.str "at")=.ok (.bl true):=rfl
 rcases hv with rfl | ⟨j,rfl⟩
 ·have en:dEq (.lst [.tup [.str "at",.non],.tup [.str "at",.non]]) (.lst [.tup [.str "at",.non],.tup [.str "at",.non]])=.ok (.bl true):=rfl
  open_line with[zaW,zds,h1,ew,hz,zy0,t,en,ez]
 ·open_line with[zaW,zds,h1,ew,hz,zy0,t,zsq,ez]
theorem zpu {w:Web}(W:zcR w){ns:List Nat}(hn:∀ n∈ns,n < w.ts.length)(hl:ns.length<=60){seen:List Str}(hs:seen.length<=900){z:Str}(hz:zko (.lst [zba w,.lst (zc3 ns)])=.ok (.str z))
  (h1:zaA [zba w,.lst [],.lst (zc3 ns)]=.ok (.tup [.str "way",.lst (seen.map D.str)]))(h2:zaE [zba w,.lst [],.lst (zc3 ns)]=.ok (.lst (seen.map D.str))):zaW [zba w,.lst (zc3 ns)]=.ok (.bl true):=by
 have ez:dEq (.str z) (.str z)=.ok (.bl true):=by rw[zcD];simp
 have ew:dEq (.str "way") (.str "at")=.ok (.bl false):=rfl
 have hL:=zth (zp6 W hn (by omega) h2)
 have hP:=zth (zh7 W h2)
 obtain⟨z',ht⟩:=zmM W (d1:=.lst (zc3 ns)) (d2:=.str z) (d3:=.tup [.str "way",.lst (seen.map D.str)]) ns 0 (0,1) .no Acc.start (by omega) hn
 have e0:fr (low (0:Int) 1)=.tup [.int 0,.int 1]:=by rw[show low (0:Int) 1=(0,1) from by decide];rfl
 simp only[e0] at ht
 have ht':zcB (zcV 6) zvS (zc3 ns) [.sh (zba w),.sh (.lst (zc3 ns)),.sh (.str z),.sh (.tup [.str "way",.lst (seen.map D.str)]),.no,.sh (.tup [.int 0,.int 1]),.no,.no,.no]=.ok (.nx [.sh (zba w),.sh (.lst (zc3 ns)),.sh (.str z),.sh (.tup [.str "way",.lst (seen.map D.str)]),.no,.sh (fr (zzn w ns)),z',.no,.no]):=ht
 have hf:∀ x:Fra,zce "tuple" (fr x)=.ok (.bl true):=fun _=>rfl
 have hap:decide ((seen.map D.str).length<=999)=true:=decide_eq_true (by rw[List.length_map];omega)
 cases z'<;>open_line with[zaW,zds,h1,ew,hz,ht',hL,hP,zyr,hf,zrS,ev_app1 hap,ez]
theorem zdH {w:Web}(W:zcR w){d:D}(hd:(∃ th,d=.lst th/\Way th 60)∨(Elt d/\∀ ds,d≠.lst ds)){n:Nat}(hr:Rp d n 3)(hn:n<=1000000):zaW [zba w,d]=.ok (.bl true):=by
 have h1:=zwa W
 have h3:=hr.up (n':=1000000) (k':=4) hn (by decide)
 obtain⟨z,hz⟩:=Rp.repr (Rp.lst (Rps.cons h1 (Rps.cons h3 Rps.nil))) (by simp;decide) (by decide)
 have e0:zcL []=.lst []:=rfl
 rcases hd with⟨th,rfl,hw⟩ | ⟨he,hl⟩
 ·have he:∀ e∈th,Elt e:=fun e he=>(hw.el e he).elt
  have hl:=hw.le
  obtain⟨sn,hwr⟩:=znV (w:=w) (ks:=[]) he (by omega)
  rcases zre W (ks:=[]) he (by omega) with⟨j,e1,e2⟩ | ⟨seen,e1,e2,e3,e4⟩
  ·rw[e1] at hwr
   rw[e0] at hwr e2
   exact zmW W hz (.inr ⟨j,rfl⟩) hwr e2
  ·obtain⟨⟨ns,rfl,hns⟩,hln⟩:=zkJ _ _ _ _ _ e1
   have hl2:ns.length<=60:=by simpa using hl
   rw[e0] at e3 e4
   exact zpu W hns hl2 (by rw[hln];simp;omega) hz e4 e3
 ·have a:=zlR (w:=w) (ks:=[]) he hl
  have b:=zo4 (w:=w) (ks:=[]) he hl
  rw[e0] at a b
  exact zmW W hz (.inl rfl) a b
theorem zva {xs ys:List D}(h:xs.length+ys.length<=1000):zsD (.lst xs) (.lst ys)=.ok (.lst (xs++ys)):=by
 unfold zsD
 exact if_pos (Nat.le_trans h (by decide))
def zyW (ws:List D)(d:D):Prop:=(∃ th,d=.lst th/\Way th 60)∨d=.tup ws∨d=.non∨d=.int 5∨d=.dic [] []
theorem zvc (a:Addr){ws:List D}(hw:Way ws 7){st:List D}(h:St st):∃ d st',zc5 a st [.lst ws]=.ok (d,st')/\zyW ws d/\St st':=by
 have hlen:ze9 (.lst ws)=.ok (.int ws.length):=ev_lenL
 have hwl:=hw.le
 obtain⟨t,st1,t1,t0,_,S1⟩:=zbb a (n:=(ws.length:Int)+1) (by omega) (by omega) h
 obtain⟨o,st2,t2,o0,o1,S2⟩:=zbb a (n:=15) (by decide) (by decide) S1
 obtain⟨v,st3,t3,v0,v1,S3⟩:=zbb a (n:=9) (by decide) (by decide) S2
 obtain⟨u,st4,t4,u0,u1,S4⟩:=zbb a (n:=9) (by decide) (by decide) S3
 have ho:zhD (.int o):=.inl ⟨_,rfl,by omega⟩
 have one:∀ d∈[D.int o],zhD d:=fun d hd=>by
  have:d=.int o:=by simpa using hd
  rw[this];exact ho
 have hv:∃ d,dIx (.lst [.bl true,.bl false,.non,.int (-1),.int 14,.str "0",.tup [.int 0],.lst [.int 0],.int 1000000000000000000000000000000]) (.int v)=.ok d/\zhD d:=by
  have:v=0∨v=1∨v=2∨v=3∨v=4∨v=5∨v=6∨v=7∨v=8:=by omega
  rcases this with rfl | rfl | rfl | rfl | rfl | rfl | rfl | rfl | rfl
  ·exact⟨_,rfl,.inr (.inl rfl)⟩
  ·exact⟨_,rfl,.inr (.inr (.inl rfl))⟩
  ·exact⟨_,rfl,.inr (.inr (.inr (.inl rfl)))⟩
  ·exact⟨_,rfl,.inl ⟨-1,rfl,by decide⟩⟩
  ·exact⟨_,rfl,.inl ⟨14,rfl,by decide⟩⟩
  ·exact⟨_,rfl,.inr (.inr (.inr (.inr (.inl rfl))))⟩
  ·exact⟨_,rfl,.inr (.inr (.inr (.inr (.inr (.inr (.inl rfl))))))⟩
  ·exact⟨_,rfl,.inr (.inr (.inr (.inr (.inr (.inr (.inr (.inl rfl)))))))⟩
  ·exact⟨_,rfl,.inl ⟨_,rfl,by decide⟩⟩
 obtain⟨q,hq,sq⟩:=hv
 have one':∀ x∈[q],zhD x:=fun x hx=>by
  have:x=q:=by simpa using hx
  rw[this];exact sq
 have lA:=zmt (ws:=ws) (lo:=none) (hi:=some t)
 have lB:=zmt (ws:=ws) (lo:=some t) (hi:=none)
 have lB1:=zmt (ws:=ws) (lo:=some (t+1)) (hi:=none)
 have sA:=hw.cut none (some t)
 have sB:=hw.cut (some t) none
 have sB1:=hw.cut (some (t+1)) none
 have a1:=zg2 (xs:=zdj ws none (some t)) (ys:=zdj ws (some (t+1)) none) (by omega)
 have a2:=zg2 (xs:=zdj ws none (some t)) (ys:=[.int o]) (by simp;omega)
 have a3:=zg2 (xs:=zdj ws none (some t)++[.int o]) (ys:=zdj ws (some t) none) (by simp;omega)
 have a4:=zg2 (xs:=zdj ws none (some t)++[.int o]) (ys:=zdj ws (some (t+1)) none) (by simp;omega)
 have b2:=zg2 (xs:=zdj ws none (some t)) (ys:=[q]) (by simp;omega)
 have b4:=zg2 (xs:=zdj ws none (some t)++[q]) (ys:=zdj ws (some (t+1)) none) (by simp;omega)
 have htu:zqG (.lst ws)=.ok (.tup ws):=rfl
 obtain⟨es,hes⟩:∃ es:List D,es=[.lst ws,.lst (zdj ws none (some t)++zdj ws (some (t+1)) none),.lst (zdj ws none (some t)++[.int o]++zdj ws (some t) none),.lst (zdj ws none (some t)++[.int o]++zdj ws (some (t+1)) none),.lst (zdj ws none (some t)++[q]++zdj ws (some (t+1)) none),.tup ws,.non,.int 5,.dic [] []]:=⟨_,rfl⟩
 have hu:∃ d,dIx (.lst es) (.int u)=.ok d/\zyW ws d:=by
  have hlen3:∀ x:D,(zdj ws none (some t)++[x]++zdj ws (some t) none).length<=60:=fun x=>by simp only[List.length_append,List.length_cons,List.length_nil];omega
  have hlen4:∀ x:D,(zdj ws none (some t)++[x]++zdj ws (some (t+1)) none).length<=60:=fun x=>by simp only[List.length_append,List.length_cons,List.length_nil];omega
  have:u=0∨u=1∨u=2∨u=3∨u=4∨u=5∨u=6∨u=7∨u=8:=by omega
  subst hes
  rcases this with rfl | rfl | rfl | rfl | rfl | rfl | rfl | rfl | rfl
  ·exact⟨_,rfl,.inl ⟨_,rfl,hw.el,by omega⟩⟩
  ·exact⟨_,rfl,.inl ⟨_,rfl,zfA sA sB1,by rw[List.length_append];omega⟩⟩
  ·exact⟨_,rfl,.inl ⟨_,rfl,zfA (zfA sA one) sB,hlen3 _⟩⟩
  ·exact⟨_,rfl,.inl ⟨_,rfl,zfA (zfA sA one) sB1,hlen4 _⟩⟩
  ·exact⟨_,rfl,.inl ⟨_,rfl,zfA (zfA sA one') sB1,hlen4 _⟩⟩
  ·exact⟨_,rfl,.inr (.inl rfl)⟩
  ·exact⟨_,rfl,.inr (.inr (.inl rfl))⟩
  ·exact⟨_,rfl,.inr (.inr (.inr (.inl rfl)))⟩
  ·exact⟨_,rfl,.inr (.inr (.inr (.inr rfl)))⟩
 obtain⟨d,hd,B⟩:=hu
 refine⟨d,st4,?_,B,S4⟩
 have hc:zsD (.lst [.lst ws,.lst (zdj ws none (some t)++zdj ws (some (t+1)) none),.lst (zdj ws none (some t)++[.int o]++zdj ws (some t) none),.lst (zdj ws none (some t)++[.int o]++zdj ws (some (t+1)) none)]) (.lst [.lst (zdj ws none (some t)++[q]++zdj ws (some (t+1)) none),.tup ws,.non,.int 5,.dic [] []])=.ok (.lst es):=by
  rw[zva (by simp),hes];rfl
 open_line with[zc5,ziR,hlen,t1,t2,t3,t4,a1,a2,a3,a4,b2,b4,htu,p30,hq,hc,hd]
theorem zn1 {w:Web}(W:zcR w){ws:List D}{d:D}(h:zyW ws d)(hw:Way ws 7):zaW [zba w,d]=.ok (.bl true):=by
 rcases h with⟨ws',rfl,h'⟩ | rfl | rfl | rfl | rfl
 ·exact zdH W (.inl ⟨_,rfl,h'⟩) ((zs0 h').up (Nat.le_refl _) (by decide)) (by decide)
 ·exact zdH W (.inr ⟨.inl rfl,fun _ e=>by cases e⟩) ((zwb hw).up (Nat.le_refl _) (by decide)) (by decide)
 ·exact zdH W (.inr ⟨.inl rfl,fun _ e=>by cases e⟩) (Rp.non.up (Nat.le_refl _) (by decide)) (by decide)
 ·exact zdH W (.inr ⟨.inl rfl,fun _ e=>by cases e⟩) ((Rp.int (i:=5) (by decide)).up (Nat.le_refl _) (by decide)) (by decide)
 ·exact zdH W (.inr ⟨.inr rfl,fun _ e=>by cases e⟩) ((Rp.emp (k:=0)).up (Nat.le_refl _) (by decide)) (by decide)
section
variable {f g:Ev->List D->Res (D×List D)}{ρ:Ev}{st:List D}
theorem zyH:mOr f g ρ st=(f ρ st).bind (zxI g ρ):=zaq rfl
theorem zw5:zxI g ρ (.bl true,st)=.ok (.bl true,st):=zaq rfl
theorem zw4:zxI g ρ (.bl false,st)=g ρ st:=zaq rfl
theorem zw6:zwK f ρ st=(f ρ st).bind zus:=zaq rfl
theorem zuP {b:Bool}:zus (.bl b,st)=.ok (.bl (!b),st):=zaq rfl
end
abbrev zr0 (a:Addr):Ev->List D->Res MFl :=
 (zbl (zfp 5 (zbr 2 a (zaU (mP (zae 3)) (zaU (mP (zan zaz zdQ)) zdh)) zbf))
 (zbl (mIf (mOr (mT (zdD (zan (zad (zae 3) (zad (zae 5) zaz)) zaW))) (zwK (mA (zaU (mP (zae 3)) (zaU (zbr 2 a (zaU (mP (zae 5)) zdh) zc5) zdh)) zaW)))
 (zbl (zgN (dC (.bl false)))
 zbJ)
 zbJ)
 zbJ))
theorem zrh (a:Addr){w:Web}(W:zcR w){st:List D}(S:St st){d0 d1 d4:D}{x5:Sl} :
  ∃ d' st',zr0 a [.sh d0,.sh d1,.pt a,.sh (zba w),.sh d4,x5] st=.ok (.nx [.sh d0,.sh d1,.pt a,.sh (zba w),.sh d4,.sh d'] st')/\St st':=by
 obtain⟨way,st1,t1,hl,hk,S1⟩:=zo5 a W (ks:=[]) S
 have t1:zbf a st [zba w,.lst []]=.ok (.lst (zc3 way),st1):=t1
 have t14:=W.t14
 have hw:Way (zc3 way) 7:=⟨fun d hd=>by
  obtain⟨k,hk',rfl⟩:=List.mem_map.mp hd
  exact .inl ⟨_,rfl,by have:=hk k hk';simp;omega⟩,by unfold zc3;rw[List.length_map];exact hl⟩
 have hw6:Way (zc3 way) 60:=⟨hw.el,Nat.le_trans hw.le (by decide)⟩
 obtain⟨d,st2,t2,B,S2⟩:=zvc a hw S1
 have r1:=zdH W (.inl ⟨_,rfl,hw6⟩) ((zs0 hw6).up (Nat.le_refl _) (by decide)) (by decide)
 have r2:=zn1 W B hw
 refine⟨.lst (zc3 way),st2,?_,S2⟩
 cases x5<;>open_line with[t1,t2,r1,r2,zyH,zw5,zw4,zw6,zuP]
theorem zxU (a:Addr){w:Web}(W:zcR w){st:List D}(S:St st){d0 d1:D}{x4 x5:Sl} :
  ∃ y4 y5 st',DL.forM (zcV 4) (zr0 a) (intsFrom 0 5) [.sh d0,.sh d1,.pt a,.sh (zba w),x4,x5] st=.ok (.nx [.sh d0,.sh d1,.pt a,.sh (zba w),y4,y5] st'):=by
 obtain⟨ρ2,st2,h,⟨y6,y7,rfl⟩,_⟩:=zkf (tg:=zcV 4) (body:=zr0 a) (fun _ ρ st=>(∃ y6 y7,ρ=[.sh d0,.sh d1,.pt a,.sh (zba w),y6,y7])/\St st) (intsFrom 0 5) (by
  rintro j d ρ st hd ⟨⟨y6,y7,rfl⟩,S⟩
  obtain⟨d',st',e,S'⟩:=zrh a W S (d0:=d0) (d1:=d1) (d4:=d) (x5:=y7)
  exact⟨_,_,st',rfl,.inl e,⟨_,_,rfl⟩,S'⟩) 0 [.sh d0,.sh d1,.pt a,.sh (zba w),x4,x5] st (Nat.zero_le _) ⟨⟨_,_,rfl⟩,S⟩
 exact⟨y6,y7,st2,h⟩
abbrev zrN (a:Addr):Ev->List D->Res MFl :=
 (zbl (zfp 3 (zbr 2 a (zaU (mP (dC (.int 7))) (zaU (mP (dC (.int 14))) zdh)) zbS))
 (zbl (zmf (zup (zgy (dC (.int 5)))) (zcV 4)
 (zr0 a))
 zbJ))
theorem zrj (a:Addr){d0 d1:D}{st:List D}(S:St st):∃ d3 y4 y5 st',zrN a [.sh d0,.sh d1,.pt a,.no,.no,.no] st=.ok (.nx [.sh d0,.sh d1,.pt a,.sh d3,y4,y5] st'):=by
 obtain⟨w,st1,t1,W,S1⟩:=web_ok a (p:=7) (q:=14) ⟨by decide,by decide⟩ (by decide) S
 obtain⟨y4,y5,st5,hf⟩:=zxU a W S1 (d0:=d0) (d1:=d1) (x4:=.no) (x5:=.no)
 have hs:∀ ρ,zgy (dC (.int 5)) ρ=.ok (intsFrom 0 5):=fun _=>rfl
 refine⟨zba w,y4,y5,st5,?_⟩
 have t1:zbS a st [.int 7,.int 14]=.ok (zba w,st1):=t1
 open_line with[t1,hs,hf]
theorem zrY (ns:List Int)(hn:ns.length<=63):zp3 [.lst (ns.map D.int)]=.ok (.bl true):=by
 obtain⟨q,m,hm,h1,hq⟩:∃ (q:Int) (m:Nat),m<=10/\zxM (.int ns.length) (.int 10)=.ok (.int q)/\(if q > 1 then q else 1)=(m:Int):=by
  have h1:zxM (.int ns.length) (.int 10)=.ok (.int (if(10:Int) < ns.length then 10 else ns.length)):=rfl
  refine⟨_,(if(if(10:Int) < ns.length then 10 else(ns.length:Int)) > 1 then(if(10:Int) < ns.length then 10 else(ns.length:Int)) else 1).toNat,?_,h1,?_⟩
  ·split<;>split<;>omega
  ·split<;>split<;>omega
 have hstep:∀ k,k < m->∀ ρ:Ev,(∃ s,ρ=[.sh (.lst (ns.map D.int)),s,.no,.no,.no,.no]) ->
   ∃ ρ2,(zh2 2 (zan (zad (zae 0) (zad (zae 1) zaz)) zbg) fun a=>zrN a) (ρ.set 1 (.sh (.int (k:Int))))=.ok (.nx ρ2)/\∃ s,ρ2=[.sh (.lst (ns.map D.int)),s,.no,.no,.no,.no]:=by
  rintro k hk ρ ⟨s,rfl⟩
  obtain⟨st,hb,S⟩:=zsK ns k (by omega) hn
  refine⟨[.sh (.lst (ns.map D.int)),.sh (.int (k:Int)),.no,.no,.no,.no],?_,_,rfl⟩
  have h1:(zan (zad (zae 0) (zad (zae 1) zaz)) zbg) [.sh (.lst (ns.map D.int)),.sh (.int (k:Int)),.no,.no,.no,.no]=.ok (.lst st):=by
   open_line with[hb]
  show zh2 2 _ _ [.sh (.lst (ns.map D.int)),.sh (.int (k:Int)),.no,.no,.no,.no]=_
  unfold zh2
  rw[h1,ev_ok]
  unfold znw
  show(if _ then _ else _)=_
  rw[if_pos ⟨rfl,(by show 2 < 6;decide)⟩]
  refine zuw fun a=>?_
  obtain⟨d3,y4,y5,st',e⟩:=zrj a (d0:=.lst (ns.map D.int)) (d1:=.int (k:Int)) S
  show zsm 2 (zrN a [.sh (.lst (ns.map D.int)),.sh (.int (k:Int)),.pt a,.no,.no,.no] st)=_
  rw[e]
  rfl
 obtain⟨ρ',hf,s,rfl⟩:=zmm (i:=1) (body:=(zh2 2 (zan (zad (zae 0) (zad (zae 1) zaz)) zbg) fun a=>zrN a)) (fun _ ρ=>∃ s,ρ=[.sh (.lst (ns.map D.int)),s,.no,.no,.no,.no]) (n:=m) hstep (ρ:=[.sh (.lst (ns.map D.int)),.no,.no,.no,.no,.no]) ⟨.no,rfl⟩
 have hfr:=fun s:Ev->Res Fl=>zdn (tg:=zcV 1) (s:=s) (ρ:=[.sh (.lst (ns.map D.int)),.no,.no,.no,.no,.no]) (k:=m) (by omega)
 unfold zp3 zxt
 cases s<;>open_line with[List.length_map,h1,hq,hfr,hf]
end K12
namespace K12
open PySem L2 DL
def top (i:Nat):Stmt:=PySem.Challenge.pw_farthestcut_k12_lengths_and_places.main.body.getD i (.Pass ⟨0,0,0,0⟩)
abbrev zeI:Stmt:=top 52
abbrev zfE:Stmt:=top 53
abbrev zeH:Stmt:=top 56
abbrev zgH:Stmt:=top 54
abbrev zdX:Stmt:=top 55
abbrev zgG:Stmt:=top 57
abbrev zgF:Stmt:=top 58
abbrev zeF:Stmt:=top 61
abbrev zdW:Stmt:=top 62
abbrev zcI:Stmt:=top 63
abbrev zeE:Stmt:=top 64
abbrev zh0:Stmt:=top 13
abbrev zcG:Stmt:=top 38
abbrev zgC:Stmt:=top 11
abbrev zcH:Stmt:=top 1
abbrev zgD:Stmt:=top 12
abbrev zfD:Stmt:=top 34
abbrev zgB:Stmt:=top 35
abbrev zjZ:Stmt:=top 33
abbrev zdx:Stmt:=top 39
abbrev zgE:Stmt:=top 40
abbrev zdU:Stmt:=top 37
abbrev zcZ:Stmt:=top 36
abbrev zcF:Stmt:=top 46
abbrev zdT:Stmt:=top 42
abbrev zdw:Stmt:=top 44
abbrev zgA:Stmt:=top 43
abbrev zdV:Stmt:=top 48
abbrev zlW:Stmt:=top 16
abbrev zpr:Stmt:=top 17
abbrev zjX:Stmt:=top 18
abbrev zfC:Stmt:=top 49
abbrev zfB:Stmt:=top 50
abbrev zdy:Stmt:=top 66
abbrev zfF:Stmt:=top 60
abbrev zeG:Stmt:=top 67
abbrev zfG:Stmt:=top 65
abbrev zjY:Stmt:=top 68
theorem zcN:zaw ["_law_script","_law_k","_law_cell"] ["_law_script","_law_k"] (defScope zeI):=⟨rfl,rfl,rfl,by decide +kernel,rfl,by decide +kernel,by decide +kernel⟩
theorem zb8:zaw ["_law_state","_law_many","_law_digit","_law_made","_law_turn"] ["_law_state","_law_many"] (defScope zfE):=⟨rfl,rfl,rfl,by decide +kernel,rfl,by decide +kernel,by decide +kernel⟩
theorem zaO:zaw ["_law_state","_law_many","_law_letters","_law_long","_law_at","_law_turn","_law_step","_law_nested","_law_found","_law_k","_law_one"] ["_law_state","_law_many"] (defScope zeH):=⟨rfl,rfl,rfl,by decide +kernel,rfl,by decide +kernel,by decide +kernel⟩
theorem zcY:zaw ["_law_top","_law_bottom","_law_one","_law_other"] ["_law_top","_law_bottom"] (defScope zgH):=⟨rfl,rfl,rfl,by decide +kernel,rfl,by decide +kernel,by decide +kernel⟩
theorem zbD:zaw ["_law_state","_law_least","_law_way","_law_top","_law_many","_law_bottoms"] ["_law_state","_law_least"] (defScope zdX):=⟨rfl,rfl,rfl,by decide +kernel,rfl,by decide +kernel,by decide +kernel⟩
theorem zbi:zaw ["_law_state","_law_names_here","_law_k","_law_many","_law_one","_law_other","_law_word","_law_length","_law_worth"] ["_law_state","_law_names_here","_law_k"] (defScope zgG):=⟨rfl,rfl,rfl,by decide +kernel,rfl,by decide +kernel,by decide +kernel⟩
theorem zbo:zaw ["_law_state","_law_most","_law_more","_law_names_here","_law_many","_law_ties","_law_k","_law_first","_law_last"] ["_law_state","_law_most","_law_more"] (defScope zgF):=⟨rfl,rfl,rfl,by decide +kernel,rfl,by decide +kernel,by decide +kernel⟩
theorem zfX:zaw ["_law_tie_here","_law_here"] ["_law_tie_here","_law_here"] (defScope zeF):=⟨rfl,rfl,rfl,by decide +kernel,rfl,by decide +kernel,by decide +kernel⟩
theorem za0:zaw ["_law_state","_law_web_here","_law_gone","_law_here","_law_seen","_law_way","_law_some","_law_k","_law_there_here"] ["_law_state","_law_web_here","_law_gone"] (defScope zdW):=⟨rfl,rfl,rfl,by decide +kernel,rfl,by decide +kernel,by decide +kernel⟩
theorem zdG:zaw ["_law_web_here","_law_one"] ["_law_web_here","_law_one"] (defScope zcI):=⟨rfl,rfl,rfl,by decide +kernel,rfl,by decide +kernel,by decide +kernel⟩
theorem zbd:zaw ["_law_web_here","_law_gone","_law_thing","_law_here","_law_seen","_law_k","_law_one","_law_there_here"] ["_law_web_here","_law_gone","_law_thing"] (defScope zeE):=⟨rfl,rfl,rfl,by decide +kernel,rfl,by decide +kernel,by decide +kernel⟩
theorem zjd:zaw ["thing"] ["thing"] (defScope zh0):=⟨rfl,rfl,rfl,by decide +kernel,rfl,by decide +kernel,by decide +kernel⟩
theorem zbQ:zaw ["places","number","place"] ["places"] (defScope zcG):=⟨rfl,rfl,rfl,by decide +kernel,rfl,by decide +kernel,by decide +kernel⟩
theorem zhX:zaw ["thing"] ["thing"] (defScope zgC):=⟨rfl,rfl,rfl,by decide +kernel,rfl,by decide +kernel,by decide +kernel⟩
theorem zaY:zaw ["one","other","larger","smaller","rest"] ["one","other"] (defScope zcH):=⟨rfl,rfl,rfl,by decide +kernel,rfl,by decide +kernel,by decide +kernel⟩
theorem zhY:zaw ["thing"] ["thing"] (defScope zgD):=⟨rfl,rfl,rfl,by decide +kernel,rfl,by decide +kernel,by decide +kernel⟩
theorem zha:zaw ["thing"] ["thing"] (defScope zfD):=⟨rfl,rfl,rfl,by decide +kernel,rfl,by decide +kernel,by decide +kernel⟩
theorem zhW:zaw ["thing"] ["thing"] (defScope zgB):=⟨rfl,rfl,rfl,by decide +kernel,rfl,by decide +kernel,by decide +kernel⟩
theorem zkR:zaw ["thing"] ["thing"] (defScope zjZ):=⟨rfl,rfl,rfl,by decide +kernel,rfl,by decide +kernel,by decide +kernel⟩
theorem zcg:zaw ["ties","places","number","tie"] ["ties","places"] (defScope zdx):=⟨rfl,rfl,rfl,by decide +kernel,rfl,by decide +kernel,by decide +kernel⟩
theorem zhZ:zaw ["thing","places"] ["thing","places"] (defScope zgE):=⟨rfl,rfl,rfl,by decide +kernel,rfl,by decide +kernel,by decide +kernel⟩
theorem zfi:zaw ["thing"] ["thing"] (defScope zdU):=⟨rfl,rfl,rfl,by decide +kernel,rfl,by decide +kernel,by decide +kernel⟩
theorem zeg:zaw ["web","thing"] ["web","thing"] (defScope zcZ):=⟨rfl,rfl,rfl,by decide +kernel,rfl,by decide +kernel,by decide +kernel⟩
theorem zbt:zaw ["web","thing","ahead","number"] ["web","thing"] (defScope zcF):=⟨rfl,rfl,rfl,by decide +kernel,rfl,by decide +kernel,by decide +kernel⟩
theorem zdv:zaw ["tie","there"] ["tie"] (defScope zdT):=⟨rfl,rfl,rfl,by decide +kernel,rfl,by decide +kernel,by decide +kernel⟩
theorem zcf:zaw ["web","taken","places","number","here","there"] ["web","taken","places","number"] (defScope zdw):=⟨rfl,rfl,rfl,by decide +kernel,rfl,by decide +kernel,by decide +kernel⟩
theorem zcn:zaw ["web","taken","thing","places","at","number","there"] ["web","taken","thing"] (defScope zgA):=⟨rfl,rfl,rfl,by decide +kernel,rfl,by decide +kernel,by decide +kernel⟩
theorem zfj:zaw ["web","taking","thing"] ["web","taking","thing"] (defScope zdV):=⟨rfl,rfl,rfl,by decide +kernel,rfl,by decide +kernel,by decide +kernel⟩
theorem zhJ:zaw ["top","bottom","divisor"] ["top","bottom"] (defScope zlW):=⟨rfl,rfl,rfl,by decide +kernel,rfl,by decide +kernel,by decide +kernel⟩
theorem zpq:zaw ["one","other"] ["one","other"] (defScope zpr):=⟨rfl,rfl,rfl,by decide +kernel,rfl,by decide +kernel,by decide +kernel⟩
theorem zeD:zaw ["some","total","one"] ["some"] (defScope zjX):=⟨rfl,rfl,rfl,by decide +kernel,rfl,by decide +kernel,by decide +kernel⟩
theorem zg9:zaw ["web","way"] ["web","way"] (defScope zfC):=⟨rfl,rfl,rfl,by decide +kernel,rfl,by decide +kernel,by decide +kernel⟩
theorem zg8:zaw ["web","way"] ["web","way"] (defScope zfB):=⟨rfl,rfl,rfl,by decide +kernel,rfl,by decide +kernel,by decide +kernel⟩
theorem zbL:zaw ["_law_asked","_law_web_here","_law_way","_law_found","e"] ["_law_asked","_law_web_here","_law_way"] (defScope zdy):=⟨rfl,rfl,rfl,by decide +kernel,rfl,by decide +kernel,by decide +kernel⟩
theorem zhb:zaw ["_law_one","_law_other"] ["_law_one","_law_other"] (defScope zfF):=⟨rfl,rfl,rfl,by decide +kernel,rfl,by decide +kernel,by decide +kernel⟩
theorem za1:zaw ["_law_web_here","_law_way","_law_kept","_law_due","_law_told","_law_total","_law_number","_law_seen","_law_long"] ["_law_web_here","_law_way"] (defScope zeG):=⟨rfl,rfl,rfl,by decide +kernel,rfl,by decide +kernel,by decide +kernel⟩
theorem zbM:zaw ["_law_state","_law_way","_law_at","_law_other","_law_some","_law_odd"] ["_law_state","_law_way"] (defScope zfG):=⟨rfl,rfl,rfl,by decide +kernel,rfl,by decide +kernel,by decide +kernel⟩
theorem zhV:zaw ["_law_script","_law_k","_law_state","_law_web_here","_law_turn","_law_way"] ["_law_script"] (defScope zjY):=⟨rfl,rfl,rfl,by decide +kernel,rfl,by decide +kernel,by decide +kernel⟩
abbrev ze3:Stmt:=zuE (top 7) 0
theorem zpp:zaw ["self","at"] ["self","at"] (defScope ze3):=⟨rfl,rfl,rfl,by decide +kernel,rfl,by decide +kernel,by decide +kernel⟩
set_option genInjectivity false in
set_option genSizeOfSpec false in
structure Adr where
 zcx:Addr
 zkc:FuncData
 za7:Addr
 zaI:Addr
 zhx:Addr
 zhq:FuncData
 ziU:Addr
 ziA:FuncData
 zhw:Addr
 zhp:FuncData
 zjQ:Addr
 zjF:FuncData
 zgu:Addr
 zgh:FuncData
 zjP:Addr
 zjE:FuncData
 zjO:Addr
 zjD:FuncData
 zhu:Addr
 zhn:FuncData
 zgt:Addr
 zgg:FuncData
 zex:Addr
 zer:FuncData
 zht:Addr
 zhm:FuncData
 zlJ:Addr
 zlr:FuncData
 zev:Addr
 zep:FuncData
 zjL:Addr
 zjA:FuncData
 zew:Addr
 zeq:FuncData
 zjM:Addr
 zjB:FuncData
 ziT:Addr
 ziz:FuncData
 zjK:Addr
 zjz:FuncData
 znQ:Addr
 znJ:FuncData
 zfy:Addr
 zfu:FuncData
 zjN:Addr
 zjC:FuncData
 zgr:Addr
 zge:FuncData
 ze0:Addr
 zeS:FuncData
 zeu:Addr
 zeo:FuncData
 zgq:Addr
 zgd:FuncData
 zfx:Addr
 zft:FuncData
 zg3:Addr
 zgY:FuncData
 zgs:Addr
 zgf:FuncData
 zqZ:Addr
 zqE:FuncData
 ztq:Addr
 ztl:FuncData
 znP:Addr
 znI:FuncData
 ziS:Addr
 ziy:FuncData
 zfQ:Addr
 zfK:FuncData
 zfz:Addr
 zfv:FuncData
 ziV:Addr
 ziB:FuncData
 zhv:Addr
 zho:FuncData
 ziW:Addr
 ziC:FuncData
 zoF:Addr
 zqF:FuncData
set_option genInjectivity false in
set_option genSizeOfSpec false in
structure Txt (K:W.Frag) (mg:Str->Option Value) (t:Adr):Prop where
 zhj:FT K mg "_law_begun" zeI ["_law_script","_law_k"] t.zhx t.zhq
 zav:FT K mg "_law_take" zfE ["_law_state","_law_many"] t.ziU t.ziA
 zhi:FT K mg "_law_names" zeH ["_law_state","_law_many"] t.zhw t.zhp
 zgV:FT K mg "_law_low" zgH ["_law_top","_law_bottom"] t.zjQ t.zjF
 zd9:FT K mg "_law_amount" zdX ["_law_state","_law_least"] t.zgu t.zgh
 zjv:FT K mg "_law_tie" zgG ["_law_state","_law_names_here","_law_k"] t.zjP t.zjE
 zju:FT K mg "_law_web" zgF ["_law_state","_law_most","_law_more"] t.zjO t.zjD
 zdo:FT K mg "_law_there" zeF ["_law_tie_here","_law_here"] t.zhu t.zhn
 zf7:FT K mg "_law_walked" zdW ["_law_state","_law_web_here","_law_gone"] t.zgt t.zgg
 zek:FT K mg "_law_is_number" zcI ["_law_web_here","_law_one"] t.zex t.zer
 zhh:FT K mg "_law_wrong" zeE ["_law_web_here","_law_gone","_law_thing"] t.zht t.zhm
 zeN:FT K mg "is_name" zh0 ["thing"] t.zlJ t.zlr
 zej:FT K mg "look_at_places" zcG ["places"] t.zev t.zep
 zcW:FT K mg "is_whole" zgC ["thing"] t.zjL t.zjA
 zcM:FT K mg "common_divisor" zcH ["one","other"] t.zew t.zeq
 zgT:FT K mg "is_ratio" zgD ["thing"] t.zjM t.zjB
 zis:FT K mg "is_length" zfD ["thing"] t.ziT t.ziz
 zjt:FT K mg "is_worth" zgB ["thing"] t.zjK t.zjz
 znt:FT K mg "is_tie" zjZ ["thing"] t.znQ t.znJ
 zfr:FT K mg "look_at_ties" zdx ["ties","places"] t.zfy t.zfu
 zgU:FT K mg "is_place" zgE ["thing","places"] t.zjN t.zjC
 zd7:FT K mg "look_at_web" zdU ["thing"] t.zgr t.zge
 zc7:FT K mg "is_tie_number" zcZ ["web","thing"] t.ze0 t.zeS
 zei:FT K mg "look_at_taking" zcF ["web","thing"] t.zeu t.zeo
 zf5:FT K mg "steps_along" zdT ["tie"] t.zgq t.zgd
 zfq:FT K mg "place_behind" zdw ["web","taken","places","number"] t.zfx t.zft
 zgS:FT K mg "walk_way" zgA ["web","taken","thing"] t.zg3 t.zgY
 zf6:FT K mg "look_at_way" zdV ["web","taking","thing"] t.zgs t.zgf
 zqr:FT K mg "ratio" zlW ["top","bottom"] t.zqZ t.zqE
 ztd:FT K mg "plus" zpr ["one","other"] t.ztq t.ztl
 zns:FT K mg "sum_of" zjX ["some"] t.znP t.znI
 zd8:FT K mg "length_of" zfC ["web","way"] t.ziS t.ziy
 zd6:FT K mg "places_of" zfB ["web","way"] t.zfQ t.zfK
 zfs:FT K mg "_law_refused" zdy ["_law_asked","_law_web_here","_law_way"] t.zfz t.zfv
 zit:FT K mg "_law_plus" zfF ["_law_one","_law_other"] t.ziV t.ziB
 zeO:FT K mg "_law_right" zeG ["_law_web_here","_law_way"] t.zhv t.zho
 ziu:FT K mg "_law_bent" zfG ["_law_state","_law_way"] t.ziW t.ziC
 zw2:FT K mg "law" zjY ["_law_script"] t.zoF t.zqF
 n_abs:mg "abs"=none
 n_all:mg "all"=none
 n_bool:mg "bool"=none
 n_enumerate:mg "enumerate"=none
 n_int:mg "int"=none
 n_isinstance:mg "isinstance"=none
 n_len:mg "len"=none
 n_list:mg "list"=none
 n_max:mg "max"=none
 n_min:mg "min"=none
 n_range:mg "range"=none
 n_repr:mg "repr"=none
 n_str:mg "str"=none
 n_tuple:mg "tuple"=none
 zoo:mg "CutError"=some (.ref t.za7)
 zvq:zsQ K "CutError" t.za7
 zke:mg "NoWay"=some (.ref t.zaI)
 zuF:zsQ K "NoWay" t.zaI
 zhP:zvg K "NoWay" t.zaI
 zsP:Fun K "__init__" "NoWay.__init__" ze3 t.zcx t.zkc
 zgk:zgx K t.zkc ["self","at"] []
 zjT:XIn K t.zaI t.zcx
 zfR:XSt K t.zaI ["at"]
 zjU:W.isFn K (.ref t.zcx)=true
 zlQ:zvh K t.za7
 zd0:W.subIn K (.ref t.zaI) (.ref t.zaI)=some true
 zdg:Kon K mg "FEWEST_PLACES" (.int 2)
 ziN:Kon K mg "FIRST" (.int 2)
 zjG:Kon K mg "LAST" (.int 3)
 zhM:Kon K mg "LENGTH" (.int 3)
 ziM:Kon K mg "LETTERS" (.str "abcdefghijklmnopqrstuvwxyz")
 zdB:Kon K mg "LONGEST_NAME" (.int 8)
 zeb:Kon K mg "MOST_PLACES" (.int 7)
 zfM:Kon K mg "MOST_TIES" (.int 14)
 zky:Kon K mg "NOUGHT" (.tup [(.int 0),(.int 1)])
 zmx:Kon K mg "ONE" (.int 0)
 zfL:Kon K mg "OTHER" (.int 1)
 zfc:Kon K mg "PLACES" (.int 0)
 ziL:Kon K mg "TIES" (.int 1)
 zlz:Kon K mg "WORD" (.int 2)
 zmw:Kon K mg "WORDS" (.tup [(.str "one"),(.str "both")])
 zkx:Kon K mg "WORTH" (.int 4)
section
variable {P:Program}{w:World}{K:W.Frag}{mg:Str->Option Value}{base:Heap}{t:Adr}
theorem zlj (T:Txt K mg t):∀ x C,zon zik x=true->XC K x C->W.exmOne K (.ref C) (.ref t.zaI)=some true :=
 zsa fun q hq=>by
  unfold zik at hq
  simp only[List.mem_cons,List.not_mem_nil,or_false] at hq
  rcases hq with rfl
  ·exact⟨t.zaI,T.zhP.xc,T.zuF.exm T.zd0⟩
theorem zsg (T:Txt K mg t):zxB K zuJ "at" :=
 zhQ (p:=fun _ C _=>W.hasDictIn K C=true/\zgw K C "at") fun q hq=>by
  simp only[List.mem_cons,List.not_mem_nil,or_false] at hq
  rcases hq with rfl
  ·exact⟨t.zaI,T.zhP.xc,T.zfR.hd,T.zfR.no _ (by decide)⟩
theorem zgQ (T:Txt K mg t):FnOk P w K mg base CX0 1 t.zcx t.zkc ["self","at"] (zxE K ["at"]) :=
 zyD T.zsP zpp rfl (by decide) fun cdv A outer s0 H E=>(zxT (i:=1) T.zlQ rfl T.zoo (zpz (i:=1) rfl (Or.inl rfl) zwi) rfl rfl (Or.inl rfl) (Or.inl rfl) zvz)
theorem zi4 (T:Txt K mg t):FnOk P w K mg base CX0 1 t.zhx t.zhq ["_law_script","_law_k"] (spF K 2 zbg) :=
 zop T.zhj.F zcN fun cdv A outer s0 H H₀ E hr=>(
 (zda (zaS (i:=2) zcN.nd rfl (Or.inl rfl) zaf)
 (zda (zbB (zaM zrK (zc1 fun _ _ _ _=>rb _) (dv 1) (zaK zbj zcm rfl T.n_len PyProof.Rows.Boot.«len» (zaa (dv 0) zaj)) nm)
 (zab (zaS (i:=2) zcN.nd rfl (Or.inl rfl) (zai (dv 0) (dv 1)))
 zag)
 zag)
 (zlo (zga (zaa (dv 2) (zaa (zen (zbC (zbC (zen (dv 2) zaf) (zdM (zdM zaf (dv 1)) (dv 1))) zaf) zaf) (zaa (zdN zuh (zc1 fun _ _ _ _=>rb _) (dv 2) (znF zaf zaf) nm) zaj))))))))
theorem zas (T:Txt K mg t):FnOk P w K mg base CX0 1 t.ziU t.ziA ["_law_state","_law_many"] (spM K 1 zap) :=
 zcu T.zav.F zb8 rfl fun cdv A outer s0 H He H₀ a E hr=>(
 (zam (zn0 (zsy (i:=0) (E:=E0) (zbk (zai (dv 0) zaf)))
 (zam (zbU (i:=2) zb8.nd rfl (Or.inl rfl) (ziw (i:=0) (E:=E0) (zen (zai (dv 0) zaf) (dv 1))))
 (zam (zpj (i:=0) rfl (Or.inl rfl) (ziw (i:=0) (E:=E0) (zjy (zai (dv 0) zaf) (dv 1))) (zat (E:=E0) zaf))
 (zam (zpj (i:=0) rfl (Or.inl rfl) (ziw (i:=0) (E:=E0) (zdN zrL (zc1 fun _ _ _ _=>rb _) (zai (dv 0) zaf) zaf nm)) (zat (E:=E0) zaf))
 (zam (zeB (E:=E0) (dv 2))
 zbc))))
 zbc)
 (zam (zbh (E:=E0) fun vs=>(zaS (i:=3) zb8.nd rfl (Or.inl rfl) zaf))
 (zam (zlU (E:=E0) PassesOwn.never rfl (zme (E:=E0) (zf9 rfl T.n_range (zbC zaf (zdM zaf (znH zqR zxp rfl T.n_int PyProof.Rows.Boot.«int» (zaa (zdN zrL (zc1 fun _ _ _ _=>rb _) (dv 1) (znF zaf zaf) nm) zaj)))))) (fun vs=>(zb4 (i:=4) zb8.nd rfl (Or.inl rfl))) zbZ
 (zam (zpj (i:=0) rfl (Or.inl rfl) (ziw (i:=0) (E:=E0) (zen (zbC (zdM (zai (dv 0) zaf) zaf) zaf) zaf)) (zat (E:=E0) zaf))
 (zam (zbU (i:=3) zb8.nd rfl (Or.inl rfl) (ziw (i:=0) (E:=E0) (zbC (zdM (dv 3) zaf) (zen (zdM (zai (dv 0) zaf) (zai (dv 0) zaf)) zaf))))
 zbc)))
 (zam (zeB (E:=E0) (zen (zjy (dv 3) zaf) (dv 1)))
 zbc)))))
theorem zj6 (T:Txt K mg t):FnOk P w K mg base CX0 2 t.zhw t.zhp ["_law_state","_law_many"] (spM K 1 zca) :=
 zcu T.zhi.F zaO rfl fun cdv A outer s0 H He H₀ a E hr=>(
 (zam (ztZ (i:=2) zaO.nd rfl rfl (zzQ (E:=E0) ["_law_k","_law_state"] 1 [0] rfl (zme (E:=E0) (zf9 rfl T.n_range zaf)) (zfU (by decide)) (fun s H C fp pn=>⟨fun He H0e=>(zb4 (i:=0) (show List.Nodup (["_law_k","_law_state"]:List Str) from by decide) rfl (Or.inl rfl)),fun He H0e=>(qm 1 (E:=E0) ((zas T).mono (by decide:1<=1)) hr T.zav zaH (zay (zat (E:=E0) zaf) zaL) am1)⟩) ⟨rfl,rfl⟩ rfl rfl rfl rfl) zoy)
 (zam (zbU (i:=3) zaO.nd rfl (Or.inl rfl) (zlq (zat (E:=E0) zaf) (qm 0 (E:=E0) ((zas T).mono (by decide:1<=1)) hr T.zav zaH (zay (zat (E:=E0) zaf) zaL) am1)))
 (zam (zbU (i:=4) zaO.nd rfl (Or.inl rfl) (qm 0 (E:=E0) ((zas T).mono (by decide:1<=1)) hr T.zav zaH (zay (zat (E:=E0) (dv 3)) zaL) am1))
 (zam (zbU (i:=5) zaO.nd rfl (Or.inl rfl) (qm 0 (E:=E0) ((zas T).mono (by decide:1<=1)) hr T.zav zaH (zay (zat (E:=E0) zaf) zaL) am1))
 (zam (zbU (i:=6) zaO.nd rfl (Or.inl rfl) (zgX (zat (E:=E0) (zbV (zaa zaf (zaa zaf (zaa zaf (zaa zaf (zaa zaf (zaa zaf zaj)))))))) (qm 0 (E:=E0) ((zas T).mono (by decide:1<=1)) hr T.zav zaH (zay (zat (E:=E0) zaf) zaL) am1)))
 (zam (zbU (i:=7) zaO.nd rfl (Or.inl rfl) (zxd (E:=E0) (zb9 hr.units) zdK (qm 0 (E:=E0) ((zas T).mono (by decide:1<=1)) hr T.zav zaH (zay (zat (E:=E0) zaf) zaL) am1) (zat (E:=E0) zaf) nm))
 (zam (zbh (E:=E0) fun vs=>(zem (i:=8) zaO.nd rfl (Or.inl rfl) (zga zaj)))
 (zam (zbh (E:=E0) fun vs=>(zkk PassesOwn.never rfl rfl T.n_range (dv 1) (zb4 (i:=9) zaO.nd rfl (Or.inl rfl)) zbZ
 (zab (zem (i:=10) zaO.nd rfl (Or.inl rfl) (znD (dv 2) zdd (zdc (dv 3))))
 (zab (zw9 (i:=10) rfl (Or.inl rfl) (zen (zbC (dv 5) (zdM (dv 6) (dv 9))) zaf) (dv 4))
 (zab (zbB (zbk (dv 7))
 (zab (zem (i:=10) zaO.nd rfl (Or.inl rfl) (znD (dv 2) zdd (zdc (zbC zaf (zen (zbC (dv 5) (dv 9)) zaf)))))
 zag)
 zag)
 (zab (ztj 10 (zdb (i:=8) rfl (Or.inl rfl) (zuZ zde (zaa (zu3 (zxL ["_law_letter"] 1 [] rfl (zqC (dv 10)) (zfU (by decide)) (fun s H C fp pn=>⟨fun He H0e=>(zb4 (i:=0) (show List.Nodup (["_law_letter"]:List Str) from by decide) rfl (Or.inl rfl)),zkm,(zai zde (dv 0))⟩) ⟨rfl,rfl⟩ rfl rfl rfl rfl)) zaj))))
 zag))))))
 (zam (zeB (E:=E0) (dv 8))
 zbc))))))))))
theorem zie (T:Txt K mg t):FnOk P w K mg base CX0 1 t.zjQ t.zjF ["_law_top","_law_bottom"] (spD K 2 zbG) :=
 zaD T.zgV.F zcY fun cdv A outer s0 H H₀ E hr=>(
 (zab (zaS (i:=2) zcY.nd rfl (Or.inl rfl) (zaK zkw zqO rfl T.n_abs PyProof.Rows.Boot.«abs» (zaa (dv 0) zaj)))
 (zab (zaS (i:=3) zcY.nd rfl (Or.inl rfl) (dv 1))
 (zab (znz _ PassesOwn.never (zaM (zdI hr.units) zgM (dv 3) zaf nm)
 (zab (zxa (i:=2) (j:=3) rfl zcY.nd rfl rfl (by decide) rfl rfl (zaa (dv 3) (zaa (zen (dv 2) (dv 3)) zaj)) rfl)
 zag))
 (zab (zaQ (zdr (zaa (zjy (dv 0) (dv 2)) (zaa (zjy (dv 1) (dv 2)) zaj))))
 zag)))))
theorem zfn (T:Txt K mg t):FnOk P w K mg base CX0 2 t.zgu t.zgh ["_law_state","_law_least"] (spM K 1 zby) :=
 zcu T.zd9.F zbD rfl fun cdv A outer s0 H He H₀ a E hr=>(
 (zam (zbU (i:=2) zbD.nd rfl (Or.inl rfl) (qm 0 (E:=E0) ((zas T).mono (by decide:1<=1)) hr T.zav zaH (zay (zat (E:=E0) zaf) zaL) am1))
 (zam (zbU (i:=3) zbD.nd rfl (Or.inl rfl) (zlq (zat (E:=E0) (dv 1)) (qm 0 (E:=E0) ((zas T).mono (by decide:1<=1)) hr T.zav zaH (zay (zat (E:=E0) (zai (zbV (zaa zaf (zaa zaf (zaa zaf (zaa zaf (zaa zaf (zaa (znF zaf zaf) zaj))))))) (dv 2))) zaL) am1)))
 (zam (zbh (E:=E0) fun vs=>(zaS (i:=4) zbD.nd rfl (Or.inl rfl) (zai (zbV (zaa zaf (zaa zaf (zaa zaf (zaa zaf (zaa zaf (zaa zaf zaj))))))) (dv 2))))
 (zam (zbh (E:=E0) fun vs=>(zaS (i:=5) zbD.nd rfl (Or.inl rfl) (zbV (zaa zaf (zaa zaf (zaa zaf (zaa zaf (zaa zaf (zaa zaf (zaa zaf (zaa zaf (zaa zaf (zaa zaf (zaa zaf (zaa zaf zaj)))))))))))))))
 (zam (zsW (qmc (E:=E0) ((zie T).mono (by decide:1<=1)) hr T.zgV zaH (zay (zat (E:=E0) (dv 3)) (zay (zgX (zat (E:=E0) (dv 5)) (qm 0 (E:=E0) ((zas T).mono (by decide:1<=1)) hr T.zav zaH (zay (zat (E:=E0) (dv 4)) zaL) am1)) zaL)) am2))
 zbc))))))
theorem zmb (T:Txt K mg t):FnOk P w K mg base CX0 3 t.zjP t.zjE ["_law_state","_law_names_here","_law_k"] (spM K 2 zbF) :=
 zcu T.zjv.F zbi rfl fun cdv A outer s0 H He H₀ a E hr=>(
 (zam (zbh (E:=E0) fun vs=>(zaS (i:=3) zbi.nd rfl (Or.inl rfl) (zaK zbj zcm rfl T.n_len PyProof.Rows.Boot.«len» (zaa (dv 1) zaj))))
 (zam (zbU (i:=4) zbi.nd rfl (Or.inl rfl) (qm 0 (E:=E0) ((zas T).mono (by decide:1<=2)) hr T.zav zaH (zay (zat (E:=E0) (dv 3)) zaL) am1))
 (zam (zbU (i:=5) zbi.nd rfl (Or.inl rfl) (ztk (zlq (zat (E:=E0) (zbC (dv 4) zaf)) (qm 0 (E:=E0) ((zas T).mono (by decide:1<=2)) hr T.zav zaH (zay (zat (E:=E0) (znE (dv 3) zaf)) zaL) am1)) (zat (E:=E0) (dv 3))))
 (zam (zn0 (zmq (E:=E0) (zb9 hr.units) zdK (qm 0 (E:=E0) ((zas T).mono (by decide:1<=2)) hr T.zav zaH (zay (zat (E:=E0) zaf) zaL) am1) (zat (E:=E0) zaf) nm)
 (zam (zbh (E:=E0) fun vs=>(zaS (i:=4) zbi.nd rfl (Or.inl rfl) (zen (dv 2) (dv 3))))
 (zam (zbh (E:=E0) fun vs=>(zaS (i:=5) zbi.nd rfl (Or.inl rfl) (zen (zbC (dv 2) zaf) (dv 3))))
 zbc))
 zbc)
 (zam (zbU (i:=6) zbi.nd rfl (Or.inl rfl) (zgX (zat (E:=E0) (zbV (zaa zde (zaa zde zaj)))) (qm 0 (E:=E0) ((zas T).mono (by decide:1<=2)) hr T.zav zaH (zay (zat (E:=E0) zaf) zaL) am1)))
 (zam (zbU (i:=7) zbi.nd rfl (Or.inl rfl) (qm 0 (E:=E0) ((zfn T).mono (by decide:2<=2)) hr T.zd9 zaH (zay (zat (E:=E0) zaf) zaL) am1))
 (zam (zbU (i:=8) zbi.nd rfl (Or.inl rfl) (qm 0 (E:=E0) ((zfn T).mono (by decide:2<=2)) hr T.zd9 zaH (zay (zat (E:=E0) zaf) zaL) am1))
 (zam (zn0 (zmq (E:=E0) (zb9 hr.units) zdK (qm 0 (E:=E0) ((zas T).mono (by decide:1<=2)) hr T.zav zaH (zay (zat (E:=E0) zaf) zaL) am1) (zat (E:=E0) zaf) nm)
 (zam (zbh (E:=E0) fun vs=>(zaS (i:=8) zbi.nd rfl (Or.inl rfl) zdf))
 zbc)
 zbc)
 (zam (zeB (E:=E0) (zdr (zaa (zai (dv 1) (dv 4)) (zaa (zai (dv 1) (dv 5)) (zaa (dv 6) (zaa (dv 7) (zaa (dv 8) zaj)))))))
 zbc))))))))))
theorem zma (T:Txt K mg t):FnOk P w K mg base CX0 4 t.zjO t.zjD ["_law_state","_law_most","_law_more"] (spM K 2 zbS) :=
 zcu T.zju.F zbo rfl fun cdv A outer s0 H He H₀ a E hr=>(
 (zam (zbU (i:=3) zbo.nd rfl (Or.inl rfl) (qm 0 (E:=E0) ((zj6 T).mono (by decide:2<=3)) hr T.zhi zaH (zay (zlq (zat (E:=E0) zaf) (qm 0 (E:=E0) ((zas T).mono (by decide:1<=3)) hr T.zav zaH (zay (zat (E:=E0) (znE (dv 1) zaf)) zaL) am1)) zaL) am1))
 (zam (zbh (E:=E0) fun vs=>(zaS (i:=4) zbo.nd rfl (Or.inl rfl) (zaK zbj zcm rfl T.n_len PyProof.Rows.Boot.«len» (zaa (dv 3) zaj))))
 (zam (zbh (E:=E0) fun vs=>(zem (i:=5) zbo.nd rfl (Or.inl rfl) (zga zaj)))
 (zam (zlU (E:=E0) PassesOwn.never rfl (zp2 rfl T.n_range (qm 0 (E:=E0) ((zas T).mono (by decide:1<=3)) hr T.zav zaH (zay (zat (E:=E0) (zbC (dv 2) zaf)) zaL) am1)) (fun vs=>(zb4 (i:=6) zbo.nd rfl (Or.inl rfl))) zbZ
 (zam (zkN (i:=5) rfl (Or.inl rfl) (qm 0 (E:=E0) ((zmb T).mono (by decide:3<=3)) hr T.zjv zaH (zay (zat (E:=E0) (dv 3)) (zay (zat (E:=E0) (dv 6)) zaL)) am2))
 zbc))
 (zam (zbh (E:=E0) fun vs=>(zaS (i:=7) zbo.nd rfl (Or.inl rfl) zaf))
 (zam (zbh (E:=E0) fun vs=>(zaS (i:=8) zbo.nd rfl (Or.inl rfl) (znE (dv 4) zaf)))
 (zam (zn0 (zmq (E:=E0) (zb9 hr.units) zdK (qm 0 (E:=E0) ((zas T).mono (by decide:1<=3)) hr T.zav zaH (zay (zat (E:=E0) zaf) zaL) am1) (zat (E:=E0) zaf) nm)
 (zam (zbU (i:=7) zbo.nd rfl (Or.inl rfl) (qm 0 (E:=E0) ((zas T).mono (by decide:1<=3)) hr T.zav zaH (zay (zat (E:=E0) (dv 4)) zaL) am1))
 (zam (zbU (i:=8) zbo.nd rfl (Or.inl rfl) (ztk (zlq (zat (E:=E0) (zbC (dv 7) zaf)) (qm 0 (E:=E0) ((zas T).mono (by decide:1<=3)) hr T.zav zaH (zay (zat (E:=E0) (znE (dv 4) zaf)) zaL) am1)) (zat (E:=E0) (dv 4))))
 zbc))
 zbc)
 (zam (zeB (E:=E0) (zdr (zaa (dv 3) (zaa (dv 5) (zaa (zai (dv 3) (dv 7)) (zaa (zai (dv 3) (dv 8)) zaj))))))
 zbc)))))))))
theorem zd2 (T:Txt K mg t):FnOk P w K mg base CX0 1 t.zhu t.zhn ["_law_tie_here","_law_here"] (spD K 2 zaJ) :=
 zaD T.zdo.F zfX fun cdv A outer s0 H H₀ E hr=>(
 (zab (zbB (zaM (zb9 hr.units) zdK (zai (dv 0) zaf) (dv 1) nm)
 (zab (zaQ (zai (dv 0) zaf))
 zag)
 zag)
 (zab (zbB (DW.dt (zjw (zaM (zb9 hr.units) zdK (zai (dv 0) zaf) (dv 1) nm) (ze8 (zaM (zb9 hr.units) zdK (zai (dv 0) zaf) zde nm))))
 (zab (zaQ (zai (dv 0) zaf))
 zag)
 zag)
 (zab (zaQ zdf)
 zag))))
theorem zi3 (T:Txt K mg t):FnOk P w K mg base CX0 2 t.zgt t.zgg ["_law_state","_law_web_here","_law_gone"] (spM K 2 zbf) :=
 zcu T.zf7.F za0 rfl fun cdv A outer s0 H He H₀ a E hr=>(
 (zam (zbh (E:=E0) fun vs=>(zaS (i:=3) za0.nd rfl (Or.inl rfl) (zai (dv 1) zaf)))
 (zam (zbh (E:=E0) fun vs=>(zem (i:=4) za0.nd rfl (Or.inl rfl) (zga (zaa (dv 3) zaj))))
 (zam (zbh (E:=E0) fun vs=>(zem (i:=5) za0.nd rfl (Or.inl rfl) (zga zaj)))
 (zam (zrr _ PassesOwn.never (zkl (E:=E0) (zaM (zdI hr.units) zgM (dv 3) (zai (dv 1) zaf) nm))
 (zam (zbh (E:=E0) fun vs=>(zem (i:=6) za0.nd rfl (Or.inl rfl) (zga zaj)))
 (zam (zbh (E:=E0) fun vs=>(zkk PassesOwn.never rfl rfl T.n_range (zaK zbj zcm rfl T.n_len PyProof.Rows.Boot.«len» (zaa (zai (dv 1) zaf) zaj)) (zb4 (i:=7) za0.nd rfl (Or.inl rfl)) zbZ
 (zab (zaS (i:=8) za0.nd rfl (Or.inl rfl) (qc ((zd2 T).mono (by decide:1<=1)) hr T.zdo zaH (zaa (zai (zai (dv 1) zaf) (dv 7)) (zaa (dv 3) zaj)) al2))
 (zab (zbB (DW.dt (zjw (zaM zuf zul (dv 8) zdf nm) (zjw (zaM (zd1 hr.units) zd3 (dv 8) (dv 4) rfl) (ze8 (zaM (zd1 hr.units) zd3 (dv 7) (dv 2) rfl)))))
 (zab (zdb (i:=6) rfl (Or.inl rfl) (dv 7))
 zag)
 zag)
 zag))))
 (zam (zpk 6 (zn0 (zkl (E:=E0) (zaM (zb9 hr.units) zdK (dv 6) (zbV zaj) nm))
 (zam (zeB (E:=E0) (dv 5))
 zbc)
 zbc))
 (zam (zpk 6 (zkN (i:=5) rfl (Or.inl rfl) (zgX (zat (E:=E0) (dv 6)) (qm 0 (E:=E0) ((zas T).mono (by decide:1<=1)) hr T.zav zaH (zay (zat (E:=E0) (zaK zbj zcm rfl T.n_len PyProof.Rows.Boot.«len» (zaa (dv 6) zaj))) zaL) am1))))
 (zam (zbh (E:=E0) fun vs=>(zqz (i:=3) za0.nd rfl (Or.inl rfl) (qc ((zd2 T).mono (by decide:1<=1)) hr T.zdo zaH (zaa (zai (zai (dv 1) zaf) (zai (dv 5) (zix zaf))) (zaa (dv 3) zaj)) al2)))
 (zam (zbh (E:=E0) fun vs=>(zdb (i:=4) rfl (Or.inl rfl) (dv 3)))
 zbc)))))))
 (zam (zeB (E:=E0) (dv 5))
 zbc))))))
theorem zgL (T:Txt K mg t):FnOk P w K mg base CX0 1 t.zex t.zer ["_law_web_here","_law_one"] (spD K 2 zau) :=
 zaD T.zek.F zdG fun cdv A outer s0 H H₀ E hr=>(
 (zab (zbB (DW.dt (zc9 (zbq (zbk (za9 zjp rfl T.n_isinstance rfl T.n_int PyProof.Rows.Boot.«int» (dv 1)))) (zaR (zbk (za9 zim rfl T.n_isinstance rfl T.n_bool PyProof.Rows.Boot.«bool» (dv 1))))))
 (zab (zaQ zgc)
 zag)
 zag)
 (zab (zaQ (znG zl6 zrK (zcz fun _ _ _ _=>rb _) (zcz fun _ _ _ _=>rb _) zcA zcA zaf (dv 1) (zaK zbj zcm rfl T.n_len PyProof.Rows.Boot.«len» (zaa (zai (dv 0) zaf) zaj))))
 zag)))
theorem zj5 (T:Txt K mg t):FnOk P w K mg base CX0 2 t.zht t.zhm ["_law_web_here","_law_gone","_law_thing"] (spD K 3 zaA) :=
 zaD T.zhh.F zbd fun cdv A outer s0 H H₀ E hr=>(
 (zab (zbB (zbq (zbk (za9 zct rfl T.n_isinstance rfl T.n_list PyProof.Rows.Boot.«list» (dv 2))))
 (zab (zaQ (zdr (zaa zde (zaa zdf zaj))))
 zag)
 zag)
 (zab (zaS (i:=3) zbd.nd rfl (Or.inl rfl) (zai (dv 0) zaf))
 (zab (zem (i:=4) zbd.nd rfl (Or.inl rfl) (zga (zaa (dv 3) zaj)))
 (zab (zkk PassesOwn.never rfl rfl T.n_range (zaK zbj zcm rfl T.n_len PyProof.Rows.Boot.«len» (zaa (dv 2) zaj)) (zb4 (i:=5) zbd.nd rfl (Or.inl rfl)) zbZ
 (zab (zaS (i:=6) zbd.nd rfl (Or.inl rfl) (zai (dv 2) (dv 5)))
 (zab (zaS (i:=7) zbd.nd rfl (Or.inl rfl) zdf)
 (zab (zbB (DW.dt (zjw (zaM (zdI hr.units) zgM (dv 3) (zai (dv 0) zaf) nm) (zjw (zbk (qc ((zgL T).mono (by decide:1<=1)) hr T.zek zaH (zaa (dv 0) (zaa (dv 6) zaj)) al2)) (ze8 (zaM (zd1 hr.units) zd3 (dv 6) (dv 1) rfl)))))
 (zab (zaS (i:=7) zbd.nd rfl (Or.inl rfl) (qc ((zd2 T).mono (by decide:1<=1)) hr T.zdo zaH (zaa (zai (zai (dv 0) zaf) (dv 6)) (zaa (dv 3) zaj)) al2))
 zag)
 zag)
 (zab (zbB (DW.dt (zc9 (zaM znb znc (dv 7) zdf nm) (zaR (zaM (zpO hr.units) zpV (dv 7) (dv 4) rfl))))
 (zab (zaQ (zdr (zaa zde (zaa (dv 5) zaj))))
 zag)
 zag)
 (zab (zaS (i:=3) zbd.nd rfl (Or.inl rfl) (dv 7))
 (zab (zdb (i:=4) rfl (Or.inl rfl) (dv 3))
 zag)))))))
 (zab (zbB (zaM (zdI hr.units) zgM (dv 3) (zai (dv 0) zaf) nm)
 (zab (zaQ (zdr (zaa zde (zaa (zaK zbj zcm rfl T.n_len PyProof.Rows.Boot.«len» (zaa (dv 2) zaj)) zaj))))
 zag)
 zag)
 (zab (zaQ (zdr (zaa zde (zaa (dv 4) zaj))))
 zag)))))))
theorem ze4 (T:Txt K mg t):FnOk P w K mg base CX0 1 t.zlJ t.zlr ["thing"] (spD K 1 zb0) :=
 zaD T.zeN.F zjd fun cdv A outer s0 H H₀ E hr=>(
 (zab (zbB (DW.dt (zc9 (zbq (zbk (za9 zjo rfl T.n_isinstance rfl T.n_str PyProof.Rows.Boot.«str» (dv 0)))) (zaR (zbq (zny zl6 zl6 (zcz fun _ _ _ _=>rb _) (zcz fun _ _ _ _=>rb _) zcA zcA zaf (zaK zbj zcm rfl T.n_len PyProof.Rows.Boot.«len» (zaa (dv 0) zaj)) (zaT T.zdB rfl))))))
 (zab (zaQ zgc)
 zag)
 zag)
 (zab (zaQ (zaK (zsI rfl) zxq rfl T.n_all PyProof.Rows.Boot.«all» (zaa (zu3 (zxL ["sign"] 1 [] rfl (zxf (dv 0)) (zfU (by decide)) (fun s H C fp pn=>⟨fun He H0e=>(zb4 (i:=0) (show List.Nodup (["sign"]:List Str) from by decide) rfl (Or.inl rfl)),zkm,(zdN (zpO hr.units) zpV (dv 0) (zaT T.ziM rfl) rfl)⟩) ⟨rfl,rfl⟩ rfl rfl rfl rfl)) zaj)))
 zag)))
theorem zgK (T:Txt K mg t):FnOk P w K mg base CX0 2 t.zev t.zep ["places"] (spD K 1 zbn) :=
 zaD T.zej.F zbQ fun cdv A outer s0 H H₀ E hr=>(
 (zab (zbB (DW.dt (zc9 (zbq (zbk (za9 zct rfl T.n_isinstance rfl T.n_list PyProof.Rows.Boot.«list» (dv 0)))) (zaR (zbq (zny zl6 zl6 (zcz fun _ _ _ _=>rb _) (zcz fun _ _ _ _=>rb _) zcA zcA (zaT T.zdg rfl) (zaK zbj zcm rfl T.n_len PyProof.Rows.Boot.«len» (zaa (dv 0) zaj)) (zaT T.zeb rfl))))))
 (zab zb1
 zag)
 zag)
 (zab (zmp PassesOwn.never rfl (zmr rfl T.n_enumerate (dv 0)) (znC rfl (zdq (i:=1) zbQ.nd rfl (Or.inl rfl) (zdq (i:=2) zbQ.nd rfl (Or.inl rfl) zkn))) zfT
 (zab (zbB (DW.dt (zc9 (zbq (zbk (qc ((ze4 T).mono (by decide:1<=1)) hr T.zeN zaH (zaa (dv 2) zaj) al1))) (zaR (zaM (zpO hr.units) zpV (dv 2) (zcj (dv 0) zdd (zdc (dv 1))) rfl))))
 (zab zb1
 zag)
 zag)
 zag))
 zag)))
theorem zc0 (T:Txt K mg t):FnOk P w K mg base CX0 1 t.zjL t.zjA ["thing"] (spD K 1 zbu) :=
 zaD T.zcW.F zhX fun cdv A outer s0 H H₀ E hr=>(
 (zab (zaQ (zhl (za9 zjp rfl T.n_isinstance rfl T.n_int PyProof.Rows.Boot.«int» (dv 0)) (zgb (zxi (za9 zim rfl T.n_isinstance rfl T.n_bool PyProof.Rows.Boot.«bool» (dv 0))))))
 zag))
theorem zdJ (T:Txt K mg t):FnOk P w K mg base CX0 1 t.zew t.zeq ["one","other"] (spD K 2 za8) :=
 zaD T.zcM.F zaY fun cdv A outer s0 H H₀ E hr=>(
 (zab (zaS (i:=2) zaY.nd rfl (Or.inl rfl) (zaK zkw zqO rfl T.n_abs PyProof.Rows.Boot.«abs» (zaa (dv 0) zaj)))
 (zab (zaS (i:=3) zaY.nd rfl (Or.inl rfl) (zaK zkw zqO rfl T.n_abs PyProof.Rows.Boot.«abs» (zaa (dv 1) zaj)))
 (zab (znz _ PassesOwn.never (zaM (zdI hr.units) zgM (dv 3) zaf nm)
 (zab (zaS (i:=4) zaY.nd rfl (Or.inl rfl) (zen (dv 2) (dv 3)))
 (zab (zaS (i:=2) zaY.nd rfl (Or.inl rfl) (dv 3))
 (zab (zaS (i:=3) zaY.nd rfl (Or.inl rfl) (dv 4))
 zag))))
 (zab (zaQ (dv 2))
 zag)))))
theorem zib (T:Txt K mg t):FnOk P w K mg base CX0 2 t.zjM t.zjB ["thing"] (spD K 1 zcp) :=
 zaD T.zgT.F zhY fun cdv A outer s0 H H₀ E hr=>(
 (zab (zbB (DW.dt (zc9 (zbq (zbk (za9 zdm rfl T.n_isinstance rfl T.n_tuple PyProof.Rows.Boot.«tuple» (dv 0)))) (zaR (zaM (zdI hr.units) zgM (zaK zbj zcm rfl T.n_len PyProof.Rows.Boot.«len» (zaa (dv 0) zaj)) zaf nm))))
 (zab (zaQ zgc)
 zag)
 zag)
 (zab (zbB (DW.dt (zc9 (zbq (zbk (qc ((zc0 T).mono (by decide:1<=1)) hr T.zcW zaH (zaa (zai (dv 0) zaf) zaj) al1))) (zaR (zbq (zbk (qc ((zc0 T).mono (by decide:1<=1)) hr T.zcW zaH (zaa (zai (dv 0) zaf) zaj) al1))))))
 (zab (zaQ zgc)
 zag)
 zag)
 (zab (zaQ (zhl (zdN zuh (zc1 fun _ _ _ _=>rb _) (zai (dv 0) zaf) zaf nm) (zgb (zdN (zb9 hr.units) zdK (qc ((zdJ T).mono (by decide:1<=1)) hr T.zcM zaH (zaa (zai (dv 0) zaf) (zaa (zai (dv 0) zaf) zaj)) al2) zaf nm))))
 zag))))
theorem zkZ (T:Txt K mg t):FnOk P w K mg base CX0 3 t.ziT t.ziz ["thing"] (spD K 1 zcr) :=
 zaD T.zis.F zha fun cdv A outer s0 H H₀ E hr=>(
 (zab (zaQ (zhl (qc ((zib T).mono (by decide:2<=2)) hr T.zgT zaH (zaa (dv 0) zaj) al1) (zgb (zdN zuh (zc1 fun _ _ _ _=>rb _) (zai (dv 0) zaf) zaf nm))))
 zag))
theorem zl9 (T:Txt K mg t):FnOk P w K mg base CX0 3 t.zjK t.zjz ["thing"] (spD K 1 zcU) :=
 zaD T.zjt.F zhW fun cdv A outer s0 H H₀ E hr=>(
 (zab (zaQ (zyM (zdN znb znc (dv 0) zdf nm) (zgb (zhl (qc ((zib T).mono (by decide:2<=2)) hr T.zgT zaH (zaa (dv 0) zaj) al1) (zgb (zdN zrL (zc1 fun _ _ _ _=>rb _) (zai (dv 0) zaf) zaf nm))))))
 zag))
theorem zpS (T:Txt K mg t):FnOk P w K mg base CX0 4 t.znQ t.znJ ["thing"] (spD K 1 zd5) :=
 zaD T.znt.F zkR fun cdv A outer s0 H H₀ E hr=>(
 (zab (zbB (DW.dt (zc9 (zbq (zbk (za9 zdm rfl T.n_isinstance rfl T.n_tuple PyProof.Rows.Boot.«tuple» (dv 0)))) (zaR (zaM (zdI hr.units) zgM (zaK zbj zcm rfl T.n_len PyProof.Rows.Boot.«len» (zaa (dv 0) zaj)) zaf nm))))
 (zab (zaQ zgc)
 zag)
 zag)
 (zab (zbB (DW.dt (zc9 (zbq (zbk (qc ((ze4 T).mono (by decide:1<=3)) hr T.zeN zaH (zaa (zai (dv 0) (zaT T.zmx rfl)) zaj) al1))) (zc9 (zbq (zbk (qc ((ze4 T).mono (by decide:1<=3)) hr T.zeN zaH (zaa (zai (dv 0) (zaT T.zfL rfl)) zaj) al1))) (zaR (zaM (zb9 hr.units) zdK (zai (dv 0) (zaT T.zmx rfl)) (zai (dv 0) (zaT T.zfL rfl)) nm)))))
 (zab (zaQ zgc)
 zag)
 zag)
 (zab (zbB (DW.dt (zc9 (zbq (zbk (za9 zjo rfl T.n_isinstance rfl T.n_str PyProof.Rows.Boot.«str» (zai (dv 0) (zaT T.zlz rfl))))) (zaR (zaM (zd1 hr.units) zd3 (zai (dv 0) (zaT T.zlz rfl)) (zaT T.zmw rfl) rfl))))
 (zab (zaQ zgc)
 zag)
 zag)
 (zab (zaQ (zhl (qc ((zkZ T).mono (by decide:3<=3)) hr T.zis zaH (zaa (zai (dv 0) (zaT T.zhM rfl)) zaj) al1) (zgb (qc ((zl9 T).mono (by decide:3<=3)) hr T.zjt zaH (zaa (zai (dv 0) (zaT T.zkx rfl)) zaj) al1))))
 zag)))))
theorem zia (T:Txt K mg t):FnOk P w K mg base CX0 5 t.zfy t.zfu ["ties","places"] (spD K 2 zbE) :=
 zaD T.zfr.F zcg fun cdv A outer s0 H H₀ E hr=>(
 (zab (zbB (DW.dt (zc9 (zbq (zbk (za9 zct rfl T.n_isinstance rfl T.n_list PyProof.Rows.Boot.«list» (dv 0)))) (zaR (zaM zrL (zc1 fun _ _ _ _=>rb _) (zaK zbj zcm rfl T.n_len PyProof.Rows.Boot.«len» (zaa (dv 0) zaj)) (zaT T.zfM rfl) nm))))
 (zab zb1
 zag)
 zag)
 (zab (zmp PassesOwn.never rfl (zmr rfl T.n_enumerate (dv 0)) (znC rfl (zdq (i:=2) zcg.nd rfl (Or.inl rfl) (zdq (i:=3) zcg.nd rfl (Or.inl rfl) zkn))) zfT
 (zab (zbB (DW.dt (zc9 (zbq (zbk (qc ((zpS T).mono (by decide:4<=4)) hr T.znt zaH (zaa (dv 3) zaj) al1))) (zc9 (zaM (zd1 hr.units) zd3 (zai (dv 3) (zaT T.zmx rfl)) (dv 1) rfl) (zaR (zaM (zd1 hr.units) zd3 (zai (dv 3) (zaT T.zfL rfl)) (dv 1) rfl)))))
 (zab zb1
 zag)
 zag)
 zag))
 zag)))
theorem zic (T:Txt K mg t):FnOk P w K mg base CX0 2 t.zjN t.zjC ["thing","places"] (spD K 2 zcq) :=
 zaD T.zgU.F zhZ fun cdv A outer s0 H H₀ E hr=>(
 (zab (zaQ (zhl (qc ((ze4 T).mono (by decide:1<=1)) hr T.zeN zaH (zaa (dv 0) zaj) al1) (zgb (zdN (zpO hr.units) zpV (dv 0) (dv 1) rfl))))
 zag))
theorem zfm (T:Txt K mg t):FnOk P w K mg base CX0 6 t.zgr t.zge ["thing"] (spD K 1 zbe) :=
 zaD T.zd7.F zfi fun cdv A outer s0 H H₀ E hr=>(
 (zab (zbB (DW.dt (zc9 (zbq (zbk (za9 zdm rfl T.n_isinstance rfl T.n_tuple PyProof.Rows.Boot.«tuple» (dv 0)))) (zaR (zaM (zdI hr.units) zgM (zaK zbj zcm rfl T.n_len PyProof.Rows.Boot.«len» (zaa (dv 0) zaj)) zaf nm))))
 (zab zb1
 zag)
 zag)
 (zab (zfJ (qc ((zgK T).mono (by decide:2<=5)) hr T.zej zaH (zaa (zai (dv 0) (zaT T.zfc rfl)) zaj) al1))
 (zab (zfJ (qc ((zia T).mono (by decide:5<=5)) hr T.zfr zaH (zaa (zai (dv 0) (zaT T.ziL rfl)) (zaa (zai (dv 0) (zaT T.zfc rfl)) zaj)) al2))
 (zab (zbB (zbq (zbk (qc ((zic T).mono (by decide:2<=5)) hr T.zgU zaH (zaa (zai (dv 0) (zaT T.ziN rfl)) (zaa (zai (dv 0) (zaT T.zfc rfl)) zaj)) al2)))
 (zab zb1
 zag)
 zag)
 (zab (zbB (DW.dt (zc9 (zbq (zbk (qc ((zic T).mono (by decide:2<=5)) hr T.zgU zaH (zaa (zai (dv 0) (zaT T.zjG rfl)) (zaa (zai (dv 0) (zaT T.zfc rfl)) zaj)) al2))) (zaR (zaM (zb9 hr.units) zdK (zai (dv 0) (zaT T.zjG rfl)) (zai (dv 0) (zaT T.ziN rfl)) nm))))
 (zab zb1
 zag)
 zag)
 zag))))))
theorem zeh (T:Txt K mg t):FnOk P w K mg base CX0 2 t.ze0 t.zeS ["web","thing"] (spD K 2 zao) :=
 zaD T.zc7.F zeg fun cdv A outer s0 H H₀ E hr=>(
 (zab (zaQ (zhl (qc ((zc0 T).mono (by decide:1<=1)) hr T.zcW zaH (zaa (dv 1) zaj) al1) (zgb (znG zl6 zrK (zcz fun _ _ _ _=>rb _) (zcz fun _ _ _ _=>rb _) zcA zcA zaf (dv 1) (zaK zbj zcm rfl T.n_len PyProof.Rows.Boot.«len» (zaa (zai (dv 0) (zaT T.ziL rfl)) zaj))))))
 zag))
theorem zgJ (T:Txt K mg t):FnOk P w K mg base CX0 7 t.zeu t.zeo ["web","thing"] (spD K 2 zaV) :=
 zaD T.zei.F zbt fun cdv A outer s0 H H₀ E hr=>(
 (zab (zfJ (qc ((zfm T).mono (by decide:6<=6)) hr T.zd7 zaH (zaa (dv 0) zaj) al1))
 (zab (zbB (zbq (zbk (za9 zct rfl T.n_isinstance rfl T.n_list PyProof.Rows.Boot.«list» (dv 1))))
 (zab zb1
 zag)
 zag)
 (zab (zaS (i:=2) zbt.nd rfl (Or.inl rfl) (zix zaf))
 (zab (znA PassesOwn.never rfl (dv 1) (zb4 (i:=3) zbt.nd rfl (Or.inl rfl)) zbZ
 (zab (zbB (DW.dt (zc9 (zbq (zbk (qc ((zeh T).mono (by decide:2<=6)) hr T.zc7 zaH (zaa (dv 0) (zaa (dv 3) zaj)) al2))) (zaR (zaM zl6 (zc1 fun _ _ _ _=>rb _) (dv 3) (dv 2) nm))))
 (zab zb1
 zag)
 zag)
 (zab (zbB (zaM znb znc (zai (zai (zai (dv 0) (zaT T.ziL rfl)) (dv 3)) (zaT T.zkx rfl)) zdf nm)
 (zab zb1
 zag)
 zag)
 (zab (zaS (i:=2) zbt.nd rfl (Or.inl rfl) (dv 3))
 zag))))
 zag)))))
theorem zi1 (T:Txt K mg t):FnOk P w K mg base CX0 1 t.zgq t.zgd ["tie"] (spD K 1 zbw) :=
 zaD T.zf5.F zdv fun cdv A outer s0 H H₀ E hr=>(
 (zab (zaS (i:=1) zdv.nd rfl (Or.inl rfl) (zdr (zaa (zai (dv 0) (zaT T.zmx rfl)) (zaa (zai (dv 0) (zaT T.zfL rfl)) zaj))))
 (zab (zbB (zaM (zb9 hr.units) zdK (zai (dv 0) (zaT T.zlz rfl)) zde nm)
 (zab (zaQ (zbV (zaa (dv 1) zaj)))
 zag)
 zag)
 (zab (zaQ (zbV (zaa (dv 1) (zaa (zdr (zaa (zai (dv 0) (zaT T.zfL rfl)) (zaa (zai (dv 0) (zaT T.zmx rfl)) zaj))) zaj))))
 zag))))
theorem zh9 (T:Txt K mg t):FnOk P w K mg base CX0 3 t.zfx t.zft ["web","taken","places","number"] (spD K 4 zaF) :=
 zaD T.zfq.F zcf fun cdv A outer s0 H H₀ E hr=>(
 (zab (zbB (DW.dt (zc9 (zaM (zb9 hr.units) zdK (zai (dv 2) (zix zaf)) (zai (dv 0) (zaT T.zjG rfl)) nm) (zc9 (zbq (zbk (qc ((zeh T).mono (by decide:2<=2)) hr T.zc7 zaH (zaa (dv 0) (zaa (dv 3) zaj)) al2))) (zaR (zaM (zpO hr.units) zpV (dv 3) (dv 1) rfl)))))
 (zab (zaQ zdf)
 zag)
 zag)
 (zab (znA PassesOwn.never rfl (qc ((zi1 T).mono (by decide:1<=2)) hr T.zf5 zaH (zaa (zai (zai (dv 0) (zaT T.ziL rfl)) (dv 3)) zaj) al1) (znC rfl (zdq (i:=4) zcf.nd rfl (Or.inl rfl) (zdq (i:=5) zcf.nd rfl (Or.inl rfl) zkn))) zfT
 (zab (zbB (DW.dt (zjw (zaM (zb9 hr.units) zdK (dv 4) (zai (dv 2) (zix zaf)) nm) (ze8 (zaM (zd1 hr.units) zd3 (dv 5) (dv 2) rfl))))
 (zab (zaQ (dv 5))
 zag)
 zag)
 zag))
 (zab (zaQ zdf)
 zag))))
theorem zhd (T:Txt K mg t):FnOk P w K mg base (CXE P w) 4 t.zg3 t.zgY ["web","taken","thing"] (spF K 3 zaE) :=
 zir T.zgS.F zcn fun cdv A outer s0 H H₀ E hr=>(
 (zda (zbB (zbq (zbk (za9 zct rfl T.n_isinstance rfl T.n_list PyProof.Rows.Boot.«list» (dv 2))))
 (zab (ziv T.zhP.xc T.zjT T.zfR T.zjU ((zgQ T).mono (by decide:1<=2)) T.zgk (by decide) (by decide) hr T.zke hr.hd rfl (zaa zdf zaj))
 zag)
 zag)
 (zda (zem (i:=3) zcn.nd rfl (Or.inl rfl) (zga (zaa (zai (dv 0) (zaT T.ziN rfl)) zaj)))
 (zda (zmp PassesOwn.leaving rfl (zmr rfl T.n_enumerate (dv 2)) (znC rfl (zdq (i:=4) zcn.nd rfl (Or.inl rfl) (zdq (i:=5) zcn.nd rfl (Or.inl rfl) zkn))) zfT
 (zab (zqz (i:=6) zcn.nd rfl (Or.inl rfl) (qc ((zh9 T).mono (by decide:3<=3)) hr T.zfq zm9 (zaa (dv 0) (zaa (dv 1) (zaa (dv 3) (zaa (dv 5) zaj)))) al4))
 (zab (zbB (zaM znb znc (dv 6) zdf nm)
 (zab (ziv T.zhP.xc T.zjT T.zfR T.zjU ((zgQ T).mono (by decide:1<=2)) T.zgk (by decide) (by decide) hr T.zke hr.hd rfl (zaa (dv 4) zaj))
 zag)
 zag)
 (zab (zdb (i:=3) rfl (Or.inl rfl) (dv 6))
 zag))))
 (zda (zbB (zaM (zdI hr.units) zgM (zai (dv 3) (zix zaf)) (zai (dv 0) (zaT T.zjG rfl)) nm)
 (zab (ziv T.zhP.xc T.zjT T.zfR T.zjU ((zgQ T).mono (by decide:1<=2)) T.zgk (by decide) (by decide) hr T.zke hr.hd rfl (zaa (zaK zbj zcm rfl T.n_len PyProof.Rows.Boot.«len» (zaa (dv 2) zaj)) zaj))
 zag)
 zag)
 (zsv rfl (Or.inl rfl)))))))
theorem zl8 (T:Txt K mg t):FnOk P w K mg base (CXE P w) 4 t.zg3 t.zgY ["web","taken","thing"] (spD K 3 zaE):=(zhd T).imp (zpg fun _ _ h=>zmU h)
theorem zi2 (T:Txt K mg t):FnOk P w K mg base (CXE P w) 8 t.zgs t.zgf ["web","taking","thing"] (spD K 3 zbR) :=
 zjs T.zf6.F zfj fun cdv A outer s0 H H₀ E hr=>(
 (zab (zfJ (qc ((zgJ T).mono (by decide:7<=7)) hr T.zei zm9 (zaa (dv 0) (zaa (dv 1) zaj)) al2))
 (zab (zfJ (qc ((zl8 T).mono (by decide:4<=7)) hr T.zgS zl4 (zaa (dv 0) (zaa (dv 1) (zaa (dv 2) zaj))) al3))
 zag)))
theorem zrM (T:Txt K mg t):FnOk P w K mg base CX0 2 t.zqZ t.zqE ["top","bottom"] (spD K 2 zeL) :=
 zaD T.zqr.F zhJ fun cdv A outer s0 H H₀ E hr=>(
 (zab (zbB (DW.dt (zc9 (zbq (zbk (qc ((zc0 T).mono (by decide:1<=1)) hr T.zcW zaH (zaa (dv 0) zaj) al1))) (zaR (zbq (zbk (qc ((zc0 T).mono (by decide:1<=1)) hr T.zcW zaH (zaa (dv 1) zaj) al1))))))
 (zab zb1
 zag)
 zag)
 (zab (zbB (zaM (zb9 hr.units) zdK (dv 1) zaf nm)
 (zab zb1
 zag)
 zag)
 (zab (zaS (i:=2) zhJ.nd rfl (Or.inl rfl) (qc ((zdJ T).mono (by decide:1<=1)) hr T.zcM zaH (zaa (dv 0) (zaa (dv 1) zaj)) al2))
 (zab (zbB (zaM zrK (zc1 fun _ _ _ _=>rb _) (dv 1) zaf nm)
 (zab (zaS (i:=2) zhJ.nd rfl (Or.inl rfl) (zix (dv 2)))
 zag)
 zag)
 (zab (zaQ (zdr (zaa (zjy (dv 0) (dv 2)) (zaa (zjy (dv 1) (dv 2)) zaj))))
 zag))))))
theorem zuj (T:Txt K mg t):FnOk P w K mg base CX0 3 t.ztq t.ztl ["one","other"] (spD K 2 zhf) :=
 zaD T.ztd.F zpq fun cdv A outer s0 H H₀ E hr=>(
 (zab (zaQ (qc ((zrM T).mono (by decide:2<=2)) hr T.zqr zaH (zaa (zbC (zdM (zai (dv 0) zaf) (zai (dv 1) zaf)) (zdM (zai (dv 1) zaf) (zai (dv 0) zaf))) (zaa (zdM (zai (dv 0) zaf) (zai (dv 1) zaf)) zaj)) al2))
 zag))
theorem zpR (T:Txt K mg t):FnOk P w K mg base CX0 4 t.znP t.znI ["some"] (spD K 1 ze6) :=
 zaD T.zns.F zeD fun cdv A outer s0 H H₀ E hr=>(
 (zab (zaS (i:=1) zeD.nd rfl (Or.inl rfl) (zaT T.zky rfl))
 (zab (znA PassesOwn.never rfl (dv 0) (zb4 (i:=2) zeD.nd rfl (Or.inl rfl)) zbZ
 (zab (zaS (i:=1) zeD.nd rfl (Or.inl rfl) (qc ((zuj T).mono (by decide:3<=3)) hr T.ztd zaH (zaa (dv 1) (zaa (dv 2) zaj)) al2))
 zag))
 (zab (zaQ (dv 1))
 zag))))
theorem zeJ (T:Txt K mg t):FnOk P w K mg base (CXE P w) 9 t.ziS t.ziy ["web","way"] (spD K 2 zbO) :=
 zjs T.zd8.F zg9 fun cdv A outer s0 H H₀ E hr=>(
 (zab (zfJ (qc ((zi2 T).mono (by decide:8<=8)) hr T.zf6 zl4 (zaa (dv 0) (zaa (zbV zaj) (zaa (dv 1) zaj))) al3))
 (zab (zaQ (qc ((zpR T).mono (by decide:4<=8)) hr T.zns zm9 (zaa (zu3 (zxL ["number","web"] 1 [0] rfl (zqC (dv 1)) (zfU (by decide)) (fun s H C fp pn=>⟨fun He H0e=>(zb4 (i:=0) (show List.Nodup (["number","web"]:List Str) from by decide) rfl (Or.inl rfl)),zkm,(zai (zai (zai (dv 1) (zaT T.ziL rfl)) (dv 0)) (zaT T.zhM rfl))⟩) ⟨rfl,rfl⟩ rfl rfl rfl rfl)) zaj) al1))
 zag)))
theorem zfZ (T:Txt K mg t):FnOk P w K mg base (CXE P w) 7 t.zfQ t.zfK ["web","way"] (spF K 2 zbx) :=
 zir T.zd6.F zg8 fun cdv A outer s0 H H₀ E hr=>(
 (zda (zfJ (qc ((zfm T).mono (by decide:6<=6)) hr T.zd7 zm9 (zaa (dv 0) zaj) al1))
 (zlo (qf ((zhd T).mono (by decide:4<=6)) hr T.zgS zl4 (zaa (dv 0) (zaa (zbV zaj) (zaa (dv 1) zaj))) al3))))
theorem zhc (T:Txt K mg t):FnOk P w K mg base (CXE P w) 7 t.zfQ t.zfK ["web","way"] (spD K 2 zbx):=(zfZ T).imp (zpg fun _ _ h=>zmU h)
theorem zid (T:Txt K mg t):FnOk P w K mg base CX0 10 t.zfz t.zfv ["_law_asked","_law_web_here","_law_way"] (spD K 3 za2) :=
 zaD T.zfs.F zbL fun cdv A outer s0 H H₀ E hr=>(
 (zab (zaS (i:=3) zbL.nd rfl (Or.inl rfl) (zdr (zaa zde (zaa zdf zaj))))
 (zab (zw8 ⟨rfl,rfl⟩ (zxW (zaM (zb9 hr.units) zdK (dv 0) zaf nm) (qd ((zeJ T).mono (by decide:9<=9)) hr T.zd8 (zaa (dv 1) (zaa (dv 2) zaj)) al2) (qd ((zhc T).mono (by decide:7<=9)) hr T.zd6 (zaa (dv 1) (zaa (dv 2) zaj)) al2)) rfl T.zke (zlj T) zbL.nd rfl rfl (fun ea=>(zab (zaS (i:=3) zbL.nd rfl (Or.inl rfl) (zdr (zaa zde (zaa (zu1 (zsg T) (dv 4)) zaj))))
 zag)))
 (zab (zaQ (dv 3))
 zag))))
theorem zk0 (T:Txt K mg t):FnOk P w K mg base CX0 2 t.ziV t.ziB ["_law_one","_law_other"] (spD K 2 zc4) :=
 zaD T.zit.F zhb fun cdv A outer s0 H H₀ E hr=>(
 (zab (zaQ (qc ((zie T).mono (by decide:1<=1)) hr T.zgV zaH (zaa (zbC (zdM (zai (dv 0) zaf) (zai (dv 1) zaf)) (zdM (zai (dv 1) zaf) (zai (dv 0) zaf))) (zaa (zdM (zai (dv 0) zaf) (zai (dv 1) zaf)) zaj)) al2))
 zag))
theorem zfY (T:Txt K mg t):FnOk P w K mg base CX0 11 t.zhv t.zho ["_law_web_here","_law_way"] (spD K 2 zaW) :=
 zaD T.zeO.F za1 fun cdv A outer s0 H H₀ E hr=>(
 (zab (zaS (i:=2) za1.nd rfl (Or.inl rfl) (zaK (ziK hr) zmv rfl T.n_repr PyProof.Rows.Boot.«repr» (zaa (zbV (zaa (dv 0) (zaa (dv 1) zaj))) zaj)))
 (zab (zaS (i:=3) za1.nd rfl (Or.inl rfl) (qc ((zj5 T).mono (by decide:2<=10)) hr T.zhh zaH (zaa (dv 0) (zaa (zbV zaj) (zaa (dv 1) zaj))) al3))
 (zab (zbB (zaM (zb9 hr.units) zdK (zai (dv 3) zaf) zde nm)
 (zab (zuT (i:=4) za1.nd rfl rfl zls (zxL ["_law_asked","_law_web_here","_law_way"] 1 [0,1] rfl (zf9 rfl T.n_range zaf) (zfU (by decide)) (fun s H C fp pn=>⟨fun He H0e=>(zb4 (i:=0) (show List.Nodup (["_law_asked","_law_web_here","_law_way"]:List Str) from by decide) rfl (Or.inl rfl)),zkm,(qc ((zid T).mono (by decide:10<=10)) hr T.zfs zaH (zaa (dv 0) (zaa (dv 1) (zaa (dv 2) zaj))) al3)⟩) ⟨rfl,rfl⟩ rfl rfl rfl rfl))
 (zab (zaQ (zhl (zdN (zb9 hr.units) zdK (dv 4) (zbV (zaa (dv 3) (zaa (dv 3) zaj))) nm) (zgb (zdN (zb9 hr.units) zdK (zaK (ziK hr) zmv rfl T.n_repr PyProof.Rows.Boot.«repr» (zaa (zbV (zaa (dv 0) (zaa (dv 1) zaj))) zaj)) (dv 2) nm))))
 zag))
 zag)
 (zab (zaS (i:=5) za1.nd rfl (Or.inl rfl) (zdr (zaa zaf (zaa zaf zaj))))
 (zab (znA PassesOwn.never rfl (dv 1) (zb4 (i:=6) za1.nd rfl (Or.inl rfl)) zbZ
 (zab (zaS (i:=5) za1.nd rfl (Or.inl rfl) (qc ((zk0 T).mono (by decide:2<=10)) hr T.zit zaH (zaa (dv 5) (zaa (zai (zai (zai (dv 0) zaf) (dv 6)) zaf) zaj)) al2))
 zag))
 (zab (zem (i:=7) za1.nd rfl (Or.inl rfl) (qf (DL.FnOk.noXF ((zfZ T).mono (by decide:7<=10))) hr T.zd6 zaH (zaa (dv 0) (zaa (dv 1) zaj)) al2))
 (zab (zaS (i:=8) za1.nd rfl (Or.inl rfl) (qc (DL.FnOk.noX ((zeJ T).mono (by decide:9<=10))) hr T.zd8 zaH (zaa (dv 0) (zaa (dv 1) zaj)) al2))
 (zab (zbB (DW.dt (zc9 (zaM (zdI hr.units) zgM (dv 8) (dv 5) nm) (zaR (zbq (zbk (za9 zdm rfl T.n_isinstance rfl T.n_tuple PyProof.Rows.Boot.«tuple» (dv 8)))))))
 (zab (zaQ zgc)
 zag)
 zag)
 (zab (zbB (DW.dt (zc9 (zbq (zbk (za9 zct rfl T.n_isinstance rfl T.n_list PyProof.Rows.Boot.«list» (dv 7)))) (zaR (zaM (zdI hr.units) zgM (dv 7) (zai (dv 3) zaf) nm))))
 (zab (zaQ zgc)
 zag)
 zag)
 (zab (zdb (i:=7) rfl (Or.inl rfl) zde)
 (zab (zbB (DW.dt (zc9 (zaM (zdI hr.units) zgM (qc (DL.FnOk.noX ((zhc T).mono (by decide:7<=10))) hr T.zd6 zaH (zaa (dv 0) (zaa (dv 1) zaj)) al2) (zai (dv 3) zaf) nm) (zaR (zaM (zdI hr.units) zgM (qc (DL.FnOk.noX ((zeJ T).mono (by decide:9<=10))) hr T.zd8 zaH (zaa (dv 0) (zaa (dv 1) zaj)) al2) (dv 5) nm))))
 (zab (zaQ zgc)
 zag)
 zag)
 (zab (zaQ (zdN (zb9 hr.units) zdK (zaK (ziK hr) zmv rfl T.n_repr PyProof.Rows.Boot.«repr» (zaa (zbV (zaa (dv 0) (zaa (dv 1) zaj))) zaj)) (dv 2) nm))
 zag)))))))))))))
theorem zk1 (T:Txt K mg t):FnOk P w K mg base CX0 2 t.ziW t.ziC ["_law_state","_law_way"] (spM K 1 zc5) :=
 zcu T.ziu.F zbM rfl fun cdv A outer s0 H He H₀ a E hr=>(
 (zam (zbU (i:=2) zbM.nd rfl (Or.inl rfl) (qm 0 (E:=E0) ((zas T).mono (by decide:1<=1)) hr T.zav zaH (zay (zat (E:=E0) (zbC (zaK zbj zcm rfl T.n_len PyProof.Rows.Boot.«len» (zaa (dv 1) zaj)) zaf)) zaL) am1))
 (zam (zbU (i:=3) zbM.nd rfl (Or.inl rfl) (qm 0 (E:=E0) ((zas T).mono (by decide:1<=1)) hr T.zav zaH (zay (zat (E:=E0) zaf) zaL) am1))
 (zam (zbh (E:=E0) fun vs=>(zem (i:=4) zbM.nd rfl (Or.inl rfl) (zga (zaa (dv 1) (zaa (zbC (zcj (dv 1) zdd (zdc (dv 2))) (zcj (dv 1) (zdc (zbC (dv 2) zaf)) zdd)) (zaa (zbC (zbC (zcj (dv 1) zdd (zdc (dv 2))) (zbV (zaa (dv 3) zaj))) (zcj (dv 1) (zdc (dv 2)) zdd)) zaj))))))
 (zam (zbh (E:=E0) fun vs=>(zdb (i:=4) rfl (Or.inl rfl) (zbC (zbC (zcj (dv 1) zdd (zdc (dv 2))) (zbV (zaa (dv 3) zaj))) (zcj (dv 1) (zdc (zbC (dv 2) zaf)) zdd))))
 (zam (zbU (i:=5) zbM.nd rfl (Or.inl rfl) (zgX (zat (E:=E0) (zbV (zaa zgc (zaa zgc (zaa zdf (zaa (zix zaf) (zaa zaf (zaa zde (zaa (zdr (zaa zaf zaj)) (zaa (zbV (zaa zaf zaj)) (zaa (znF zaf zaf) zaj))))))))))) (qm 0 (E:=E0) ((zas T).mono (by decide:1<=1)) hr T.zav zaH (zay (zat (E:=E0) zaf) zaL) am1)))
 (zam (zbh (E:=E0) fun vs=>(ztj 4 (zem (i:=4) zbM.nd rfl (Or.inl rfl) (zxg (dv 4) (zbV (zaa (zbC (zbC (zcj (dv 1) zdd (zdc (dv 2))) (zbV (zaa (dv 5) zaj))) (zcj (dv 1) (zdc (zbC (dv 2) zaf)) zdd)) (zaa (znH zkv zsH rfl T.n_tuple PyProof.Rows.Boot.«tuple» (zaa (dv 1) zaj)) (zaa zdf (zaa zaf (zaa zu2 zaj))))))))))
 (zam (zpk 4 (zsW (zgX (zat (E:=E0) (dv 4)) (qm 0 (E:=E0) ((zas T).mono (by decide:1<=1)) hr T.zav zaH (zay (zat (E:=E0) zaf) zaL) am1))))
 zbc))))))))
theorem zwD (T:Txt K mg t):FnOk P w K mg base CX0 12 t.zoF t.zqF ["_law_script"] (spD K 1 zp3) :=
 zaD T.zw2.F zhV fun cdv A outer s0 H H₀ E hr=>(
 (zab (zkk PassesOwn.never rfl rfl T.n_range (zaK (zqQ rfl) zxo rfl T.n_max PyProof.Rows.Boot.«max» (zaa zaf (zaa (zaK (zqP rfl) zxn rfl T.n_min PyProof.Rows.Boot.«min» (zaa (zaK zbj zcm rfl T.n_len PyProof.Rows.Boot.«len» (zaa (dv 0) zaj)) (zaa zaf zaj))) zaj))) (zb4 (i:=1) zhV.nd rfl (Or.inl rfl)) zbZ
 (zqy (i:=2) zhV.nd rfl (Or.inl rfl) (qf ((zi4 T).mono (by decide:1<=11)) hr T.zhj zaH (zaa (dv 0) (zaa (dv 1) zaj)) al2) fun a=>(zam (zbU (i:=3) zhV.nd rfl (Or.inl rfl) (qm 2 (E:=E0) ((zma T).mono (by decide:4<=11)) hr T.zju zaH (zay (zat (E:=E0) zaf) (zay (zat (E:=E0) zaf) zaL)) am2))
 (zam (zlU (E:=E0) PassesOwn.never rfl (zme (E:=E0) (zf9 rfl T.n_range zaf)) (fun vs=>(zb4 (i:=4) zhV.nd rfl (Or.inl rfl))) zbZ
 (zam (zbU (i:=5) zhV.nd rfl (Or.inl rfl) (qm 2 (E:=E0) ((zi3 T).mono (by decide:2<=11)) hr T.zf7 zaH (zay (zat (E:=E0) (dv 3)) (zay (zat (E:=E0) (zbV zaj)) zaL)) am2))
 (zam (zn0 (DMW.dt (zxb (zkl (E:=E0) (zbq (zbk (qc ((zfY T).mono (by decide:11<=11)) hr T.zeO zaH (zaa (dv 3) (zaa (dv 5) zaj)) al2)))) (zsx (zuW (zuV (qmc (E:=E0) ((zfY T).mono (by decide:11<=11)) hr T.zeO zaH (zay (zat (E:=E0) (dv 3)) (zay (qm 2 (E:=E0) ((zk1 T).mono (by decide:2<=11)) hr T.ziu zaH (zay (zat (E:=E0) (dv 5)) zaL) am1) zaL)) am2))))))
 (zam (zeB (E:=E0) zgc)
 zbc)
 zbc)
 zbc)))
 zbc))))
 (zab (zaQ zgc)
 zag)))
end
theorem txt_mk {K:W.Frag}{h:Heap}{mg:Str->Option Value}(X:K.In h)(G:h.Ns mainGlobals mg){zcx:Addr}{za7:Addr}{zaI:Addr}{a_0:Addr}{a_1:Addr}{a_2:Addr}{a_3:Addr}{a_4:Addr}{a_5:Addr}{a_6:Addr}{a_7:Addr}{a_8:Addr}{a_9:Addr}{a_10:Addr}{a_11:Addr}{a_12:Addr}{a_13:Addr}{a_14:Addr}{a_15:Addr}{a_16:Addr}{a_17:Addr}{a_18:Addr}{a_19:Addr}{a_20:Addr}{a_21:Addr}{a_22:Addr}{a_23:Addr}{a_24:Addr}{a_25:Addr}{a_26:Addr}{a_27:Addr}{a_28:Addr}{a_29:Addr}{a_30:Addr}{a_31:Addr}{a_32:Addr}{a_33:Addr}{a_34:Addr}{a_35:Addr}{a_36:Addr}{a_37:Addr}(q_0:QA K "_law_begun" zeI a_0)(q_1:QA K "_law_take" zfE a_1)(q_2:QA K "_law_names" zeH a_2)(q_3:QA K "_law_low" zgH a_3)(q_4:QA K "_law_amount" zdX a_4)(q_5:QA K "_law_tie" zgG a_5)(q_6:QA K "_law_web" zgF a_6)(q_7:QA K "_law_there" zeF a_7)(q_8:QA K "_law_walked" zdW a_8)(q_9:QA K "_law_is_number" zcI a_9)(q_10:QA K "_law_wrong" zeE a_10)(q_11:QA K "is_name" zh0 a_11)(q_12:QA K "look_at_places" zcG a_12)(q_13:QA K "is_whole" zgC a_13)(q_14:QA K "common_divisor" zcH a_14)(q_15:QA K "is_ratio" zgD a_15)(q_16:QA K "is_length" zfD a_16)(q_17:QA K "is_worth" zgB a_17)(q_18:QA K "is_tie" zjZ a_18)(q_19:QA K "look_at_ties" zdx a_19)(q_20:QA K "is_place" zgE a_20)(q_21:QA K "look_at_web" zdU a_21)(q_22:QA K "is_tie_number" zcZ a_22)(q_23:QA K "look_at_taking" zcF a_23)(q_24:QA K "steps_along" zdT a_24)(q_25:QA K "place_behind" zdw a_25)(q_26:QA K "walk_way" zgA a_26)(q_27:QA K "look_at_way" zdV a_27)(q_28:QA K "ratio" zlW a_28)(q_29:QA K "plus" zpr a_29)(q_30:QA K "sum_of" zjX a_30)(q_31:QA K "length_of" zfC a_31)(q_32:QA K "places_of" zfB a_32)(q_33:QA K "_law_refused" zdy a_33)(q_34:QA K "_law_plus" zfF a_34)(q_35:QA K "_law_right" zeG a_35)(q_36:QA K "_law_bent" zfG a_36)(q_37:QA K "law" zjY a_37)
  (z_abs:W.nsIn K mainGlobals "abs"=some none)
  (z_all:W.nsIn K mainGlobals "all"=some none)
  (z_bool:W.nsIn K mainGlobals "bool"=some none)
  (z_enumerate:W.nsIn K mainGlobals "enumerate"=some none)
  (z_int:W.nsIn K mainGlobals "int"=some none)
  (z_isinstance:W.nsIn K mainGlobals "isinstance"=some none)
  (z_len:W.nsIn K mainGlobals "len"=some none)
  (z_list:W.nsIn K mainGlobals "list"=some none)
  (z_max:W.nsIn K mainGlobals "max"=some none)
  (z_min:W.nsIn K mainGlobals "min"=some none)
  (z_range:W.nsIn K mainGlobals "range"=some none)
  (z_repr:W.nsIn K mainGlobals "repr"=some none)
  (z_str:W.nsIn K mainGlobals "str"=some none)
  (z_tuple:W.nsIn K mainGlobals "tuple"=some none)
  (zhg:W.nsIn K mainGlobals "CutError"=some (some (.ref za7)))(zk9:W.typeIn K (.ref za7)=some (.type "type"))(zlb:W.mroIn K za7 (.type "object")=some true)(zld:W.subIn K (.ref za7) (.type "BaseException")=some true)
  (zil:W.nsIn K mainGlobals "NoWay"=some (some (.ref zaI)))(zk8:W.typeIn K (.ref zaI)=some (.type "type"))(zla:W.mroIn K zaI (.type "object")=some true)(zlc:W.subIn K (.ref zaI) (.type "BaseException")=some true)
  (znU:W.findIn K (.ref zaI) "__class__"=some (some (.builtin "object.__class__")))(zo1:W.findIn K (.ref zaI) "__getattribute__"=some (some (.builtin "BaseException.__getattribute__")))(zo0:W.findIn K (.ref zaI) "__getattr__"=some none)(zoW:W.subIn K (.ref zaI) (.type "NoneType")=some false)(zoV:W.subIn K (.ref zaI) (.type "bool")=some false)(zoU:W.subIn K (.ref zaI) (.type "int")=some false)(zoT:W.subIn K (.ref zaI) (.type "str")=some false)(zoS:W.subIn K (.ref zaI) (.type "tuple")=some false)(zoR:W.subIn K (.ref zaI) (.type "list")=some false)(zoQ:W.subIn K (.ref zaI) (.type "dict")=some false)(zoP:W.subIn K (.ref zaI) (.type "ValueError")=some true)(zlP:W.subIn K (.ref zaI) (.ref zaI)=some true)
  {zpW zp8 zqD zpD zly zqJ:Value}{zpU zqX:Option Addr}{zpl:Array (Option Value)}
  {zrR zrC:Str}{zmd:Addr}{zsJ zro:List Value}{zr8 zsM:Bool}{zrq:List Str}{zqM:Option Bool}{zsC zsw:Option Addr}{zr6 zr5 zr4 zr3 zr2:Option Value}{zsG:Value}{znv:Array DictEntry}{zsr:Nat}{zrp:Array (Option Value)}
  (zmH:K.lookup zaI=some (excClassObj zrR zrC zaI zmd zsJ [.ref za7,.type "ValueError",.type "Exception",.type "BaseException",.type "object"] zr8 zrq zro zsM zqM zsC zr6 zr5 zr4 zr3 zr2 "ValueError.__new__")) (zmG:K.lookup zmd=some ⟨zsG,zsw,.dict znv zsr,zrp⟩) (zmI:znv.toList.all zwF=true) (zmF:W.nsIn K zmd "__init__"=some (some (.ref zcx)))
  (zrB:W.isFn K (.ref zcx)=true) (zm1:K.lookup zcx=some ⟨zpW,zpU,.func (W.fnOf "__init__" "NoWay.__init__" (defArgs ze3) (defBody ze3) (defScope ze3) .none zp8 zqD zpD zqX zly zqJ),zpl⟩) (zm0:W.codeIn K zly "NoWay.__init__"=true) (zmZ:W.keepIn K (.ref zcx)=true)
  (zoX:W.findIn K (.ref zaI) "__setattr__"=some (some (.builtin "object.__setattr__"))) (zoZ:W.hasDictIn K zaI=true) (zkH:W.findIn K (.ref zaI) "at"=some none)
  (zg5:W.excIn K za7 [.type "ValueError",.type "Exception",.type "BaseException",.type "object"] "ValueError.__new__"=true) (zkG:W.readsIn K za7 (.type "type")=true) (zkI:W.findCls K (.ref za7) (.type "type") "__init__"=some (.val (.builtin "ValueError.__init__"))) (zkF:W.specialIn K (.ref za7) "__getattribute__"=some (some (.builtin "type.__getattribute__")))
  (zd0:W.subIn K (.ref zaI) (.ref zaI)=some true)
  {zhR:Tok}(zhO:W.nsIn K mainGlobals "FEWEST_PLACES"=some (some (.int 2 zhR)))
  {ztT:Tok}(ztw:W.nsIn K mainGlobals "FIRST"=some (some (.int 2 ztT)))
  {zvM:Tok}(zvx:W.nsIn K mainGlobals "LAST"=some (some (.int 3 zvM)))
  {zrn:Tok}(zq6:W.nsIn K mainGlobals "LENGTH"=some (some (.int 3 zrn)))
  {zpb:Tok}(zoO:W.nsIn K mainGlobals "LETTERS"=some (some (.str "abcdefghijklmnopqrstuvwxyz" zpb)))
  {zi0:Tok}(ziZ:W.nsIn K mainGlobals "LONGEST_NAME"=some (some (.int 8 zi0)))
  {zjV:Tok}(zjS:W.nsIn K mainGlobals "MOST_PLACES"=some (some (.int 7 zjV)))
  {zlT:Tok}(zlO:W.nsIn K mainGlobals "MOST_TIES"=some (some (.int 14 zlT)))
  {zm2:Addr}{znf:Obj}(zq5:W.nsIn K mainGlobals "NOUGHT"=some (some (.ref zm2))) (zrc:K.lookup zm2=some znf) (zrf:∃ od its n sl vs,znf=⟨.type "tuple",od,.seq its n,sl⟩/\zbK vs its.toList/\its.size<=sizeLine/\∀ H,Reps K H [.int 0,.int 1] vs)
  {zxX:Tok}(zxQ:W.nsIn K mainGlobals "ONE"=some (some (.int 0 zxX)))
  {ztS:Tok}(ztv:W.nsIn K mainGlobals "OTHER"=some (some (.int 1 ztS)))
  {zrm:Tok}(zq4:W.nsIn K mainGlobals "PLACES"=some (some (.int 0 zrm)))
  {zvL:Tok}(zvw:W.nsIn K mainGlobals "TIES"=some (some (.int 1 zvL)))
  {zvK:Tok}(zvv:W.nsIn K mainGlobals "WORD"=some (some (.int 2 zvK)))
  {zpy:Addr}{zpX:Obj}(ztu:W.nsIn K mainGlobals "WORDS"=some (some (.ref zpy))) (ztF:K.lookup zpy=some zpX) (ztK:∃ od its n sl vs,zpX=⟨.type "tuple",od,.seq its n,sl⟩/\zbK vs its.toList/\its.size<=sizeLine/\∀ H,Reps K H [.str "one",.str "both"] vs)
  {ztR:Tok}(ztt:W.nsIn K mainGlobals "WORTH"=some (some (.int 4 ztR))) :
  ∃ t:Adr,Txt K mg t/\t.zoF=a_37/\∃ kV doc pm an cdv ct,t.zqF=W.fnOf "law" "law" (defArgs zjY) (defBody zjY) (defScope zjY) .none kV doc pm an cdv ct:=by
 obtain⟨d_0,T_0,_⟩:=ft2 X G q_0 zcN
 obtain⟨d_1,T_1,_⟩:=ft2 X G q_1 zb8
 obtain⟨d_2,T_2,_⟩:=ft2 X G q_2 zaO
 obtain⟨d_3,T_3,_⟩:=ft2 X G q_3 zcY
 obtain⟨d_4,T_4,_⟩:=ft2 X G q_4 zbD
 obtain⟨d_5,T_5,_⟩:=ft3 X G q_5 zbi
 obtain⟨d_6,T_6,_⟩:=ft3 X G q_6 zbo
 obtain⟨d_7,T_7,_⟩:=ft2 X G q_7 zfX
 obtain⟨d_8,T_8,_⟩:=ft3 X G q_8 za0
 obtain⟨d_9,T_9,_⟩:=ft2 X G q_9 zdG
 obtain⟨d_10,T_10,_⟩:=ft3 X G q_10 zbd
 obtain⟨d_11,T_11,_⟩:=ft1 X G q_11 zjd
 obtain⟨d_12,T_12,_⟩:=ft1 X G q_12 zbQ
 obtain⟨d_13,T_13,_⟩:=ft1 X G q_13 zhX
 obtain⟨d_14,T_14,_⟩:=ft2 X G q_14 zaY
 obtain⟨d_15,T_15,_⟩:=ft1 X G q_15 zhY
 obtain⟨d_16,T_16,_⟩:=ft1 X G q_16 zha
 obtain⟨d_17,T_17,_⟩:=ft1 X G q_17 zhW
 obtain⟨d_18,T_18,_⟩:=ft1 X G q_18 zkR
 obtain⟨d_19,T_19,_⟩:=ft2 X G q_19 zcg
 obtain⟨d_20,T_20,_⟩:=ft2 X G q_20 zhZ
 obtain⟨d_21,T_21,_⟩:=ft1 X G q_21 zfi
 obtain⟨d_22,T_22,_⟩:=ft2 X G q_22 zeg
 obtain⟨d_23,T_23,_⟩:=ft2 X G q_23 zbt
 obtain⟨d_24,T_24,_⟩:=ft1 X G q_24 zdv
 obtain⟨d_25,T_25,_⟩:=ft4 X G q_25 zcf
 obtain⟨d_26,T_26,_⟩:=ft3 X G q_26 zcn
 obtain⟨d_27,T_27,_⟩:=ft3 X G q_27 zfj
 obtain⟨d_28,T_28,_⟩:=ft2 X G q_28 zhJ
 obtain⟨d_29,T_29,_⟩:=ft2 X G q_29 zpq
 obtain⟨d_30,T_30,_⟩:=ft1 X G q_30 zeD
 obtain⟨d_31,T_31,_⟩:=ft2 X G q_31 zg9
 obtain⟨d_32,T_32,_⟩:=ft2 X G q_32 zg8
 obtain⟨d_33,T_33,_⟩:=ft3 X G q_33 zbL
 obtain⟨d_34,T_34,_⟩:=ft2 X G q_34 zhb
 obtain⟨d_35,T_35,_⟩:=ft2 X G q_35 za1
 obtain⟨d_36,T_36,_⟩:=ft2 X G q_36 zbM
 obtain⟨d_37,T_37,zyV⟩:=ft1 X G q_37 zhV
 refine⟨⟨zcx,_,za7,zaI,a_0,d_0,a_1,d_1,a_2,d_2,a_3,d_3,a_4,d_4,a_5,d_5,a_6,d_6,a_7,d_7,a_8,d_8,a_9,d_9,a_10,d_10,a_11,d_11,a_12,d_12,a_13,d_13,a_14,d_14,a_15,d_15,a_16,d_16,a_17,d_17,a_18,d_18,a_19,d_19,a_20,d_20,a_21,d_21,a_22,d_22,a_23,d_23,a_24,d_24,a_25,d_25,a_26,d_26,a_27,d_27,a_28,d_28,a_29,d_29,a_30,d_30,a_31,d_31,a_32,d_32,a_33,d_33,a_34,d_34,a_35,d_35,a_36,d_36,a_37,d_37⟩,⟨T_0,T_1,T_2,T_3,T_4,T_5,T_6,T_7,T_8,T_9,T_10,T_11,T_12,T_13,T_14,T_15,T_16,T_17,T_18,T_19,T_20,T_21,T_22,T_23,T_24,T_25,T_26,T_27,T_28,T_29,T_30,T_31,T_32,T_33,T_34,T_35,T_36,T_37,W.mg_none_of X G z_abs,W.mg_none_of X G z_all,W.mg_none_of X G z_bool,W.mg_none_of X G z_enumerate,W.mg_none_of X G z_int,W.mg_none_of X G z_isinstance,W.mg_none_of X G z_len,W.mg_none_of X G z_list,W.mg_none_of X G z_max,W.mg_none_of X G z_min,W.mg_none_of X G z_range,W.mg_none_of X G z_repr,W.mg_none_of X G z_str,W.mg_none_of X G z_tuple,W.mg_of X G zhg,⟨zhg,zk9,zlb,zld⟩,W.mg_of X G zil,⟨zil,zk8,zla,zlc⟩,⟨⟨zil,zk8,zla,zlc⟩,znU,zo1,zo0,zoW,zoV,zoU,zoT,zoS,zoR,zoQ,zoP,zlP⟩,zno zm1 zm0 zmZ,?zgk,zsS zmH zmG zmI zmF zg5,zvy (zsS zmH zmG zmI zmF zg5) zoX zoZ (zrO zkH (zun)),zrB,⟨zkG,zkI,zkF⟩,zd0,?zdg,?ziN,?zjG,?zhM,?ziM,?zdB,?zeb,?zfM,?zky,?zmx,?zfL,?zfc,?ziL,?zlz,?zmw,?zkx⟩,rfl,zyV⟩
 case zgk=>exact(zno (st:=ze3) zm1 zm0 zmZ).binds fun _ _ _ _ _ _ us hl=>by obtain⟨_,_,rfl⟩:=ln2 hl;rfl
 case zdg=>exact zcs (W.mg_of X G zhO)
 case ziN=>exact zcs (W.mg_of X G ztw)
 case zjG=>exact zcs (W.mg_of X G zvx)
 case zhM=>exact zcs (W.mg_of X G zq6)
 case ziM=>exact zuA (W.mg_of X G zoO)
 case zdB=>exact zcs (W.mg_of X G ziZ)
 case zeb=>exact zcs (W.mg_of X G zjS)
 case zfM=>exact zcs (W.mg_of X G zlO)
 case zky =>
  obtain⟨od,its,n,sl,vs,rfl,h1,h2,h3⟩:=zrf
  exact zp7 (W.mg_of X G zq5) zrc h1 h2 h3
 case zmx=>exact zcs (W.mg_of X G zxQ)
 case zfL=>exact zcs (W.mg_of X G ztv)
 case zfc=>exact zcs (W.mg_of X G zq4)
 case ziL=>exact zcs (W.mg_of X G zvw)
 case zlz=>exact zcs (W.mg_of X G zvv)
 case zmw =>
  obtain⟨od,its,n,sl,vs,rfl,h1,h2,h3⟩:=ztK
  exact zp7 (W.mg_of X G ztu) ztF h1 h2 h3
 case zkx=>exact zcs (W.mg_of X G ztt)
theorem txt_wr {K:W.Frag}{mg:Str->Option Value}{a:Addr}{R:Adr->Prop}(h:∃ t:Adr,Txt K mg t/\t.zoF=a/\R t):∃ t:Adr,Txt K mg t/\mg "law"=some (.ref t.zoF)/\R t:=h.elim fun t ⟨T,_,r⟩=>⟨t,T,T.zw2.g,r⟩
theorem zvW (K:W.Frag)(H:Hp)(a:Addr)(ns:List Int)(hl:ns.length<=63)(hS:SqL K H a (ns.map V.int)):spD K 1 zp3 [.ref a] H (fun v _=>v=.bl true) fun _ _ _=>False:=by
 refine⟨rfl,H,[.lst (ns.map D.int)],zax.refl _,Reps.cons (Rep.lst_iff.mpr ⟨a,_,rfl,hS,Reps.ints ns⟩) Reps.nil,?_⟩
 rw[zrY ns hl]
 exact fun v H' H₀' _ r=>Rep.bl_iff.mp r
end K12
namespace PySem.W.Fast
def tw6510645827845737659:=0
def tw11127952177611630522:=0
def tw10755907517180549504:=0
def tw10776172158486220296:=0
def tw8268016083767597403:=0
def tw11183669720335296005:=0
def tw15391573745250184104:=0
def tw2568479489572010618:=0
def tw947475716374020948:=0
def tw16733201451083753928:=0
def tw12922477345116575874:=0
def tw8537042402523931881:=0
def tw2742321540290917253:=0
def tw3805465458791952367:=0
def tw1355469112231695561:=0
def tw5697336126818055513:=0
def tw8509790499779462360:=0
def tw11239938705327867002:=0
def tw15232780789101237411:=0
def tw11731075980775881244:=0
def tw18387547168893865788:=0
def tw9294983287239946241:=0
def tw2199123042658835549:=0
def tw15945107369762261170:=0
def tw456897406857482590:=0
def tw17944729656916048720:=0
def tw2271048428658225751:=0
def tw11717228191637518486:=0
def tw620592855005291977:=0
def tw15037188415365114742:=0
def tw16286775773066404614:=0
def tw16974813878798206815:=0
def tw17534184854999530065:=0
def tw13272680511262278108:=0
end PySem.W.Fast
open PySem PySem.W PyProof.Rows
set_option maxRecDepth 100000 in
set_option maxHeartbeats 0 in
theorem PySem.Challenge.cw_farthestcut_k12_lengths_and_places_holds : PySem.Challenge.rw_farthestcut_k12_lengths_and_places.Holds := by
 w_on;o_law;k_head;(case hw=>w_witness2)
 k_fill
 refine L2.walk_ofK (l:=PySem.Challenge.rw_farthestcut_k12_lengths_and_places) (n:=63) (k:=12) (x:="_law_script") (CX:=L2.CX0) (sp:=fun K=>DL.spD K 1 K12.zp3) ?I rfl (by decide) rfl ⟨rfl,by decide,by decide,rfl⟩ (fun w h Y=>W.kIn_of Y) ?F ?S ?C
 case S=>exact fun K H a ns hl _ hS=>K12.zvW K H a ns hl hS
 case C=>exact fun _ _ _ _ h=>h
 case I=>rfl
 case F =>
  intro w mg fa h KX G hmg
  have T:∃ t:K12.Adr,K12.Txt (L2.KOf KX) mg t/\mg "law"=some (.ref t.zoF)/\∃ kV doc pm an cdv ct,t.zqF=W.fnOf "law" "law" (L2.defArgs K12.zjY) (L2.defBody K12.zjY) (L2.defScope K12.zjY) .none kV doc pm an cdv ct:=by
   dsimp only[L2.KOf]
   refine' K12.txt_wr (K12.txt_mk KX G ?_ ?_ ?_ ?_ ?_ ?_ ?_ ?_ ?_ ?_ ?_ ?_ ?_ ?_ ?_ ?_ ?_ ?_ ?_ ?_ ?_ ?_ ?_ ?_ ?_ ?_ ?_ ?_ ?_ ?_ ?_ ?_ ?_ ?_ ?_ ?_ ?_ ?_ ?_ ?_ ?_ ?_ ?_ ?_ ?_ ?_ ?_ ?_ ?_ ?_ ?_ ?_ ?_ ?_ ?_ ?_ ?_ ?_ ?_ ?_ ?_ ?_ ?_ ?_ ?_ ?_ ?_ ?_ ?_ ?_ ?_ ?_ ?_ ?_ ?_ ?_ ?_ ?_ ?_ ?_ ?_ ?_ ?_ ?_ ?_ ?_ ?_ ?_ ?_ ?_ ?_ ?_ ?_ ?_ ?_ ?_ ?_ ?_ ?_ ?_ ?_ ?_ ?_ ?_ ?_ ?_ ?_ ?_)
   all_goals try first | (unfold DL.QA;exact⟨by k_is,by k_is,_,_,_,_,_,_,_,_,_,by k_is,by k_is⟩) | k_is | k_exc | rfl
   exact⟨_,_,_,_,[.int 0,.int 1],rfl,.cons ⟨_,rfl⟩ (.cons ⟨_,rfl⟩ (.nil)),by decide,fun H=>DL.Reps.cons (DL.ri _) (DL.Reps.cons (DL.ri _) (DL.Reps.nil))⟩
   exact⟨_,_,_,_,[.str "one",.str "both"],rfl,.cons ⟨_,rfl⟩ (.cons ⟨_,rfl⟩ (.nil)),by decide,fun H=>DL.Reps.cons (DL.Rep.str_iff.mpr rfl) (DL.Reps.cons (DL.Rep.str_iff.mpr rfl) (DL.Reps.nil))⟩
  obtain⟨t,T,e0,kV,doc,pm,an,cdv,ct,ed⟩:=T
  have e1:=hmg.symm.trans e0
  cases e1
  refine⟨t.zqF,fun s u=>?_,fun base kb nb=>K12.zwD T⟩
  rw[ed]
  exact .of_eq rfl
