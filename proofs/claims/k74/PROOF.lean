import PyProof.Rows.All
import Wide.All
import OpenK.AllK
import Wide.FinOn
import PyProof.EqAt
import PyProof.EqKinds
import PyProof.NeKinds
import PyProof.TupleCall
import PySem.Challenge.RW_farthestcut_k74_fractions_written
set_option Elab.async false
set_option linter.all false
set_option maxRecDepth 100000
set_option maxHeartbeats 4000000
namespace L2
open PySem PySem.Spec PyProof.Rows
abbrev Key:=Sum Int Str
def zqZ:Key->Value->Bool
 | .inl k,v=>Value.isInt k v
 | .inr x,v=>Value.isStrOf x v
def ztG (w:World):Key->Int
 | .inl k=>hashInt k
 | .inr x=>hashStr w x
theorem zbe:∀ {k:Key}{v:Value},zqZ k v=true->(∃ i t,k=Sum.inl i/\v=Value.int i t)∨(∃ x t,k=Sum.inr x/\v=Value.str x t)
 | .inl i,v,h=>by
  obtain⟨t,e⟩:=Value.isInt_shape (k:=i) (v:=v) h
  exact .inl ⟨i,t,rfl,e⟩
 | .inr x,v,h=>by
  obtain⟨t,e⟩:=Value.isStrOf_shape (x:=x) (v:=v) h
  exact .inr ⟨x,t,rfl,e⟩
theorem zqY (a b:Int):decide ((Sum.inl a:Key)=Sum.inl b)=(a==b):=by
 by_cases e:a=b
 ·subst e;simp
 ·have h:¬ (Sum.inl a:Key)=Sum.inl b:=fun q=>e (Sum.inl.inj q)
  rw[decide_eq_false h]
  exact(beq_eq_false_iff_ne.mpr e).symm
theorem zqV (a b:Str):decide ((Sum.inr a:Key)=Sum.inr b)=decide (a=b):=by
 by_cases e:a=b
 ·subst e;simp
 ·have h:¬ (Sum.inr a:Key)=Sum.inr b:=fun q=>e (Sum.inr.inj q)
  rw[decide_eq_false h,decide_eq_false e]
theorem zqX (a:Int)(b:Str):decide ((Sum.inl a:Key)=Sum.inr b)=false:=decide_eq_false (fun q=>nomatch q)
theorem zqW (a:Str)(b:Int):decide ((Sum.inr a:Key)=Sum.inl b)=false:=decide_eq_false (fun q=>nomatch q)
def zi2 (prog:Program)(w:World):PySem.KeyKind prog w Key where
 is:=zqZ
 hash:=ztG w
 inj:=fun v a b ha hb=>by
  rcases zbe ha with⟨i,t,rfl,rfl⟩ | ⟨x,t,rfl,rfl⟩
  ·rcases zbe hb with⟨j,u,rfl,e⟩ | ⟨y,u,rfl,e⟩
   ·injection e with e1 _;rw[e1]
   ·exact nomatch e
  ·rcases zbe hb with⟨j,u,rfl,e⟩ | ⟨y,u,rfl,e⟩
   ·exact nomatch e
   ·injection e with e1 _;rw[e1]
 byValue:=fun k v h=>by
  rcases zbe h with⟨i,t,rfl,rfl⟩ | ⟨x,t,rfl,rfl⟩<;>rfl
 pyHash:=fun hv h=>by
  rcases zbe hv with⟨i,t,rfl,rfl⟩ | ⟨x,t,rfl,rfl⟩
  ·exact wpAny_pyHash_int h
  ·exact wpAny_pyHash_str h
 eqBool:=fun hu hv h=>by
  rcases zbe hu with⟨i,t,rfl,rfl⟩ | ⟨x,t,rfl,rfl⟩
  ·rcases zbe hv with⟨j,u,rfl,rfl⟩ | ⟨y,u,rfl,rfl⟩
   ·rw[zqY] at h;exact wpAny_eqBool_int h
   ·rw[zqX] at h;exact SeqAt.EqAt.int_str i t y u _ _ _ _ h
  ·rcases zbe hv with⟨j,u,rfl,rfl⟩ | ⟨y,u,rfl,rfl⟩
   ·rw[zqW] at h;exact SeqAt.EqAt.str_int x t j u _ _ _ _ h
   ·rw[zqV] at h;exact wpAny_eqBool_str h
 «strs»:=fun k x t v h=>by
  rcases zbe h with⟨i,u,rfl,e⟩ | ⟨y,u,rfl,e⟩
  ·exact nomatch e
  ·injection e with e1 _
   subst e1
   cases v<;>rfl
inductive V where
 | non | bl (b:Bool) | int (i:Int) | str (x:Str) | byt (b:Array UInt8) | flt (b:UInt64) | ref (a:Addr) | ty (n:String)
 deriving DecidableEq
def zbB:V->Value->Prop
 | .non,u=>u=Value.none
 | .bl b,u=>u=Value.bool b
 | .int i,u=>∃ t,u=Value.int i t
 | .str x,u=>∃ t,u=Value.str x t
 | .byt b,u=>∃ t,u=Value.bytes b t
 | .flt b,u=>∃ t,u=Value.float b t
 | .ref a,u=>u=Value.ref a
 | .ty n,u=>u=Value.type n
abbrev zbG:List V->List Value->Prop:=Paired zbB
theorem zbG.length {xs:List V}{us:List Value}(r:zbG xs us):xs.length=us.length:=Paired.length r
theorem zbG.get:∀ {xs:List V}{us:List Value}{i:Nat}{x:V},zbG xs us->xs[i]?=some x->∃ u,us[i]?=some u/\zbB x u
 | _,_,_,_,.nil,e=>by simp at e
 | _,_,0,_,.cons r _,e=>by simp at e;subst e;exact⟨_,rfl,r⟩
 | _,_,i+1,x,.cons _ t,e=>by
  obtain⟨u,h1,h2⟩:=zbG.get (i:=i) (x:=x) t (by simpa using e)
  exact⟨u,by simpa using h1,h2⟩
theorem zbG.append:∀ {xs ys:List V}{us ws:List Value},zbG xs us->zbG ys ws->zbG (xs++ys) (us++ws)
 | _,_,_,_,.nil,s=>s
 | _,_,_,_,.cons r t,s=>.cons r (zbG.append t s)
theorem zbG.take:∀ {xs:List V}{us:List Value}(n:Nat),zbG xs us->zbG (xs.take n) (us.take n)
 | _,_,0,_=>.nil
 | _,_,_+1,.nil=>.nil
 | _,_,n+1,.cons r t=>.cons r (zbG.take n t)
theorem zbG.drop:∀ {xs:List V}{us:List Value}(n:Nat),zbG xs us->zbG (xs.drop n) (us.drop n)
 | _,_,0,r=>r
 | _,_,_+1,.nil=>.nil
 | _,_,n+1,.cons _ t=>zbG.drop n t
def zok:Option V->Option Value->Prop
 | some v,some u=>zbB v u
 | none,none=>True
 | _,_=>False
def KV {κ:Type}:List (κ×V)->List (κ×Value)->Prop:=Paired fun(p:κ×V) (q:κ×Value)=>p.1=q.1/\zbB p.2 q.2
def kV:Key->V
 | .inl i=>.int i
 | .inr x=>.str x
inductive HO where
 | lst (xs:List V)
 | tup (xs:List V)
 | dK (kvs:List (Key×V)) | dT (kvs:List (List Key×V))
 | set (S:Int->Bool) (n:Nat)
 | ins (C dx:Addr) (fs:List (Str×V))
 | own (x:Addr)
 | xd (fs:List (Str×V))
 | met (f x:Addr)
 | rng (lo hi:Int)
 | frz (o:Obj) (u:HO)
 | tbl (ps:Array Value)
 | ext (φ:Heap->Prop)
abbrev Hp:=Addr->Option HO
def upd (H:Hp)(a:Addr)(o:HO):Hp:=fun b=>if b=a then some o else H b
theorem zap {H:Hp}{a:Addr}{o:HO}:upd H a o a=some o:=by unfold upd;rw[if_pos rfl]
theorem zao {H:Hp}{a b:Addr}{o:HO}(h:b≠a):upd H a o b=H b:=by unfold upd;rw[if_neg h]
theorem zaD {H:Hp}{a b:Addr}{o:HO}(h:H a=some o)(h':H b=none):a≠b:=by
 intro e;subst e;rw[h] at h';cases h'
section
variable (P:Program) (w:World)
def zbU (H:Hp)(h:Heap)(a:Addr):HO->Prop
 | .lst xs=>xs.length<=sizeLine/\∃ (its:List Value) (n:Nat),zbG xs its/\h.get? a=some { cls:=.type "list",data:=.seq its.toArray n }
 | .tup xs=>xs.length<=sizeLine/\∃ its:List Value,zbG xs its/\IsTup h a its.toArray
 | .dK kvs=>kvs.length<=sizeLine/\(a==sysModules)=false/\∃ vs,KV kvs vs/\h.DictOf (zi2 P w) a vs
 | .dT kvs=>kvs.length<=sizeLine/\(a==sysModules)=false/\∃ xs:List (List Key×Addr×Value),
   Paired (fun(p:List Key×V) (q:List Key×Addr×Value)=>p.1=q.1/\H q.2.1=some (.tup (p.1.map kV))/\zbB p.2 q.2.2) kvs xs /\
   ∃ o es ep,h.get? a=some o/\o.ExactDict/\o.data=.dict es ep/\es.toList=xs.map (entryOfKey (tupleKind (zi2 P w)))/\(xs.map (·.1)).Nodup
 | .set S n=>h.SetOf (intKind P w) a S n
 | .ins C dx fs=>H dx=some (.own a)/\fs.length<=1000/\dx≠a/\h.get? a=some (W.instObj C dx) /\
   ∃ mA,h.Ns1 dx mA/\(∀ f,zok (fs.lookup f) (mA f))/\PySem.Within mA (fs.map (·.1))
 | .own _=>∃ o,h.get? a=some o
 | .xd fs=>∃ mA,h.Ns1 a mA/\∀ f,zok (fs.lookup f) (mA f)
 | .rng lo hi=>∃ t u v,h.get? a=some { cls:=.type "range",data:=.fields #[.int lo t,.int hi u,.int 1 v] }
 | .frz o u=>h.get? a=some o/\zbU H h a u
 | .tbl ps=>h.get? a=some { cls:=.none,data:=.fields ps }
 | .met f x=>h.get? a=some (W.methodObj (.ref f) (.ref x))
 | .ext φ=>φ h/\(∃ o,h.get? a=some o)/\∀ h1 h2:Heap,φ h1->(∀ o,h1.get? a=some o->h2.get? a=some o)->φ h2
def HOk (H:Hp)(h:Heap):Prop:=∀ a o,H a=some o->zbU P w H h a o
end
section
variable {P:Program}{w:World}{H H':Hp}{h h':Heap}{a:Addr}{o:HO}
theorem zbU.lt (x:zbU P w H h a o):a < h.objs.size:=by
 cases o with
 | lst xs=>obtain⟨_,_,_,_,e⟩:=x;exact Heap.lt_size e
 | tup xs=>obtain⟨_,_,_,p⟩:=x;exact p.lt
 | dK kvs=>obtain⟨_,_,_,_,o,_,_,e,_⟩:=x;exact Heap.lt_size e
 | dT kvs=>obtain⟨_,_,_,_,o,_,_,e,_⟩:=x;exact Heap.lt_size e
 | set S n=>obtain⟨o,_,_,_,e,_⟩:=x;exact Heap.lt_size e
 | ins C dx fs=>obtain⟨_,_,_,e,_⟩:=x;exact Heap.lt_size e
 | own y=>obtain⟨_,e⟩:=x;exact Heap.lt_size e
 | xd fs=>obtain⟨_,⟨_,_,_,e,_⟩,_⟩:=x;exact Heap.lt_size e
 | rng lo hi=>obtain⟨_,_,_,e⟩:=x;exact Heap.lt_size e
 | frz ob u=>obtain⟨e,_⟩:=x;exact Heap.lt_size e
 | tbl ps=>exact Heap.lt_size (show h.get? a=some _ from x)
 | met f y=>exact Heap.lt_size (show h.get? a=some _ from x)
 | ext φ=>obtain⟨_,⟨_,e⟩,_⟩:=x;exact Heap.lt_size e
theorem Paired.mapP {α β:Type}{F G:α->β->Prop}:∀ {l₁:List α}{l₂:List β},Paired F l₁ l₂->(∀ a b,F a b->G a b)->Paired G l₁ l₂
 | _,_,.nil,_=>.nil
 | _,_,.cons r t,f=>.cons (f _ _ r) (Paired.mapP t f)
theorem zbU.stay (x:zbU P w H h a o)(k:∀ b u,(b=a∨H b=some (.own a))->h.get? b=some u->h'.get? b=some u)
  (ho:∀ b,H b=some (.own a)->H' b=some (.own a))(ht:∀ b xs,H b=some (.tup xs)->H' b=some (.tup xs)):zbU P w H' h' a o:=by
 induction o with
 | lst xs=>obtain⟨z,its,n,r,e⟩:=x;exact⟨z,its,n,r,k _ _ (.inl rfl) e⟩
 | tup xs=>obtain⟨z,its,r,ob,e,c⟩:=x;exact⟨z,its,r,ob,k _ _ (.inl rfl) e,c⟩
 | dK kvs=>obtain⟨z,y,vs,r,ob,es,ep,e,c⟩:=x;exact⟨z,y,vs,r,ob,es,ep,k _ _ (.inl rfl) e,c⟩
 | dT kvs =>
  obtain⟨z,y,xs,r,ob,es,ep,e,c⟩:=x
  exact⟨z,y,xs,Paired.mapP r fun p q z=>⟨z.1,ht _ _ z.2.1,z.2.2⟩,ob,es,ep,k _ _ (.inl rfl) e,c⟩
 | set S n=>obtain⟨ob,es,ep,t,e,c⟩:=x;exact⟨ob,es,ep,t,k _ _ (.inl rfl) e,c⟩
 | ins C dx fs =>
  obtain⟨d,z,ne,e,mA,⟨od,es,ep,e2,c⟩,r⟩:=x
  exact⟨ho _ d,z,ne,k _ _ (.inl rfl) e,mA,⟨od,es,ep,k _ _ (.inr d) e2,c⟩,r⟩
 | own y=>obtain⟨ob,e⟩:=x;exact⟨ob,k _ _ (.inl rfl) e⟩
 | xd fs=>obtain⟨mA,⟨od,es,ep,e,c⟩,r⟩:=x;exact⟨mA,⟨od,es,ep,k _ _ (.inl rfl) e,c⟩,r⟩
 | rng lo hi=>obtain⟨t,u,v,e⟩:=x;exact⟨t,u,v,k _ _ (.inl rfl) e⟩
 | frz ob u ih=>obtain⟨e,q⟩:=x;exact⟨k _ _ (.inl rfl) e,ih q⟩
 | tbl ps =>
  have e:h.get? a=some { cls:=.none,data:=.fields ps }:=x
  show h'.get? a=some { cls:=.none,data:=.fields ps }
  exact k a _ (.inl rfl) e
 | met f y =>
  have e:h.get? a=some (W.methodObj (.ref f) (.ref y)):=x
  show h'.get? a=some (W.methodObj (.ref f) (.ref y))
  exact k a _ (.inl rfl) e
 | ext φ=>obtain⟨p,⟨o,e⟩,st⟩:=x;exact⟨st _ _ p fun o q=>k _ _ (.inl rfl) q,⟨o,k _ _ (.inl rfl) e⟩,st⟩
theorem HOk.lt (x:HOk P w H h)(e:H a=some o):a < h.objs.size:=(x a o e).lt
theorem HOk.fresh (x:HOk P w H h)(e:h.objs.size<=a):H a=none:=by
 cases q:H a with
 | none=>rfl
 | some u=>exact absurd (Nat.lt_of_lt_of_le (x.lt q) e) (Nat.lt_irrefl _)
theorem HOk.kept (x:HOk P w H h)(k:∀ b u,h.get? b=some u->h'.get? b=some u):HOk P w H h':=fun a o e =>
 (x a o e).stay (fun b u _ q=>k b u q) (fun _ q=>q) fun _ _ q=>q
theorem HOk.laid (x:HOk P w H h)(k:∀ b u,h.get? b=some u->h'.get? b=some u)(hp:h.objs.size<=a)(new:zbU P w (upd H a o) h' a o):HOk P w (upd H a o) h':=fun b u e=>by
 have hn:=x.fresh hp
 by_cases hb:b=a
 ·subst hb;rw[zap] at e;cases e;exact new
 ·rw[zao hb] at e
  exact(x b u e).stay (fun c v _ q=>k c v q) (fun c q=>by rw[zao (zaD q hn)];exact q) fun c xs q=>by rw[zao (zaD q hn)];exact q
end
def Rd (H:Hp)(a:Addr)(u:HO):Prop:=H a=some u∨∃ o,H a=some (.frz o u)
theorem Rd.ok {P:Program}{w:World}{H:Hp}{h:Heap}{a:Addr}{u:HO}(r:Rd H a u)(x:HOk P w H h):zbU P w H h a u:=by
 rcases r with r | ⟨o,r⟩
 ·exact x a u r
 ·obtain⟨_,q⟩:=x a _ r
  exact q
def Mut:Option HO->Prop
 | some (.lst _)=>True
 | some (.dK _)=>True
 | some (.dT _)=>True
 | some (.set _ _)=>True
 | some (.ins _ _ _)=>True
 | some (.ext _)=>True
 | _=>False
section
variable {P:Program}{w:World}{H:Hp}{h h':Heap}{x e:Addr}{o':HO}
theorem HOk.write (ok:HOk P w H h)(mu:Mut (H x))(he:e=x∨H e=some (.own x))(k:∀ b u,b≠e->h.get? b=some u->h'.get? b=some u)(heo:∃ u,h'.get? e=some u)
  (new:zbU P w (upd H x o') h' x o'):HOk P w (upd H x o') h':=fun b u q=>by
 have nown:∀ c y,H c=some (.own y)->c≠x:=fun c y r z=>by subst z;rw[r] at mu;exact mu
 have ntup:∀ c xs,H c=some (.tup xs)->c≠x:=fun c xs r z=>by subst z;rw[r] at mu;exact mu
 by_cases hb:b=x
 ·subst hb;rw[zap] at q;cases q;exact new
 ·rw[zao hb] at q
  by_cases hbe:b=e
  ·have q':H b=some (.own x):=by
    rcases he with z | z
    ·exact absurd (hbe.trans z) hb
    ·rw[hbe];exact z
   rw[q] at q';cases q'
   obtain⟨v,hv⟩:=heo
   exact⟨v,by rw[hbe];exact hv⟩
  ·refine(ok b u q).stay (fun c v hc r=>k c v ?_ r) (fun c r=>by rw[zao (nown c b r)];exact r) fun c xs r=>by rw[zao (ntup c xs r)];exact r
   rcases hc with rfl | hc
   ·exact hbe
   ·rintro rfl
    rcases he with z | z
    ·exact nown c b hc z
    ·rw[hc] at z;cases z;exact hb rfl
end
structure Un (fs ex:List Addr) (H H':Hp) (h h':Heap):Prop where
 keep:∀ b o,h.get? b=some o->H b=none->b∉fs->b∉ex->h'.get? b=some o
 slot:∀ b o,h.get? b=some o->H b=none->b∈fs->b∉ex->∃ sl,h'.get? b=some { o with slots:=sl }
 free:∀ b o,h.get? b=some o->H b=none->b∉ex->H' b=none
 there:∀ b o,h.get? b=some o->b∉ex->∃ o',h'.get? b=some o'
 tups:∀ b xs,H b=some (.tup xs)->H' b=some (.tup xs)
 frzs:∀ b o u,H b=some (.frz o u)->H' b=some (.frz o u)
 tbls:∀ b ps,H b=some (.tbl ps)->∃ more,H' b=some (.tbl (ps++more))
section
variable {fs fs' ex ex':List Addr}{H H1 H2:Hp}{h h1 h2 h':Heap}{a x e:Addr}{o:HO}
theorem Un.any (u:Un fs ex H H1 h h1){b:Addr}{ob:Obj}(q:h.get? b=some ob)(n:H b=none)(hx:b∉ex):∃ sl,h1.get? b=some { ob with slots:=sl }:=by
 by_cases hb:b∈fs
 ·exact u.slot b ob q n hb hx
 ·exact⟨ob.slots,u.keep b ob q n hb hx⟩
theorem Un.trans (a:Un fs ex H H1 h h1)(b:Un fs ex H1 H2 h1 h2):Un fs ex H H2 h h2 where
 keep:=fun c ob q n hc hx=>b.keep c ob (a.keep c ob q n hc hx) (a.free c ob q n hx) hc hx
 slot:=fun c ob q n hc hx=>by
  obtain⟨sl,e1⟩:=a.slot c ob q n hc hx
  obtain⟨sl',e2⟩:=b.slot c _ e1 (a.free c ob q n hx) hc hx
  exact⟨sl',e2⟩
 free:=fun c ob q n hx=>by
  obtain⟨o',e1⟩:=a.there c ob q hx
  exact b.free c o' e1 (a.free c ob q n hx) hx
 there:=fun c ob q hx=>by
  obtain⟨o',e1⟩:=a.there c ob q hx
  exact b.there c o' e1 hx
 tups:=fun c xs q=>b.tups c xs (a.tups c xs q)
 frzs:=fun c ob xs q=>b.frzs c ob xs (a.frzs c ob xs q)
 tbls:=fun c ps q=>by
  obtain⟨m1,e1⟩:=a.tbls c ps q
  obtain⟨m2,e2⟩:=b.tbls c _ e1
  exact⟨m1++m2,by rw[e2,Array.append_assoc]⟩
theorem Un.kept (k:∀ b u,h.get? b=some u->h'.get? b=some u):Un fs ex H H h h' :=
 ⟨fun b ob q _ _ _=>k b ob q,fun b ob q _ _ _=>⟨ob.slots,k b ob q⟩,fun _ _ _ n _=>n,fun b ob q _=>⟨ob,k b ob q⟩,fun _ _ q=>q,fun _ _ _ q=>q,fun _ ps q=>⟨#[],by rw[q];simp⟩⟩
theorem Un.refl:Un fs ex H H h h:=Un.kept fun _ _ q=>q
theorem Un.laid (k:∀ b u,h.get? b=some u->h'.get? b=some u)(hp:h.objs.size<=a)(hn:H a=none):Un fs ex H (upd H a o) h h' where
 keep:=fun b u q _ _ _=>k b u q
 slot:=fun b u q _ _ _=>⟨u.slots,k b u q⟩
 free:=fun b u q n _=>by rw[zao (Nat.ne_of_lt (Nat.lt_of_lt_of_le (Heap.lt_size q) hp))];exact n
 there:=fun b u q _=>⟨u,k b u q⟩
 tups:=fun b xs q=>by rw[zao (zaD q hn)];exact q
 frzs:=fun b u xs q=>by rw[zao (zaD q hn)];exact q
 tbls:=fun b ps q=>⟨#[],by rw[zao (zaD q hn),q];simp⟩
theorem Un.write (mu:Mut (H x))(he:e=x∨H e=some (.own x))(k:∀ b u,b≠e->h.get? b=some u->h'.get? b=some u)(heo:∃ u,h'.get? e=some u):Un fs ex H (upd H x o) h h':=by
 have hx:∀ b,H b=none->b≠x:=fun b n z=>by subst z;rw[n] at mu;exact mu
 have hb:∀ b,H b=none->b≠e:=fun b n z=>by
  subst z
  rcases he with r | r
  ·exact hx b n r
  ·rw[n] at r;cases r
 have hm:∀ b u,H b=some u->¬ Mut (some u)->b≠x:=fun b u q nm z=>by subst z;rw[q] at mu;exact nm mu
 refine⟨fun b u q n _ _=>k b u (hb b n) q,fun b u q n _ _=>⟨u.slots,k b u (hb b n) q⟩,fun b u q n _=>by rw[zao (hx b n)];exact n,fun b u q _=>?_,
  fun b xs q=>by rw[zao (hm b _ q fun z=>z)];exact q,fun b u xs q=>by rw[zao (hm b _ q fun z=>z)];exact q,fun b ps q=>⟨#[],by rw[zao (hm b _ q fun z=>z),q];simp⟩⟩
 by_cases hbe:b=e
 ·subst hbe;exact heo
 ·exact⟨u,k b u hbe q⟩
end
def trk (h:Heap)(H:Hp):List Addr:=(List.range h.objs.size).filter fun a=>(H a).isSome
def znn (h:Heap)(H:Hp):Heap:=W.hideAll h (trk h H)
theorem zlJ (h:Heap)(H:Hp):(znn h H).objs.size=h.objs.size:=W.hideAll_size _ _
theorem znm {h:Heap}{H:Hp}{b:Addr}{o:Obj}(e:h.get? b=some o)(n:H b=none):(znn h H).get? b=some o :=
 W.hideAll_get _ e fun hm=>by
  have q:(H b).isSome=true:=(List.mem_filter.mp hm).2
  rw[n] at q;simp at q
theorem zoX {h:Heap}{H:Hp}{b:Addr}{o:Obj}(e:(znn h H).get? b=some o):h.get? b=some o/\H b=none:=by
 have e':h.get? b=some o:=W.of_hideAll (trk h H) e
 refine⟨e',?_⟩
 cases q:H b with
 | none=>rfl
 | some x =>
  have hm:b∈trk h H:=List.mem_filter.mpr ⟨List.mem_range.mpr (Heap.lt_size e'),by simp [q]⟩
  have z:(znn h H).get? b=none:=W.hideAll_none (trk h H) hm
  rw[z] at e;cases e
structure Mod (K:W.Frag) (mg:Str->Option Value) (base:Heap):Prop where
 kin:K.In base
 glob:base.Ns mainGlobals mg
 blt:∃ mb,base.Ns builtinsNs mb/\∀ x:Str,x≠"__name__"->mb x=bootBuiltins x
 nolimit:base.NoLimit
structure Cx where
 prog:Program
 w:World
 K:W.Frag
 mg:Str->Option Value
 base:Heap
 A:Around
 N:List Str
 s₀:Shared
 H₀:Hp
 env:Env
 outer:List Env
 stack:List Env
 ex:List Addr
 fn:Str->Bool
 calm:Bool
 pn:List (Addr×Obj)
 xe:Value->Shared->Prop
def frs (l:List Env):List Addr:=l.filterMap (·.frame)
abbrev Cx.fs (X:Cx):List Addr:=frs X.outer
def Vis (sc:Scope)(x:Str):Prop:=sc.names.lookup x=some .local ∨ sc.names.lookup x=some .cell∨sc.names.lookup x=some .free
def Loc (sc:Scope)(x:Str):Prop:=sc.names.lookup x=some .local ∨ sc.names.lookup x=some .cell
def ztf (env:Env)(h:Heap)(m:Str->Option Value)(x:Str)(u:Value):Prop :=
 (env.kindOf x=some .local /\ m x=some u)∨((env.kindOf x=some .cell∨env.kindOf x=some .free)/\∃ c,env.cells.lookup x=some c/\h.IsCell c (some u))
structure Cx.Ok (X:Cx):Prop where
 mod:Mod X.K X.mg X.base
 kind:X.env.scope.kind=.function
 glob:X.env.globals=mainGlobals
 blt:X.env.builtins=builtinsNs
 above:X.s₀.heap.objs.size<=X.env.locals
 inj:∀ x y c,X.env.cells.lookup x=some c->X.env.cells.lookup y=some c->x=y
 has:∀ x,(X.env.kindOf x=some .cell∨X.env.kindOf x=some .free)->∃ c,X.env.cells.lookup x=some c
 cab:∀ x c,X.fn x=true->X.env.cells.lookup x=some c->X.s₀.heap.objs.size<=c
 hd:X.calm=true->X.A.handled=none
 frames:X.A.frames=some X.stack
 stk:X.stack=X.outer∨(X.stack=X.env::X.outer/\X.env.frame=some X.env.locals)
 exf:∀ b∈X.ex,b≠X.env.locals/\∀ x c,X.env.cells.lookup x=some c->c≠b
 bs:∀ b o,X.base.get? b=some o->X.s₀.heap.get? b=some o/\X.H₀ b=none
 bsz:X.base.objs.size<=X.s₀.heap.objs.size
 noex:∀ b o,X.base.get? b=some o->b∉X.ex
 exfs:∀ b∈X.ex,b∉X.fs
 funs:X.s₀.heap.FunFrames X.base X.outer
 frf:∀ b∈X.fs,X.H₀ b=none
structure Inv (X:Cx) (pins:List (Addr×Obj)) (σ:List (Option V)) (H:Hp) (s:Shared):Prop where
 ok:X.Ok
 os:s.os=X.s₀.os
 bare:AllBare s.gens
 base:Un X.fs X.ex X.H₀ H X.s₀.heap s.heap
 loc:∃ m,s.heap.Ns X.env.locals m/\∀ (i:Nat) (x:Str) (v:V),X.N[i]?=some x->σ[i]?=some (some v)->Vis X.env.scope x->∃ u,zbB v u/\ztf X.env s.heap m x u
 cell:∀ x c,X.env.cells.lookup x=some c->∃ v,s.heap.IsCell c v
 free:H X.env.locals=none
 freeC:∀ x c,X.env.cells.lookup x=some c->H c=none
 pin:∀ p∈X.pn++pins,s.heap.get? p.1=some p.2/\H p.1=none/\p.1≠X.env.locals/\p.1∉X.fs/\∀ v,p.2.data≠.cell v
 hok:HOk X.prog X.w H s.heap
 len:σ.length=X.N.length
section
variable {X:Cx}{pins:List (Addr×Obj)}{σ:List (Option V)}{H H':Hp}{s:Shared}{h':Heap}
theorem Cx.Ok.nofr (ok:X.Ok){b:Addr}{o:Obj}(e:X.base.get? b=some o):b∉X.fs:=fun hb=>by
 have:=(ok.funs.mem hb).1
 rw[e] at this;cases this
theorem Inv.bs (I:Inv X pins σ H s):∀ b o,X.base.get? b=some o->s.heap.get? b=some o/\H b=none:=fun b o e =>
 ⟨I.base.keep b o (I.ok.bs b o e).1 (I.ok.bs b o e).2 (I.ok.nofr e) (I.ok.noex b o e),I.base.free b o (I.ok.bs b o e).1 (I.ok.bs b o e).2 (I.ok.noex b o e)⟩
theorem Inv.bk (I:Inv X pins σ H s):∀ b o,X.base.get? b=some o->s.heap.get? b=some o:=fun b o e=>(I.bs b o e).1
theorem Inv.mod (I:Inv X pins σ H s):Mod X.K X.mg X.base:=I.ok.mod
theorem Inv.kIn (I:Inv X pins σ H s):X.K.In s.heap:=I.ok.mod.kin.keeps I.bk
theorem Inv.lt (I:Inv X pins σ H s):X.env.locals < s.heap.objs.size:=let ⟨_,hn,_⟩:=I.loc;hn.lt
theorem Inv.sz (I:Inv X pins σ H s):X.s₀.heap.objs.size<=s.heap.objs.size:=Nat.le_trans I.ok.above (Nat.le_of_lt I.lt)
theorem Inv.nofs (I:Inv X pins σ H s){a:Addr}(h:s.heap.objs.size<=a):a∉X.fs:=fun hb=>by
 obtain⟨_,o,ho,_⟩:=I.ok.funs.mem hb
 exact absurd (Nat.lt_of_lt_of_le (Heap.lt_size ho) (Nat.le_trans I.sz h)) (Nat.lt_irrefl _)
theorem Inv.cne (I:Inv X pins σ H s):∀ x c,X.env.cells.lookup x=some c->c≠X.env.locals:=fun x c e z=>by
 obtain⟨v,o,ho,hd⟩:=I.cell x c e
 obtain⟨m,⟨o',es,ep,ho',hd',_⟩,_⟩:=I.loc
 rw[z,ho'] at ho;cases ho;rw[hd'] at hd;cases hd
theorem Inv.funs (I:Inv X pins σ H s):s.heap.FunFrames X.base X.outer:=by
 have all:∀ (l:List Env),(∀ b∈frs l,b∈X.fs)->X.s₀.heap.FunFrames X.base l->s.heap.FunFrames X.base l:=by
  intro l
  induction l with
  | nil=>intro _ _;trivial
  | cons env r ih =>
   intro hs hl
   obtain⟨hk,⟨L,o,hf,hn,ho,hd⟩,hr⟩:=hl
   have hL:L∈X.fs:=hs L (by unfold frs;rw[List.filterMap_cons,hf];exact List.mem_cons_self)
   obtain⟨sl,e⟩:=I.base.slot L o ho (I.ok.frf L hL) hL fun z=>I.ok.exfs L z hL
   exact⟨hk,⟨L,_,hf,hn,e,hd⟩,ih (fun b hb=>hs b (by unfold frs;rw[List.filterMap_cons,hf];exact List.mem_cons_of_mem _ hb)) hr⟩
 exact all X.outer (fun _ hb=>hb) I.ok.funs
theorem Inv.stack (I:Inv X pins σ H s):s.heap.FunFrames X.base X.stack:=by
 rcases I.ok.stk with e | ⟨e,hf⟩
 ·rw[e];exact I.funs
 ·rw[e]
  obtain⟨m,hn,_⟩:=I.loc
  refine .cons (by rw[I.ok.kind];decide) hf hn ?_ I.funs
  exact Heap.get?_none_of_le (Nat.le_trans I.ok.bsz I.ok.above)
theorem Inv.stkSub (I:Inv X pins σ H s):∀ b∈frs X.stack,b∈X.env.locals::X.fs:=fun b hb=>by
 rcases I.ok.stk with e | ⟨e,hf⟩
 ·rw[e] at hb;exact List.mem_cons_of_mem _ hb
 ·rw[e] at hb
  unfold frs at hb
  rw[List.filterMap_cons,hf] at hb
  exact hb
theorem Inv.stkFree (I:Inv X pins σ H s):∀ b∈frs X.stack,H b=none:=fun b hb=>by
 rcases List.mem_cons.mp (I.stkSub b hb) with e | hb
 ·rw[e];exact I.free
 ·obtain⟨_,o,ho,_⟩:=I.ok.funs.mem hb
  exact I.base.free b o ho (I.ok.frf b hb) fun z=>I.ok.exfs b z hb
theorem Inv.step {g':Array GenState}{t':Nat}{d':Drawn}{ch:List Addr}(I:Inv X pins σ H s)
  (hch:∀ b∈ch,(b∈X.ex∨X.s₀.heap.objs.size<=b)/\b≠X.env.locals/\(∀ x c,X.env.cells.lookup x=some c->c≠b)/\∀ p∈X.pn++pins,p.1≠b)
  (keep:∀ b o,b≠X.env.locals->b∉X.fs->b∉ch->s.heap.get? b=some o->H b=none->h'.get? b=some o)
  (slot:∀ b o,b≠X.env.locals->b∈X.fs->b∉ch->s.heap.get? b=some o->H b=none->∃ sl,h'.get? b=some { o with slots:=sl })(free:∀ b o,b∉ch->s.heap.get? b=some o->H b=none->H' b=none)
  (there:∀ b o,b∉ch->s.heap.get? b=some o->∃ o',h'.get? b=some o')
  (tups:∀ b xs,H b=some (.tup xs)->H' b=some (.tup xs))(frzs:∀ b o u,H b=some (.frz o u)->H' b=some (.frz o u))(tbls:∀ b ps,H b=some (.tbl ps)->∃ more,H' b=some (.tbl (ps++more)))
  (ns:∀ m,s.heap.Ns X.env.locals m->h'.Ns X.env.locals m)(hok:HOk X.prog X.w H' h')(hg:AllBare g') :
  Inv X pins σ H' { s with heap:=h',gens:=g',drawn:=d',toks:=t' }:=by
 have neL:∀ b o,X.s₀.heap.get? b=some o->b≠X.env.locals:=fun b o e=>Nat.ne_of_lt (Nat.lt_of_lt_of_le (Heap.lt_size e) I.ok.above)
 have neC:∀ b o,X.s₀.heap.get? b=some o->b∉X.ex->b∉ch:=fun b o e hx hb=>by
  rcases(hch b hb).1 with z | z
  ·exact hx z
  ·exact absurd (Nat.lt_of_lt_of_le (Heap.lt_size e) z) (Nat.lt_irrefl _)
 have cellK:∀ x c,X.env.cells.lookup x=some c->∀ v,s.heap.IsCell c v->h'.IsCell c v:=fun x c e v ⟨o,ho,hd⟩=>by
  have nch:c∉ch:=fun z=>(hch c z).2.2.1 x c e rfl
  by_cases hc:c∈X.fs
  ·obtain⟨sl,q⟩:=slot c o (I.cne x c e) hc nch ho (I.freeC x c e)
   exact⟨_,q,hd⟩
  ·exact⟨o,keep c o (I.cne x c e) hc nch ho (I.freeC x c e),hd⟩
 refine⟨I.ok,I.os,hg,⟨fun b o e n hb hx=>?_,fun b o e n hb hx=>?_,fun b o e n hx=>?_,fun b o e hx=>?_,fun b xs e=>tups b xs (I.base.tups b xs e),fun b o xs e=>frzs b o xs (I.base.frzs b o xs e),fun b ps e=>?_⟩,?_,fun x c e=>?_,?_,fun x c e=>?_,fun p hp=>?_,hok,I.len⟩
 ·exact keep b o (neL b o e) hb (neC b o e hx) (I.base.keep b o e n hb hx) (I.base.free b o e n hx)
 ·obtain⟨sl,e1⟩:=I.base.slot b o e n hb hx
  obtain⟨sl',e2⟩:=slot b _ (neL b o e) hb (neC b o e hx) e1 (I.base.free b o e n hx)
  exact⟨sl',e2⟩
 ·obtain⟨o',e1⟩:=I.base.there b o e hx
  exact free b o' (neC b o e hx) e1 (I.base.free b o e n hx)
 ·obtain⟨o',e1⟩:=I.base.there b o e hx
  exact there b o' (neC b o e hx) e1
 ·obtain⟨m1,e1⟩:=I.base.tbls b ps e
  obtain⟨m2,e2⟩:=tbls b _ e1
  exact⟨m1++m2,by rw[e2,Array.append_assoc]⟩
 ·obtain⟨m,hn,hl⟩:=I.loc
  refine⟨m,ns m hn,fun i x v e1 e2 e3=>?_⟩
  obtain⟨u,r,l⟩:=hl i x v e1 e2 e3
  refine⟨u,r,?_⟩
  rcases l with l | ⟨k,c,e,z⟩
  ·exact .inl l
  ·exact .inr ⟨k,c,e,cellK x c e _ z⟩
 ·obtain⟨v,z⟩:=I.cell x c e
  exact⟨v,cellK x c e v z⟩
 ·obtain⟨m,⟨o,_,_,ho,_⟩,_⟩:=I.loc
  exact free _ o (fun z=>(hch _ z).2.1 rfl) ho I.free
 ·obtain⟨v,o,ho,hd⟩:=I.cell x c e
  exact free c o (fun z=>(hch c z).2.2.1 x c e rfl) ho (I.freeC x c e)
 ·obtain⟨e,n,ne,nf,d⟩:=I.pin p hp
  have nch:p.1∉ch:=fun z=>(hch p.1 z).2.2.2 p hp rfl
  exact⟨keep p.1 p.2 ne nf nch e n,free p.1 p.2 nch e n,ne,nf,d⟩
theorem Inv.un {t':Nat}(I:Inv X pins σ H s)(u:Un X.fs [] H H' s.heap h')(hok:HOk X.prog X.w H' h'):Inv X pins σ H' { s with heap:=h',toks:=t' }:=by
 obtain⟨m,⟨o,es,ep,ho,r⟩,_⟩:=id I.loc
 obtain⟨sl,hL⟩:=u.any ho I.free (by simp)
 exact I.step (g':=s.gens) (d':=s.drawn) (ch:=[]) (fun _ z=>nomatch z) (fun b o _ hb _ e n=>u.keep b o e n hb (by simp)) (fun b o _ hb _ e n=>u.slot b o e n hb (by simp)) (fun b o _ e n=>u.free b o e n (by simp)) (fun b o _ e=>u.there b o e (by simp)) u.tups u.frzs u.tbls (fun m' hm=>by
  obtain⟨o',es',ep',ho',r'⟩:=hm
  rw[ho] at ho';cases ho'
  exact⟨_,es',ep',hL,r'⟩) hok I.bare
theorem Inv.call {g':Array GenState}{t':Nat}{d':Drawn}{ch:List Addr}(I:Inv X pins σ H s)(u:Un (frs X.stack) ch H H' s.heap h')(hok:HOk X.prog X.w H' h')(hg:AllBare g')
  (hch:∀ b∈ch,(b∈X.ex∨X.s₀.heap.objs.size<=b)/\b≠X.env.locals/\(∀ x c,X.env.cells.lookup x=some c->c≠b)/\∀ p∈X.pn++pins,p.1≠b) :
  Inv X pins σ H' { s with heap:=h',gens:=g',drawn:=d',toks:=t' }:=by
 obtain⟨m,⟨o,es,ep,ho,r⟩,_⟩:=id I.loc
 obtain⟨sl,hL⟩:=u.any ho I.free fun z=>(hch _ z).2.1 rfl
 exact I.step (ch:=ch) hch (fun b o hL hb hc e n=>u.keep b o e n (fun z=>(List.mem_cons.mp (I.stkSub b z)).elim hL hb) hc) (fun b o _ _ hc e n=>u.any e n hc) (fun b o hc e n=>u.free b o e n hc) (fun b o hc e=>u.there b o e hc) u.tups u.frzs u.tbls (fun m' hm=>by
  obtain⟨o',es',ep',ho',r'⟩:=hm
  rw[ho] at ho';cases ho'
  exact⟨_,es',ep',hL,r'⟩) hok hg
theorem Inv.turned {t':Nat}{it:Addr}(I:Inv X pins σ H s)(k:∀ b o,b≠it->s.heap.get? b=some o->h'.get? b=some o)(hn:H it=none)(hL:it≠X.env.locals)
  (h1:it∈X.ex∨X.s₀.heap.objs.size<=it)(h2:∀ x c,X.env.cells.lookup x=some c->c≠it)(h3:∀ p∈X.pn++pins,p.1≠it):Inv X pins σ H { s with heap:=h',toks:=t' }:=by
 have nit:∀ b u,H b=some u->b≠it:=fun b u e z=>by rw[z,hn] at e;cases e
 refine I.step (g':=s.gens) (d':=s.drawn) (ch:=[it]) (fun b hb=>?_) (fun b o _ _ hc e _=>k b o (fun z=>hc (by simp [z])) e) (fun b o _ _ hc e _=>⟨o.slots,k b o (fun z=>hc (by simp [z])) e⟩) (fun _ _ _ _ n=>n)
  (fun b o hc e=>⟨o,k b o (fun z=>hc (by simp [z])) e⟩) (fun _ _ e=>e) (fun _ _ _ e=>e) (fun b ps e=>⟨#[],by rw[e];simp⟩) (fun m hm=>?_) (fun b u e=>?_) I.bare
 ·have e:b=it:=by simpa using hb
  subst e
  exact⟨h1,hL,h2,h3⟩
 ·obtain⟨o,es,ep,ho,r⟩:=hm
  exact⟨o,es,ep,k _ o (Ne.symm hL) ho,r⟩
 ·refine(I.hok b u e).stay (fun c v hc q=>k c v ?_ q) (fun _ q=>q) fun _ _ q=>q
  rcases hc with z | z
  ·rw[z];exact nit b u e
  ·exact nit c _ z
theorem Inv.tok (I:Inv X pins σ H s)(t:Nat):Inv X pins σ H { s with toks:=t }:=I.un (h':=s.heap) (t':=t) Un.refl I.hok
theorem Inv.kept {t':Nat}(I:Inv X pins σ H s)(k:∀ b u,s.heap.get? b=some u->h'.get? b=some u):Inv X pins σ H { s with heap:=h',toks:=t' }:=I.un (Un.kept k) (I.hok.kept k)
theorem Inv.laid {a:Addr}{o:HO}{t':Nat}(I:Inv X pins σ H s)(k:∀ b u,s.heap.get? b=some u->h'.get? b=some u)(hp:s.heap.objs.size<=a)(new:zbU X.prog X.w (upd H a o) h' a o) :
  Inv X pins σ (upd H a o) { s with heap:=h',toks:=t' }:=I.un (Un.laid k hp (I.hok.fresh hp)) (I.hok.laid k hp new)
theorem Inv.write {x e:Addr}{o:HO}{t':Nat}(I:Inv X pins σ H s)(mu:Mut (H x))(he:e=x∨H e=some (.own x))(k:∀ b u,b≠e->s.heap.get? b=some u->h'.get? b=some u)(heo:∃ u,h'.get? e=some u)
  (new:zbU X.prog X.w (upd H x o) h' x o):Inv X pins σ (upd H x o) { s with heap:=h',toks:=t' }:=I.un (Un.write mu he k heo) (I.hok.write mu he k heo new)
theorem Inv.pins_of {pins':List (Addr×Obj)}(I:Inv X pins σ H s)(h:∀ p∈pins',s.heap.get? p.1=some p.2/\H p.1=none/\p.1≠X.env.locals/\p.1∉X.fs/\∀ v,p.2.data≠.cell v):Inv X pins' σ H s :=
 ⟨I.ok,I.os,I.bare,I.base,I.loc,I.cell,I.free,I.freeC,fun p hp=>(List.mem_append.mp hp).elim (fun z=>I.pin p (List.mem_append_left _ z)) (h p),I.hok,I.len⟩
theorem zg6 {N:List Str}(hN:N.Nodup){i j:Nat}{x:Str}(a:N[i]?=some x)(b:N[j]?=some x):i=j:=by
 obtain⟨h1,e1⟩:=List.getElem?_eq_some_iff.mp a
 obtain⟨h2,e2⟩:=List.getElem?_eq_some_iff.mp b
 exact(List.getElem_inj hN).mp (e1.trans e2.symm)
theorem zhY {M:Model}{A:Around}{E:Value->Shared->Prop}{i:Nat}{x:Str}{v:V}{u:Value}{Q:Unit->Shared->Prop}(I:Inv X pins σ H s)(hN:X.N.Nodup)(hi:X.N[i]?=some x)(hx:Loc X.env.scope x)(r:zbB v u)
  (h:∀ s',Inv X pins (σ.set i (some v)) H s'->(∃ a,Heap.SameBut a s.heap s'.heap/\(a=X.env.locals∨X.env.cells.lookup x=some a))->Q () s')(hf:X.fn x=true∨X.env.scope.names.lookup x=some .local := by first | exact .inl rfl | exact .inr rfl | assumption):wpAny M A (storeName X.env x u) Q E s:=by
 obtain⟨m,hn,hl⟩:=id I.loc
 have hcls:(X.env.scope.kind==.class||(X.env.scope.kind==.module&&X.env.locals != X.env.globals))=false:=by rw[I.ok.kind];rfl
 have hiσ:i < σ.length:=by rw[I.len];exact(List.getElem?_eq_some_iff.mp hi).1
 have cne:=I.cne
 have tracked:∀ {a:Addr}{h':Heap},(∃ o,s.heap.get? a=some o/\H a=none)->Heap.SameBut a s.heap h'->HOk X.prog X.w H h':=fun {a h'} ha hs b ob e=>by
  obtain⟨_,_,hfree⟩:=ha
  refine(I.hok b ob e).stay (fun c w' hc q=>(hs.2 c ?_).trans q) (fun _ q=>q) fun _ _ q=>q
  rintro rfl
  rcases hc with rfl | hc
  ·rw[hfree] at e;cases e
  ·rw[hfree] at hc;cases hc
 rcases hx with hk | hk
 ·refine wpAny_storeName_local hk hn (fun h' hn' hs=>?_) hcls
  obtain⟨oL,_,_,hoL,_⟩:=id hn
  refine h _ ⟨I.ok,I.os,I.bare,⟨fun b o e n hb hx=>?_,fun b o e n hb hx=>?_,I.base.free,fun b o e hx=>?_,I.base.tups,I.base.frzs,I.base.tbls⟩,⟨_,hn',fun j y v' e1 e2 e3=>?_⟩,fun y c e=>?_,I.free,I.freeC,fun p hp=>?_,tracked ⟨oL,hoL,I.free⟩ hs,by simpa using I.len⟩ ⟨_,hs,.inl rfl⟩
  ·exact(hs.2 b (Nat.ne_of_lt (Nat.lt_of_lt_of_le (Heap.lt_size e) I.ok.above))).trans (I.base.keep b o e n hb hx)
  ·obtain⟨sl,e1⟩:=I.base.slot b o e n hb hx
   exact⟨sl,(hs.2 b (Nat.ne_of_lt (Nat.lt_of_lt_of_le (Heap.lt_size e) I.ok.above))).trans e1⟩
  ·obtain⟨o',e1⟩:=I.base.there b o e hx
   exact⟨o',(hs.2 b (Nat.ne_of_lt (Nat.lt_of_lt_of_le (Heap.lt_size e) I.ok.above))).trans e1⟩
  ·by_cases hj:j=i
   ·subst hj
    rw[hi] at e1;cases e1
    rw[List.getElem?_set_self hiσ] at e2
    cases e2
    exact⟨u,r,.inl ⟨hk,by simp⟩⟩
   ·rw[List.getElem?_set_ne (Ne.symm hj)] at e2
    obtain⟨u',r',q⟩:=hl j y v' e1 e2 e3
    refine⟨u',r',?_⟩
    rcases q with⟨k,e⟩ | ⟨k,c,e,z⟩
    ·refine .inl ⟨k,?_⟩
     have:y≠x:=fun e=>hj (zg6 hN e1 (e▸hi))
     simp [this,e]
    ·exact .inr ⟨k,c,e,z.sameBut hs (cne y c e)⟩
  ·obtain⟨w',z⟩:=I.cell y c e
   exact⟨w',z.sameBut hs (cne y c e)⟩
  ·obtain⟨e,n,ne,nf,d⟩:=I.pin p hp
   exact⟨(hs.2 p.1 ne).trans e,n,ne,nf,d⟩
 ·have hfn:X.fn x=true:=by
   rcases hf with z | z
   ·exact z
   ·rw[z] at hk;cases hk
  obtain⟨c,hc⟩:=I.ok.has x (.inl hk)
  obtain⟨w',z⟩:=I.cell x c hc
  refine wpAny_storeName_cell I.ok.kind hk hc z (fun h' hc' hs=>?_)
  obtain⟨oc,hoc,hocd⟩:=id z
  refine h { s with heap:=h' } ⟨I.ok,I.os,I.bare,⟨fun b o e n hb hx=>?_,fun b o e n hb hx=>?_,I.base.free,fun b o e hx=>?_,I.base.tups,I.base.frzs,I.base.tbls⟩,⟨m,hn.sameBut hs (Ne.symm (cne x c hc)),fun j y v' e1 e2 e3=>?_⟩,fun y c' e=>?_,I.free,I.freeC,fun p hp=>?_,tracked ⟨oc,hoc,I.freeC x c hc⟩ hs,by simpa using I.len⟩ ⟨c,hs,.inr hc⟩
  ·exact(hs.2 b (Nat.ne_of_lt (Nat.lt_of_lt_of_le (Heap.lt_size e) (I.ok.cab x c hfn hc)))).trans (I.base.keep b o e n hb hx)
  ·obtain⟨sl,e1⟩:=I.base.slot b o e n hb hx
   exact⟨sl,(hs.2 b (Nat.ne_of_lt (Nat.lt_of_lt_of_le (Heap.lt_size e) (I.ok.cab x c hfn hc)))).trans e1⟩
  ·obtain⟨o',e1⟩:=I.base.there b o e hx
   exact⟨o',(hs.2 b (Nat.ne_of_lt (Nat.lt_of_lt_of_le (Heap.lt_size e) (I.ok.cab x c hfn hc)))).trans e1⟩
  ·by_cases hj:j=i
   ·subst hj
    rw[hi] at e1;cases e1
    rw[List.getElem?_set_self hiσ] at e2
    cases e2
    exact⟨u,r,.inr ⟨.inl hk,c,hc,hc'⟩⟩
   ·rw[List.getElem?_set_ne (Ne.symm hj)] at e2
    obtain⟨u',r',q⟩:=hl j y v' e1 e2 e3
    refine⟨u',r',?_⟩
    rcases q with q | ⟨k,c',e,z'⟩
    ·exact .inl q
    ·refine .inr ⟨k,c',e,z'.sameBut hs ?_⟩
     rintro rfl
     exact hj (zg6 hN e1 (I.ok.inj _ _ _ e hc▸hi))
  ·by_cases hcc:c'=c
   ·subst hcc;exact⟨_,hc'⟩
   ·obtain⟨w2,z2⟩:=I.cell y c' e
    exact⟨w2,z2.sameBut hs hcc⟩
  ·obtain⟨e,n,ne,nf,d⟩:=I.pin p hp
   refine⟨(hs.2 p.1 ?_).trans e,n,ne,nf,d⟩
   intro q
   rw[q,hoc] at e
   have q':oc=p.2:=Option.some.inj e
   exact d w' (by rw[← q'];exact hocd)
theorem zdQ {M:Model}{A:Around}{E:Value->Shared->Prop}{i:Nat}{x:Str}{v:V}{u:Value}{Q:Unit->Shared->Prop}(I:Inv X pins σ H s)(hN:X.N.Nodup)(hi:X.N[i]?=some x)(hx:Loc X.env.scope x)(r:zbB v u)
  (h:∀ s',Inv X pins (σ.set i (some v)) H s'->Q () s')(hf:X.fn x=true∨X.env.scope.names.lookup x=some .local := by first | exact .inl rfl | exact .inr rfl | assumption):wpAny M A (storeName X.env x u) Q E s :=
 zhY I hN hi hx r (fun s' I' _=>h s' I') hf
theorem Inv.call' {s':Shared}{ch:List Addr}(I:Inv X pins σ H s)(ho:s'.os=s.os)(u:Un (frs X.stack) ch H H' s.heap s'.heap)(hok:HOk X.prog X.w H' s'.heap)(hg:AllBare s'.gens)
  (hch:∀ b∈ch,(b∈X.ex∨X.s₀.heap.objs.size<=b)/\b≠X.env.locals/\(∀ x c,X.env.cells.lookup x=some c->c≠b)/\∀ p∈X.pn++pins,p.1≠b):Inv X pins σ H' s':=by
 obtain⟨h',g',d',t',o'⟩:=s'
 have e:o'=s.os:=ho
 subst e
 exact I.call (g':=g') (t':=t') (d':=d') u hok hg hch
end
abbrev XK:=Value->Option Addr->Hp->Prop
abbrev St:=List (Option V)
abbrev VK:=V->Hp->Prop
abbrev TE:=St->Hp->VK->Prop
abbrev TT:=St->Hp->(Bool->Hp->Prop)->Prop
abbrev TA:=St->Hp->(List V->Hp->Prop)->Prop
structure zhy where
 nx:St->Hp->Prop
 rt:VK
 bk:St->Hp->Prop:=fun _ _=>False
 ct:St->Hp->Prop:=fun _ _=>False
abbrev TS:=zhy->St->Hp->Prop
def EP (X:Cx)(pins:List (Addr×Obj))(σ:St)(Q:VK)(u:Value)(s':Shared):Prop:=∃ v H',Inv X pins σ H' s'/\zbB v u/\Q v H'
def TP (X:Cx)(pins:List (Addr×Obj))(σ:St)(Q:Bool->Hp->Prop)(b:Bool)(s':Shared):Prop:=∃ H',Inv X pins σ H' s'/\Q b H'
def AP (X:Cx)(pins:List (Addr×Obj))(σ:St)(Q:List V->Hp->Prop)(us:List Value)(s':Shared):Prop:=∃ vs H',Inv X pins σ H' s'/\zbG vs us/\Q vs H'
def SP (X:Cx)(pins:List (Addr×Obj))(D:zhy)(f:Flow)(s':Shared):Prop :=
 match f with
 | .next=>∃ σ' H',Inv X pins σ' H' s'/\D.nx σ' H'
 | .brk=>∃ σ' H',Inv X pins σ' H' s'/\D.bk σ' H'
 | .cont=>∃ σ' H',Inv X pins σ' H' s'/\D.ct σ' H'
 | .ret u=>∃ v σ' H',Inv X pins σ' H' s'/\zbB v u/\D.rt v H'
def PE (X:Cx)(e:Expr)(t:TE):Prop :=
 ∀ (pins:List (Addr×Obj)) (s:Shared) (σ:St) (H:Hp) (Q:VK),Inv X pins σ H s->t σ H Q->wpAny (model X.prog X.w) X.A (eval e X.env) (EP X pins σ Q) X.xe s
def PT (X:Cx)(e:Expr)(t:TT):Prop :=
 ∀ (pins:List (Addr×Obj)) (s:Shared) (σ:St) (H:Hp) (Q:Bool->Hp->Prop),Inv X pins σ H s->t σ H Q->wpAny (model X.prog X.w) X.A (isTrue e X.env (eval e X.env)) (TP X pins σ Q) X.xe s
def PW (X:Cx)(e:Expr)(t:TT):Prop :=
 ∀ (whole:Sem Value) (pins:List (Addr×Obj)) (s:Shared) (σ:St) (H:Hp) (Q:Bool->Hp->Prop),Inv X pins σ H s->t σ H Q->wpAny (model X.prog X.w) X.A (isTrue e X.env whole) (TP X pins σ Q) X.xe s
theorem PW.pt {X:Cx}{e:Expr}{t:TT}(h:PW X e t):PT X e t:=h _
def PA (X:Cx)(es:List Expr)(t:TA):Prop :=
 ∀ (pos:Pos) (pins:List (Addr×Obj)) (s:Shared) (σ:St) (H:Hp) (Q:List V->Hp->Prop),Inv X pins σ H s->t σ H Q->wpAny (model X.prog X.w) X.A (spliced (backTo pos (starEach es X.env))) (AP X pins σ Q) X.xe s
def PS (X:Cx)(st:Stmt)(t:TS):Prop :=
 ∀ (pins:List (Addr×Obj)) (s:Shared) (σ:St) (H:Hp) (D:zhy),Inv X pins σ H s->t D σ H->wpAny (model X.prog X.w) X.A (exec st X.env) (SP X pins D) X.xe s
def PSs (X:Cx)(st:List Stmt)(t:TS):Prop :=
 ∀ (pins:List (Addr×Obj)) (s:Shared) (σ:St) (H:Hp) (D:zhy),Inv X pins σ H s->t D σ H->wpAny (model X.prog X.w) X.A (execs st X.env) (SP X pins D) X.xe s
theorem thn {α:Type}{t:Sem α}{Q Q':α->Shared->Prop}{M:Model}{A:Around}{E:Value->Shared->Prop}{s:Shared}(h:wpAny M A t Q E s)(hQ:∀ a s,Q a s->Q' a s):wpAny M A t Q' E s:=wpAny_mono h hQ fun _ _ x=>x
section
variable {X:Cx}
theorem bin {a b:Expr}{ta tb:TE}(ha:PE X a ta)(hb:PE X b tb){pins:List (Addr×Obj)}{s:Shared}{σ:St}{H:Hp}{R:V->V->Hp->Prop}(I:Inv X pins σ H s)(h:ta σ H fun x H1=>tb σ H1 fun y H2=>R x y H2)
  {α:Type}{Q:α->Shared->Prop}{f:Value->Value->Sem α}
  (hf:∀ v u s2 x y H2,Inv X pins σ H2 s2->zbB x v->zbB y u->R x y H2->wpAny (model X.prog X.w) X.A (f v u) Q X.xe s2) :
  wpAny (model X.prog X.w) X.A (eval a X.env) (fun v s₁=>wpAny (model X.prog X.w) X.A (eval b X.env) (fun u s₂=>wpAny (model X.prog X.w) X.A (f v u) Q X.xe s₂) X.xe s₁) X.xe s:=by
 refine thn (ha pins s σ H _ I h) fun v s1 ⟨x,H1,I1,r1,q1⟩=>?_
 refine thn (hb pins s1 σ H1 _ I1 q1) fun u s2 ⟨y,H2,I2,r2,q2⟩=>?_
 exact hf v u s2 x y H2 I2 r1 r2 q2
def ztk (i:Nat):TE:=fun σ H Q=>∃ v,σ[i]?=some (some v)/\Q v H
def tC (v:V):TE:=fun _ H Q=>Q v H
theorem zh8 {i:Nat}{x:Str}{pos:Pos}(hN:X.N[i]?=some x)(hv:Vis X.env.scope x)(hd:(x==("__debug__" : Str))=false:=by decide)(hcd:(x==("__classdict__" : Str))=false:=by decide):PE X (.Name x pos) (ztk i):=by
 intro pins s σ H Q I h
 obtain⟨v,e,h⟩:=h
 obtain⟨m,hn,hl⟩:=I.loc
 obtain⟨u,r,l⟩:=hl i x v hN e hv
 have fin:EP X pins σ Q u s:=⟨v,H,I,r,h⟩
 rcases l with⟨hk,hm⟩ | ⟨hk,c,hc,hcell⟩
 ·exact wpAny_Name (wpAny_loadName_local I.ok.kind hk hn hm fin) hd
 ·rcases hk with hk | hk
  ·exact wpAny_Name (wpAny_loadName_cell I.ok.kind hk hc hcell fin) hd
  ·exact wpAny_Name (wpAny_loadName_free I.ok.kind hk hc hcell fin hcd) hd
theorem zqw {i j pos}:PE X (.Constant (.int i) j pos) (tC (.int i)):=fun _ _ _ H _ I h=>wpAny_Constant_int ⟨.int i,H,I.tok _,⟨_,rfl⟩,h⟩
theorem zsm {b j pos}:PE X (.Constant (.bool b) j pos) (tC (.bl b)):=fun _ _ _ H _ I h=>Constant_bool ⟨.bl b,H,I,rfl,h⟩
theorem zqv {j pos}:PE X (.Constant .none j pos) (tC .non):=fun _ _ _ H _ I h=>Constant_none ⟨.non,H,I,rfl,h⟩
theorem zqs {x j pos}:PE X (.Constant (.str x) j pos) (tC (.str x)):=fun _ _ _ H _ I h=>Calls.Constant_str ⟨.str x,H,I.tok _,⟨_,rfl⟩,h⟩
def Gl (X:Cx)(x:Str):Prop:=X.env.kindOf x=some .globalImplicit
theorem zdw {E:Value->Shared->Prop}{pins:List (Addr×Obj)}{s:Shared}{σ:St}{H:Hp}{x:Str}{u:Value}{pos:Pos}{Q:Value->Shared->Prop}(I:Inv X pins σ H s)(hg:Gl X x)(hm:X.mg x=some u)(h:Q u s)
  (hd:(x==("__debug__" : Str))=false:=by decide):wpAny (model X.prog X.w) X.A (eval (.Name x pos) X.env) Q E s :=
 Calls.Name_function_global I.ok.kind hg (Calls.loadGlobal_global (by rw[I.ok.glob];exact I.mod.glob.keeps I.bk) hm h) hd
theorem zjA {E:Value->Shared->Prop}{pins:List (Addr×Obj)}{s:Shared}{σ:St}{H:Hp}{x:Str}{u:Value}{pos:Pos}{Q:Value->Shared->Prop}(I:Inv X pins σ H s)(hg:Gl X x)(hm:X.mg x=none)(hv:bootBuiltins x=some u)(h:Q u s)
  (hn:x≠"__name__":=by decide)(hd:(x==("__debug__" : Str))=false:=by decide):wpAny (model X.prog X.w) X.A (eval (.Name x pos) X.env) Q E s:=by
 obtain⟨mb,h1,h2⟩:=I.mod.blt
 exact Calls.Name_function_global I.ok.kind hg (Calls.loadGlobal_builtin (by rw[I.ok.glob];exact I.mod.glob.keeps I.bk) hm (by rw[I.ok.blt];exact h1.keeps I.bk) ((h2 x hn).trans hv) h) hd
theorem zln {x:Str}{v:V}{u:Value}{pos:Pos}(hg:Gl X x)(hm:X.mg x=some u)(r:zbB v u)(hd:(x==("__debug__" : Str))=false:=by decide):PE X (.Name x pos) (tC v) :=
 fun _ _ _ H _ I h=>zdw I hg hm ⟨v,H,I,r,h⟩ hd
theorem zlp {x:Str}{v:V}{u:Value}{pos:Pos}(hg:Gl X x)(hm:X.mg x=none)(hv:bootBuiltins x=some u)(r:zbB v u)(hn:x≠"__name__":=by decide)(hd:(x==("__debug__" : Str))=false:=by decide):PE X (.Name x pos) (tC v) :=
 fun _ _ _ H _ I h=>zjA I hg hm hv ⟨v,H,I,r,h⟩ hn hd
variable {a b:Expr}{ta tb:TE}{pos:Pos}
def PC (X:Cx)(op:CmpOp)(a b:Expr)(t:TE):Prop :=
 ∀ (pins:List (Addr×Obj)) (s:Shared) (σ:St) (H:Hp) (Q:VK),Inv X pins σ H s->t σ H Q ->
  wpAny (model X.prog X.w) X.A (eval a X.env) (fun v s₁=>wpAny (model X.prog X.w) X.A (eval b X.env) (fun u s₂=>wpAny (model X.prog X.w) X.A (compareOp op v u) (EP X pins σ Q) X.xe s₂) X.xe s₁) X.xe s
theorem zjz (b:Expr){op:CmpOp}(h:op≠.In)(h2:op≠.NotIn):behindInMarks op b=false:=by
 have e1:(op==CmpOp.In)=false:=by cases op<;>first | rfl | exact absurd rfl h
 have e2:(op==CmpOp.NotIn)=false:=by cases op<;>first | rfl | exact absurd rfl h2
 cases b<;>simp [behindInMarks,e1,e2]
def tB (t:TE):TT:=fun σ H Q=>t σ H fun x H1=>∃ c,x=.bl c/\Q c H1
theorem zs3 {op:CmpOp}{t:TE}(h:PC X op a b t)(h1:behindInMarks op b=false:=by first | exact zjz _ (by decide) (by decide) | rfl):PT X (.Compare a [op] [b] pos) (tB t):=by
 intro pins s σ H Q I hw
 refine wpAny_isTrue_Compare1 (thn (h pins s σ H _ I hw) fun v s1 h1=>thn h1 fun u s2 h2=>thn h2 fun c s3 ⟨x,H1,I1,r1,q1⟩=>?_) h1
 obtain⟨d,rfl,q⟩:=q1
 cases r1
 exact wpAny_truthy_bool ⟨H1,I1,q⟩
theorem zqj {e:Expr}{t:TE}(h:PE X e t)(he:∀ whole,isTrue e X.env whole=(do let v ← whole;standAt e.pos;holding [v] (truthy v)):=by intro _;rfl):PT X e (tB t):=by
 intro pins s σ H Q I hw
 refine isTrue_plain (thn (h pins s σ H _ I hw) fun v s1 ⟨x,H1,I1,r1,q1⟩=>?_) (he _)
 obtain⟨d,rfl,q⟩:=q1
 cases r1
 exact wpAny_truthy_bool ⟨H1,I1,q⟩
variable {tA tB':TT}{rest:List Expr}
def ztu (t u:TT):TT:=fun σ H Q=>t σ H fun c H1=>if c=true then u σ H1 Q else Q false H1
def tOr (t u:TT):TT:=fun σ H Q=>t σ H fun c H1=>if c=true then Q true H1 else u σ H1 Q
def ztp (t:TT):TT:=fun σ H Q=>t σ H fun c H1=>Q (!c) H1
theorem zoE (ha:PT X a tA):PW X (.BoolOp .And [a] pos) tA:=by
 intro wh pins s σ H Q I h
 refine isTrue_and (thn (ha pins s σ H Q I h) fun c s1 e=>?_)
 cases c with
 | true=>exact isTrue_and_nil e
 | false=>exact e
theorem zqf (ha:PT X a tA):PW X (.BoolOp .Or [a] pos) tA:=by
 intro wh pins s σ H Q I h
 refine isTrue_or (thn (ha pins s σ H Q I h) fun c s1 e=>?_)
 cases c with
 | false=>exact isTrue_or_nil e
 | true=>exact e
theorem zqg (ha:PT X a tA)(hb:PW X (.BoolOp .And (b::rest) pos) tB'):PW X (.BoolOp .And (a::b::rest) pos) (ztu tA tB'):=by
 intro wh pins s σ H Q I h
 refine isTrue_and (thn (ha pins s σ H _ I h) fun c s1 ⟨H1,I1,q1⟩=>?_)
 cases c with
 | true=>exact hb wh pins s1 σ H1 Q I1 q1
 | false=>exact⟨H1,I1,q1⟩
theorem zsd (ha:PT X a tA)(hb:PW X (.BoolOp .Or (b::rest) pos) tB'):PW X (.BoolOp .Or (a::b::rest) pos) (tOr tA tB'):=by
 intro wh pins s σ H Q I h
 refine isTrue_or (thn (ha pins s σ H _ I h) fun c s1 ⟨H1,I1,q1⟩=>?_)
 cases c with
 | true=>exact⟨H1,I1,q1⟩
 | false=>exact hb wh pins s1 σ H1 Q I1 q1
theorem zqk (ha:PT X a tA):PT X (.UnaryOp .Not a pos) (ztp tA):=by
 intro pins s σ H Q I h
 exact isTrue_not (ha pins s σ H (fun c H1=>Q (!c) H1) I h)
def zrZ (ta tb:TE):TE:=fun σ H Q=>ta σ H fun x H1=>∃ c,x=.bl c/\if c=true then tb σ H1 Q else Q (.bl false) H1
def zrS (ta:TE):TE:=fun σ H Q=>ta σ H fun x H1=>∃ c,x=.bl c/\Q (.bl (!c)) H1
theorem zqt {op}{t:TE}(h:PE X a t):PE X (.BoolOp op [a] pos) t:=fun pins s σ H Q I hw=>BoolOp_one (h pins s σ H Q I hw)
theorem zqy (ha:PE X a ta)(hb:PE X (.BoolOp .And (b::rest) pos) tb):PE X (.BoolOp .And (a::b::rest) pos) (zrZ ta tb):=by
 intro pins s σ H Q I h
 refine BoolOp_and (thn (ha pins s σ H _ I h) fun v s1 ⟨x,H1,I1,r1,q1⟩=>?_)
 obtain⟨c,rfl,q1⟩:=q1
 cases r1
 refine wpAny_truthy_bool ?_
 cases c with
 | true=>exact hb pins s1 σ H1 Q I1 q1
 | false=>exact⟨.bl false,H1,I1,rfl,q1⟩
theorem zqu (ha:PE X a ta):PE X (.UnaryOp .Not a pos) (zrS ta):=by
 intro pins s σ H Q I h
 refine UnaryOp_ (thn (ha pins s σ H _ I h) fun v s1 ⟨x,H1,I1,r1,q1⟩=>?_)
 obtain⟨c,rfl,q1⟩:=q1
 cases r1
 exact not_of (wpAny_truthy_bool ⟨.bl (!c),H1,I1,rfl,q1⟩)
def tIf (t:TT)(ta tb:TE):TE:=fun σ H Q=>t σ H fun c H1=>if c=true then ta σ H1 Q else tb σ H1 Q
theorem zm3 {c:Expr}(hc:PT X c tA)(ha:PE X a ta)(hb:PE X b tb):PE X (.IfExp c a b pos) (tIf tA ta tb):=by
 intro pins s σ H Q I h
 refine wpAny_IfExp (thn (hc pins s σ H _ I h) fun d s1 ⟨H1,I1,q1⟩=>?_)
 cases d with
 | true=>exact ha pins s1 σ H1 Q I1 q1
 | false=>exact hb pins s1 σ H1 Q I1 q1
end
def SqL (K:W.Frag)(H:Hp)(a:Addr)(xs:List V):Prop :=
 Rd H a (.lst xs) ∨
  ∃ (o:Obj) (its:Array Value) (n:Nat),K.lookup a=some o/\o.cls=.type "list"/\o.dict=none/\o.data=.seq its n/\its.size<=sizeLine/\zbG xs its.toList
def SqT (K:W.Frag)(H:Hp)(a:Addr)(xs:List V):Prop :=
 Rd H a (.tup xs) ∨
  ∃ (o:Obj) (its:Array Value) (n:Nat),K.lookup a=some o/\o.cls=.type "tuple"/\o.data=.seq its n/\its.size<=sizeLine/\zbG xs its.toList
def ztQ:Value->Option V
 | .none=>some .non
 | .bool b=>some (.bl b)
 | .int i _=>some (.int i)
 | .str x _=>some (.str x)
 | .bytes b _=>some (.byt b)
 | .float b _=>some (.flt b)
 | .ref a=>some (.ref a)
 | .type n=>some (.ty n)
 | _=>none
theorem zbB.abs {x:V}{u:Value}(r:zbB x u):ztQ u=some x:=by
 cases x with
 | non=>cases r;rfl
 | bl _=>cases r;rfl
 | int _=>obtain⟨t,rfl⟩:=r;rfl
 | str _=>obtain⟨t,rfl⟩:=r;rfl
 | byt _=>obtain⟨t,rfl⟩:=r;rfl
 | flt _=>obtain⟨t,rfl⟩:=r;rfl
 | ref _=>cases r;rfl
 | ty _=>cases r;rfl
theorem zbB.inj {x y:V}{u:Value}(r:zbB x u)(q:zbB y u):x=y:=Option.some.inj (r.abs.symm.trans q.abs)
theorem zbG.inj:∀ {xs ys:List V}{us:List Value},zbG xs us->zbG ys us->xs=ys
 | _,_,_,.nil,.nil=>rfl
 | _,_,_,.cons r t,.cons r' t'=>by rw[r.inj r',zbG.inj t t']
section
variable {X:Cx}{pins:List (Addr×Obj)}{σ:St}{H:Hp}{s:Shared}{a:Addr}{xs ys:List V}
theorem SqL.of {K:W.Frag}(h:H a=some (.lst xs)):SqL K H a xs:=.inl (.inl h)
theorem SqT.of {K:W.Frag}(h:H a=some (.tup xs)):SqT K H a xs:=.inl (.inl h)
theorem Inv.list (I:Inv X pins σ H s)(h:SqL X.K H a xs):∃ its:List Value,zbG xs its/\PlainL s.heap a its.toArray/\xs.length<=sizeLine:=by
 rcases h with h | ⟨o,its,n,hk,hc,hd,hs,hz,r⟩
 ·obtain⟨z,its,n,r,e⟩:=h.ok I.hok
  exact⟨its,r,⟨_,n,e,rfl,rfl,rfl⟩,z⟩
 ·refine⟨its.toList,r,⟨o,n,I.kIn a o hk,hc,hd,by simpa using hs⟩,?_⟩
  have e:=r.length
  simp only[Array.length_toList] at e
  omega
theorem Inv.tuple (I:Inv X pins σ H s)(h:SqT X.K H a xs):∃ its:List Value,zbG xs its/\IsTup s.heap a its.toArray/\xs.length<=sizeLine:=by
 rcases h with h | ⟨o,its,n,hk,hc,hs,hz,r⟩
 ·obtain⟨z,its,r,p⟩:=h.ok I.hok
  exact⟨its,r,p,z⟩
 ·refine⟨its.toList,r,⟨o,I.kIn a o hk,hc,n,by simpa using hs⟩,?_⟩
  have e:=r.length
  simp only[Array.length_toList] at e
  omega
theorem Inv.list_inj (I:Inv X pins σ H s)(h:SqL X.K H a xs)(h':SqL X.K H a ys):xs=ys:=by
 obtain⟨its,r,⟨o,n,e,_,_,d⟩,_⟩:=I.list h
 obtain⟨its',r',⟨o',n',e',_,_,d'⟩,_⟩:=I.list h'
 rw[e] at e';cases e'
 rw[d] at d'
 injection d' with d1 _
 have:its=its':=by simpa using congrArg Array.toList d1
 subst this
 exact r.inj r'
theorem Inv.tuple_inj (I:Inv X pins σ H s)(h:SqT X.K H a xs)(h':SqT X.K H a ys):xs=ys:=by
 obtain⟨its,r,⟨o,e,_,n,d⟩,_⟩:=I.tuple h
 obtain⟨its',r',⟨o',e',_,n',d'⟩,_⟩:=I.tuple h'
 rw[e] at e';cases e'
 rw[d] at d'
 injection d' with d1 _
 have:its=its':=by simpa using congrArg Array.toList d1
 subst this
 exact r.inj r'
end
abbrev Cx.wish (X:Cx)(E:Value->Shared->Prop):Cx:={ X with xe:=E }
abbrev Cx.nox (X:Cx):Cx:=X.wish fun _ _=>False
theorem Cx.Ok.wish {X:Cx}(ok:X.Ok)(E:Value->Shared->Prop):(X.wish E).Ok :=
 ⟨ok.mod,ok.kind,ok.glob,ok.blt,ok.above,ok.inj,ok.has,ok.cab,ok.hd,ok.frames,ok.stk,ok.exf,ok.bs,ok.bsz,ok.noex,ok.exfs,ok.funs,ok.frf⟩
theorem Cx.Ok.unwish {X:Cx}{E:Value->Shared->Prop}(ok:(X.wish E).Ok):X.Ok :=
 ⟨ok.mod,ok.kind,ok.glob,ok.blt,ok.above,ok.inj,ok.has,ok.cab,ok.hd,ok.frames,ok.stk,ok.exf,ok.bs,ok.bsz,ok.noex,ok.exfs,ok.funs,ok.frf⟩
section
variable {X:Cx}{pins:List (Addr×Obj)}{σ:St}{H:Hp}{s:Shared}{E:Value->Shared->Prop}
theorem Inv.wish (I:Inv X pins σ H s)(E:Value->Shared->Prop):Inv (X.wish E) pins σ H s:=⟨I.ok.wish E,I.os,I.bare,I.base,I.loc,I.cell,I.free,I.freeC,I.pin,I.hok,I.len⟩
theorem Inv.unwish (I:Inv (X.wish E) pins σ H s):Inv X pins σ H s:=⟨I.ok.unwish,I.os,I.bare,I.base,I.loc,I.cell,I.free,I.freeC,I.pin,I.hok,I.len⟩
theorem SP.unwish {D:zhy}{f:Flow}{s':Shared}(h:SP (X.wish E) pins D f s'):SP X pins D f s':=by
 cases f with
 | next=>obtain⟨σ',H',I,q⟩:=h;exact⟨σ',H',I.unwish,q⟩
 | brk=>obtain⟨σ',H',I,q⟩:=h;exact⟨σ',H',I.unwish,q⟩
 | cont=>obtain⟨σ',H',I,q⟩:=h;exact⟨σ',H',I.unwish,q⟩
 | ret u=>obtain⟨v,σ',H',I,r,q⟩:=h;exact⟨v,σ',H',I.unwish,r,q⟩
theorem PSs.nox {st:List Stmt}{t:TS}(h:PSs X.nox st t):PSs X st t:=fun pins s σ H D I hw =>
 wpAny_mono (h pins s σ H D (I.wish _) hw) (fun _ _ q=>q.unwish) fun _ _ z=>False.elim z
end
section
variable {X:Cx}{st:Stmt}{rest:List Stmt}{t u:TS}{e:Expr}{te:TE}{pos:Pos}
def zrT:TS:=fun D σ H=>D.nx σ H
def ztm (t u:TS):TS:=fun D σ H=>t { D with nx:=u D } σ H
theorem zld:PSs X [] zrT:=fun _ _ σ H _ I h=>wpAny_execs_nil ⟨σ,H,I,h⟩
theorem zg0 (h1:PS X st t)(h2:PSs X rest u):PSs X (st::rest) (ztm t u):=by
 intro pins s σ H D I h
 refine wpAny_execs_cons (thn (h1 pins s σ H { D with nx:=u D } I h) fun f s1 q=>?_)
 cases f with
 | next =>
  obtain⟨σ',H',I',q⟩:=q
  exact h2 pins s1 σ' H' D I' q
 | ret v=>exact q
 | brk=>exact q
 | cont=>exact q
theorem Inv.quiet {pins:List (Addr×Obj)}{σ:St}{H:Hp}{s:Shared}(I:Inv X pins σ H s):interactive X.env=false:=by simp [interactive,I.ok.kind]
def zrV (te:TE):TS:=fun D σ H=>te σ H fun _ H1=>D.nx σ H1
theorem zle (he:PE X e te)(hs:swapsWith e none pos.line X.env=pure false:=by rfl):PS X (.Expr e pos) (zrV te):=by
 intro pins s σ H D I h
 exact wpAny_Expr_any (thn (he pins s σ H _ I h) fun v s1 ⟨x,H1,I1,r1,q1⟩=>⟨σ,H1,I1,q1⟩) I.quiet hs
def ztn (te:TE):TS:=fun D σ H=>te σ H D.rt
theorem zql (he:PE X e te):PS X (.Return (some e) pos) (ztn te):=by
 intro pins s σ H D I h
 exact wpAny_Return_some (thn (he pins s σ H _ I h) fun v s1 ⟨x,H1,I1,r1,q1⟩=>⟨x,σ,H1,I1,r1,q1⟩)
def zts (c:TT)(t u:TS):TS:=fun D σ H=>c σ H fun b H1=>if b=true then t D σ H1 else u D σ H1
theorem zsg {c:Expr}{a b:List Stmt}{tc:TT}(hc:PT X c tc)(ha:PSs X a t)(hb:PSs X b u):PS X (.If c a b pos) (zts tc t u):=by
 intro pins s σ H D I h
 refine wpAny_If (thn (hc pins s σ H _ I h) fun d s1 ⟨H1,I1,q1⟩=>?_)
 cases d with
 | true=>exact ha pins s1 σ H1 D I1 q1
 | false=>exact hb pins s1 σ H1 D I1 q1
end
abbrev TG:=V->St->Hp->(St->Hp->Prop)->Prop
abbrev TGs:=List V->St->Hp->(St->Hp->Prop)->Prop
def PG (X:Cx)(target:Expr)(t:TG):Prop :=
 ∀ (pins:List (Addr×Obj)) (s:Shared) (σ:St) (H:Hp) (v:V) (u:Value) (Q:St->Hp->Prop),Inv X pins σ H s->zbB v u->t v σ H Q ->
  wpAny (model X.prog X.w) X.A (assign target X.env u) (fun _ s'=>∃ σ' H',Inv X pins σ' H' s'/\Q σ' H') X.xe s
def PGs (X:Cx)(ts:List Expr)(t:TGs):Prop :=
 ∀ (pins:List (Addr×Obj)) (s:Shared) (σ:St) (H:Hp) (vs:List V) (us:List Value) (Q:St->Hp->Prop),Inv X pins σ H s->zbG vs us->t vs σ H Q ->
  wpAny (model X.prog X.w) X.A (assignInOrder ((assignEach ts X.env).map (·.2)) us) (fun _ s'=>∃ σ' H',Inv X pins σ' H' s'/\Q σ' H') X.xe s
section
variable {X:Cx}{pos:Pos}
def zpd (i:Nat):TG:=fun v σ H Q=>Q (σ.set i (some v)) H
theorem zlm {i:Nat}{x:Str}(hN:X.N.Nodup)(hi:X.N[i]?=some x)(hx:Loc X.env.scope x)(hf:X.fn x=true∨X.env.scope.names.lookup x=some .local := by first | exact .inl rfl | exact .inr rfl | assumption):PG X (.Name x pos) (zpd i):=by
 intro pins s σ H v u Q I r h
 exact wpAny_assign_Name (zdQ I hN hi hx r (fun s' I'=>⟨_,H,I',h⟩) hf)
def ztO:TGs:=fun vs σ H Q=>vs=[]/\Q σ H
def zsy (t:TG)(u:TGs):TGs:=fun vs σ H Q=>∃ v r,vs=v::r/\t v σ H fun σ' H'=>u r σ' H' Q
theorem zoK:PGs X [] ztO:=by
 intro pins s σ H vs us Q I r h
 obtain⟨e,h⟩:=h
 subst e
 cases r
 exact assignInOrder_nil ⟨σ,H,I,h⟩
theorem zm1 {e:Expr}{es:List Expr}{t:TG}{u:TGs}(h1:PG X e t)(h2:PGs X es u)
  (hs:(assignEach (e::es) X.env).map (·.2)=assign e X.env::(assignEach es X.env).map (·.2):=by rfl):PGs X (e::es) (zsy t u):=by
 intro pins s σ H vs us Q I r h
 obtain⟨v,vr,e1,h⟩:=h
 subst e1
 cases r with
 | cons r rr =>
  rw[hs]
  refine assignInOrder_cons (thn (h1 pins s σ H _ _ _ I r h) fun _ s1 ⟨σ1,H1,I1,q1⟩=>?_)
  exact h2 pins s1 σ1 H1 _ _ Q I1 rr q1
def ztN (K:W.Frag)(n:Nat)(t:TGs):TG:=fun v σ H Q=>∃ a xs,v=.ref a/\SqT K H a xs/\xs.length=n/\t xs σ H Q
theorem zqp {es:List Expr}{k:Nat}{t:TGs}{n:Nat}(hc:X.calm=true)(h:PGs X es t)
  (hn:(assignEach es X.env).length=n:=by rfl)(hst:(assignEach es X.env).findIdx? (·.1)=none:=by rfl):PG X (.Tuple es k pos) (ztN X.K n t):=by
 intro pins s σ H v u Q I r hw
 obtain⟨a,xs,e1,hq,hl,hw⟩:=hw
 subst e1
 cases r
 obtain⟨its,rv,ht,hz⟩:=I.tuple hq
 refine assign_Tuple_tuple (I.ok.hd hc) ht (by simp [hn,← hl,rv.length]) hst fun h' hx=>?_
 have I1:Inv X pins σ H { s with heap:=h' }:=I.kept (t':=s.toks) fun b o e=>hx b o (Nat.ne_of_lt (Heap.lt_size e)) e
 exact h pins _ σ H xs _ Q I1 (by simpa using rv) hw
def zrY (te:TE)(g:TG):TS:=fun D σ H=>te σ H fun x H1=>g x σ H1 D.nx
theorem zqn {tg e:Expr}{te:TE}{g:TG}(he:PE X e te)(hg:PG X tg g)(hs:swapsWithSole [tg] e pos.line X.env=pure false:=by rfl)(hw:swappedStores [tg] e X.env=pure none:=by rfl)
  (h1:(assignEach [tg] X.env).map (·.2)=[assign tg X.env]:=by rfl):PS X (.Assign [tg] e pos) (zrY te g):=by
 intro pins s σ H D I h
 refine wpAny_Assign_stores (thn (he pins s σ H _ I h) fun v s1 ⟨x,H1,I1,r1,q1⟩=>?_) hs hw
 rw[h1]
 exact thn (hg pins s1 σ H1 x v _ I1 r1 q1) fun _ s2 q=>q
theorem znW {i:Nat}{x:Str}{e:Expr}{te:TE}{pos':Pos}(hN:X.N.Nodup)(hi:X.N[i]?=some x)(hx:Loc X.env.scope x)(he:PE X e te)(hs:swapsWith e (some (.Name x pos')) pos.line X.env=pure false:=by rfl)(hf:X.fn x=true∨X.env.scope.names.lookup x=some .local := by first | exact .inl rfl | exact .inr rfl | assumption) :
  PS X (.Assign [.Name x pos'] e pos) (zrY te (zpd i)):=by
 intro pins s σ H D I h
 refine wpAny_Assign_Name (thn (he pins s σ H _ I h) fun v s1 ⟨y,H1,I1,r1,q1⟩=>?_) hs
 exact zdQ I1 hN hi hx r1 (fun s2 I2=>⟨_,H1,I2,q1⟩) hf
def zto (i j:Nat)(ta:TA):TS:=fun D σ H=>ta σ H fun vs H1=>∃ v w,vs=[v,w]/\D.nx ((σ.set i (some v)).set j (some w)) H1
theorem zqm {i j:Nat}{x y:Str}{a b:Expr}{ta:TA}{px py pt:Pos}{kt k2 pt2}(hc:X.calm=true)(hN:X.N.Nodup)(hi:X.N[i]?=some x)(hj:X.N[j]?=some y)(hij:i≠j)
  (hx:X.env.scope.names.lookup x=some .local)(hy:X.env.scope.names.lookup y=some .local)(ha:PA X [a,b] ta)
  (hw:swappedStores [.Tuple [.Name x px,.Name y py] kt pt] (.Tuple [a,b] k2 pt2) X.env=pure (some [x,y]))
  (hs:swapsWithSole [.Tuple [.Name x px,.Name y py] kt pt] (.Tuple [a,b] k2 pt2) pos.line X.env=pure false:=by rfl) :
  PS X (.Assign [.Tuple [.Name x px,.Name y py] kt pt] (.Tuple [a,b] k2 pt2) pos) (zto i j ta):=by
 intro pins s σ H D I h
 rw[exec_Assign_arm]
 refine wpAny_bind (wpAny_standAt ?_)
 rw[hs]
 refine wpAny_bind (wpAny_pure ?_)
 rw[if_neg (by decide)]
 refine wpAny_bind (Tuple_ (thn (ha _ pins s σ H _ I h) fun us s1 ⟨vs,H1,I1,r1,q1⟩=>?_))
 obtain⟨v,w,e1,q1⟩:=q1
 subst e1
 obtain⟨u1,u2,rfl,rv,rw'⟩:∃ u1 u2,us=[u1,u2]/\zbB v u1/\zbB w u2:=by
  cases r1 with
  | cons p q =>
   cases q with
   | cons p' q' =>
    cases q'
    exact⟨_,_,rfl,p,p'⟩
 refine wpAny_newObj_type ?_ (by show 2<=sizeLine;decide)
 have I2:Inv X pins σ H1 { s1 with heap:=s1.heap.push { cls:=.type "tuple",data:=.seq [u1,u2].toArray } }:=I1.kept (t':=s1.toks) fun b o e=>Heap.get?_push_of_some _ e
 rw[hw]
 refine wpAny_bind (wpAny_pure ?_)
 show wpAny (model X.prog X.w) X.A (do rule "assign.swapped-stores";let items ← unpackItems (.ref s1.heap.objs.size) 2 none;assignInOrder [fun v=>bindName X.env y v,fun v=>bindName X.env x v] items.reverse;pure Flow.next) _ _ _
 refine wpAny_bind (wpAny_rule (wpAny_bind (unpackItems_tuple (items:=#[u1,u2]) (I.ok.hd hc) (IsTup.new s1.heap _) fun h' hx'=>?_)))
 have I3:=I2.kept (h':=h') (t':=s1.toks) fun b o e=>hx' b o (Nat.ne_of_lt (Heap.lt_size e)) e
 show wpAny _ _ (assignInOrder [fun v=>bindName X.env y v,fun v=>bindName X.env x v] [u2,u1] >>= fun _=>pure Flow.next) _ _ _
 refine wpAny_bind (assignInOrder_cons (wpAny_bindName (zdQ I3 hN hj (.inl hy) rw' (fun s2 I4=>?_) (.inr hy))))
 refine assignInOrder_cons (wpAny_bindName (zdQ I4 hN hi (.inl hx) rv (fun s3 I5=>assignInOrder_nil (wpAny_pure ?_)) (.inr hx)))
 rw[List.set_comm _ _ (Ne.symm hij)] at I5
 exact⟨_,H1,I5,q1⟩
end
section
variable {X:Cx}{pos:Pos}
def zpX (c:TT)(tb:TS):TS:=fun D σ H=>∃ W:Nat->St->Hp->Prop,(∃ m,W m σ H)/\∀ m σ H,W m σ H ->
 c σ H fun b H1=>if b=true then ∃ N:St->Hp->Prop,(∀ σ' H',N σ' H'->∃ m',m' < m/\W m' σ' H')/\tb { D with nx:=N,ct:=N,bk:=D.nx } σ H1 else D.nx σ H1
theorem zmZ {c:Expr}{body:List Stmt}{tc:TT}{tb:TS}(hp:PassesOwn (model X.prog X.w) X.A X.env X.xe)(hc:PT X c tc)(hb:PSs X body tb):PS X (.While c body [] pos) (zpX tc tb):=by
 intro pins s σ H D I h
 obtain⟨W,⟨m0,w0⟩,turn⟩:=h
 refine wpAny_While (codeAny_whileLoop (fun n s'=>∃ σ' H',Inv X pins σ' H' s'/\W n σ' H') ?_ m0 ⟨σ,H,I,w0⟩)
 rintro n s1 ⟨σ1,H1,I1,w1⟩
 refine wpAny_passesOwn hp (thn (hc pins s1 σ1 H1 _ I1 (turn n σ1 H1 w1)) fun b s2 ⟨H2,I2,q2⟩=>?_)
 cases b with
 | true =>
  obtain⟨N,hN,q2⟩:=q2
  rw[if_pos rfl]
  refine wpAny_passesOwn hp (thn (hb pins s2 σ1 H2 _ I2 q2) fun f s3 q3=>?_)
  cases f with
  | next =>
   obtain⟨σ3,H3,I3,n3⟩:=q3
   obtain⟨m',hm,w3⟩:=hN σ3 H3 n3
   exact⟨m',hm,σ3,H3,I3,w3⟩
  | cont =>
   obtain⟨σ3,H3,I3,n3⟩:=q3
   obtain⟨m',hm,w3⟩:=hN σ3 H3 n3
   exact⟨m',hm,σ3,H3,I3,w3⟩
  | brk=>exact q3
  | ret v=>exact q3
 | false =>
  rw[if_neg Bool.false_ne_true]
  exact wpAny_execs_nil ⟨σ1,H2,I2,q2⟩
end
structure It where
 go:Nat->Hp->Prop
 yld:Nat->Hp->V->Hp->Prop
 stop:Nat->Hp->Prop
def zms (X:Cx)(pins:List (Addr×Obj))(H:Hp)(b:Addr):Prop :=
 H b=none/\b≠X.env.locals/\b∉X.fs/\(b∈X.ex∨X.s₀.heap.objs.size<=b)/\(∀ x c,X.env.cells.lookup x=some c->c≠b)/\∀ p∈X.pn++pins,p.1≠b
theorem Inv.fpOk {X:Cx}{pins:List (Addr×Obj)}{σ:St}{H H':Hp}{s:Shared}{b:Addr}(I:Inv X pins σ H s)(hb:s.heap.objs.size<=b)(hn:H' b=none):zms X pins H' b:=by
 refine⟨hn,Nat.ne_of_gt (Nat.lt_of_lt_of_le I.lt hb),I.nofs hb,.inr (Nat.le_trans I.sz hb),fun x c e z=>?_,fun p hp z=>?_⟩
 ·obtain⟨v,q⟩:=I.cell x c e
  exact absurd (Nat.lt_of_lt_of_le q.lt (by rw[z];exact hb)) (Nat.lt_irrefl _)
 ·exact absurd (Nat.lt_of_lt_of_le (Heap.lt_size (I.pin p hp).1) (by rw[z];exact hb)) (Nat.lt_irrefl _)
structure zrs (P:Program) (w:World) (K:W.Frag) (tg:Expr) (J:It) (fp:List Addr) (it:Addr) (tn:Nat->Heap->Prop):Prop where
 mem:it∈fp
 obj:∀ i h,tn i h->∀ b∈fp,∃ o,h.get? b=some o/\∀ v,o.data≠.cell v
 keep:∀ i h h',tn i h->(∀ b∈fp,∀ o,h.get? b=some o->h'.get? b=some o)->tn i h'
 item:∀ (X:Cx),X.prog=P->X.w=w->X.K=K->X.calm=true->∀ (i:Nat) (pins:List (Addr×Obj)) (s:Shared) (σ:St) (H:Hp) (E:Value->Shared->Prop),Inv X pins σ H s->(∀ b∈fp,zms X pins H b)->tn i s.heap->J.go i H ->
  wpAny (model P w) X.A (pyNext (.ref it)) (fun r s1=>∃ u,r=some u /\
   wpAny (model P w) X.A (letOwnedTupleGo tg (.ref it) u) (fun _ s2=>∃ x H',Inv X pins σ H' s2/\zbB x u/\J.yld i H x H'/\tn (i+1) s2.heap/\∀ b∈fp,H' b=none) E s1) E s
 done:∀ (X:Cx),X.prog=P->X.w=w->X.K=K->X.calm=true->∀ (i:Nat) (pins:List (Addr×Obj)) (s:Shared) (σ:St) (H:Hp) (E:Value->Shared->Prop),Inv X pins σ H s->(∀ b∈fp,zms X pins H b)->tn i s.heap->J.stop i H ->
  wpAny (model P w) X.A (pyNext (.ref it)) (fun r s1=>r=none/\Inv X pins σ H s1) E s
 self:∀ (A:Around) (i:Nat) (s:Shared) (Q:Value->Shared->Prop) (E:Value->Shared->Prop),tn i s.heap->Q (.ref it) s->wpAny (model P w) A (pyIter (.ref it)) Q E s
abbrev TI:=St->Hp->(It->Hp->Prop)->Prop
def PIE (X:Cx)(pins:List (Addr×Obj))(σ:St)(tg:Expr)(R:It->Hp->Prop)(itv:Value)(s2:Shared):Prop :=
 ∃ (it:Addr) (fp:List Addr) (tn:Nat->Heap->Prop) (J:It) (H':Hp),itv=.ref it/\Inv X pins σ H' s2/\zrs X.prog X.w X.K tg J fp it tn/\tn 0 s2.heap/\(∀ b∈fp,zms X pins H' b)/\R J H'
def PI (X:Cx)(tg iter:Expr)(wi:TI):Prop :=
 ∀ (pins:List (Addr×Obj)) (s:Shared) (σ:St) (H:Hp) (R:It->Hp->Prop),Inv X pins σ H s->wi σ H R ->
  wpAny (model X.prog X.w) X.A (eval iter X.env) (fun v s1=>wpAny (model X.prog X.w) X.A (pyIter v) (PIE X pins σ tg R) X.xe s1) X.xe s
theorem zno {M:Model}{A:Around}{E:Value->Shared->Prop}{s:Shared}{tg:Expr}{it:Addr}{u:Value}{o:Obj}{n:String}{vs:Array Value}{Q:Unit->Shared->Prop}(ho:s.heap.get? it=some o)(hc:o.cls=.type n)(hd:o.data=.fields vs)
  (hn:["enumerate","zip","dict_itemiterator","dict_reverseitemiterator","odict_iterator","itertools.zip_longest","itertools.pairwise"].contains n=false)(hQ:Q () s):wpAny M A (letOwnedTupleGo tg (.ref it) u) Q E s:=by
 unfold letOwnedTupleGo
 cases tg<;>first
  | exact wpAny_pure hQ
  | (cases u<;>first
    | exact wpAny_pure hQ
    | (refine wpAny_bind (wpAny_load ho ?_);rw[hc,hd];show wpAny M A (if(["enumerate","zip","dict_itemiterator","dict_reverseitemiterator","odict_iterator","itertools.zip_longest","itertools.pairwise"].contains n&&vs[0]?==some (rawInt _))=true then _ else _) Q E s;rw[if_neg (by intro h;rw[hn,Bool.false_and] at h;cases h)];exact wpAny_pure hQ))
def Itl (K:W.Frag)(a:Addr):It :=
 ⟨fun i H=>∃ xs x,SqL K H a xs/\xs[i]?=some x,fun i H x H'=>H'=H/\∀ xs,SqL K H a xs->xs[i]?=some x,fun i H=>∃ xs,SqL K H a xs/\xs.length<=i⟩
def Itr (lo:Int)(n:Nat):It:=⟨fun i _=>i < n,fun i H x H'=>H'=H/\x=.int (lo+i),fun i _=>n<=i⟩
theorem zkS {P:Program}{w:World}{K:W.Frag}{tg:Expr}(a it:Addr):zrs P w K tg (Itl K a) [it] it (fun i h=>h.IsListIter it a i) where
 mem:=by simp
 obj:=fun i h st b hb=>by
  have e:b=it:=by simpa using hb
  subst e
  obtain⟨o,e,c,d⟩:=st
  exact⟨o,e,fun v z=>by rw[d] at z;cases z⟩
 keep:=fun i h h' st k=>st.at fun o e=>k it (by simp) o e
 item:=by
  intro X hP hw hK hc i pins s σ H E I hf st hg
  subst hP hw hK
  obtain⟨xs,x,hq,hx⟩:=hg
  obtain⟨its,rv,p,hz⟩:=I.list hq
  obtain⟨u,hu,ru⟩:=rv.get hx
  obtain⟨f0,f1,f2,f3,f4,f5⟩:=hf it (by simp)
  refine wpAny_pyNext_list_item st p.isList (x:=u) (by simpa using hu) fun h' st' sb=>?_
  have I1:Inv X pins σ H { s with heap:=h' }:=I.turned (t':=s.toks) (fun b o hb e=>(sb.2 b hb).trans e) f0 f1 f3 f4 f5
  obtain⟨o,e,c,d⟩:=id st'
  exact⟨u,rfl,zno (s:={ s with heap:=h' }) e c d (by decide) ⟨x,H,I1,ru,⟨rfl,fun ys hy=>by rw[I.list_inj hy hq];exact hx⟩,st',fun b hb=>(hf b hb).1⟩⟩
 done:=by
  intro X hP hw hK hc i pins s σ H E I hf st hg
  subst hP hw hK
  obtain⟨xs,hq,hx⟩:=hg
  obtain⟨its,rv,p,hz⟩:=I.list hq
  obtain⟨f0,f1,f2,f3,f4,f5⟩:=hf it (by simp)
  have hl:=rv.length
  exact wpAny_pyNext_list_end (I.ok.hd hc) st p.isList (by simp;omega) fun h' eb=>⟨rfl,I.turned (t':=s.toks) (fun b o hb e=>eb b o hb e) f0 f1 f3 f4 f5⟩
 self:=fun _ _ _ _ _ st h=>wpAny_pyIter_listiter st h
theorem zkb {P:Program}{w:World}{K:W.Frag}{tg:Expr}(it:Addr)(lo:Int)(n:Nat):zrs P w K tg (Itr lo n) [it] it (fun i h=>IsRangeIter h it (lo+(i:Nat)*1) ((n:Int)-(i:Nat)) 1) where
 mem:=by simp
 obj:=fun i h st b hb=>by
  have e:b=it:=by simpa using hb
  subst e
  exact⟨_,st,fun v z=>by
   have z':Data.fields _=Data.cell v:=z
   cases z'⟩
 keep:=fun i h h' st k=>k it (by simp) _ st
 item:=by
  intro X hP hw hK hc i pins s σ H E I hf st hg
  subst hP hw hK
  obtain⟨f0,f1,f2,f3,f4,f5⟩:=hf it (by simp)
  have W:=Walks.range (prog:=X.prog) (w:=X.w) (I.ok.hd hc) it lo 1 n
  refine W.item i s _ _ hg st fun v h' tk hv st' kk=>?_
  obtain⟨t,rfl⟩:=hv
  have I1:Inv X pins σ H { s with heap:=h',toks:=tk }:=I.turned (fun b o hb e=>kk b o (by simpa using hb) e) f0 f1 f3 f4 f5
  refine⟨_,rfl,zno (s:={ s with heap:=h',toks:=tk }) (n:="range_iterator") st' rfl rfl (by decide) ⟨.int (lo+i),H,I1,⟨t,?_⟩,⟨rfl,rfl⟩,st',fun b hb=>(hf b hb).1⟩⟩
  rw[Int.mul_one]
 done:=by
  intro X hP hw hK hc i pins s σ H E I hf st hg
  subst hP hw hK
  obtain⟨f0,f1,f2,f3,f4,f5⟩:=hf it (by simp)
  exact wpAny_pyNext_range_end (I.ok.hd hc) st (by have:n<=i:=hg;omega) fun h' eb=>⟨rfl,I.turned (t':=s.toks) (fun b o hb e=>eb b o hb e) f0 f1 f3 f4 f5⟩
 self:=fun _ _ _ _ _ st h=>wpAny_pyIter_rangeiter st h
section
variable {X:Cx}{tg:Expr}
def zsw (K:W.Frag)(tl:TE):TI:=fun σ H R=>tl σ H fun x H1=>∃ a,x=.ref a/\(∃ xs,SqL K H1 a xs)/\R (Itl K a) H1
theorem zlk {l:Expr}{tl:TE}(hl:PE X l tl):PI X tg l (zsw X.K tl):=by
 intro pins s σ H R I h
 refine thn (hl pins s σ H _ I h) fun v s1 ⟨x,H1,I1,r1,q1⟩=>?_
 obtain⟨a,e,⟨xs,hq⟩,q⟩:=q1
 subst e
 cases r1
 obtain⟨its,rv,p,hz⟩:=I1.list hq
 refine wpAny_pyIter_list p.isList ?_
 refine⟨s1.heap.objs.size,[s1.heap.objs.size],_,_,H1,rfl,I1.kept (t':=s1.toks) fun b o e=>Heap.get?_push_of_some _ e,zkS a _,⟨_,Heap.get?_push_size _ rfl,rfl,rfl⟩,fun b hb=>?_,q⟩
 have e:b=s1.heap.objs.size:=by simpa using hb
 subst e
 exact I1.fpOk (Nat.le_refl _) (I1.hok.fresh (Nat.le_refl _))
theorem zmX {pins:List (Addr×Obj)}{σ:St}{H:Hp}{s:Shared}{R:It->Hp->Prop}{E:Value->Shared->Prop}{lo hi:Int}{t u v:Tok}{tk:Nat}(I:Inv X pins σ H s)(h1:-(2 ^ 62)<=lo)(h2:lo < 2 ^ 62)(h3:-(2 ^ 62)<=hi)(h4:hi < 2 ^ 62)
  (q:R (Itr lo (hi-lo).toNat) H):wpAny (model X.prog X.w) X.A (pyIter (.ref s.heap.objs.size)) (PIE X pins σ tg R) E { s with heap:=s.heap.push { cls:=.type "range",data:=.fields #[.int lo t,.int hi u,.int 1 v] },toks:=tk }:=by
 refine wpAny_pyIter_range (IsRange.new ..) (small_one h1 h2 h3 h4) ?_
 have I1:Inv X pins σ H { s with heap:=s.heap.push { cls:=.type "range",data:=.fields #[.int lo t,.int hi u,.int 1 v] },toks:=tk }:=I.kept fun b o e=>Heap.get?_push_of_some _ e
 refine⟨(s.heap.push { cls:=.type "range",data:=.fields #[.int lo t,.int hi u,.int 1 v] }).objs.size,[(s.heap.push { cls:=.type "range",data:=.fields #[.int lo t,.int hi u,.int 1 v] }).objs.size],_,_,H,rfl,
  I1.kept (t':=tk) fun b o e=>Heap.get?_push_of_some _ e,zkb _ lo (hi-lo).toNat,?_,fun b hb=>?_,q⟩
 ·have e1:lo+((0:Nat):Int)*1=lo:=by simp
  have e2:(((hi-lo).toNat:Nat):Int)-((0:Nat):Int)=Builtin.Range.rangeSize lo hi 1:=by rw[rangeSize_one];split<;>omega
  show IsRangeIter _ _ (lo+((0:Nat):Int)*1) ((((hi-lo).toNat:Nat):Int)-((0:Nat):Int)) 1
  rw[e1,e2]
  exact Heap.get?_push_size _ rfl
 ·have e:b=(s.heap.push { cls:=.type "range",data:=.fields #[.int lo t,.int hi u,.int 1 v] }).objs.size:=by simpa using hb
  subst e
  exact I1.fpOk (Nat.le_refl _) (I1.hok.fresh (Nat.le_refl _))
def zsv (ta:TA):TI:=fun σ H R=>ta σ H fun vs H1=>∃ j:Int,vs=[.int j]/\-(2 ^ 62)<=j/\j < 2 ^ 62/\R (Itr 0 j.toNat) H1
theorem zlj {a:Expr}{ta:TA}{p pos:Pos}(hg:Gl X "range")(hm:X.mg "range"=none)(ha:PA X [a] ta)(hs:starEach [a] X.env=[(false,eval a X.env)]:=by rfl):PI X tg (.Call (.Name "range" p) [a] [] pos) (zsv ta):=by
 intro pins s σ H R I h
 refine Call_ (zjA I hg hm boot_range (PyProof.Rows.callWith_type1 (thn (ha pos pins s σ H _ I h) fun us s1 ⟨vs,H1,I1,r1,q1⟩=>?_) hs rfl))
 obtain⟨j,e,q1,q2,q⟩:=q1
 subst e
 cases r1 with
 | cons r rr =>
  cases rr
  obtain⟨t,rfl⟩:=r
  exact call_range_1 (zmX I1 (by omega) (by omega) q1 q2 (by simpa using q))
def ztt (wi:TI)(g:TG)(tb:TS):TS:=fun D σ H=>wi σ H fun J H1=>∃ W:Nat->Nat->St->Hp->Prop,(∃ m,W 0 m σ H1)/\∀ i m σ H,W i m σ H ->
 (J.stop i H/\D.nx σ H)∨(J.go i H/\∃ N:St->Hp->Prop,(∀ σ' H',N σ' H'->∃ m',m' < m/\W (i+1) m' σ' H')/\∀ x H',J.yld i H x H'->g x σ H' fun σ2 H2=>tb { D with nx:=N,ct:=N,bk:=D.nx } σ2 H2)
def zh7 (fp:List Addr)(h:Heap):List (Addr×Obj):=fp.filterMap fun b=>(h.get? b).map fun o=>(b,o)
theorem zdT {fp:List Addr}{h:Heap}{b:Addr}{o:Obj}(hb:b∈fp)(e:h.get? b=some o):(b,o)∈zh7 fp h:=List.mem_filterMap.mpr ⟨b,hb,by rw[e];rfl⟩
theorem zlt {fp:List Addr}{h:Heap}{p:Addr×Obj}(hp:p∈zh7 fp h):p.1∈fp/\h.get? p.1=some p.2:=by
 obtain⟨b,hb,e⟩:=List.mem_filterMap.mp hp
 cases q:h.get? b with
 | none=>rw[q] at e;cases e
 | some o =>
  rw[q] at e
  have e':(b,o)=p:=Option.some.inj e
  subst e'
  exact⟨hb,q⟩
theorem Inv.pinned {pins:List (Addr×Obj)}{σ:St}{H:Hp}{s:Shared}{fp:List Addr}(I:Inv X pins σ H s)(hf:∀ b∈fp,zms X pins H b)(ho:∀ b∈fp,∃ o,s.heap.get? b=some o/\∀ v,o.data≠.cell v):Inv X (pins++zh7 fp s.heap) σ H s :=
 I.pins_of fun p hp=>(List.mem_append.mp hp).elim (fun z=>I.pin p (List.mem_append_right _ z)) fun z=>by
  obtain⟨hb,e⟩:=zlt z
  obtain⟨f0,f1,f2,_⟩:=hf p.1 hb
  obtain⟨o,e',d⟩:=ho p.1 hb
  rw[e] at e';cases e'
  exact⟨e,f0,f1,f2,d⟩
theorem Inv.unpinned {pins pl:List (Addr×Obj)}{σ:St}{H:Hp}{s:Shared}(I:Inv X (pins++pl) σ H s):Inv X pins σ H s:=I.pins_of fun p hp=>I.pin p (List.mem_append_right _ (List.mem_append_left _ hp))
theorem znX {iter:Expr}{body:List Stmt}{wi:TI}{g:TG}{tb:TS}{pos:Pos}(hp:PassesOwn (model X.prog X.w) X.A X.env X.xe)(hc:X.calm=true)(hi:PI X tg iter wi)(hg:PG X tg g)(hb:PSs X body tb)
  (hs:∀ x,foldedSetIterable iter X.env x=pure x:=by intro _;rfl):PS X (.For tg iter body [] pos) (ztt wi g tb):=by
 intro pins s σ H D I h
 refine wpAny_For (thn (hi pins s σ H _ I h) fun v s1 h1=>thn h1 fun itv s2 h2=>?_) hs
 obtain⟨it,fp,tn,J,H2,e,I2,T,st2,f2,W,⟨m0,w0⟩,turn⟩:=h2
 subst e
 have stat:∀ {H':Hp},(∀ b∈fp,H' b=none)->∀ b∈fp,zms X pins H' b:=fun hn b hb=>⟨hn b hb,(f2 b hb).2⟩
 refine codeAny_forLoop_any (fun n s'=>∃ i σ' H',Inv X pins σ' H' s'/\tn i s'.heap/\(∀ b∈fp,H' b=none)/\W i n σ' H') ?_ m0 ⟨0,σ,H2,I2,st2,fun b hb=>(f2 b hb).1,w0⟩
 rintro n s3 ⟨i,σ3,H3,I3,st3,fr3,w3⟩
 rcases turn i n σ3 H3 w3 with⟨stop,qn⟩ | ⟨go,N,hN,step⟩
 ·refine wpAny_passesOwn hp (thn (T.done X rfl rfl rfl hc i pins s3 σ3 H3 X.xe I3 (stat fr3) st3 stop) fun r s4 ⟨hr,I4⟩=>?_)
  subst hr
  exact wpAny_execs_nil ⟨σ3,H3,I4,qn⟩
 ·refine wpAny_passesOwn hp (thn (T.item X rfl rfl rfl hc i pins s3 σ3 H3 X.xe I3 (stat fr3) st3 go) fun r s4 ⟨u,hr,h4⟩=>?_)
  subst hr
  refine wpAny_passesOwn hp (thn h4 fun _ s5 ⟨x,H5,I5,r5,y5,st5,fr5⟩=>?_)
  have I5':=I5.pinned (stat fr5) (T.obj _ _ st5)
  refine wpAny_passesOwn hp (thn (hg _ s5 σ3 H5 x u _ I5' r5 (step x H5 y5)) fun _ s6 ⟨σ6,H6,I6,q6⟩=>?_)
  refine wpAny_passesOwn hp (thn (hb _ s6 σ6 H6 _ I6 q6) fun f s7 q7=>?_)
  have again:∀ {σ7:St}{H7:Hp},Inv X (pins++zh7 fp s5.heap) σ7 H7 s7->N σ7 H7->∃ m,m < n/\∃ i σ' H',Inv X pins σ' H' s7/\tn i s7.heap/\(∀ b∈fp,H' b=none)/\W i m σ' H':=fun {σ7 H7} I7 n7=>by
   obtain⟨m',hm,w7⟩:=hN σ7 H7 n7
   refine⟨m',hm,i+1,σ7,H7,I7.unpinned,T.keep _ _ _ st5 fun b hb o e=>(I7.pin (b,o) (List.mem_append_right _ (List.mem_append_right _ (zdT hb e)))).1,fun b hb=>?_,w7⟩
   obtain⟨o,e,d⟩:=T.obj _ _ st5 b hb
   exact(I7.pin (b,o) (List.mem_append_right _ (List.mem_append_right _ (zdT hb e)))).2.1
  cases f with
  | next=>obtain⟨σ7,H7,I7,n7⟩:=q7;exact again I7 n7
  | cont=>obtain⟨σ7,H7,I7,n7⟩:=q7;exact again I7 n7
  | brk=>obtain⟨σ7,H7,I7,q7⟩:=q7;exact⟨σ7,H7,I7.unpinned,q7⟩
  | ret v=>obtain⟨x7,σ7,H7,I7,r7,q7⟩:=q7;exact⟨x7,σ7,H7,I7.unpinned,r7,q7⟩
end
theorem znp {K:W.Frag}{a:Addr}{xs:List V}{g:TG}{tb:TS}{D:zhy}{σ:St}{H:Hp}(Pv:Nat->St->Hp->Prop)(h0:Pv 0 σ H)(hl:∀ i σ H,i<=xs.length->Pv i σ H->SqL K H a xs)
  (hs:∀ i x σ H,xs[i]?=some x->Pv i σ H->g x σ H fun σ2 H2=>tb { D with nx:=Pv (i+1),ct:=Pv (i+1),bk:=D.nx } σ2 H2)(hd:∀ σ H,Pv xs.length σ H->D.nx σ H) :
  ∃ W:Nat->Nat->St->Hp->Prop,(∃ m,W 0 m σ H)/\∀ i m σ H,W i m σ H ->
   ((Itl K a).stop i H/\D.nx σ H)∨((Itl K a).go i H/\∃ N:St->Hp->Prop,(∀ σ' H',N σ' H'->∃ m',m' < m/\W (i+1) m' σ' H')/\∀ x H',(Itl K a).yld i H x H'->g x σ H' fun σ2 H2=>tb { D with nx:=N,ct:=N,bk:=D.nx } σ2 H2):=by
 refine⟨fun i m σ H=>m=xs.length-i/\i<=xs.length/\Pv i σ H,⟨xs.length,by simp,Nat.zero_le _,h0⟩,?_⟩
 rintro i m σ H ⟨rfl,hi,p⟩
 have q:=hl i σ H hi p
 by_cases hlt:i < xs.length
 ·refine .inr ⟨⟨xs,xs[i],q,by simp [hlt]⟩,Pv (i+1),fun σ' H' p'=>⟨xs.length-(i+1),by omega,rfl,hlt,p'⟩,fun x H' y=>?_⟩
  obtain⟨e,y⟩:=y
  subst e
  exact hs i x σ _ (y xs q) p
 ·have e:i=xs.length:=by omega
  subst e
  exact .inl ⟨⟨xs,q,Nat.le_refl _⟩,hd σ H p⟩
theorem zlM {lo:Int}{n:Nat}{g:TG}{tb:TS}{D:zhy}{σ:St}{H:Hp}(Pv:Nat->St->Hp->Prop)(h0:Pv 0 σ H)
  (hs:∀ i σ H,i < n->Pv i σ H->g (.int (lo+i)) σ H fun σ2 H2=>tb { D with nx:=Pv (i+1),ct:=Pv (i+1),bk:=D.nx } σ2 H2)(hd:∀ σ H,Pv n σ H->D.nx σ H) :
  ∃ W:Nat->Nat->St->Hp->Prop,(∃ m,W 0 m σ H)/\∀ i m σ H,W i m σ H ->
   ((Itr lo n).stop i H/\D.nx σ H)∨((Itr lo n).go i H/\∃ N:St->Hp->Prop,(∀ σ' H',N σ' H'->∃ m',m' < m/\W (i+1) m' σ' H')/\∀ x H',(Itr lo n).yld i H x H'->g x σ H' fun σ2 H2=>tb { D with nx:=N,ct:=N,bk:=D.nx } σ2 H2):=by
 refine⟨fun i m σ H=>m=n-i/\i<=n/\Pv i σ H,⟨n,by simp,Nat.zero_le _,h0⟩,?_⟩
 rintro i m σ H ⟨rfl,hi,p⟩
 by_cases hlt:i < n
 ·refine .inr ⟨hlt,Pv (i+1),fun σ' H' p'=>⟨n-(i+1),by omega,rfl,hlt,p'⟩,fun x H' y=>?_⟩
  obtain⟨e,y⟩:=y
  subst e y
  exact hs i σ _ hlt p
 ·have e:i=n:=by omega
  subst e
  exact .inl ⟨Nat.le_refl _,hd σ H p⟩
abbrev R2:=V->V->Hp->VK->Prop
def OpR (X:Cx)(f:Value->Value->Sem Value)(r:R2):Prop :=
 ∀ (pins:List (Addr×Obj)) (s:Shared) (σ:St) (H:Hp) (x y:V) (v u:Value) (Q:VK),Inv X pins σ H s->zbB x v->zbB y u->r x y H Q ->
  wpAny (model X.prog X.w) X.A (f v u) (EP X pins σ Q) X.xe s
def UnR (X:Cx)(f:Value->Sem Value)(r:V->Hp->VK->Prop):Prop :=
 ∀ (pins:List (Addr×Obj)) (s:Shared) (σ:St) (H:Hp) (x:V) (v:Value) (Q:VK),Inv X pins σ H s->zbB x v->r x H Q ->
  wpAny (model X.prog X.w) X.A (f v) (EP X pins σ Q) X.xe s
def zfs (X:Cx)(f:Value)(r:List V->Hp->VK->Prop):Prop :=
 ∀ (pins:List (Addr×Obj)) (s:Shared) (σ:St) (H:Hp) (xs:List V) (us:List Value) (Q:VK),Inv X pins σ H s->zbG xs us->r xs H Q ->
  wpAny (model X.prog X.w) X.A (call f us) (EP X pins σ Q) X.xe s
def ztT (X:Cx)(r:V->Hp->(Bool->Hp->Prop)->Prop):Prop :=
 ∀ (pins:List (Addr×Obj)) (s:Shared) (σ:St) (H:Hp) (x:V) (v:Value) (Q:Bool->Hp->Prop),Inv X pins σ H s->zbB x v->r x H Q ->
  wpAny (model X.prog X.w) X.A (truthy v) (TP X pins σ Q) X.xe s
def tOp (r:R2)(ta tb:TE):TE:=fun σ H Q=>ta σ H fun x H1=>tb σ H1 fun y H2=>r x y H2 Q
def tUn (r:V->Hp->VK->Prop)(ta:TE):TE:=fun σ H Q=>ta σ H fun x H1=>r x H1 Q
def rI (C:Int->Int->Prop)(g:Int->Int->V):R2:=fun x y H Q=>∃ i j,x=.int i/\y=.int j/\C i j/\Q (g i j) H
def rI0 (g:Int->Int->V):R2:=fun x y H Q=>∃ i j,x=.int i/\y=.int j/\Q (g i j) H
def rU (g:Int->V):V->Hp->VK->Prop:=fun x H Q=>∃ i,x=.int i/\Q (g i) H
section
variable {X:Cx}{a b c:Expr}{ta tb tc:TE}{pos:Pos}
theorem zsO (ha:PE X a ta)(hb:PE X b tb){pins:List (Addr×Obj)}{s:Shared}{σ:St}{H:Hp}{R:V->V->Hp->Prop}(I:Inv X pins σ H s)
  (h:ta σ H fun x H1=>tb σ H1 fun y H2=>R x y H2){Q:Value->Shared->Prop}{f:Value->Value->Sem Value}
  (hf:∀ v u s2 x y H2,Inv X pins σ H2 s2->zbB x v->zbB y u->R x y H2->wpAny (model X.prog X.w) X.A (f v u) Q X.xe s2) :
  wpAny (model X.prog X.w) X.A (eval a X.env) (fun v s₁=>wpAny (model X.prog X.w) X.A (eval b X.env) (fun u s₂=>wpAny (model X.prog X.w) X.A (f v u) Q X.xe s₂) X.xe s₁) X.xe s:=by
 refine thn (ha pins s σ H _ I h) fun v s1 ⟨x,H1,I1,r1,q1⟩=>?_
 refine thn (hb pins s1 σ H1 _ I1 q1) fun u s2 ⟨y,H2,I2,r2,q2⟩=>?_
 exact hf v u s2 x y H2 I2 r1 r2 q2
theorem zsk {op:Operator}{r:R2}(ho:OpR X (binaryOp op) r)(ha:PE X a ta)(hb:PE X b tb):PE X (.BinOp a op b pos) (tOp r ta tb):=by
 intro pins s σ H Q I h
 exact wpAny_BinOp (zsO ha hb I h fun v u s2 x y H2 I2 rx ry q=>ho pins s2 σ H2 x y v u Q I2 rx ry q)
theorem zsj {op:UnaryOp}{r:V->Hp->VK->Prop}(ho:UnR X (unaryOp op) r)(ha:PE X a ta):PE X (.UnaryOp op a pos) (tUn r ta):=by
 intro pins s σ H Q I h
 exact UnaryOp_ (thn (ha pins s σ H _ I h) fun v s1 ⟨x,H1,I1,r1,q1⟩=>ho pins s1 σ H1 x v Q I1 r1 q1)
theorem opI {f:Value->Value->Sem Value}{C:Int->Int->Prop}{g:Int->Int->Int}
  (rule:∀ (i j:Int) (t u:Tok) (s:Shared) (Q:Value->Shared->Prop) (E:Value->Shared->Prop),C i j->Q (.int (g i j) s.toks) { s with toks:=s.toks+1 }->wpAny (model X.prog X.w) X.A (f (.int i t) (.int j u)) Q E s) :
  OpR X f (rI C fun i j=>.int (g i j)):=by
 intro pins s σ H x y v u Q I rx ry h
 obtain⟨i,j,rfl,rfl,hc,q⟩:=h
 obtain⟨t,rfl⟩:=rx
 obtain⟨t',rfl⟩:=ry
 exact rule i j t t' s _ _ hc ⟨.int (g i j),H,I.tok _,⟨_,rfl⟩,q⟩
theorem zs7 {f:Value->Value->Sem Value}{g:Int->Int->Int}
  (rule:∀ (i j:Int) (t u:Tok) (s:Shared) (Q:Value->Shared->Prop) (E:Value->Shared->Prop),Q (.int (g i j) s.toks) { s with toks:=s.toks+1 }->wpAny (model X.prog X.w) X.A (f (.int i t) (.int j u)) Q E s) :
  OpR X f (rI0 fun i j=>.int (g i j)):=by
 intro pins s σ H x y v u Q I rx ry h
 obtain⟨i,j,rfl,rfl,q⟩:=h
 obtain⟨t,rfl⟩:=rx
 obtain⟨t',rfl⟩:=ry
 exact rule i j t t' s _ _ ⟨.int (g i j),H,I.tok _,⟨_,rfl⟩,q⟩
theorem zrC {f:Value->Value->Sem Value}{g:Int->Int->Bool}
  (rule:∀ (i j:Int) (t u:Tok) (s:Shared) (Q:Value->Shared->Prop) (E:Value->Shared->Prop),Q (.bool (g i j)) s->wpAny (model X.prog X.w) X.A (f (.int i t) (.int j u)) Q E s) :
  OpR X f (rI0 fun i j=>.bl (g i j)):=by
 intro pins s σ H x y v u Q I rx ry h
 obtain⟨i,j,rfl,rfl,q⟩:=h
 obtain⟨t,rfl⟩:=rx
 obtain⟨t',rfl⟩:=ry
 exact rule i j t t' s _ _ ⟨.bl (g i j),H,I,rfl,q⟩
def ztW (i j:Int):Prop:=0<=j/\j<=1000000/\i.natAbs < 2 ^ 64
def zth (i j:Int):Prop:=(-(2 ^ 64) < i/\i < 2 ^ 64)∨(-(2 ^ 64) < j/\j < 2 ^ 64)
theorem zth.ok {i j:Int}(h:zth i j):IntMulOk i j:=by
 rcases h with⟨h1,h2⟩ | ⟨h1,h2⟩
 ·exact .of_left (intBits_le_64 h1 h2)
 ·exact .of_right (intBits_le_64 h1 h2)
theorem zqJ:OpR X (binaryOp .Add) (rI0 fun i j=>.int (i+j)):=zs7 fun _ _ _ _ _ _ _ q=>add_int q
theorem zqC:OpR X (binaryOp .Sub) (rI0 fun i j=>.int (i-j)):=zs7 fun _ _ _ _ _ _ _ q=>sub_int q
theorem zoS:OpR X (binaryOp .Mod) (rI (fun _ j=>j≠0) fun i j=>.int (i.fmod j)):=opI fun _ _ _ _ _ _ _ hc q=>mod_int' hc q
theorem zqD:OpR X (binaryOp .Pow) (rI ztW fun i j=>.int (i ^ j.toNat)):=opI fun _ _ _ _ _ _ _ hc q=>pow_int_small hc.1 hc.2.1 hc.2.2 q
theorem unI {f:Value->Sem Value}{g:Int->Int}
  (rule:∀ (i:Int) (t:Tok) (s:Shared) (Q:Value->Shared->Prop) (E:Value->Shared->Prop),Q (.int (g i) s.toks) { s with toks:=s.toks+1 }->wpAny (model X.prog X.w) X.A (f (.int i t)) Q E s) :
  UnR X f (rU fun i=>.int (g i)):=by
 intro pins s σ H x v Q I rx h
 obtain⟨i,rfl,q⟩:=h
 obtain⟨t,rfl⟩:=rx
 exact rule i t s _ _ ⟨.int (g i),H,I.tok _,⟨_,rfl⟩,q⟩
theorem zpT:UnR X (unaryOp .USub) (rU fun i=>.int (-i)):=unI fun _ _ _ _ _ q=>neg_int q
end
section
variable {X:Cx}{a b c:Expr}{ta tb tc:TE}{pos:Pos}
theorem zn1 {pins:List (Addr×Obj)}{σ:St}{H:Hp}{s:Shared}{Q:VK}{k k':Bool}(I:Inv X pins σ H s)(q:Q (.bl k) H)(e:k=k'):EP X pins σ Q (.bool k') s:=by
 subst e
 exact⟨.bl k,H,I,rfl,q⟩
theorem zqE:OpR X (compareOp .Lt) (rI0 fun i j=>.bl (decide (i < j))):=zrC fun _ _ _ _ _ _ _ q=>lt_int q
theorem zm9:OpR X (compareOp .LtE) (rI0 fun i j=>.bl (decide (i<=j))):=zrC fun _ _ _ _ _ _ _ q=>le_int q
theorem zqH:OpR X (compareOp .Gt) (rI0 fun i j=>.bl (decide (j < i))):=zrC fun _ _ _ _ _ _ _ q=>gt_int q
theorem zqI:OpR X (compareOp .GtE) (rI0 fun i j=>.bl (decide (j<=i))):=zrC fun _ _ _ _ _ _ _ q=>ge_int q
theorem zls:OpR X (compareOp .In) (fun x y H Q=>∃ i j,x=.str i/\y=.str j/\Q (.bl (!(Builtin.Str.occurrences j i 0 j.length 1).isEmpty)) H):=by
 intro pins s σ H x y v u Q I rx ry h
 obtain⟨i,j,rfl,rfl,q⟩:=h
 obtain⟨t,rfl⟩:=rx
 obtain⟨t',rfl⟩:=ry
 exact in_str (zn1 I q rfl)
theorem zqF:OpR X (compareOp .Is) (fun x y H Q=>y=.non/\Q (.bl (decide (x=.non))) H):=by
 intro pins s σ H x y v u Q I rx ry h
 obtain⟨rfl,q⟩:=h
 cases ry
 refine is_none_gen (zn1 I q ?_)
 cases x<;>first
  | (cases rx;rfl)
  | (obtain⟨t,rfl⟩:=rx;rfl)
theorem OpR.or {f:Value->Value->Sem Value}{r r':R2}(h:OpR X f r)(h':OpR X f r'):OpR X f (fun x y H Q=>r x y H Q∨r' x y H Q):=by
 intro pins s σ H x y v u Q I rx ry q
 rcases q with q | q
 ·exact h pins s σ H x y v u Q I rx ry q
 ·exact h' pins s σ H x y v u Q I rx ry q
theorem zoN {op:CmpOp}{r:R2}(ho:OpR X (compareOp op) r)(ha:PE X a ta)(hb:PE X b tb)(hm:behindInMarks op b=false):PE X (.Compare a [op] [b] pos) (tOp r ta tb):=by
 intro pins s σ H Q I h
 exact wpAny_Compare1 (zsO ha hb I h fun v u s2 x y H2 I2 rx ry q=>ho pins s2 σ H2 x y v u Q I2 rx ry q) hm
def zpY (t:TE):TT:=fun σ H Q=>t σ H fun x H'=>∃ k,x=.bl k/\Q k H'
theorem zoF {op:CmpOp}{r:R2}(ho:OpR X (compareOp op) r)(ha:PE X a ta)(hb:PE X b tb)(hm:behindInMarks op b=false):PT X (.Compare a [op] [b] pos) (zpY (tOp r ta tb)):=by
 intro pins s σ H Q I h
 refine wpAny_isTrue_Compare1 (thn (ha pins s σ H _ I h) fun v s1 ⟨x,H1,I1,r1,q1⟩=>thn (hb pins s1 σ H1 _ I1 q1) fun u s2 ⟨y,H2,I2,r2,q2⟩ =>
  thn (ho pins s2 σ H2 x y v u _ I2 r1 r2 q2) fun c s3 ⟨z,H3,I3,r3,k,e,q3⟩=>?_) hm
 subst e
 cases r3
 exact wpAny_truthy_bool ⟨H3,I3,q3⟩
def zkV (r r':R2)(ta tb tc:TE):TE:=fun σ H Q=>ta σ H fun x H1=>tb σ H1 fun y H2=>r x y H2 fun z H3=>∃ k,z=.bl k /\
 (if k=true then tc σ H3 fun w' H4=>r' y w' H4 Q else Q (.bl false) H3)
theorem zm4 {op op':CmpOp}{r r':R2}(ho:OpR X (compareOp op) r)(ho':OpR X (compareOp op') r')(ha:PE X a ta)(hb:PE X b tb)(hc:PE X c tc)
  (hm:lastMarks [op,op'] [b,c]=false:=by with_unfolding_all rfl):PE X (.Compare a [op,op'] [b,c] pos) (zkV r r' ta tb tc):=by
 intro pins s σ H Q I h
 refine Compare_chain (thn (ha pins s σ H _ I h) fun v s1 ⟨x,H1,I1,r1,q1⟩=>chain_link (thn (hb pins s1 σ H1 _ I1 q1) fun u s2 ⟨y,H2,I2,r2,q2⟩ =>
  thn (ho pins s2 σ H2 x y v u _ I2 r1 r2 q2) fun d s3 ⟨z,H3,I3,r3,k,e,q3⟩=>?_)) hm
 subst e
 cases r3
 refine wpAny_truthy_bool ?_
 cases k with
 | false=>exact ite_ff ⟨.bl false,H3,I3,rfl,q3⟩
 | true=>exact ite_tt (chain_last (thn (hc pins s3 σ H3 _ I3 q3) fun w' s4 ⟨z',H4,I4,r4,q4⟩=>ho' pins s4 σ H4 y z' u w' Q I4 r2 r4 q4))
theorem zmY {op op':CmpOp}{r r':R2}(ho:OpR X (compareOp op) r)(ho':OpR X (compareOp op') r')(ha:PE X a ta)(hb:PE X b tb)(hc:PE X c tc)
  (hm:lastMarks [op,op'] [b,c]=false:=by with_unfolding_all rfl):PT X (.Compare a [op,op'] [b,c] pos) (zpY (zkV r r' ta tb tc)):=by
 intro pins s σ H Q I h
 refine isTrue_chain (thn (ha pins s σ H _ I h) fun v s1 ⟨x,H1,I1,r1,q1⟩=>test_link (thn (hb pins s1 σ H1 _ I1 q1) fun u s2 ⟨y,H2,I2,r2,q2⟩ =>
  thn (ho pins s2 σ H2 x y v u _ I2 r1 r2 q2) fun d s3 ⟨z,H3,I3,r3,k,e,q3⟩=>?_)) hm
 subst e
 cases r3
 refine wpAny_truthy_bool ?_
 cases k with
 | false =>
  obtain⟨k',e',q'⟩:=q3
  cases e'
  exact ite_ff ⟨H3,I3,q'⟩
 | true =>
  refine ite_tt (test_last (thn (hc pins s3 σ H3 _ I3 q3) fun w' s4 ⟨z',H4,I4,r4,q4⟩=>thn (ho' pins s4 σ H4 y z' u w' _ I4 r2 r4 q4) fun d' s5 ⟨z2,H5,I5,r5,k2,e2,q5⟩=>?_))
  subst e2
  cases r5
  exact wpAny_truthy_bool ⟨H5,I5,q5⟩
def ztS (K:W.Frag)(x:V)(H:Hp)(k:Bool):Prop :=
 match x with
 | .non=>k=false
 | .bl b=>k=b
 | .int i=>k=(i != 0)
 | .str y=>y.length<=sizeLine/\k=((y.length:Int) != 0)
 | .byt y=>y.size<=sizeLine/\k=((y.size:Int) != 0)
 | .ref p=>(∃ xs,SqL K H p xs/\k=!xs.isEmpty)∨(∃ xs,SqT K H p xs/\k=!xs.isEmpty)∨∃ kvs,H p=some (.dK kvs)/\k=!kvs.isEmpty
 | _=>False
theorem zks {κ:Type}{kvs:List (κ×V)}{vs:List (κ×Value)}(r:KV kvs vs):(!vs.isEmpty)=!kvs.isEmpty:=by
 cases r<;>rfl
theorem zgx {xs:List V}{its:List Value}(r:zbG xs its):(!its.toArray.isEmpty)=!xs.isEmpty:=by
 cases r<;>simp
theorem zif:(sizeLine:Nat) < 2 ^ 63:=by rw[sizeLine_eq];decide
theorem zsT:ztT X (fun x H Q=>∃ k,ztS X.K x H k/\Q k H):=by
 intro pins s σ H x v Q I rx h
 obtain⟨k,e,q⟩:=h
 have hl:=zif
 have hs:sizeLine=16777216:=sizeLine_eq
 cases x with
 | non =>
  cases rx
  have e':k=false:=e
  subst e'
  exact truthy_none ⟨H,I,q⟩
 | bl b =>
  cases rx
  have e':k=b:=e
  subst e'
  exact wpAny_truthy_bool ⟨H,I,q⟩
 | int i =>
  obtain⟨t,rfl⟩:=rx
  have e':k=(i != 0):=e
  subst e'
  exact PySem.P.truthy_int ⟨H,I,q⟩
 | str y =>
  obtain⟨t,rfl⟩:=rx
  obtain⟨hy,e'⟩:y.length<=sizeLine/\k=((y.length:Int) != 0):=e
  subst e'
  exact PySem.P.truthy_str (by omega) ⟨H,I.tok _,q⟩
 | byt y =>
  obtain⟨t,rfl⟩:=rx
  obtain⟨hy,e'⟩:y.size<=sizeLine/\k=((y.size:Int) != 0):=e
  subst e'
  exact W.truthy_bytes (by omega) ⟨H,I.tok _,q⟩
 | ref p =>
  cases rx
  have e':(∃ xs,SqL X.K H p xs/\k=!xs.isEmpty)∨(∃ xs,SqT X.K H p xs/\k=!xs.isEmpty)∨∃ kvs,H p=some (.dK kvs)/\k=!kvs.isEmpty:=e
  rcases e' with⟨xs,hx,e'⟩ | ⟨xs,hx,e'⟩ | ⟨kvs,hx,e'⟩
  ·subst e'
   obtain⟨its,r,pl,hz⟩:=I.list hx
   have hlen:=r.length
   exact wpAny_truthy_list pl.isList (by simp only[List.size_toArray];omega) ⟨H,I.tok _,by rw[zgx r];exact q⟩
  ·subst e'
   obtain⟨its,r,pl,hz⟩:=I.tuple hx
   have hlen:=r.length
   exact truthy_tuple pl (by simp only[List.size_toArray];omega) ⟨H,I.tok _,by rw[zgx r];exact q⟩
  ·subst e'
   obtain⟨hz,hS,vs,r,m⟩:kvs.length<=sizeLine/\(p==sysModules)=false/\∃ vs,KV kvs vs/\s.heap.DictOf (zi2 X.prog X.w) p vs:=I.hok p _ hx
   have hlen:kvs.length=vs.length:=Paired.length r
   exact wpAny_truthy_dict hS m (by omega) ⟨H,I.tok _,by rw[zks r];exact q⟩
 | _=>exact(show False from e).elim
theorem zkk:OpR X (binaryOp .Add) (fun x y H Q=>∃ i j,x=.str i/\y=.str j/\i.length+j.length<=sizeLine/\Q (.str (i++j)) H):=by
 intro pins s σ H x y v u Q I rx ry h
 obtain⟨i,j,rfl,rfl,hz,q⟩:=h
 obtain⟨t,rfl⟩:=rx
 obtain⟨t',rfl⟩:=ry
 exact add_str (fun t' tk=>⟨.str (i++j),H,I.tok _,⟨_,rfl⟩,q⟩) hz
theorem zka {x:V}{us:List Value}(r:zbG [x] us):∃ u,us=[u]/\zbB x u:=by
 cases r with
 | cons r1 r2=>cases r2;exact⟨_,rfl,r1⟩
theorem zrO {x y:V}{us:List Value}(r:zbG [x,y] us):∃ u w',us=[u,w']/\zbB x u/\zbB y w':=by
 cases r with
 | cons r1 r2 =>
  cases r2 with
  | cons r3 r4=>cases r4;exact⟨_,_,rfl,r1,r3⟩
theorem zhs:zfs X (.builtin "abs") (fun xs H Q=>∃ i,xs=[.int i]/\Q (.int (if i < 0 then -i else i)) H):=by
 intro pins s σ H xs us Q I r h
 obtain⟨i,rfl,q⟩:=h
 obtain⟨u,rfl,t,rfl⟩:=zka r
 exact call_abs_int fun u tk=>⟨.int (if i < 0 then -i else i),H,I.tok _,⟨_,rfl⟩,q⟩
theorem zmn (hc:X.calm=true):zfs X (.builtin "max") (fun xs H Q=>∃ i j,xs=[.int i,.int j]/\Q (.int (if j > i then j else i)) H):=by
 intro pins s σ H xs us Q I r h
 obtain⟨i,j,rfl,q⟩:=h
 obtain⟨u,w',rfl,⟨t,rfl⟩,⟨t',rfl⟩⟩:=zrO r
 refine max_two_ints (I.ok.hd hc) fun h' tk k=>⟨_,H,I.kept k,?_,q⟩
 by_cases hj:j > i
 ·rw[if_pos hj,if_pos hj];exact⟨_,rfl⟩
 ·rw[if_neg hj,if_neg hj];exact⟨_,rfl⟩
theorem zmo:zfs X (.type "int") (fun xs H Q=>(∃ i,xs=[.int i]/\Q (.int i) H)∨∃ k,xs=[.bl k]/\Q (.int (if k then 1 else 0)) H):=by
 intro pins s σ H xs us Q I r h
 rcases h with⟨i,rfl,q⟩ | ⟨k,rfl,q⟩
 ·obtain⟨u,rfl,t,rfl⟩:=zka r
  exact call_int_int ⟨.int i,H,I,⟨_,rfl⟩,q⟩
 ·obtain⟨u,rfl,r1⟩:=zka r
  cases r1
  exact call_int_bool ⟨.int (if k then 1 else 0),H,I.tok _,⟨_,rfl⟩,q⟩
theorem zbO:zfs X (.type "str") (fun xs H Q=>∃ i,xs=[.int i]/\i.natAbs.log2 < 1920/\Q (.str (toString i)) H):=by
 intro pins s σ H xs us Q I r h
 obtain⟨i,rfl,hz,q⟩:=h
 obtain⟨u,rfl,t,rfl⟩:=zka r
 exact PySem.P.str_of_int hz ⟨.str _,H,I.tok _,⟨_,rfl⟩,q⟩
def ztg (K:W.Frag)(x:V)(H:Hp)(n:Nat):Prop :=
 match x with
 | .str y=>y.length<=sizeLine/\n=y.length
 | .byt y=>y.size<=sizeLine/\n=y.size
 | .ref p=>(∃ xs,SqL K H p xs/\n=xs.length)∨∃ xs,SqT K H p xs/\n=xs.length
 | _=>False
theorem zdb:zfs X (.builtin "len") (fun xs H Q=>∃ x n,xs=[x]/\ztg X.K x H n/\Q (.int n) H):=by
 intro pins s σ H xs us Q I r h
 obtain⟨x,n,rfl,e,q⟩:=h
 obtain⟨u,rfl,rx⟩:=zka r
 have hl:=zif
 have hs:sizeLine=16777216:=sizeLine_eq
 cases x with
 | str y =>
  obtain⟨t,rfl⟩:=rx
  obtain⟨hy,e'⟩:y.length<=sizeLine/\n=y.length:=e
  subst e'
  exact len_str (by omega) ⟨.int _,H,I.tok _,⟨_,rfl⟩,q⟩
 | byt y =>
  obtain⟨t,rfl⟩:=rx
  obtain⟨hy,e'⟩:y.size<=sizeLine/\n=y.size:=e
  subst e'
  exact W.len_bytes (by omega) ⟨.int _,H,I.tok _,⟨_,rfl⟩,q⟩
 | ref p =>
  cases rx
  have e':(∃ xs,SqL X.K H p xs/\n=xs.length)∨∃ xs,SqT X.K H p xs/\n=xs.length:=e
  rcases e' with⟨xs,hx,e'⟩ | ⟨xs,hx,e'⟩
  ·subst e'
   obtain⟨its,r',pl,hz⟩:=I.list hx
   have hlen:=r'.length
   exact Calls.call_len_list pl.isList (by simp only[List.size_toArray];omega) ⟨.int xs.length,H,I.tok _,⟨_,by simp only[List.size_toArray];rw[hlen]⟩,q⟩
  ·subst e'
   obtain⟨its,r',pl,hz⟩:=I.tuple hx
   have hlen:=r'.length
   exact len_tuple pl (by simp only[List.size_toArray];omega) ⟨.int xs.length,H,I.tok _,⟨_,by simp only[List.size_toArray];rw[hlen]⟩,q⟩
 | _=>exact(show False from e).elim
end
structure zsQ (h:Heap) (x dx C:Addr) (mA:Str->Option Value):Prop where
 obj:h.get? x=some (W.instObj C dx)
 ns:h.Ns1 dx mA
 ne:dx≠x
theorem zie {h:Heap}{dx:Addr}{mA:Str->Option Value}(n:h.Ns1 dx mA):∃ od,h.get? dx=some od/\∀ name,W.lookIn name od=some (mA name):=by
 obtain⟨o,es,ep,ho,hd,hk,_,hm⟩:=n
 refine⟨o,ho,fun name=>?_⟩
 have e:=hm name
 unfold nsFind findBy at e
 rw[← Array.find?_toList] at e
 unfold W.lookIn
 rw[hd]
 dsimp only
 split
 ·rename_i y q
  rw[q] at e
  exact congrArg some e
 ·rename_i q
  rw[q] at e
  have a:es.toList.any (·.refKey)=false:=by
   rw[List.any_eq_false]
   intro y hy
   obtain⟨z,t,hkey⟩:=hk y (Array.mem_toList_iff.mp hy)
   simp [DictEntry.refKey,hkey]
  have a':¬ es.toList.any (·.refKey)=true:=by rw[a];exact Bool.false_ne_true
  rw[if_neg a']
  exact congrArg some e
theorem zsQ.look {h:Heap}{x dx C:Addr}{mA:Str->Option Value}(I:zsQ h x dx C mA):∃ od,W.InstAt h x (W.instObj C dx) C (some od)/\∀ name,W.lookIn name od=some (mA name) :=
 let ⟨od,ho,hl⟩:=zie I.ns
 ⟨od,⟨I.obj,rfl,rfl,ho⟩,hl⟩
section
variable {prog:Program}{w:World}{A:Around}{E:Value->Shared->Prop}{s:Shared}{K:W.Frag}{x dx C f:Addr}{mA:Str->Option Value}{name:Str}{v:Value}
end
def zkg (f:Str)(v:V):List (Str×V)->List (Str×V)
 | []=>[(f,v)]
 | (g,x)::r=>if g=f then(g,v)::r else(g,x)::zkg f v r
theorem zfM (f g:Str)(v:V):∀ fs:List (Str×V),(zkg f v fs).lookup g=if g=f then some v else fs.lookup g
 | []=>by
  show List.lookup g [(f,v)]=_
  by_cases h:g=f
  ·have hb:(g==f)=true:=beq_iff_eq.mpr h
   simp only[List.lookup,hb,if_pos h]
  ·have hb:(g==f)=false:=beq_eq_false_iff_ne.mpr h
   simp only[List.lookup,hb,if_neg h]
 | (k,x)::r=>by
  have ih:=zfM f g v r
  rw[show zkg f v ((k,x)::r)=(if k=f then(k,v)::r else(k,x)::zkg f v r) from rfl]
  by_cases hk:k=f
  ·rw[if_pos hk]
   by_cases h:g=k
   ·have hb:(g==k)=true:=beq_iff_eq.mpr h
    simp only[List.lookup,hb,if_pos (h.trans hk)]
   ·have hb:(g==k)=false:=beq_eq_false_iff_ne.mpr h
    simp only[List.lookup,hb,if_neg (fun e:g=f=>h (e.trans hk.symm))]
  ·rw[if_neg hk]
   by_cases h:g=k
   ·have hb:(g==k)=true:=beq_iff_eq.mpr h
    simp only[List.lookup,hb,if_neg (fun e:g=f=>hk (h.symm.trans e))]
   ·have hb:(g==k)=false:=beq_eq_false_iff_ne.mpr h
    simp only[List.lookup,hb]
    exact ih
theorem zfQ (f:Str)(v:V):∀ fs:List (Str×V),f∈(zkg f v fs).map (·.1)/\∀ g,g∈fs.map (·.1)->g∈(zkg f v fs).map (·.1)
 | []=>⟨by simp [zkg],fun g h=>by simp at h⟩
 | (k,x)::r=>by
  obtain⟨i1,i2⟩:=zfQ f v r
  rw[show zkg f v ((k,x)::r)=(if k=f then(k,v)::r else(k,x)::zkg f v r) from rfl]
  by_cases hk:k=f
  ·rw[if_pos hk]
   subst hk
   exact⟨by simp,fun g h=>by simpa using h⟩
  ·rw[if_neg hk]
   refine⟨?_,fun g h=>?_⟩
   ·rw[List.map_cons]
    exact List.mem_cons_of_mem _ i1
   ·rw[List.map_cons] at h ⊢
    rcases List.mem_cons.mp h with e | e
    ·exact List.mem_cons.mpr (.inl e)
    ·exact List.mem_cons_of_mem _ (i2 g e)
theorem zok.some_of {v:V}{o:Option Value}(r:zok (some v) o):∃ u,o=some u/\zbB v u:=by
 cases o with
 | none=>exact(show False from r).elim
 | some u=>exact⟨u,rfl,r⟩
theorem zlK {v:V}{u:Value}(r:zbB v u):W.handedIn u=true:=by
 cases v with
 | non=>cases (show u=Value.none from r);rfl
 | bl b=>cases (show u=Value.bool b from r);rfl
 | int i=>obtain⟨t,e⟩:=(show ∃ t,u=Value.int i t from r);cases e;rfl
 | str x=>obtain⟨t,e⟩:=(show ∃ t,u=Value.str x t from r);cases e;rfl
 | byt b=>obtain⟨t,e⟩:=(show ∃ t,u=Value.bytes b t from r);cases e;rfl
 | flt b=>obtain⟨t,e⟩:=(show ∃ t,u=Value.float b t from r);cases e;rfl
 | ref a=>cases (show u=Value.ref a from r);rfl
 | ty n=>cases (show u=Value.type n from r);rfl
section
variable {P:Program}{w:World}{H H':Hp}{h h':Heap}{a C dx:Addr}{fs fs':List (Str×V)}
theorem zlH (hok:HOk P w H h)(e:H a=some (.ins C dx fs)):∃ mA,zsQ h a dx C mA/\(∀ f,zok (fs.lookup f) (mA f))/\PySem.Within mA (fs.map (·.1))/\fs.length<=1000/\H dx=some (.own a):=by
 obtain⟨d,z,ne,ob,mA,n,r,q⟩:=(show zbU P w H h a (.ins C dx fs) from hok a _ e)
 exact⟨mA,⟨ob,n,ne⟩,r,q,z,d⟩
end
structure Cls (K:W.Frag) (C:Addr):Prop where
 pg:W.plainGet K C Str.empty=true
 hd:W.hasDictIn K C=true
 po:W.plainOver K C=true
 sa:W.findIn K (.ref C) "__setattr__"=some (some (.builtin "object.__setattr__"))
theorem Cls.get {K:W.Frag}{C:Addr}(c:Cls K C)(f:Str):W.plainGet K C f=true:=c.pg
def zeN (K:W.Frag)(C:Addr)(f:Str):Prop:=W.findIn K (.ref C) f=some none
section
variable {X:Cx}{pins:List (Addr×Obj)}{σ:St}{H:Hp}{s:Shared}{a C dx:Addr}{fs:List (Str×V)}{f:Str}{v:V}{A:Around}{E:Value->Shared->Prop}
theorem zpy {prog:Program}{w:World}{env:Env}{e:Expr}{f:Str}{pos:Pos}{s:Shared}{Q:Value->Shared->Prop}(hb:attributeBase e f env (eval e env)=eval e env)
  (h:wpAny (model prog w) A (eval e env) (fun o s₁=>wpAny (model prog w) A (getAttr o f true) Q E s₁) E s):wpAny (model prog w) A (eval (.Attribute e f pos) env) Q E s :=
 Attribute_any_ h (by rw[arm_eval_Attribute,hb])
end
section
variable {X:Cx}{o e value:Expr}{f:Str}{pos pos' tpos:Pos}{ta tv:TE}
end
section
variable {X:Cx}{pins:List (Addr×Obj)}{σ:St}{H:Hp}{s:Shared}{A:Around}{E:Value->Shared->Prop}{Q:Value->Shared->Prop}{c:Value}{b:Bool}
inductive zkM (K:W.Frag) (H:Hp):V->Value->Prop where
 | non:zkM K H .non (.type "NoneType")
 | bl (x:Bool):zkM K H (.bl x) (.type "bool")
 | int (i:Int):zkM K H (.int i) (.type "int")
 | str (x:Str):zkM K H (.str x) (.type "str")
 | flt (x:UInt64):zkM K H (.flt x) (.type "float")
 | lst {a:Addr}{xs:List V}(e:H a=some (.lst xs)):zkM K H (.ref a) (.type "list")
 | frz {a:Addr}{o:Obj}{xs:List V}(e:H a=some (.frz o (.lst xs))):zkM K H (.ref a) (.type "list")
 | tup {a:Addr}{xs:List V}(e:H a=some (.tup xs)):zkM K H (.ref a) (.type "tuple")
 | dK {a:Addr}{kvs:List (Key×V)}(e:H a=some (.dK kvs)):zkM K H (.ref a) (.type "dict")
 | dT {a:Addr}{kvs:List (List Key×V)}(e:H a=some (.dT kvs)):zkM K H (.ref a) (.type "dict")
 | ins {a C dx:Addr}{fs:List (Str×V)}(e:H a=some (.ins C dx fs)) (cl:Cls K C) (ha:W.findIn K (.ref C) "__class__"=some (some (.builtin "object.__class__")))
   (hn:W.specialIn K (.builtin "object.__class__") "__get__"=some (some (.builtin "getset_descriptor.__get__"))) (htk:W.takesIn K (.builtin "object.__class__")=some true)
   (hm:W.mroIn K C (.type "object")=some true):zkM K H (.ref a) (.ref C)
theorem zex {x:V}{u t:Value}(I:Inv X pins σ H s)(rx:zbB x u)(ty:zkM X.K H x t)(e:W.kitOne X.K t c=some b)(h:∀ tk,Q (.bool b) { s with toks:=tk }) :
  wpAny (model X.prog X.w) A (call (.builtin "isinstance") [u,c]) Q E s:=by
 cases ty with
 | non=>cases (show u=Value.none from rx);exact W.kia_one W.kitx_none I.kIn True.intro e (fun z=>nomatch z) h
 | bl y=>cases (show u=Value.bool y from rx);exact W.kia_one W.kitx_bool I.kIn True.intro e (fun z=>nomatch z) h
 | int i=>obtain⟨t,q⟩:=(show ∃ t,u=Value.int i t from rx);cases q;exact W.kia_one W.kitx_int I.kIn True.intro e (fun z=>nomatch z) h
 | str y=>obtain⟨t,q⟩:=(show ∃ t,u=Value.str y t from rx);cases q;exact W.kia_one W.kitx_str I.kIn True.intro e (fun z=>nomatch z) h
 | flt y=>obtain⟨t,q⟩:=(show ∃ t,u=Value.float y t from rx);cases q;exact W.kia_one W.kitx_float I.kIn True.intro e (fun z=>nomatch z) h
 | @lst a xs ea =>
  cases (show u=Value.ref a from rx)
  obtain⟨_,_,n,_,h1⟩:=(show zbU X.prog X.w H s.heap a (.lst xs) from I.hok a _ ea)
  exact W.kia_one W.kitx_list I.kIn ⟨_,h1,rfl⟩ e (fun z=>nomatch z) h
 | @frz a ob xs ea =>
  cases (show u=Value.ref a from rx)
  obtain⟨_,_,_,n,_,h1⟩:=(show zbU X.prog X.w H s.heap a (.frz ob (.lst xs)) from I.hok a _ ea)
  exact W.kia_one W.kitx_list I.kIn ⟨_,h1,rfl⟩ e (fun z=>nomatch z) h
 | @tup a xs ea =>
  cases (show u=Value.ref a from rx)
  obtain⟨_,_,_,p⟩:=(show zbU X.prog X.w H s.heap a (.tup xs) from I.hok a _ ea)
  obtain⟨o,h1,h2,_⟩:=p
  exact W.kia_one W.kitx_tuple I.kIn ⟨o,h1,h2⟩ e (fun z=>nomatch z) h
 | @dK a kvs ea =>
  cases (show u=Value.ref a from rx)
  obtain⟨_,_,vs,_,p⟩:=(show zbU X.prog X.w H s.heap a (.dK kvs) from I.hok a _ ea)
  obtain⟨o,es,ep,h1,h2,_⟩:=p
  exact W.kia_one W.kitx_dict I.kIn ⟨o,h1,h2.1⟩ e (fun z=>nomatch z) h
 | @dT a kvs ea =>
  cases (show u=Value.ref a from rx)
  obtain⟨_,_,xs,_,o,es,ep,h1,h2,_⟩:=(show zbU X.prog X.w H s.heap a (.dT kvs) from I.hok a _ ea)
  exact W.kia_one W.kitx_dict I.kIn ⟨o,h1,h2.1⟩ e (fun z=>nomatch z) h
 | @ins a C dx fs ea cl ha hn htk hm =>
  cases (show u=Value.ref a from rx)
  obtain⟨mA,O,_⟩:=zlH I.hok ea
  obtain⟨od,J,_⟩:=O.look
  exact W.kia_one (W.kitx_own (cl.get _) cl.hd ha hn htk hm) I.kIn J e (fun z=>nomatch z) h
end
structure zel (k:Nat) (A:Around):Prop where
 hd:A.handled=none
 dp:A.depth+3*k+5 < recursionLimit
 un:A.units+16*k+200 < cLine
theorem zel.mono {j k:Nat}{A:Around}(r:zel k A)(h:j<=k):zel j A:=⟨r.hd,by have:=r.dp;omega,by have:=r.un;omega⟩
theorem zel.deeper {k:Nat}{A:Around}(r:zel (k+1) A)(env:Env):zel k (A.deeper env) :=
 ⟨r.hd,by have:=r.dp;show A.depth+1+3*k+5 < _;omega,by have:=r.un;show A.units+3+16*k+200 < _;omega⟩
theorem zko {A:Around}{C:Addr}{us:List Value}{kw:List (Str×Value)}:(A.under (.builtin "type.__call__" ⟨.ref C::us,kw⟩)).depth=A.depth+1:=by
 first | rfl | simp [Around.under,Code.weight,Code.isCreation,Code.isGuard,Code.isCaller,Code.frames,Code.isFrame,guardIds]
theorem zkn {A:Around}{C:Addr}{us:List Value}{kw:List (Str×Value)}:(A.under (.builtin "type.__call__" ⟨.ref C::us,kw⟩)).units=A.units+1:=by
 first | rfl | simp [Around.under,Code.cUnits,Code.frames,Code.isFrame]
theorem zel.make {k:Nat}{A:Around}(r:zel (k+1) A)(C:Addr)(us:List Value)(kw:List (Str×Value)):zel k (A.under (.builtin "type.__call__" ⟨.ref C::us,kw⟩)) :=
 ⟨r.hd,by have:=r.dp;rw[zko];omega,by have:=r.un;rw[zkn];omega⟩
theorem zel.depth {k:Nat}{A:Around}(r:zel k A):A.depth < recursionLimit:=by have:=r.dp;omega
theorem zel.units {k:Nat}{A:Around}(r:zel k A):A.units+64 < cLine:=by have:=r.un;omega
def ztq:TA:=fun _ H Q=>Q [] H
def zrW (ta:TE)(tr:TA):TA:=fun σ H Q=>ta σ H fun x H1=>tr σ H1 fun xs H2=>Q (x::xs) H2
section
variable {X:Cx}{e:Expr}{es:List Expr}{te:TE}{t:TA}{pos:Pos}
theorem zfJ:PA X [] ztq:=fun _ _ _ _ H Q I h=>Calls.spliced_nil ⟨[],H,I,.nil,h⟩
theorem zc0 (ha:PE X e te)(hr:PA X es t)(hs:starEach (e::es) X.env=(false,eval e X.env)::starEach es X.env:=by rfl):PA X (e::es) (zrW te t):=by
 intro pos pins s σ H Q I h
 rw[hs]
 show wpAny _ _ (spliced ((false,eval e X.env)::backTo pos (starEach es X.env))) _ _ s
 refine Calls.spliced_cons (thn (ha pins s σ H _ I h) fun u s1 ⟨x,H1,I1,r1,q1⟩=>?_)
 exact thn (hr pos pins s1 σ H1 _ I1 q1) fun us s2 ⟨xs,H2,I2,r2,q2⟩=>⟨x::xs,H2,I2,.cons r1 r2,q2⟩
def ztl (t:TA):TE:=fun σ H Q=>t σ H fun xs H1=>xs.length<=sizeLine/\∀ p,H1 p=none->Q (.ref p) (upd H1 p (.tup xs))
def ztr (t:TA):TE:=fun σ H Q=>t σ H fun xs H1=>xs.length<=sizeLine/\∀ p,H1 p=none->Q (.ref p) (upd H1 p (.lst xs))
theorem zqr {x1}(h:PA X es t):PE X (.Tuple es x1 pos) (ztl t):=by
 intro pins s σ H Q I hq
 refine wpAny_Tuple_spliced (thn (h pos pins s σ H _ I hq) fun us s1 ⟨xs,H1,I1,r,z,q⟩=>⟨by rw[← r.length];exact z,?_⟩)
 have hf:H1 s1.heap.objs.size=none:=I1.hok.fresh (Nat.le_refl _)
 refine⟨.ref s1.heap.objs.size,upd H1 s1.heap.objs.size (.tup xs),I1.laid (t':=s1.toks) (fun b u e=>Heap.get?_push_of_some _ e) (Nat.le_refl _) ?_,rfl,q _ hf⟩
 exact⟨z,us,r,⟨_,Heap.get?_push_size _ rfl,rfl,_,rfl⟩⟩
theorem znY (h:PA X es t):PE X (.List es pos) (ztr t):=by
 intro pins s σ H Q I hq
 refine wpAny_List_spliced (thn (h pos pins s σ H _ I hq) fun us s1 ⟨xs,H1,I1,r,z,q⟩=>⟨by rw[← r.length];exact z,?_⟩)
 have hf:H1 s1.heap.objs.size=none:=I1.hok.fresh (Nat.le_refl _)
 refine⟨.ref s1.heap.objs.size,upd H1 s1.heap.objs.size (.lst xs),I1.laid (t':=s1.toks) (fun b u e=>Heap.get?_push_of_some _ e) (Nat.le_refl _) ?_,rfl,q _ hf⟩
 exact⟨z,us,0,r,Heap.get?_push_size _ rfl⟩
end
abbrev Sp:=List V->Hp->VK->XK->Prop
abbrev CXT:=List Env->Hp->Shared->XK->Value->Shared->Prop
structure zmC (P:Program) (w:World) (K:W.Frag) (mg:Str->Option Value) (base:Heap) (A:Around) (outer:List Env) (s:Shared) (H:Hp):Prop where
 frames:A.frames=some outer
 mod:Mod K mg base
 bs:∀ b o,base.get? b=some o->s.heap.get? b=some o/\H b=none
 bsz:base.objs.size<=s.heap.objs.size
 funs:s.heap.FunFrames base outer
 frf:∀ b∈frs outer,H b=none
 hok:HOk P w H s.heap
 bare:AllBare s.gens
def CE (outer:List Env)(P:Program)(w:World)(H:Hp)(s:Shared)(Q:VK)(u:Value)(s':Shared):Prop :=
 ∃ v H',s'.os=s.os/\AllBare s'.gens/\Un (frs outer) [] H H' s.heap s'.heap/\HOk P w H' s'.heap/\zbB v u/\Q v H'
def CR (CX:CXT)(outer:List Env)(P:Program)(w:World)(H:Hp)(s:Shared)(Q:VK)(E:XK)(r:Result)(s':Shared):Prop :=
 match r with
 | .ok (.ret u)=>CE outer P w H s Q u s'
 | .ok _=>False
 | .error e=>CX outer H s E e s'
structure FnOk (P:Program) (w:World) (K:W.Frag) (mg:Str->Option Value) (base:Heap) (CX:CXT) (k:Nat) (f:Addr) (fd:FuncData) (ps:List Str) (sp:Sp):Prop where
 len:∀ vs H Q E,sp vs H Q E->vs.length=ps.length
 run:∀ (A:Around) (outer:List Env) (s:Shared) (H:Hp) (args:Args) (us:List Value) (vs:List V) (Q:VK) (E:XK),zel k A->zmC P w K mg base A outer s H->BindsTo s fd args (ps.zip us)->zbG vs us->sp vs H Q E ->
  codeAny (model P w) A (.call (.ref f) args) (CR CX outer P w H s Q E) s
theorem FnOk.mono {P:Program}{w:World}{K:W.Frag}{mg:Str->Option Value}{base:Heap}{CX:CXT}{j k:Nat}{f:Addr}{fd:FuncData}{ps:List Str}{sp:Sp}(F:FnOk P w K mg base CX j f fd ps sp)(h:j<=k) :
  FnOk P w K mg base CX k f fd ps sp:=⟨F.len,fun A outer s H args us vs Q E hr=>F.run A outer s H args us vs Q E (hr.mono h)⟩
theorem zmC.make {P:Program}{w:World}{K:W.Frag}{mg:Str->Option Value}{base:Heap}{A:Around}{outer:List Env}{s:Shared}{H:Hp}(e:zmC P w K mg base A outer s H)(C:Addr)(us:List Value)(kw:List (Str×Value)) :
  zmC P w K mg base (A.under (.builtin "type.__call__" ⟨.ref C::us,kw⟩)) outer s H:=⟨by first | exact e.frames | (simpa [Around.under,Code.envs,Code.isFrame,pushEnvs] using e.frames),e.mod,e.bs,e.bsz,e.funs,e.frf,e.hok,e.bare⟩
section
variable {X:Cx}{pins:List (Addr×Obj)}{σ:St}{H:Hp}{s s':Shared}
theorem Inv.env0 (I:Inv X pins σ H s):zmC X.prog X.w X.K X.mg X.base X.A X.stack s H :=
 ⟨I.ok.frames,I.ok.mod,I.bs,Nat.le_trans I.ok.bsz I.sz,I.stack,I.stkFree,I.hok,I.bare⟩
theorem Inv.after {Q:VK}{u:Value}(I:Inv X pins σ H s)(h:CE X.stack X.prog X.w H s Q u s'):EP X pins σ Q u s':=by
 obtain⟨v,H',os,bare,un,hok,r,q⟩:=h
 obtain⟨hh,g,d,t,os'⟩:=s'
 obtain rfl:os'=s.os:=os
 exact⟨v,H',I.call (h':=hh) (g':=g) (d':=d) (t':=t) (ch:=[]) un hok bare (fun b z=>absurd z (by simp)),r,q⟩
end
def zrX (sp:Sp)(dvs:List V)(E:XK)(t:TA):TE:=fun σ H Q=>t σ H fun vs H1=>sp (vs++dvs) H1 Q E
def zbE (K:W.Frag)(fd:FuncData)(ps:List Str)(ds:List Value):Prop :=
 ∀ (s:Shared) (us:List Value),K.In s.heap->(us++ds).length=ps.length->BindsTo s fd ⟨us,[]⟩ (ps.zip (us++ds))
theorem zbE.all {K:W.Frag}{fd:FuncData}{ps:List Str}(h:∀ us:List Value,us.length=ps.length->bindArgs fd ⟨us,[]⟩=pure (ps.zip us)):zbE K fd ps []:=fun s us _ hl=>by
 rw[List.append_nil] at hl ⊢
 exact .of_eq (h us hl)
def zgM (CX:CXT)(X:Cx)(E:XK):Prop:=∀ (pins:List (Addr×Obj)) (σ:St) (H:Hp) (s:Shared) (e:Value) (s':Shared),Inv X pins σ H s->CX X.stack H s E e s'->X.xe e s'
section
variable {X:Cx}{CX:CXT}{k:Nat}{f C:Addr}{fd:FuncData}{ps:List Str}{sp:Sp}{dvs:List V}{ds:List Value}{E:XK}{x m:Str}{p pos apos:Pos}{e o:Expr}{es:List Expr}{ta:TE}{t:TA}
theorem zqc {pins:List (Addr×Obj)}{σ:St}{H:Hp}{s:Shared}{Q:VK}{us:List Value}{vs:List V}(F:FnOk X.prog X.w X.K X.mg X.base CX k f fd ps sp)(hr:zel k X.A)(hb:zbE X.K fd ps ds)(hd:zbG dvs ds)(hx:zgM CX X E)
  (I:Inv X pins σ H s)(r:zbG vs us)(h:sp (vs++dvs) H Q E):wpAny (model X.prog X.w) X.A (call (.ref f) us) (EP X pins σ Q) X.xe s:=by
 have r2:zbG (vs++dvs) (us++ds):=r.append hd
 have hl:(us++ds).length=ps.length:=by rw[← r2.length];exact F.len _ _ _ _ h
 refine wpAny_call (codeAny_mono (F.run X.A X.stack s H ⟨us,[]⟩ (us++ds) (vs++dvs) Q E hr I.env0 (hb s us I.kIn hl) r2 h) fun r s' hq=>?_)
 cases r with
 | error e=>exact hx pins σ H s e s' I hq
 | ok fl =>
  cases fl with
  | ret u=>exact I.after hq
  | next=>exact False.elim hq
  | brk=>exact False.elim hq
  | cont=>exact False.elim hq
theorem zoO (F:FnOk X.prog X.w X.K X.mg X.base CX k f fd ps sp)(hr:zel k X.A)(hg:Gl X x)(hm:X.mg x=some (.ref f))(hk:W.keepIn X.K (.ref f)=true)(hb:zbE X.K fd ps ds)(hd:zbG dvs ds)(hx:zgM CX X E)
  (ha:PA X (e::es) t)(hdb:(x==("__debug__" : Str))=false:=by decide)(he:starEach (e::es) X.env=(false,eval e X.env)::starEach es X.env:=by rfl)(hpl:(backTo pos (starEach es X.env)).any (·.1)=false:=by rfl) :
  PE X (.Call (.Name x p) (e::es) [] pos) (zrX sp dvs E t):=by
 intro pins s σ H Q I h
 refine wpAny_Call_Name_kw (zdw I hg hm ?_ hdb)
 refine W.callWith_K (h₀:=X.base) I.ok.mod.kin hk (thn (ha pos pins s σ H _ I h) fun us s1 ⟨vs,H1,I1,r,q⟩=>⟨I1.kIn,?_⟩) he hpl
 exact zqc F hr hb hd hx I1 r q
end
section
variable {X:Cx}{CX:CXT}{k:Nat}{f C:Addr}{fd:FuncData}{ps ks:List Str}{sp:Sp}{E:XK}{x m:Str}{p pos apos kpos:Pos}{e o:Expr}{es:List Expr}{kws:List Keyword}{te ta:TE}{t tk:TA}{nm:Option Str}
variable {g:List Value->List Value->List Value}{gV:List V->List V->List V}
end
structure zaC (N P:List Str) (sc:Scope):Prop where
 kind:sc.kind=.function
 co:sc.isCoroutine=false
 gen:sc.isGenerator=false
 nd:N.Nodup
 pre:N.take P.length=P
 par:∀ x∈P,sc.names.lookup x=some .local ∨ sc.names.lookup x=some .cell
 nofree:∀ y∈sc.names,y.2≠.free
theorem ziE {kindOf:Str->Option NameKind}{x:Str}:∀ {binds:List (Str×Value)}{m:Str->Option Value},(∀ v,(x,v)∉binds)->bindL kindOf binds m x=m x
 | [],_,_=>rfl
 | (n,v)::r,m,h=>by
  unfold bindL
  rw[ziE fun w hw=>h w (List.mem_cons_of_mem _ hw)]
  split
  ·have:x≠n:=by rintro rfl;exact h v List.mem_cons_self
   simp [this]
  ·rfl
theorem ziG {kindOf:Str->Option NameKind}{x:Str}:∀ {binds:List (Str×Value)}{m:Str->Option Value},(∀ v,(x,v)∉binds)->bindC kindOf binds m x=m x
 | [],_,_=>rfl
 | (n,v)::r,m,h=>by
  unfold bindC
  rw[ziG fun w hw=>h w (List.mem_cons_of_mem _ hw)]
  split
  ·rfl
  ·have:x≠n:=by rintro rfl;exact h v List.mem_cons_self
   simp [this]
theorem ziF {kindOf:Str->Option NameKind}{x:Str}{v:Value}:∀ {P:List Str}{vs:List Value}{i:Nat}{m:Str->Option Value},P.Nodup->P[i]?=some x->vs[i]?=some v->kindOf x=some .local ->
  bindL kindOf (P.zip vs) m x=some v
 | [],_,_,_,_,h,_,_=>by simp at h
 | _::_,[],_,_,_,_,h,_=>by simp at h
 | p::P,w::vs,0,m,nd,h1,h2,hk=>by
  simp at h1 h2;subst h1;subst h2
  show bindL kindOf ((p,w)::P.zip vs) m p=_
  unfold bindL
  rw[ziE fun v hv=>(List.nodup_cons.mp nd).1 (List.of_mem_zip hv).1,if_pos hk]
  simp
 | p::P,w::vs,i+1,m,nd,h1,h2,hk=>by
  show bindL kindOf ((p,w)::P.zip vs) m x=_
  unfold bindL
  exact ziF (i:=i) (List.nodup_cons.mp nd).2 (by simpa using h1) (by simpa using h2) hk
theorem ziH {kindOf:Str->Option NameKind}{x:Str}{v:Value}:∀ {P:List Str}{vs:List Value}{i:Nat}{m:Str->Option Value},P.Nodup->P[i]?=some x->vs[i]?=some v->kindOf x≠some .local ->
  bindC kindOf (P.zip vs) m x=some v
 | [],_,_,_,_,h,_,_=>by simp at h
 | _::_,[],_,_,_,_,h,_=>by simp at h
 | p::P,w::vs,0,m,nd,h1,h2,hk=>by
  simp at h1 h2;subst h1;subst h2
  show bindC kindOf ((p,w)::P.zip vs) m p=_
  unfold bindC
  rw[ziG fun v hv=>(List.nodup_cons.mp nd).1 (List.of_mem_zip hv).1,if_neg hk]
  simp
 | p::P,w::vs,i+1,m,nd,h1,h2,hk=>by
  show bindC kindOf ((p,w)::P.zip vs) m x=_
  unfold bindC
  exact ziH (i:=i) (List.nodup_cons.mp nd).2 (by simpa using h1) (by simpa using h2) hk
def start (N:List Str)(vs:List V):St:=vs.map some++List.replicate (N.length-vs.length) none
def zdX (CX:CXT)(P:Program)(w:World)(K:W.Frag)(mg:Str->Option Value)(base:Heap)(N:List Str)(qual:Str)(scope:Scope)(f:Addr)(cd:Value)(A:Around)(outer:List Env)(s:Shared)(H:Hp)(E:XK):Cx where
 prog:=P
 w:=w
 K:=K
 mg:=mg
 base:=base
 A:=A.deeper (envOfC qual scope s.heap.objs.size f cd)
 N:=N
 s₀:=s
 H₀:=H
 env:=envOfC qual scope s.heap.objs.size f cd
 outer:=outer
 stack:=envOfC qual scope s.heap.objs.size f cd::outer
 ex:=[]
 calm:=true
 fn:=fun _=>true
 pn:=[]
 xe:=fun e s'=>wpAny (model P w) (A.deeper (envOfC qual scope s.heap.objs.size f cd)) (leaving (envOfC qual scope s.heap.objs.size f cd) e) (fun _ s''=>CX outer H s E e s'') (fun e' s''=>CX outer H s E e' s'') s'
theorem zjT {sc:Scope}{n:Nat}{x:Str}(h:sc.names.lookup x=some .cell):∃ c,(cellsFrom n sc.names []).lookup x=some c:=by
 have q:=W.cellsFrom_some sc.names n [] (.inl h)
 exact Option.isSome_iff_exists.mp q
theorem zij {CX:CXT}{P:Program}{w:World}{K:W.Frag}{mg:Str->Option Value}{base:Heap}{N ps:List Str}{qual:Str}{scope:Scope}{f:Addr}{cd:Value}{A:Around}{outer:List Env}{s s1:Shared}{H:Hp}{E:XK}{us:List Value}{vs:List V}
  (S:zaC N ps scope)(hd:A.handled=none)(e0:zmC P w K mg base A outer s H)(hl:vs.length=ps.length)(r:zbG vs us)
  (x:InCallC s s.heap.objs.size (bindL (envOfC qual scope s.heap.objs.size f cd).kindOf (ps.zip us) fun _=>none) (cellsFrom (s.heap.objs.size+1) scope.names []) (bindC (envOfC qual scope s.heap.objs.size f cd).kindOf (ps.zip us) fun _=>none) s1) :
  Inv (zdX CX P w K mg base N qual scope f cd A outer s H E) [] (start N vs) H s1:=by
 have hpl:ps.length<=N.length:=by have:=congrArg List.length S.pre;rw[List.length_take] at this;omega
 obtain⟨h1,tk,rfl,hk⟩:=x.done
 have noA:∀ b:Addr,b∉(zdX CX P w K mg base N qual scope f cd A outer s H E).ex:=fun b z=>absurd (show b∈([]:List Addr) from z) (by simp)
 refine⟨⟨e0.mod,S.kind,rfl,rfl,Nat.le_refl _,fun y z c h1 h2=>?_,fun y hy=>?_,fun y c _ h=>?_,fun _=>hd,Around.frames_deeper e0.frames,.inr ⟨rfl,rfl⟩,fun b z=>absurd z (noA b),e0.bs,e0.bsz,fun b _ _=>noA b,fun b z=>absurd z (noA b),e0.funs,e0.frf⟩,
  rfl,e0.bare,Un.kept hk,⟨_,x.toInCall.ns,fun i y v h1 h2 h3=>?_⟩,fun y c h=>⟨_,x.cell y c h⟩,e0.hok.fresh (Nat.le_refl _),fun y c h=>?_,fun p hp=>absurd (show p∈([]:List (Addr×Obj)) from hp) (by simp),e0.hok.kept hk,?_⟩
 ·exact name_of_addr x.apart (PySem.mem_of_lookup h1) (PySem.mem_of_lookup h2)
 ·have hy:scope.names.lookup y=some .cell∨scope.names.lookup y=some .free:=hy
  rcases hy with hy | hy
  ·exact zjT hy
  ·exact absurd rfl (S.nofree _ (PySem.mem_of_lookup hy))
 ·exact Nat.le_of_lt (x.above y c (PySem.mem_of_lookup h))
 ·have hi:i < vs.length:=by
   unfold start at h2
   by_cases hi:i < vs.length
   ·exact hi
   ·rw[List.getElem?_append_right (by simpa using hi)] at h2
    rw[List.getElem?_replicate] at h2
    split at h2<;>cases h2
  have ha:vs[i]?=some v:=by
   unfold start at h2
   rw[List.getElem?_append_left (by simpa using hi),List.getElem?_map] at h2
   cases e:vs[i]? with
   | none=>rw[e] at h2;cases h2
   | some a=>rw[e] at h2;cases h2;rfl
  obtain⟨u,hu,rv⟩:=r.get ha
  have hp:ps[i]?=some y:=by
   rw[← S.pre,List.getElem?_take_of_lt (by omega)];exact h1
  have ndP:ps.Nodup:=by rw[← S.pre];exact S.nd.sublist (List.take_sublist _ _)
  refine⟨u,rv,?_⟩
  rcases S.par y (List.mem_of_getElem? hp) with k | k
  ·exact .inl ⟨k,ziF ndP hp hu k⟩
  ·obtain⟨c,e⟩:=zjT (n:=s.heap.objs.size+1) k
   refine .inr ⟨.inl k,c,e,?_⟩
   have q:=x.cell y c e
   rw[ziH ndP hp hu (by show scope.names.lookup y≠_;rw[k];decide)] at q
   exact q
 ·exact e0.hok.fresh (Nat.le_of_lt (x.above y c (PySem.mem_of_lookup h)))
 ·unfold start
  show _=N.length
  rw[List.length_append,List.length_map,List.length_replicate]
  omega
theorem zq8 {CX:CXT}{P:Program}{w:World}{K:W.Frag}{mg:Str->Option Value}{base:Heap}{k:Nat}{f:Addr}{name qual:Str}{params:Arguments}{body:List Stmt}{scope:Scope}{dV kV doc pm cdv ct oc:Value}{an od:Option Addr}
  {osl:Array (Option Value)}{N ps:List Str}{sp:Sp}(lk:K.lookup f=some ⟨oc,od,.func (W.fnOf name qual params body scope dV kV doc pm an cdv ct),osl⟩) (hcd:W.codeIn K cdv qual=true) (S:zaC N ps scope)
  (len:∀ vs H Q E,sp vs H Q E->vs.length=ps.length)
  (hbody:∀ (A:Around) (outer:List Env) (s:Shared) (H:Hp) (vs:List V) (Q:VK) (E:XK),zel k (A.deeper (envOfC qual scope s.heap.objs.size f cdv))->sp vs H Q E ->
   ∃ t,PSs (zdX CX P w K mg base N qual scope f cdv A outer s H E) body t/\t { nx:=fun _ H'=>Q .non H',rt:=Q } (start N vs) H) :
  FnOk P w K mg base CX (k+1) f (W.fnOf name qual params body scope dV kV doc pm an cdv ct) ps sp:=by
 refine⟨len,fun A outer s H args us vs Q E hr e0 hb r hsp=>?_⟩
 have hl:=len _ _ _ _ hsp
 have KX:K.In s.heap:=e0.mod.kin.keeps fun b o e=>(e0.bs b o e).1
 have lim:s.heap.NoLimit:=e0.mod.nolimit.keeps fun b o e=>(e0.bs b o e).1
 have hkind:∀ y∈ps.zip us,scope.names.lookup y.1=some .local ∨ (scope.names.lookup y.1=some .cell/\((cellsFrom (s.heap.objs.size+1) scope.names []).lookup y.1).isSome=true):=fun⟨n,v⟩ hy=>by
  rcases S.par n (List.of_mem_zip hy).1 with q | q
  ·exact .inl q
  ·exact .inr ⟨q,W.cellsFrom_some _ _ _ (.inl q)⟩
 refine codeAny_call_function hr.depth (KX _ _ lk) rfl S.co S.gen rfl (W.codeRec_of KX hcd) (hb _ _ _ _ ?_)
 refine wpAny_newFunctionEnv_cells S.kind hkind fun env he s1 x=>?_
 subst he
 refine⟨lim.keeps x.toInCall.keep,codeAny_func ?_⟩
 obtain⟨t,ht,hq⟩:=hbody A outer s H vs Q E (hr.deeper _) hsp
 have I:Inv (zdX CX P w K mg base N qual scope f cdv A outer s H E) [] (start N vs) H s1:=zij S hr.hd e0 hl r x
 refine wpAny_mono (ht [] s1 (start N vs) H _ I hq) (fun fl s' hs=>?_) fun e s' hs=>hs
 have fin:∀ {σ':St}{H':Hp}{v:V}{u:Value},Inv (zdX CX P w K mg base N qual scope f cdv A outer s H E) [] σ' H' s'->zbB v u->Q v H'->CE outer P w H s Q u s' :=
  fun {σ' H' v u} J rv q=>⟨v,H',J.os,J.bare,J.base,J.hok,rv,q⟩
 cases fl with
 | ret u =>
  obtain⟨v,σ',H',J,rv,q⟩:=hs
  exact fin J rv q
 | next =>
  obtain⟨σ',H',J,q⟩:=hs
  exact fin (v:=V.non) (u:=Value.none) J rfl q
 | brk =>
  obtain⟨_,_,_,q⟩:=hs
  exact False.elim q
 | cont =>
  obtain⟨_,_,_,q⟩:=hs
  exact False.elim q
section
variable {X:Cx}{x:Str}{p pos:Pos}{e:Expr}{es:List Expr}{t:TA}{id T:String}{r:List V->Hp->VK->Prop}
def tCB (r:List V->Hp->VK->Prop)(t:TA):TE:=fun σ H Q=>t σ H fun vs H1=>r vs H1 Q
theorem zg1 (hc:zfs X (.builtin id) r)(hg:Gl X x)(hm:X.mg x=none)(hv:bootBuiltins x=some (.builtin id))(ha:PA X (e::es) t)(hn:x≠"__name__":=by decide)(hdb:(x==("__debug__" : Str))=false:=by decide)
  (he:starEach (e::es) X.env=(false,eval e X.env)::starEach es X.env:=by rfl)(hpl:(backTo pos (starEach es X.env)).any (·.1)=false:=by rfl):PE X (.Call (.Name x p) (e::es) [] pos) (tCB r t):=by
 intro pins s σ H Q I h
 refine wpAny_Call_Name_kw (zjA I hg hm hv ?_ hn hdb)
 exact PyProof.Rows.callWith_builtin1 (thn (ha pos pins s σ H _ I h) fun us s1 ⟨vs,H1,I1,r1,q1⟩=>hc pins s1 σ H1 vs us Q I1 r1 q1) he hpl
theorem zlo (hc:zfs X (.type T) r)(hg:Gl X x)(hm:X.mg x=none)(hv:bootBuiltins x=some (.type T))(ha:PA X (e::es) t)(hn:x≠"__name__":=by decide)(hdb:(x==("__debug__" : Str))=false:=by decide)
  (he:starEach (e::es) X.env=(false,eval e X.env)::starEach es X.env:=by rfl)(hpl:(backTo pos (starEach es X.env)).any (·.1)=false:=by rfl):PE X (.Call (.Name x p) (e::es) [] pos) (tCB r t):=by
 intro pins s σ H Q I h
 refine wpAny_Call_Name_kw (zjA I hg hm hv ?_ hn hdb)
 exact PyProof.Rows.callWith_type1 (thn (ha pos pins s σ H _ I h) fun us s1 ⟨vs,H1,I1,r1,q1⟩=>hc pins s1 σ H1 vs us Q I1 r1 q1) he hpl
end
end L2
namespace HT
open PySem PyProof.Rows
section
open PySem.SeqAt
open PySem.AutoSeq1 (wpAny_loadPart')
open PySem.MeetsSeq PySem.MeetsSeq2 PySem.MeetsSeq3
end
section
variable {prog:Program}{w:World}{A:Around}{E:Value->Shared->Prop}{s:Shared}
theorem cat_tup {t b:Addr}{vs ws:List Value}{Q:Value->Shared->Prop}(ht:IsTup s.heap t vs.toArray)(hb:IsTup s.heap b ws.toArray)(hv:vs≠[])
  (h1:ws=[]->Q (.ref t) s)(h2:ws≠[]->Q (.ref s.heap.objs.size) { s with heap:=s.heap.push { cls:=.type "tuple",data:=.seq (vs++ws).toArray } })
  (hsz:vs.length+ws.length<=sizeLine):wpAny (model prog w) A (binaryOp .Add (.ref t) (.ref b)) Q E s:=by
 obtain⟨⟨cls,dd,data,sl⟩,ho,hc,n,hd⟩:=id ht
 obtain⟨⟨cls2,dd2,data2,sl2⟩,ho2,hc2,n2,hd2⟩:=id hb
 simp only at hc hd hc2 hd2
 subst hc hd hc2 hd2
 have e:vs.toArray++ws.toArray=(vs++ws).toArray:=by simp
 by_cases hw:ws=[]
 ·exact concat_meets ⟨_,ho,rfl⟩ ⟨_,ho2,rfl⟩ noFill_tuple_add seq_tuple_add PySem.F.slot_tuple_add PySem.F.entry_tuple_add (PySem.F.args_tuple_add_2 _ _)
   (tuple_addW1 t b vs.toArray ws.toArray n n2 dd dd2 sl sl2 (by simpa using hv) (by simp [hw])) ⟨ho,ho2,h1 hw⟩
 ·refine concat_meets ⟨_,ho,rfl⟩ ⟨_,ho2,rfl⟩ noFill_tuple_add seq_tuple_add PySem.F.slot_tuple_add PySem.F.entry_tuple_add (PySem.F.args_tuple_add_2 _ _)
   (tuple_addW2 t b vs.toArray ws.toArray n n2 dd dd2 sl sl2 (by simpa using hv) (by simpa using hw) (by rw[List.size_toArray,List.size_toArray];exact hsz)) ⟨ho,ho2,?_⟩
  rw[e]
  exact h2 hw
def sIx (n d:Nat):Option Int->Nat
 | none=>d
 | some v=>if v < 0 then(v+(n:Int)).toNat else min v.toNat n
theorem sIx_none (n d:Nat):sIx n d none=d:=rfl
theorem sIx_nat (n d k:Nat):sIx n d (some (k:Int))=min k n:=by
 show(if(k:Int) < 0 then((k:Int)+(n:Int)).toNat else min (k:Int).toNat n)=min k n
 rw[if_neg (by omega),Int.toNat_natCast]
theorem zp9 (n d:Nat)(hd:d<=n)(o:Option Int):sIx n d o<=n:=by
 cases o with
 | none=>exact hd
 | some v =>
  show(if v < 0 then(v+(n:Int)).toNat else min v.toNat n)<=n
  by_cases hv:v < 0
  ·rw[if_pos hv];omega
  ·rw[if_neg hv];exact Nat.min_le_right _ _
theorem zml (v:Int)(n d:Nat):(if v < 0 then max (v+(n:Int)) 0 else min v (n:Int))=((sIx n d (some v):Nat):Int):=by
 show(if v < 0 then max (v+(n:Int)) 0 else min v (n:Int))=(((if v < 0 then(v+(n:Int)).toNat else min v.toNat n):Nat):Int)
 by_cases hv:v < 0
 ·simp only[if_pos hv];omega
 ·simp only[if_neg hv];omega
theorem zkI (lo hi:Option Int)(n:Nat):Builtin.Slice.sliceAdjust lo hi 1 (n:Int)=(((sIx n 0 lo:Nat):Int),((sIx n n hi:Nat):Int)):=by
 have h1:¬ ((1:Int) < 0):=by omega
 unfold Builtin.Slice.sliceAdjust
 simp only[h1,if_false]
 refine Prod.ext ?_ ?_
 ·cases lo with
  | none=>rfl
  | some v=>exact zml v n 0
 ·cases hi with
  | none=>rfl
  | some v=>exact zml v n n
theorem zkj (i j:Nat):Builtin.Slice.slicePlaces (i:Int) (j:Int) 1=j-i:=by
 unfold Builtin.Slice.slicePlaces
 have h1:(1:Int) > 0:=by omega
 simp only[h1,if_true,Int.ediv_one]
 split<;>omega
theorem zgm {v:Value}{o:Option Int}{Q:Option Int->Shared->Prop}(p:IsPart v o)(h:Q o s):wpAny (model prog w) A (Builtin.Slice.slicePartIndex v) Q E s:=by
 cases p with
 | none=>exact slicePart_none h
 | int i t=>exact slicePart_int h
theorem zfp {sl:Addr}{vl vu:Value}{lo hi:Option Int}{n:Nat}{Q:Int×Int×Nat->Shared->Prop}(hs:s.heap.IsSliceOf sl vl vu .none)(pl:IsPart vl lo)(pu:IsPart vu hi)
  (h:Q (((sIx n 0 lo:Nat):Int),1,sIx n n hi-sIx n 0 lo) s):wpAny (model prog w) A (Builtin.Slice.sliceApplied (.ref sl) (pure (n:Int))) Q E s:=by
 obtain⟨os,hos,hcs,hds⟩:=id hs
 unfold Builtin.Slice.sliceApplied Builtin.Slice.sliceFields
 refine wpAny_bind (wpAny_bind (wpAny_field hos hds (x:=vl) rfl (wpAny_bind (wpAny_field hos hds (x:=vu) rfl (wpAny_bind (wpAny_field hos hds (x:=.none) rfl (wpAny_pure ?_)))))))
 refine wpAny_bind (slicePart_none ?_)
 show wpAny _ _ (if((1:Int)==0)=true then _ else _) _ _ s
 rw[if_neg (by decide)]
 refine wpAny_bind (zgm pl (wpAny_bind (zgm pu (wpAny_bind (wpAny_pure ?_)))))
 show wpAny _ _ (match Builtin.Slice.sliceAdjust lo hi 1 (n:Int) with | (lo,hi)=>pure (lo,(1:Int),Builtin.Slice.slicePlaces lo hi 1)) _ _ s
 rw[zkI lo hi n]
 show wpAny _ _ (pure (((sIx n 0 lo:Nat):Int),(1:Int),Builtin.Slice.slicePlaces ((sIx n 0 lo:Nat):Int) ((sIx n n hi:Nat):Int) 1)) _ _ s
 rw[zkj]
 exact wpAny_pure h
theorem zm0 (xs:Array Value)(i k:Nat):((List.range k).filterMap fun(m:Nat)=>xs[((i:Int)+(m:Int)*1).toNat]?).toArray=((xs.toList.drop i).take k).toArray:=by
 have e:(fun(m:Nat)=>xs[((i:Int)+(m:Int)*1).toNat]?)=fun m=>xs[i+m]?:=by
  funext m
  have:((i:Int)+(m:Int)*1).toNat=i+m:=by omega
  rw[this]
 rw[e]
 have:=pick_run xs i k
 rw[List.filterMap_map] at this
 have e2:((fun x=>xs[x]?)∘fun x=>i+x)=fun m=>xs[i+m]?:=rfl
 rw[e2] at this
 rw[this]
theorem getItem_tuple_cut {t sl:Addr}{items:Array Value}{vl vu:Value}{lo hi:Option Int}{Q:Value->Shared->Prop}(ht:IsTup s.heap t items)(hs:s.heap.IsSliceOf sl vl vu .none)(pl:IsPart vl lo)(pu:IsPart vu hi)
  (hw:¬ (sIx items.size 0 lo=0/\sIx items.size items.size hi=items.size))
  (h:Q (.ref s.heap.objs.size) { s with heap:=s.heap.push { cls:=.type "tuple",data:=.seq ((items.toList.drop (sIx items.size 0 lo)).take (sIx items.size items.size hi-sIx items.size 0 lo)).toArray } })
  (hsz:items.size<=sizeLine):wpAny (model prog w) A (getItem (.ref t) (.ref sl)) Q E s:=by
 have htake:sizeOk (.seq ((items.toList.drop (sIx items.size 0 lo)).take (sIx items.size items.size hi-sIx items.size 0 lo)).toArray):=by
  show((items.toList.drop (sIx items.size 0 lo)).take (sIx items.size items.size hi-sIx items.size 0 lo)).toArray.size<=sizeLine
  rw[List.size_toArray,List.length_take,List.length_drop,Array.length_toList]
  omega
 have hj:sIx items.size items.size hi<=items.size:=zp9 _ _ (Nat.le_refl _) hi
 obtain⟨os,hos,hcs,hds⟩:=id hs
 have hTs:s.TypeIs (.ref sl) "slice":=⟨os,hos,hcs⟩
 unfold getItem
 try with_reducible refine wpAny_holding ?_
 first | refine wpAny_bind (wpAny_pure ?_) | skip
 refine wpAny_bind (wpAny_sequenceKey ht.typeIs (by decide) ?_)
 refine wpAny_bind (wpAny_callSpecial?_slot (name:=Str.ofString "__getitem__") ht.typeIs PyProof.Rows.slot_tuple_getitem
  (wpAny_call_entry PyProof.Rows.slot_tuple_getitem ht.typeIs entry_tuple_getitem ?_ (args_tuple_getitem _ _)))
 show wpAny _ _ (Builtin.Tuple.tupleItemsOf (.ref t) >>= _) _ _ s
 refine wpAny_bind (tupleItemsOf_ ht ?_)
 refine wpAny_bind (wpAny_typeOf hTs ?_)
 rw[if_pos (by decide)]
 refine wpAny_bind (zfp hs pl pu ?_)
 have hno:¬ ((((sIx items.size 0 lo:Nat):Int)==0&&(1:Int)==1&&(sIx items.size items.size hi-sIx items.size 0 lo)==items.size)=true):=by
  intro q
  rw[Bool.and_eq_true,Bool.and_eq_true] at q
  have q1:((sIx items.size 0 lo:Nat):Int)=0:=eq_of_beq q.1.1
  have q2:sIx items.size items.size hi-sIx items.size 0 lo=items.size:=eq_of_beq q.2
  exact hw ⟨by omega,by omega⟩
 show wpAny _ _ (if(((sIx items.size 0 lo:Nat):Int)==0&&(1:Int)==1&&(sIx items.size items.size hi-sIx items.size 0 lo)==items.size)=true then _ else _) _ _ s
 rw[if_neg hno,zm0]
 first
  | exact wpAny_bind (m:=Builtin.Tuple.tupleExact _) (wpAny_newObj_type (wpAny_pure ⟨_,rfl,wpAny_pure h⟩) htake)
  | exact wpAny_bind (m:=Builtin.Tuple.tupleExact _) (wpAny_newObj_type (wpAny_bind (wpAny_pure (wpAny_pure ⟨_,rfl,wpAny_pure h⟩))) htake)
  | exact wpAny_bind (wpAny_bind (m:=Builtin.Tuple.tupleExact _) (wpAny_newObj_type (wpAny_pure (wpAny_pure ⟨_,rfl,wpAny_pure h⟩)) htake))
  | exact wpAny_bind (wpAny_bind (m:=Builtin.Tuple.tupleExact _) (wpAny_newObj_type (wpAny_pure ⟨_,rfl,wpAny_pure h⟩) htake))
end
end HT
namespace L2
open PySem PySem.Spec PyProof.Rows
abbrev TO:=St->Hp->(Option Int->Hp->Prop)->Prop
def PO (X:Cx)(e:Option Expr)(t:TO):Prop :=
 ∀ (pins:List (Addr×Obj)) (s:Shared) (σ:St) (H:Hp) (Q:Option Int->Hp->Prop),Inv X pins σ H s->t σ H Q ->
  wpAny (model X.prog X.w) X.A (evalPart e X.env) (fun u s'=>∃ o H',Inv X pins σ H' s'/\IsPart u o/\Q o H') X.xe s
def zox:TO:=fun _ H Q=>Q none H
def zrR (t:TE):TO:=fun σ H Q=>t σ H fun x H1=>∃ i,x=.int i/\Q (some i) H1
section
variable {X:Cx}{e:Expr}{te:TE}{lo hi:Option Expr}{tl th:TO}{pos p2:Pos}
theorem zoH:PO X none zox:=by
 intro pins s σ H Q I h
 rw[evalPart_none]
 exact wpAny_pure ⟨none,H,I,.none,h⟩
theorem zoG (h:PE X e te):PO X (some e) (zrR te):=by
 intro pins s σ H Q I hw
 rw[evalPart_some]
 refine thn (h pins s σ H _ I hw) fun u s1 ⟨x,H1,I1,r1,q1⟩=>?_
 obtain⟨i,rfl,q⟩:=q1
 obtain⟨t,rfl⟩:=r1
 exact⟨some i,H1,I1,.int i t,q⟩
def SlR (X:Cx)(r:V->Option Int->Option Int->Hp->VK->Prop):Prop :=
 ∀ (pins:List (Addr×Obj)) (s:Shared) (σ:St) (H:Hp) (x:V) (v vl vu:Value) (lo hi:Option Int) (sl:Addr) (Q:VK),Inv X pins σ H s->zbB x v->s.heap.IsSliceOf sl vl vu .none->IsPart vl lo->IsPart vu hi->r x lo hi H Q ->
  ∃ T id,typeLookup (.type T) "__getitem__"=pure (some (.builtin id))/\s.TypeIs v T/\wpAny (model X.prog X.w) X.A (getItem v (.ref sl)) (EP X pins σ Q) X.xe s
theorem SlR.or {r r':V->Option Int->Option Int->Hp->VK->Prop}(h:SlR X r)(h':SlR X r'):SlR X (fun x lo hi H Q=>r x lo hi H Q∨r' x lo hi H Q):=by
 intro pins s σ H x v vl vu lo hi sl Q I rx hs pl pu q
 rcases q with q | q
 ·exact h pins s σ H x v vl vu lo hi sl Q I rx hs pl pu q
 ·exact h' pins s σ H x v vl vu lo hi sl Q I rx hs pl pu q
def tSl (r:V->Option Int->Option Int->Hp->VK->Prop)(te:TE)(tl th:TO):TE:=fun σ H Q=>te σ H fun x H1=>tl σ H1 fun l H2=>th σ H2 fun u H3=>r x l u H3 Q
theorem zm2 {r:V->Option Int->Option Int->Hp->VK->Prop}(hr:SlR X r)(he:PE X e te)(hl:PO X lo tl)(hu:PO X hi th):PE X (.Subscript e (.Slice lo hi none p2) pos) (tSl r te tl th):=by
 intro pins s σ H Q I h
 refine Subscript_ (thn (he pins s σ H _ I h) fun v s1 ⟨x,H1,I1,r1,q1⟩=>?_)
 refine wpAny_Slice (thn (hl pins s1 σ H1 _ I1 q1) fun vl s2 ⟨l,H2,I2,pl,q2⟩=>thn (hu pins s2 σ H2 _ I2 q2) fun vu s3 ⟨u,H3,I3,pu,q3⟩=>?_)
 rw[evalPart_none]
 refine wpAny_pure ?_
 have I4:Inv X pins σ H3 { s3 with heap:=s3.heap.push { cls:=.type "slice",data:=.fields #[vl,vu,.none] } }:=I3.kept (t':=s3.toks) fun b ob q=>Heap.get?_push_of_some _ q
 obtain⟨T,id,hT,ht,hg⟩:=hr pins { s3 with heap:=s3.heap.push { cls:=.type "slice",data:=.fields #[vl,vu,.none] } } σ H3 x v vl vu l u s3.heap.objs.size Q I4 r1 (Heap.IsSliceOf.new ..) pl pu q3
 show wpAny (model X.prog X.w) X.A (subscriptTail e (.Slice lo hi none p2) v (.ref s3.heap.objs.size)) (EP X pins σ Q) X.xe { s3 with heap:=s3.heap.push { cls:=.type "slice",data:=.fields #[vl,vu,.none] } }
 exact tail_any (ops:=[.ref s3.heap.objs.size,v]) ht hT hg (by with_unfolding_all rfl)
def zof (xs:List V)(lo hi:Option Int):List V:=(xs.drop (HT.sIx xs.length 0 lo)).take (HT.sIx xs.length xs.length hi-HT.sIx xs.length 0 lo)
theorem zfY (xs:List V)(lo hi:Option Int):(zof xs lo hi).length<=xs.length:=by
 unfold zof
 rw[List.length_take,List.length_drop]
 omega
def ztA (K:W.Frag):V->Option Int->Option Int->Hp->VK->Prop:=fun x lo hi H Q=>∃ a xs,x=.ref a/\SqT K H a xs /\
 ¬ (HT.sIx xs.length 0 lo=0/\HT.sIx xs.length xs.length hi=xs.length)/\∀ p,H p=none->Q (.ref p) (upd H p (.tup (zof xs lo hi)))
theorem zp3:SlR X (ztA X.K):=by
 intro pins s σ H x v vl vu lo hi sl Q I rx hs pl pu h
 obtain⟨a,xs,rfl,hx,hw,q⟩:=h
 cases rx
 obtain⟨its,r,ht,hz⟩:=I.tuple hx
 have hlen:its.toArray.size=xs.length:=by rw[List.size_toArray];exact r.length.symm
 refine⟨"tuple",_,PyProof.Rows.slot_tuple_getitem.lookup,ht.typeIs,?_⟩
 refine HT.getItem_tuple_cut ht hs pl pu (by rw[hlen];exact hw) ?_ (by rw[hlen];exact hz)
 rw[hlen]
 refine⟨.ref s.heap.objs.size,_,I.laid (t':=s.toks) (o:=.tup (zof xs lo hi)) (fun b ob q=>Heap.get?_push_of_some _ q) (Nat.le_refl _) ?_,rfl,q _ (I.hok.fresh (Nat.le_refl _))⟩
 exact⟨Nat.le_trans (zfY xs lo hi) hz,_,(r.drop (HT.sIx xs.length 0 lo)).take (HT.sIx xs.length xs.length hi-HT.sIx xs.length 0 lo),IsTup.new _ _⟩
def zsc (K:W.Frag):R2:=fun x y H Q=>∃ a b xs ys,x=.ref a/\y=.ref b/\SqT K H a xs/\SqT K H b ys/\xs≠[]/\xs.length+ys.length<=sizeLine /\
 (ys=[]->Q (.ref a) H)/\(ys≠[]->∀ p,H p=none->Q (.ref p) (upd H p (.tup (xs++ys))))
theorem zbG.nil_iff {xs:List V}{us:List Value}(r:zbG xs us):us=[]↔xs=[]:=by
 cases r with
 | nil=>simp
 | cons _ _=>simp
theorem zoU:OpR X (binaryOp .Add) (zsc X.K):=by
 intro pins s σ H x y v u Q I rx ry h
 obtain⟨a,b,xs,ys,rfl,rfl,ha,hb,hx,hz,q1,q2⟩:=h
 cases rx
 cases ry
 obtain⟨its,r1,p1,_⟩:=I.tuple ha
 obtain⟨its2,r2,p2,_⟩:=I.tuple hb
 refine HT.cat_tup p1 p2 (fun z=>hx (r1.nil_iff.mp z)) (fun z=>⟨.ref a,H,I,rfl,q1 (r2.nil_iff.mp z)⟩) (fun z=>?_) (by rw[← r1.length,← r2.length];exact hz)
 refine⟨.ref s.heap.objs.size,_,I.laid (t':=s.toks) (o:=.tup (xs++ys)) (fun b ob q=>Heap.get?_push_of_some _ q) (Nat.le_refl _) ?_,rfl,q2 (fun w=>z (r2.nil_iff.mpr w)) _ (I.hok.fresh (Nat.le_refl _))⟩
 exact⟨by rw[List.length_append];exact hz,_,r1.append r2,IsTup.new _ _⟩
end
def ixN (n:Nat)(i:Int):Option Nat:=if 0<=i then(if i < n then some i.toNat else none) else if -(n:Int)<=i then some (i+n).toNat else none
def atI {α:Type}(xs:List α)(i:Int):Option α:=(ixN xs.length i).bind fun j=>xs[j]?
theorem zo6 {n:Nat}{i:Int}{j:Nat}(h:ixN n i=some j):seqIndex? i n=some j/\j < n/\-(n:Int)<=i/\i < n:=by
 unfold ixN at h
 by_cases h0:0<=i
 ·rw[if_pos h0] at h
  by_cases h1:i < n
  ·rw[if_pos h1] at h
   have e:i.toNat=j:=Option.some.inj h
   exact⟨by rw[seqIndex_of h0 h1,e],by omega,by omega,h1⟩
  ·rw[if_neg h1] at h;cases h
 ·rw[if_neg h0] at h
  by_cases h1:-(n:Int)<=i
  ·rw[if_pos h1] at h
   have e:(i+n).toNat=j:=Option.some.inj h
   exact⟨by rw[seqIndex_neg (by omega) h1,e],by omega,h1,by omega⟩
  ·rw[if_neg h1] at h;cases h
theorem zjh {α:Type}{xs:List α}{i:Int}{v:α}(h:atI xs i=some v):∃ j,seqIndex? i xs.length=some j/\xs[j]?=some v/\j < xs.length/\-(xs.length:Int)<=i/\i < xs.length:=by
 unfold atI at h
 cases e:ixN xs.length i with
 | none=>rw[e] at h;cases h
 | some j =>
  rw[e] at h
  obtain⟨h1,h2,h3,h4⟩:=zo6 e
  exact⟨j,h1,h,h2,h3,h4⟩
theorem zaX {α:Type}{xs:List α}{j:Nat}{v:α}(h:xs[j]?=some v):atI xs (j:Int)=some v:=by
 have hj:j < xs.length:=(List.getElem?_eq_some_iff.mp h).1
 have e:ixN xs.length (j:Int)=some j:=by
  unfold ixN
  rw[if_pos (by omega),if_pos (by omega)];simp
 unfold atI;rw[e];exact h
def zjm (b:Expr):Prop:=∀ o i,subscripted b false o i=operate [o,i] (getItem o i)
def IxR (X:Cx)(r:R2):Prop :=
 ∀ (value slice:Expr) (pins:List (Addr×Obj)) (s:Shared) (σ:St) (H:Hp) (x y:V) (v u:Value) (Q:VK),Inv X pins σ H s->zbB x v->zbB y u->r x y H Q ->
  subscripted slice false v u=operate [v,u] (getItem v u)->wpAny (model X.prog X.w) X.A (subscriptTail value slice v u) (EP X pins σ Q) X.xe s
def MtR (X:Cx)(id:String)(r:V->List V->Hp->VK->Prop):Prop :=
 ∀ (pins:List (Addr×Obj)) (s:Shared) (σ:St) (H:Hp) (x:V) (xs:List V) (v:Value) (us:List Value) (Q:VK),Inv X pins σ H s->zbB x v->zbG xs us->r x xs H Q ->
  wpAny (model X.prog X.w) X.A (call (.builtin id) (v::us)) (EP X pins σ Q) X.xe s
section
variable {X:Cx}{a b:Expr}{ta tb:TE}{pos:Pos}
theorem IxR.or {r r':R2}(h:IxR X r)(h':IxR X r'):IxR X (fun x y H Q=>r x y H Q∨r' x y H Q):=by
 intro value slice pins s σ H x y v u Q I rx ry q hs
 rcases q with q | q
 ·exact h value slice pins s σ H x y v u Q I rx ry q hs
 ·exact h' value slice pins s σ H x y v u Q I rx ry q hs
theorem zsl {r:R2}(hr:IxR X r)(ha:PE X a ta)(hb:PE X b tb)(hs:zjm b):PE X (.Subscript a b pos) (tOp r ta tb):=by
 intro pins s σ H Q I h
 exact Subscript_ (zsO ha hb I h fun v u s2 x y H2 I2 rx ry q=>hr a b pins s2 σ H2 x y v u Q I2 rx ry q (hs _ _))
def zs0 (K:W.Frag):R2:=fun x y H Q=>∃ p xs i v,x=.ref p/\y=.int i/\SqL K H p xs/\atI xs i=some v/\Q v H
def zsY (K:W.Frag):R2:=fun x y H Q=>∃ p xs i v,x=.ref p/\y=.int i/\SqT K H p xs/\atI xs i=some v/\Q v H
def zsZ:R2:=fun x y H Q=>∃ z i c,x=.str z/\y=.int i/\z.length<=sizeLine/\atI z.cps.toList i=some c/\Q (.str ⟨#[c]⟩) H
theorem zo5:IxR X (zs0 X.K):=by
 intro value slice pins s σ H x y v u Q I rx ry h hs
 obtain⟨p,xs,i,z,rfl,rfl,hq,he,q⟩:=h
 cases rx
 obtain⟨t,rfl⟩:=ry
 obtain⟨its,r,pl,hz⟩:=I.list hq
 obtain⟨j,h1,h2,h3,h4,h5⟩:=zjh he
 obtain⟨w,ew,rw'⟩:=r.get h2
 have hl:=r.length
 have hn:=zif
 have fin:EP X pins σ Q w s:=⟨z,H,I,rw',q⟩
 by_cases h0:0<=i
 ·have hj:i.toNat=j:=by
   rw[seqIndex_of h0 h5] at h1
   exact Option.some.inj h1
  exact item_listR pl.isList h0 (by omega) (by rw[hj];simpa using ew) fin hs
 ·have hj:(i+(its.toArray.size:Int)).toNat=j:=by
   rw[seqIndex_neg (by omega) h4] at h1
   rw[List.size_toArray,← hl]
   exact Option.some.inj h1
  exact subscriptTail_builtinR (x:=w) pl.isList.typeIs slot_list_getitem.lookup
   (wpAny_getItem_list_neg (Q:=fun r s'=>r=w/\EP X pins σ Q r s') pl.isList (by omega) (by rw[List.size_toArray]<;>omega) (by omega) (by rw[hj];simpa using ew) ⟨rfl,fin⟩) hs
theorem zq2:IxR X (zsY X.K):=by
 intro value slice pins s σ H x y v u Q I rx ry h hs
 obtain⟨p,xs,i,z,rfl,rfl,hq,he,q⟩:=h
 cases rx
 obtain⟨t,rfl⟩:=ry
 obtain⟨its,r,pl,hz⟩:=I.tuple hq
 obtain⟨j,h1,h2,h3,h4,h5⟩:=zjh he
 obtain⟨w,ew,rw'⟩:=r.get h2
 have hl:=r.length
 have hn:=zif
 have fin:EP X pins σ Q w s:=⟨z,H,I,rw',q⟩
 exact subscriptTail_builtinR (x:=w) pl.typeIs slot_tuple_getitem.lookup
  (getItem_tuple (j:=j) (Q:=fun r s'=>r=w/\EP X pins σ Q r s') pl (by omega) (by omega) (by rw[List.size_toArray,← hl];exact h1) (by simpa using ew) ⟨rfl,fin⟩) hs
theorem zlE:IxR X zsZ:=by
 intro value slice pins s σ H x y v u Q I rx ry h hs
 obtain⟨z,i,c,rfl,rfl,hz,he,q⟩:=h
 obtain⟨t,rfl⟩:=rx
 obtain⟨t',rfl⟩:=ry
 obtain⟨j,h1,h2,h3,h4,h5⟩:=zjh he
 have hl:z.cps.toList.length=z.length:=by simp [Str.length]
 rw[hl] at h1 h4 h5
 have hn:=zif
 exact tail_any (typeIs_str s z t) slot_str_getitem.lookup (getItem_str (c:=c) (by
  have e1:decide (i < -(2 ^ 63:Int))=false:=decide_eq_false (by omega)
  have e2:decide (i≥2 ^ 63)=false:=decide_eq_false (by omega)
  rw[e1,e2,Bool.or_false]) (by rw[h1];simpa using h2) ⟨.str ⟨#[c]⟩,H,I.tok _,⟨_,rfl⟩,q⟩) hs
def rIx (K:W.Frag):R2:=fun x y H Q=>zs0 K x y H Q∨zsY K x y H Q∨zsZ x y H Q
theorem zq3:IxR X (rIx X.K):=zo5.or (zq2.or zlE)
theorem zhZ (lo hi:Option Int)(n:Nat):(sliceBounds lo hi none n).1=((HT.sIx n 0 lo:Nat):Int)/\(sliceBounds lo hi none n).2.1=((HT.sIx n n hi:Nat):Int)/\(sliceBounds lo hi none n).2.2=1:=by
 refine⟨?_,?_,rfl⟩
 ·cases lo with
  | none=>simp [sliceBounds,HT.sIx]
  | some i =>
   simp only[sliceBounds,HT.sIx,Option.getD_none,show(1:Int) > 0 by decide,if_true]
   by_cases h:i < 0
   ·simp only[h,if_true]<;>omega
   ·simp only[h,if_false]<;>omega
 ·cases hi with
  | none=>simp [sliceBounds,HT.sIx]
  | some i =>
   simp only[sliceBounds,HT.sIx,Option.getD_none,show(1:Int) > 0 by decide,if_true]
   by_cases h:i < 0
   ·simp only[h,if_true]<;>omega
   ·simp only[h,if_false]<;>omega
theorem zgT (its:List Value)(lo hi:Option Int):slicePick its.toArray lo hi none=((its.drop (HT.sIx its.length 0 lo)).take (HT.sIx its.length its.length hi-HT.sIx its.length 0 lo)).toArray:=by
 obtain⟨h1,h2,h3⟩:=zhZ lo hi its.toArray.size
 unfold slicePick
 rw[h1,h2,h3]
 simp only[sliceRange_one,pick_run,List.size_toArray]<;>rfl
def ztC (K:W.Frag):V->Option Int->Option Int->Hp->VK->Prop:=fun x lo hi H Q=>∃ a xs,x=.ref a/\SqL K H a xs/\∀ p,H p=none->Q (.ref p) (upd H p (.lst (zof xs lo hi)))
theorem zoz:SlR X (ztC X.K):=by
 intro pins s σ H x v vl vu lo hi sl Q I rx hs pl pu h
 obtain⟨a,xs,rfl,hx,q⟩:=h
 cases rx
 obtain⟨its,r,ht,hz⟩:=I.list hx
 have hlen:=r.length
 refine⟨"list",_,slot_list_getitem.lookup,ht.isList.typeIs,?_⟩
 refine wpAny_getItem_list_slice ht.isList hs pl pu .none (by simp) ?_ (by rw[List.size_toArray]<;>omega)
 rw[zgT,← hlen]
 refine⟨.ref s.heap.objs.size,_,I.laid (t':=s.toks) (o:=.lst (zof xs lo hi)) (fun b ob q=>Heap.get?_push_of_some _ q) (Nat.le_refl _) ?_,rfl,q _ (I.hok.fresh (Nat.le_refl _))⟩
 exact⟨Nat.le_trans (zfY xs lo hi) hz,_,0,(r.drop (HT.sIx xs.length 0 lo)).take (HT.sIx xs.length xs.length hi-HT.sIx xs.length 0 lo),Heap.get?_push_size _ rfl⟩
theorem zh9:OpR X (compareOp .NotIn) (fun x y H Q=>∃ i j,x=.str i/\y=.str j/\Q (.bl (!(!(Builtin.Str.occurrences j i 0 j.length 1).isEmpty))) H):=by
 intro pins s σ H x y v u Q I rx ry h
 obtain⟨i,j,rfl,rfl,q⟩:=h
 obtain⟨t,rfl⟩:=rx
 obtain⟨t',rfl⟩:=ry
 exact notIn_str ⟨.bl _,H,I,rfl,q⟩
def tyV (K:W.Frag)(T:String)(x:V)(H:Hp):Prop:=match x with
 | .str _=>T="str"
 | .int _=>T="int"
 | .ref p=>(T="list"/\∃ xs,SqL K H p xs)∨(T="tuple"/\∃ o,K.lookup p=some o/\o.cls=.type "tuple"/\o.dict=none) ∨
   (T="dict"/\((∃ kvs,H p=some (.dK kvs))∨∃ kvs,H p=some (.dT kvs)))∨(T="set"/\∃ S n,H p=some (.set S n))
 | _=>False
theorem zpU {pins:List (Addr×Obj)}{σ:St}{H:Hp}{s:Shared}{T:String}{x:V}{v:Value}(I:Inv X pins σ H s)(r:zbB x v)(ty:tyV X.K T x H) :
  s.TypeIs v T/\∀ a,v=.ref a->∃ ob,s.heap.get? a=some ob/\ob.dict=none:=by
 cases x with
 | str z =>
  obtain⟨t,rfl⟩:=r
  cases (show T="str" from ty)
  exact⟨typeIs_str s z t,fun _ e=>nomatch e⟩
 | int i =>
  obtain⟨t,rfl⟩:=r
  cases (show T="int" from ty)
  exact⟨typeIs_int s i t,fun _ e=>nomatch e⟩
 | ref p =>
  cases r
  rcases ty with⟨rfl,xs,hq⟩ | ⟨rfl,o,hk,hc,hd⟩ | ⟨rfl,hk⟩ | ⟨rfl,S,n,hk⟩
  ·obtain⟨its,_,pl,_⟩:=I.list hq
   refine⟨pl.isList.typeIs,fun a e=>?_⟩
   cases e
   obtain⟨o,n,e,c,hd,_⟩:=pl
   exact⟨o,e,hd⟩
  ·refine⟨⟨o,I.kIn p o hk,hc⟩,fun a e=>?_⟩
   cases e
   exact⟨o,I.kIn _ o hk,hd⟩
  ·have z:∃ o,s.heap.get? p=some o/\o.ExactDict:=by
    rcases hk with⟨kvs,hk⟩ | ⟨kvs,hk⟩
    ·obtain⟨_,_,_,_,o,_,_,e,ex,_⟩:=I.hok p _ hk
     exact⟨o,e,ex⟩
    ·obtain⟨_,_,_,_,o,_,_,e,ex,_⟩:=I.hok p _ hk
     exact⟨o,e,ex⟩
   obtain⟨o,e,ex⟩:=z
   refine⟨⟨o,e,ex.1⟩,fun a e2=>?_⟩
   cases e2
   exact⟨o,e,ex.2.1⟩
  ·obtain⟨o,_,_,_,e,ex,_⟩:=I.hok p _ hk
   refine⟨⟨o,e,ex.1⟩,fun a e2=>?_⟩
   cases e2
   exact⟨o,e,ex.2.1⟩
 | _=>exact False.elim ty
def tBM (K:W.Frag)(T:String)(r:V->List V->Hp->VK->Prop)(to:TE)(t:TA):TE:=fun σ H Q=>to σ H fun x H1=>tyV K T x H1/\t σ H1 fun xs H2=>r x xs H2 Q
variable {o e:Expr}{es:List Expr}{to:TE}{t:TA}{name:Str}{apos cpos:Pos}{T id:String}{r:V->List V->Hp->VK->Prop}
theorem zqx (pa:PlainAttrs T)(slot:Slot T name id)(hty:typeOf (.builtin id)=pure (.type "method_descriptor"))(hm:MtR X id r)(ho:PE X o to)(ha:PA X (e::es) t)
  (hbase:attributeBase o name X.env (eval o X.env)=eval o X.env:=by rfl)
  (hfew:((backTo cpos (starEach (e::es) X.env)).all (fun x=>!x.1)&&(backToKw cpos (keywordEach [] X.env)).all (fun x=>x.1.isSome)
  &&decide ((e::es).length+([]:List Keyword).length+(if([]:List Keyword).isEmpty then 0 else 1) < 30))=true:=by rfl)
  (hline:(apos.endLine==cpos.line)=true:=by rfl) (hs:starEach (e::es) X.env=(false,eval e X.env)::starEach es X.env:=by rfl) (hplain:(backTo cpos (starEach es X.env)).any (·.1)=false:=by rfl) :
  PE X (.Call (.Attribute o name apos) (e::es) [] cpos) (tBM X.K T r to t):=by
 intro pins s σ H Q I h
 refine wpAny_Call_method_late hbase hfew hline rfl (thn (ho pins s σ H _ I h) fun v s1 ⟨x,H1,I1,r1,ty,q1⟩=>?_)
 obtain⟨h1,h2⟩:=zpU I1 r1 ty
 refine⟨T,id,pa,slot,hty,h1,h2,?_⟩
 have hA:=ha cpos pins s1 σ H1 _ I1 q1
 rw[hs] at hA ⊢
 refine Calls.callWith_builtin (by show(false||(backTo cpos (starEach es X.env)).any (·.1))=false;rw[hplain]<;>rfl) (Calls.evalArgs_plain ?_)
 exact thn hA fun us s2 ⟨vs,H2,I2,r2,q2⟩=>hm pins s2 σ H2 x vs v us Q I2 r1 r2 q2
end
def MtM (X:Cx)(id:String)(r:V->List V->Hp->VK->Prop):Prop :=
 ∀ (pins:List (Addr×Obj)) (s:Shared) (σ:St) (H:Hp) (x:V) (xs:List V) (v:Value) (us:List Value) (Q:VK),Inv X pins σ H s->zbB x v->zbG xs us->r x xs H Q ->
  wpAny (model X.prog X.w) X.A (call (.builtin id) (v::us)) (EP X pins σ Q) X.xe s
theorem zbG.one:∀ {x:V}{us:List Value},zbG [x] us->∃ u,us=[u]/\zbB x u
 | _,_,.cons r .nil=>⟨_,rfl,r⟩
theorem zbG.dropLast {xs:List V}{us:List Value}(h:zbG xs us):zbG xs.dropLast us.dropLast:=by
 induction h with
 | nil=>exact .nil
 | cons r t ih =>
  cases t with
  | nil=>exact .nil
  | cons q t'=>exact .cons r ih
theorem zpH {α:Type}(l:List α):l.eraseIdx (l.length-1)=l.dropLast:=by
 induction l with
 | nil=>rfl
 | cons a r ih =>
  cases r with
  | nil=>rfl
  | cons b r =>
   have e:(a::b::r).length-1=((b::r).length-1)+1:=by
    have h1:(a::b::r).length=r.length+2:=rfl
    have h2:(b::r).length=r.length+1:=rfl
    omega
   rw[e,List.eraseIdx_cons_succ,ih]
   all_goals rfl
section
variable {X:Cx}{pins:List (Addr×Obj)}{σ:St}{H:Hp}{s:Shared}{l b:Addr}{xs ys zs:List V}
theorem Inv.lset {its its':List Value}{n:Nat}{f:Array Value->Array Value}{t':Nat}(I:Inv X pins σ H s)(hH:H l=some (.lst xs))
  (e:s.heap.get? l=some { cls:=.type "list",data:=.seq its.toArray n })(hf:f its.toArray=its'.toArray)(hv:zbG ys its')(hz:ys.length<=sizeLine) :
  Inv X pins σ (upd H l (.lst ys)) { s with heap:=s.heap.update l (Obj.mapSeq f),toks:=t' }:=by
 have q:=PySem.IsL.update e f
 rw[hf] at q
 refine I.write (x:=l) (e:=l) (by rw[hH];exact trivial) (.inl rfl) (fun b' u hb hu=>(Heap.get?_update_other s.heap (Obj.mapSeq f) (Ne.symm hb)).trans hu) ⟨_,q⟩ ?_
 exact⟨hz,its',_,hv,q⟩
theorem Inv.lnew {its:List Value}{t':Nat}(I:Inv X pins σ H s)(hv:zbG ys its)(hz:ys.length<=sizeLine) :
  Inv X pins σ (upd H s.heap.objs.size (.lst ys)) { s with heap:=s.heap.push { cls:=.type "list",data:=.seq its.toArray },toks:=t' } :=
 I.laid (fun _ _ q=>Heap.get?_push_of_some _ q) (Nat.le_refl _) ⟨hz,its,0,hv,Heap.get?_push_size _ rfl⟩
theorem Inv.fresh (I:Inv X pins σ H s):H s.heap.objs.size=none:=I.hok.fresh (Nat.le_refl _)
theorem Inv.lstM (I:Inv X pins σ H s)(hH:H l=some (.lst xs)):xs.length<=sizeLine/\∃ (its:List Value) (n:Nat),zbG xs its/\xs.length=its.length/\s.heap.get? l=some { cls:=.type "list",data:=.seq its.toArray n }:=by
 obtain⟨z,its,n,r,e⟩:=I.hok l _ hH
 exact⟨z,its,n,r,r.length,e⟩
end
section
variable {X:Cx}
def zoD:V->List V->Hp->VK->Prop:=fun x vs H Q=>∃ l xs y,x=.ref l/\vs=[y]/\H l=some (.lst xs)/\xs.length < sizeLine/\Q .non (upd H l (.lst (xs++[y])))
theorem zib:MtM X "list.append" zoD:=by
 intro pins s σ H x vs v us Q I rx rv h
 obtain⟨l,xs,y,rfl,rfl,hH,hz,q⟩:=h
 cases rx
 obtain⟨u,rfl,ru⟩:=rv.one
 obtain⟨z,its,n,r,hl,e⟩:=I.lstM hH
 refine call_meets F.slot_list_append ⟨_,e,rfl⟩ F.entry_list_append (F.args_list_append_2 _ _) (PySem.list_append l its.toArray n u (by rw[List.size_toArray];omega)) ⟨e,?_⟩
 refine⟨.non,_,I.lset (its':=its++[u]) hH e (by simp) (r.append (.cons ru .nil)) ?_,rfl,q⟩
 rw[List.length_append,List.length_singleton]
 omega
def ztX:V->List V->Hp->VK->Prop:=fun x vs H Q=>∃ l xs y,x=.ref l/\vs=[]/\H l=some (.lst xs)/\xs[xs.length-1]?=some y/\Q y (upd H l (.lst xs.dropLast))
end
section
variable {prog:Program}{w:World}{A:Around}{E:Value->Shared->Prop}{s:Shared}
set_option maxRecDepth 100000 in
end
section
variable {X:Cx}
end
end L2
namespace Att
open PySem PySem.W PySem.Calls PyProof.Rows
theorem zfR {P:Params}{h:Heap}:∀ (ns:List Int) (vs:List Value),WellAll P h vs (ns.map WData.int)->IntsAre vs ns:=by
 intro ns
 induction ns with
 | nil =>
  intro vs w
  rw[List.map_nil] at w
  cases w
  exact .nil
 | cons n ns ih =>
  intro vs w
  rw[List.map_cons] at w
  cases w with
  | cons a b =>
   cases a
   exact .cons _ _ (ih _ b)
theorem zk3 {l:OpenLaw}{n:Nat}(hn:l.most=some n){P:Params}{h:Heap}{args:List WData}{vals:List Value}
  (hpre:l.row.toRowW.claim.pre args=true)(hwl:WellAll P h vals args) :
  ∃ a vs ns,vals=[Value.ref a]/\args=[WData.list (ns.map WData.int)]/\h.get? a=some { cls:=.type "list",data:=.seq vs.toArray }/\IntsAre vs ns/\ns.length<=n:=by
 have hsh:WShape.hasAll [] args [.list .int]=true:=(pre_splitW hpre).1
 have hc:l.pre.holds [] { args:=args }=true:=(pre_splitW hpre).2
 obtain⟨d,r,rfl,h1,h2⟩:=hasAllW_cons hsh
 obtain rfl:=hasAllW_nil h2
 obtain⟨xs,rfl,h3⟩:=hasW_list h1
 obtain⟨ns,rfl⟩:=items_int h3
 have hlen:ns.length<=n:=by
  unfold OpenLaw.pre at hc
  have h4:(WTm.not (.lt (.lit (.int (n:Int))) (.len (.arg 0)))).holds [] { args:=[.list (ns.map .int)] }=true:=by
   have h4:=(holds_andW hc).1
   rw[hn] at h4
   exact h4
  have h5:=condW_of h4 (w_not (w_lt w_lit (w_len_list (w_arg rfl))))
  rw[List.length_map] at h5
  refine Nat.le_of_not_lt fun q=>?_
  have q':(n:Int) < ((ns.length:Nat):Int):=by omega
  first
   | (rw[decide_eq_true q'] at h5;exact absurd h5 (by decide))
   | (simp at h5;omega)
 cases hwl with
 | cons w1 w2 =>
  cases w2
  cases w1 with
  | list ho hall=>exact⟨_,_,ns,rfl,rfl,ho,zfR ns _ hall,hlen⟩
theorem zlg (l:OpenLaw)(args:List WData):l.row.toRowW.claim.post args (.bool true) args=true :=
 postW_of (r:=l.row.toRowW) (X:=(true==true))
  (show WShape.has [] (.bool true) .bool=true by first | rfl | decide | simp [WShape.has,WShape.arms,WShape.armsAll])
  (show(WTm.eq .res (.lit (.bool true))).value [] { args:=args,res:=some (.bool true),after:=args }=some (.bool (true==true)) from w_eq_bool (w_res rfl) w_lit) rfl
theorem attach_call {l:OpenLaw}{n:Nat}{q:Program}{loose:List Str}{XP:(Str->Option Value)->Heap->Prop}{YP:World->Heap->Prop}{d:DefRec}
  (hn:l.most=some n)(hdf:d.params.defaults=[])
  (call:∀ (w:World) (s₀ s₁:Shared) (mg mb:Str->Option Value) (fa:Addr) (o:Obj) (pm cd doc:Value) (a:Addr) (vs:List Value) (ns:List Int),
   Ground q loose [] XP w s₀ mg mb s₁.heap->YP w s₁.heap ->
   s₁.heap.get? fa=some o->o.data=.func (docDef d.name d.params d.body d.scope pm cd doc)->s₁.heap.CodeRec cd d.name->mg d.name=some (.ref fa) ->
   s₁.heap.get? a=some { cls:=.type "list",data:=.seq vs.toArray }->IntsAre vs ns->ns.length<=n->s₁.gens=#[] ->
   codeAny (model l.prog w) callerA (.call (.ref fa) ⟨[.ref a],[]⟩) (fun r s'=>r=.ok (.ret (.bool true))/\OldK s₁.heap s'.heap/\s'.os=s₁.os/\AllBare s'.gens) s₁) :
  WalkO q loose XP YP l.row.toRowW d [] (fun f vs=>PySem.call f vs):=by
 intro w s₀ s₁ mg mb G Y fa o pm cd doc dV kV ho hd hcd hD hmg hg args vals as hpre hlay hrd hwl hlo
 obtain rfl:dV=.none:=Dflts.none hD hdf
 obtain rfl:kV=.none:=Dflts.noKw hD
 obtain⟨a,vs,ns,rfl,rfl,hobj,hints,hlen⟩:=zk3 hn hpre hwl
 refine enter_call (codeAny_mono (call w s₀ s₁ mg mb fa o pm cd doc a vs ns G Y ho (fd_plain hd) hcd hmg hobj hints hlen hg) fun r s' hq=>?_)
 obtain⟨rfl,h2,h3,h4⟩:=hq
 exact⟨.inl ⟨.bool true,.bool true,[],rfl,fun _=>rfl,.bool true,zlg l _,fun _=>⟨List.Pairwise.nil,fun _ hm=>(nomatch hm)⟩⟩,h2,h3,h4⟩
section
variable {prog:Program}{w:World}{A:Around}{E:Value->Shared->Prop}{s:Shared}{K:Frag}
end
end Att
namespace L2
open PySem PySem.Spec PyProof.Rows
theorem zhW:∀ {vs:List Value}{ns:List Int},IntsAre vs ns->zbG (ns.map V.int) vs
 | _,_,.nil=>.nil
 | _,_,.cons n t h=>.cons ⟨t,rfl⟩ (zhW h)
def zrK (H:Hp):Prop:=∀ b,H b=none∨∃ o xs,H b=some (.frz o (.lst xs))
theorem zng {P:Program}{w:World}{K:W.Frag}{mg mb:Str->Option Value}{CX:CXT}{k:Nat}{fa a:Addr}{fd:FuncData}{x:Str}{sp:Sp}{s₁:Shared}{vs:List Value}{ns:List Int}
  (KX:K.In s₁.heap)(hns:s₁.heap.Ns mainGlobals mg)(hb:s₁.heap.Ns builtinsNs mb)(hbb:∀ x:Str,x≠"__name__"->mb x=bootBuiltins x)(hlim:s₁.heap.NoLimit)(hg:s₁.gens=#[])
  (ha:s₁.heap.get? a=some { cls:=.type "list",data:=.seq vs.toArray })(hi:IntsAre vs ns)(hl:ns.length<=sizeLine)(hr:zel k callerA)
  (F:∀ base:Heap,K.In base->base.Ns mainGlobals mg->FnOk P w K mg base CX k fa fd [x] sp)(hbind:∀ (s:Shared) (u:Value),BindsTo s fd ⟨[u],[]⟩ [(x,u)])
  (hsp:∀ H:Hp,zrK H->SqL K H a (ns.map V.int)->sp [.ref a] H (fun v _=>v=.bl true) fun _ _ _=>False)
  (hCX:∀ H e s',CX [] H s₁ (fun _ _ _=>False) e s'->False) :
  codeAny (model P w) callerA (.call (.ref fa) ⟨[.ref a],[]⟩) (fun r s'=>r=.ok (.ret (.bool true))/\OldK s₁.heap s'.heap/\s'.os=s₁.os/\AllBare s'.gens) s₁:=by
 have rv:=zhW hi
 have lenV:=hi.length
 have core:∀ H:Hp,zrK H->SqL K H a (ns.map V.int)->HOk P w H s₁.heap->(∀ b,H b≠none->b=a)->(H a≠none->K.lookup a=none) ->
   codeAny (model P w) callerA (.call (.ref fa) ⟨[.ref a],[]⟩) (fun r s'=>r=.ok (.ret (.bool true))/\OldK s₁.heap s'.heap/\s'.os=s₁.os/\AllBare s'.gens) s₁:=by
  intro H hO hS hok hA hK
  have base_of:∀ {b:Addr}{o:Obj},s₁.heap.get? b=some o->H b=none->(znn s₁.heap H).get? b=some o:=fun e n=>znm e n
  have noA:∀ {b:Addr}{o:Obj}{es:Array DictEntry}{ep:Nat},s₁.heap.get? b=some o->o.data=.dict es ep->H b=none:=fun {b o es ep} e d=>by
   cases q:H b with
   | none=>rfl
   | some u =>
    have e':b=a:=hA b (by rw[q];simp)
    subst e'
    rw[ha] at e;cases e
    have d':Data.seq vs.toArray _=Data.dict es ep:=d
    cases d'
  have nsK:∀ {b:Addr}{m:Str->Option Value},s₁.heap.Ns b m->(znn s₁.heap H).Ns b m:=fun {b m} ⟨o,es,ep,e,d,r⟩=>⟨o,es,ep,base_of e (noA e d),d,r⟩
  have hKb:K.In (znn s₁.heap H):=fun b o e=>base_of (KX b o e) (by
   cases q:H b with
   | none=>rfl
   | some u =>
    have e':b=a:=hA b (by rw[q];simp)
    subst e'
    rw[hK (by rw[q];simp)] at e;cases e)
  have hM:Mod K mg (znn s₁.heap H):=⟨hKb,nsK hns,⟨mb,nsK hb,hbb⟩,let ⟨mc,h1,h2⟩:=hlim;⟨mc,nsK h1,h2⟩⟩
  have e0:zmC P w K mg (znn s₁.heap H) callerA [] s₁ H:=⟨rfl,hM,fun b o e=>zoX e,Nat.le_of_eq (zlJ _ _),trivial,fun b hb=>absurd (show b∈([]:List Addr) from hb) (by simp),hok,.of_eq hg⟩
  refine codeAny_mono ((F _ hKb (nsK hns)).run callerA [] s₁ H ⟨[.ref a],[]⟩ [.ref a] [.ref a] _ _ hr e0 (hbind s₁ (.ref a)) (.cons rfl .nil) (hsp H hO hS)) fun r s' h=>?_
  cases r with
  | error e=>exact(hCX H e s' h).elim
  | ok fl =>
   cases fl with
   | next=>exact False.elim h
   | brk=>exact False.elim h
   | cont=>exact False.elim h
   | ret u =>
    obtain⟨v,H',os,bare,un,hok',r',q⟩:=h
    have q':v=.bl true:=q
    subst q'
    obtain rfl:u=Value.bool true:=r'
    refine⟨rfl,OldK.of_keep fun b o e=>?_,os,bare⟩
    cases q:H b with
    | none=>exact un.keep b o e q (by intro z;exact absurd (show b∈([]:List Addr) from z) (by simp)) (by simp)
    | some u =>
     rcases hO b with z | ⟨ob,xs,z⟩
     ·rw[q] at z;cases z
     ·have z2:=un.frzs b ob _ z
      obtain⟨e1,_⟩:=hok b _ z
      obtain⟨e2,_⟩:=hok' b _ z2
      rw[e] at e1;cases e1
      exact e2
 cases hk:K.lookup a with
 | some o =>
  have e:=KX a o hk
  rw[ha] at e
  cases e
  refine core (fun _=>none) (fun _=>.inl rfl) (.inr ⟨_,vs.toArray,_,hk,rfl,rfl,rfl,by rw[List.size_toArray,lenV];exact hl,by simpa using rv⟩) (fun b u z=>by have z':(none:Option HO)=some u:=z;cases z') (fun b z=>absurd rfl z) fun z=>absurd rfl z
 | none =>
  refine core (fun b=>if b=a then some (.frz { cls:=.type "list",data:=.seq vs.toArray } (.lst (ns.map V.int))) else none) (fun b=>?_) (.inl (.inr ⟨{ cls:=.type "list",data:=.seq vs.toArray },if_pos rfl⟩)) (fun b u z=>?_) (fun b z=>?_) fun _=>hk
  ·by_cases hb:b=a
   ·exact .inr ⟨_,_,if_pos hb⟩
   ·exact .inl (if_neg hb)
  ·by_cases hb:b=a
   ·have z':=(if_pos hb).symm.trans z
    cases z'
    subst hb
    exact⟨ha,by rw[List.length_map];exact hl,vs,_,rv,ha⟩
   ·have z':=(if_neg hb).symm.trans z
    cases z'
  ·by_cases hb:b=a
   ·exact hb
   ·exact absurd (if_neg hb) z
abbrev KOf {K:W.Frag}{h:Heap}(_:K.In h):W.Frag:=K
theorem zot {l:W.OpenLaw}{n k:Nat}{q:Program}{loose:List Str}{XP:(Str->Option Value)->Heap->Prop}{YP:World->Heap->Prop}{d:DefRec}{K:Params->W.Frag}{CX:World->CXT}{sp:World->Sp}{x:Str}
  (hn:l.most=some n)(hn2:n<=sizeLine)(hdf:d.params.defaults=[])(hr:zel k callerA)
  (hY:∀ (w:World) (h:Heap),YP w h->(K w.params).In h)
  (F:∀ (w:World) (mg:Str->Option Value) (fa:Addr) (h:Heap),(K w.params).In h->h.Ns mainGlobals mg->mg d.name=some (.ref fa) ->
   ∃ fd:FuncData,(∀ (s:Shared) (u:Value),BindsTo s fd ⟨[u],[]⟩ [(x,u)]) /\
    ∀ base:Heap,(K w.params).In base->base.Ns mainGlobals mg->FnOk l.prog w (K w.params) mg base (CX w) k fa fd [x] (sp w))
  (hsp:∀ (w:World) (H:Hp) (a:Addr) (ns:List Int),ns.length<=n->zrK H->SqL (K w.params) H a (ns.map V.int)->sp w [.ref a] H (fun v _=>v=.bl true) fun _ _ _=>False)
  (hCX:∀ (w:World) (H:Hp) (s:Shared) (e:Value) (s':Shared),CX w [] H s (fun _ _ _=>False) e s'->False) :
  W.WalkO q loose XP YP l.row.toRowW d [] (fun f vs=>PySem.call f vs):=by
 refine Att.attach_call hn hdf fun w s₀ s₁ mg mb fa o pm cd doc a vs ns G Y ho hd hcd hmg hobj hints hlen hg=>?_
 have KX:=hY w _ Y
 obtain⟨fd,hb,hF⟩:=F w mg fa _ KX G.T.g hmg
 exact zng KX G.T.g G.T.b G.T.builtins G.T.nolimit hg hobj hints (Nat.le_trans hlen hn2) hr hF hb (fun H hO hS=>hsp w H a ns hlen hO hS) fun H e s'=>hCX w H s₁ e s'
theorem walk_ofK {l:W.OpenLaw}{n k:Nat}{q:Program}{loose:List Str}{XP:(Str->Option Value)->Heap->Prop}{YP:World->Heap->Prop}{d:DefRec}{K:Params->W.Frag}{CX:CXT}{sp:W.Frag->Sp}{x:Str}
  (hn:l.most=some n)(hn2:n<=sizeLine)(hdf:d.params.defaults=[])(hr:zel k callerA)
  (hY:∀ (w:World) (h:Heap),YP w h->(K w.params).In h)
  (F:∀ (w:World) (mg:Str->Option Value) (fa:Addr) (h:Heap),(K w.params).In h->h.Ns mainGlobals mg->mg d.name=some (.ref fa) ->
   ∃ fd:FuncData,(∀ (s:Shared) (u:Value),BindsTo s fd ⟨[u],[]⟩ [(x,u)]) /\
    ∀ base:Heap,(K w.params).In base->base.Ns mainGlobals mg->FnOk l.prog w (K w.params) mg base CX k fa fd [x] (sp (K w.params)))
  (hsp:∀ (K:W.Frag) (H:Hp) (a:Addr) (ns:List Int),ns.length<=n->zrK H->SqL K H a (ns.map V.int)->sp K [.ref a] H (fun v _=>v=.bl true) fun _ _ _=>False)
  (hCX:∀ (H:Hp) (s:Shared) (e:Value) (s':Shared),CX [] H s (fun _ _ _=>False) e s'->False) :
  W.WalkO q loose XP YP l.row.toRowW d [] (fun f vs=>PySem.call f vs) :=
 zot (K:=K) (CX:=fun _=>CX) (sp:=fun w=>sp (K w.params)) hn hn2 hdf hr hY F (fun w H a ns h1 h2 h3=>hsp (K w.params) H a ns h1 h2 h3) fun _ H s e s'=>hCX H s e s'
def zo9 (s:Stmt)(j:Nat):Stmt:=match s with
 | .ClassDef _ _ _ body _ _ _ _ _ _ _=>body.getD j (.Pass ⟨0,0,0,0⟩)
 | _=>.Pass ⟨0,0,0,0⟩
def defArgs (s:Stmt):Arguments:=match s with
 | .FunctionDef _ a _ _ _ _ _ _ _ _=>a
 | _=>{ posonlyargs:=[],args:=[],vararg:=none,kwonlyargs:=[],kw_defaults:=[],kwarg:=none,defaults:=[] }
def defBody (s:Stmt):List Stmt:=match s with
 | .FunctionDef _ _ b _ _ _ _ _ _ _=>b
 | _=>[]
def defScope (s:Stmt):Scope:=match s with
 | .FunctionDef _ _ _ _ _ _ sc _ _ _=>sc
 | _=>{ kind:=.function,names:=[],isGenerator:=false,isCoroutine:=false }
abbrev CX0:CXT:=fun _ _ _ _ _ _=>False
abbrev E0:XK:=fun _ _ _=>False
theorem zcj {X:Cx}:zgM CX0 X E0:=fun _ _ _ _ _ _ _ h=>h.elim
structure Fun (K:W.Frag) (x qual:Str) (st:Stmt) (f:Addr) (fd:FuncData):Prop where
 ex:∃ (oc:Value) (od:Option Addr) (kV doc pm:Value) (an:Option Addr) (cdv ct:Value) (osl:Array (Option Value)),
  fd=W.fnOf x qual (defArgs st) (defBody st) (defScope st) .none kV doc pm an cdv ct/\K.lookup f=some ⟨oc,od,.func fd,osl⟩/\W.codeIn K cdv qual=true
 kp:W.keepIn K (.ref f)=true
section
variable {P:Program}{w:World}{K:W.Frag}{mg:Str->Option Value}{base:Heap}
theorem Fun.ok {x qual:Str}{st:Stmt}{f:Addr}{fd:FuncData}{N ps:List Str}{k:Nat}{sp:Sp}(F:Fun K x qual st f fd)(S:zaC N ps (defScope st))(len:∀ vs H Q E,sp vs H Q E->vs.length=ps.length)
  (hbody:∀ (cdv:Value) (A:Around) (outer:List Env) (s:Shared) (H:Hp) (vs:List V) (Q:VK) (E:XK),zel k (A.deeper (envOfC qual (defScope st) s.heap.objs.size f cdv))->sp vs H Q E ->
   ∃ t,PSs (zdX CX0 P w K mg base N qual (defScope st) f cdv A outer s H E).nox (defBody st) t/\t { nx:=fun _ H'=>Q .non H',rt:=Q } (start N vs) H):FnOk P w K mg base CX0 (k+1) f fd ps sp:=by
 obtain⟨oc,od,kV,doc,pm,an,cdv,ct,osl,rfl,lk,hcd⟩:=F.ex
 refine zq8 lk hcd S len fun A outer s H vs Q E hr hsp=>?_
 obtain⟨t,h,q⟩:=hbody cdv A outer s H vs Q E hr hsp
 exact⟨t,h.nox,q⟩
theorem Fun.binds {x qual:Str}{st:Stmt}{f:Addr}{fd:FuncData}{ps:List Str}(F:Fun K x qual st f fd)
  (h:∀ (kV doc pm:Value) (an:Option Addr) (cdv ct:Value) (us:List Value),us.length=ps.length->bindArgs (W.fnOf x qual (defArgs st) (defBody st) (defScope st) .none kV doc pm an cdv ct) ⟨us,[]⟩=pure (ps.zip us)):zbE K fd ps []:=by
 obtain⟨oc,od,kV,doc,pm,an,cdv,ct,osl,rfl,lk,hcd⟩:=F.ex
 exact .all (h kV doc pm an cdv ct)
theorem zaz {x qual:Str}{st:Stmt}{f:Addr}{oc:Value}{od an:Option Addr}{osl:Array (Option Value)}{kV doc pm cdv ct:Value}(l:K.lookup f=some ⟨oc,od,.func (W.fnOf x qual (defArgs st) (defBody st) (defScope st) .none kV doc pm an cdv ct),osl⟩)
  (c:W.codeIn K cdv qual=true)(k:W.keepIn K (.ref f)=true):Fun K x qual st f (W.fnOf x qual (defArgs st) (defBody st) (defScope st) .none kV doc pm an cdv ct):=⟨⟨oc,od,kV,doc,pm,an,cdv,ct,osl,rfl,l,c⟩,k⟩
end
section
variable {X:Cx}
end
def zaG (H H':Hp):Prop:=∀ b o,H b=some o->H' b=some o
theorem zaG.refl (H:Hp):zaG H H:=fun _ _ h=>h
theorem zaG.trans {H H1 H2:Hp}(a:zaG H H1)(b:zaG H1 H2):zaG H H2:=fun c o h=>b c o (a c o h)
theorem zaG.free {H H':Hp}(e:zaG H H'){l:Addr}(h:H' l=Option.none):H l=Option.none:=by
 cases q:H l with
 | none=>rfl
 | some o =>
  rw[e l o q] at h
  cases h
end L2
namespace DL
open PySem PySem.Spec PySem.Calls PySem.W PyProof.Rows Builtin Builtin.ObjectAttr Builtin.Getset_descriptor
section
variable {prog:Program}{w:World}{A:Around}{E:Value->Shared->Prop}{h:Heap}{g:Array GenState}{d:Drawn}{t:Nat}{os:OsState}{a C:Addr}{o:Obj}{K:Frag}
structure zjX (K:Frag) (C:Addr):Prop where
 cls:findIn K (.ref C) "__class__"=some (some (.builtin "object.__class__"))
 ga:findIn K (.ref C) "__getattribute__"=some (some (.builtin "BaseException.__getattribute__"))
 gt:findIn K (.ref C) "__getattr__"=some none
 ob:mroIn K C (.type "object")=some true
 be:subIn K (.ref C) (.type "BaseException")=some true
theorem zpN {R:Result->Shared->Prop}{tp:Value}(X:K.In h)(Z:zjX K C)(hx:h.get? a=some o)(hc:o.cls=.ref C)(hq:R (.ok (.ret (.ref C))) ⟨h,g,d,t,os⟩) :
  codeAny (model prog w) A (.call (.builtin "getset_descriptor.__get__") ⟨[.builtin "object.__class__",.ref a,tp],[]⟩) R ⟨h,g,d,t,os⟩:=by
 have L0:Looks (model prog w) h (typeOf (.ref a)) (.ref C):=hc▸(Looks.ld hx).andThen .now
 have L1:=looks_mroIn (M:=model prog w) X Z.ob
 refine codeAny_call_builtin KF.slot_gs.plain KF.entry_gs (KF.slot_gs.check _ _ _ _ _ _ _ _ KF.type_class (KF.args_gs _ _ _) ?_)
 unfold Builtin.«getset_descriptor.__get__» descrGet
 rw[dga_obj]
 refine wpAny_bind (wpAny_pure ?_)
 unfold descrGetter descrCheckInstance descrNameAndClass isInstance
 simp only[KF.owner_class]
 repeat lk
 refine⟨Code.quiet_builtin _ (by decide +kernel),codeAny_builtin KF.entry_class ?_⟩
 unfold Builtin.«object.__class__» shownTypeOf
 repeat lk
 exact hq
theorem zjp {M:Model}{nameV:Value}{Q:Unit->Shared->Prop}(X:K.In h)(Z:zjX K C)(hx:h.get? a=some o)(hc:o.cls=.ref C)(hq:Q () ⟨h,g,d,t,os⟩):wpAny M A (checkBuiltinCall "BaseException.__getattribute__" ⟨[.ref a,nameV],[]⟩) Q E ⟨h,g,d,t,os⟩:=by
 have hk:builtinKind "BaseException.__getattribute__"=some .slot:=by decide +kernel
 have hsplit:splitId "BaseException.__getattribute__"=some ("BaseException","__getattribute__"):=by decide +kernel
 have ha:=F.args_bexc_ga (.ref a) nameV
 have LS:Looks M h (isSubtype (.ref C) (.type "BaseException")) true:=looks_subIn X Z.be
 simp only[checkBuiltinCall,hk,hsplit]
 refine wpAny_bind ?_
 ·unfold isInstance
  repeat (first | (with_reducible refine wpAny_loadPart_at hx ?_;rw[hc]) | (with_reducible refine LS.at ?_) | wp_step)
  exact hq
theorem zmH {tk:Tok}{Q:Fin->Shared->Prop}(X:K.In h)(Z:zjX K C)(hx:h.get? a=some o)(hc:o.cls=.ref C)(hq:Q (.done (.ret (.ref C))) ⟨h,g,d,t,os⟩) :
  wpAny (model prog w) A (Builtin.«object.__getattribute__» ⟨[.ref a,.str "__class__" tk],[]⟩) Q E ⟨h,g,d,t,os⟩:=by
 have hT5:(⟨h,g,d,t,os⟩:Shared).TypeIs (.builtin "object.__class__") "getset_descriptor":=F.typeOf_object_class
 have f5:=F.typeOf_object_class
 have f6:=F.slot_gs_get.lookup
 have f7:=F.slot_gs_set.lookup
 have LC:Looks (model prog w) h (typeLookup (.ref C) "__class__") (some (.builtin "object.__class__")):=looks_findIn X Z.cls
 repeat (any_goals (first | assumption | (with_reducible refine wpAny_loadPart_at hx ?_;rw[hc]) | (with_reducible refine LC.at ?_) | wp_step))
 refine zpN X Z hx hc ?_
 repeat (any_goals (first | assumption | wp_step))
theorem zor {tk:Tok}{R:Result->Shared->Prop}(X:K.In h)(Z:zjX K C)(hx:h.get? a=some o)(hc:o.cls=.ref C)(hq:R (.ok (.ret (.ref C))) ⟨h,g,d,t,os⟩) :
  codeAny (model prog w) A (.call (.builtin "BaseException.__getattribute__") ⟨[.ref a,.str "__class__" tk],[]⟩) R ⟨h,g,d,t,os⟩ :=
 codeAny_call_builtin F.attr_ValueError.ga.plain F.entry_bexc_ga (zjp X Z hx hc (zmH X Z hx hc hq))
theorem zrM {tk:Tok}{Q:Value->Shared->Prop}(X:K.In h)(Z:zjX K C)(hx:h.get? a=some o)(hc:o.cls=.ref C)(hq:Q (.ref C) ⟨h,g,d,t,os⟩) :
  wpAny (model prog w) A (getAttrBy (.ref a) (.str "__class__" tk) false) Q E ⟨h,g,d,t,os⟩:=by
 have f3:=F.attr_ValueError.ga.bind (.ref a)
 have hx2:(Value.builtin "BaseException.__getattribute__"==Value.builtin "object.__getattribute__")=false:=by decide +kernel
 have hx1:(onTheHeap (Value.ref C)&&Value.builtin "BaseException.__getattribute__"==Value.builtin "object.__getattribute__")=false:=by rw[hx2];rfl
 have L1:Looks (model prog w) h (typeLookup (.ref C) "__getattribute__") (some (.builtin "BaseException.__getattribute__")):=looks_findIn X Z.ga
 have L2:Looks (model prog w) h (typeLookup (.ref C) "__getattr__") none:=looks_findIn X Z.gt
 repeat (any_goals (first | assumption | (with_reducible refine wpAny_loadPart_at hx ?_;rw[hc]) | (with_reducible refine L1.at ?_) | (with_reducible refine L2.at ?_) | wp_step))
 refine zor X Z hx hc ?_
 repeat (any_goals (first | assumption | wp_step))
theorem zos {Q:Option Value->Shared->Prop}(X:K.In h)(Z:zjX K C)(hx:h.get? a=some o)(hc:o.cls=.ref C)(hq:Q (some (.ref C)) ⟨h,g,d,t+1,os⟩):wpAny (model prog w) A (getAttr? (.ref a) "__class__") Q E ⟨h,g,d,t,os⟩:=by
 unfold getAttr? getAttrBy?
 repeat (any_goals (first | assumption | with_reducible apply zrM X Z hx hc | wp_step))
end
def ExD (a C:Addr)(dc:Option Addr):Heap->Prop:=fun h=>∃ o vs,h.get? a=some o/\o.cls=.ref C/\o.data=.fields vs/\o.dict=dc
theorem zha {K:Frag}{a C:Addr}{dc:Option Addr}(Z:zjX K C)(hC:(clsIn K C).isSome=true):KitX K (.ref a) (.ref C) (ExD a C dc) where
 ty:=fun _ _ _ ⟨o,_,h1,h2,_⟩=>h2▸(Looks.ld h1).andThen .now
 it:=fun _ _ X _=>by
  obtain⟨cd,hcD⟩:=Option.isSome_iff_exists.mp hC
  unfold clsIn at hcD
  split at hcD
  ·rename_i c' d' cd' sl' ho
   intro A' Q' E' s' k q
   unfold isType loadHead
   exact wpAny_bind (wpAny_loadPart (k _ _ (X _ _ ho)) (wpAny_pure q))
  ·cases hcD
 ne:=fun h tp dd its n sl X htp=>by
  obtain⟨cd,hcD⟩:=Option.isSome_iff_exists.mp hC
  refine Bool.eq_false_iff.mpr fun q=>?_
  have e:C=tp:=Value.ref.inj (beq_iff_eq.mp q)
  subst e
  unfold clsIn at hcD
  split at hcD
  ·rename_i c' d' cd' sl' ho
   have z:=(X _ _ ho).symm.trans htp
   cases z
  ·cases hcD
 ca:=fun {_ _ _ _ _ s} X ⟨o,_,h1,h2,_⟩ k=>by
  obtain⟨h,g,d,t,os⟩:=s
  exact zos X Z h1 h2 k
theorem zjX.isCls {K:Frag}{C:Addr}(Z:zjX K C):(clsIn K C).isSome=true:=by
 obtain⟨cd,a,b⟩:=Option.bind_eq_some_iff.mp Z.ob
 rw[a];rfl
def zdl:List String:=["NoneType","bool","int","str","tuple","list","dict"]
structure XC (K:Frag) (x:Str) (C:Addr):Prop where
 ns:nsIn K mainGlobals x=some (some (.ref C))
 ek:zjX K C
 bt:∀ T∈zdl,kitOne K (.ref C) (.type T)=some false
end DL
namespace DL
open PySem PySem.Spec PyProof.Rows L2
theorem zgh (o:Obj)(f:Array Value->Array Value):(o.mapFields f).dict=o.dict:=by unfold Obj.mapFields;split<;>rfl
def ziN (h:Heap)(e:Addr)(dc:Option Addr):Prop:=∃ o,h.get? e=some o/\o.dict=dc
section
variable {M:Model}{A:Around}{E:Value->Shared->Prop}{s:Shared}{base:Heap}{env:PySem.Env}{outer l:List PySem.Env}{L e:Addr}{cls a0 fl:Value}{dc:Option Addr}{Q:Unit->Shared->Prop}
theorem zjI {oe:Obj}{vs:Array Value}{head:Value}{b0:Bool}(hfr:A.frames=some (env::outer))(hl:s.heap.FunFrames base (env::outer))(hf:env.frame=some L)(he:s.heap.get? e=some oe)(kb:base.StaysIn s.heap)(hen:base.get? e=none)(hd:oe.data=.fields vs)(hz:1 < vs.size)(h0:vs[0]?=some a0)
  (h:∀ h',Heap.NotedW base (env::outer) e oe.cls a0 (rawInt L) s.heap h'->ziN h' e oe.dict->Q () { s with heap:=h' }) :
  wpAny M A (do
   let a ← frameOf env
   let pl ← entryPlaceOf L b0
   let b ← EntryCells.newEntry head a .none (rawInt L) .none pl
   setField (.ref e) 1 b) Q E s:=by
 have nf:e∉(env::outer).filterMap (·.frame):=fun hm=>by
  obtain⟨_,o,ho,q⟩:=hl.mem hm
  rw[he] at ho;cases ho;exact q vs hd
 refine wpAny_bind (wpAny_frameOf_fun hfr hl hf fun g ⟨_,same,slots⟩=>wpAny_bind (wpAny_entryPlaceOf fun pl hpl=>?_))
 have ge:g.get? e=some oe:=(same e nf).trans he
 have up:∀ (N:Obj) (f:Obj->Obj) (b:Addr) (o:Obj),b≠e->g.get? b=some o->((g.push N).update e f).get? b=some o:=fun N f b o hb q=>(Heap.get?_update_other _ _ (Ne.symm hb)).trans (Heap.get?_push_of_some _ q)
 have ne:∀ b o,s.heap.get? b=some o->(∀ vs,o.data≠.fields vs)->b≠e:=fun b o q z c=>by subst c;rw[he] at q;cases q;exact z vs hd
 have kg:base.StaysIn g:=fun b o q=>(same b fun hm=>by rw[(hl.mem hm).1] at q;cases q).trans (kb b o q)
 unfold EntryCells.newEntry newFields
 refine wpAny_bind (wpAny_newObj_type ?_ (hpl.sizeOk5 _ _ _ _ _))
 have d3:=Obj.data_mapFields hd (·.setIfInBounds 1 (Value.ref g.objs.size))
 have hTe:g.objs.size≠e:=Nat.ne_of_gt (Heap.lt_size ge)
 have at_e:∀ N:Obj,((g.push N).update e (Obj.mapFields (·.setIfInBounds 1 (Value.ref g.objs.size)))).get? e=some (oe.mapFields (·.setIfInBounds 1 (Value.ref g.objs.size))):=fun N=>Heap.get?_update_self _ (Heap.get?_push_of_some _ ge) (Obj.isFreed_of_fields d3)
 refine wpAny_setField (Heap.get?_push_of_some _ ge) hd hz (h _ ⟨fun b o q=>up _ _ b o (fun c=>by subst c;rw[hen] at q;cases q) (kg b o q),hl.of_keeps fun b o q z=>?_,?_,fun b o q z=>?_⟩ ⟨_,at_e _,zgh _ _⟩)
 ·obtain⟨sl,x⟩:=slots b o q
  exact⟨_,up _ _ b _ (ne b o q z) x,rfl⟩
 ·refine⟨_,_,g.objs.size,_,_,at_e _,⟨Obj.cls_mapFields _ _,?_⟩,d3,?_,kg.fresh,hTe,(Heap.get?_update_other _ _ (Ne.symm hTe)).trans (Heap.get?_push_size g rfl),rfl,?_⟩
  ·rw[Array.getElem?_setIfInBounds_ne (by decide)];exact h0
  ·simp [hz]
  ·first | (simp;done) | (rcases hpl with rfl | ⟨_,_,_,_,_,_,_,rfl⟩<;>simp)
 ·obtain⟨sl,x⟩:=slots b o q
  exact⟨sl,up _ _ b _ (ne b o q z) x⟩
theorem znr {oe:Obj}{vs:Array Value}(hfr:A.frames=some (env::outer))(hl:s.heap.FunFrames base (env::outer))(hf:env.frame=some L)(he:s.heap.get? e=some oe)(kb:base.StaysIn s.heap)(hen:base.get? e=none)(hd:oe.data=.fields vs)(h1:vs[1]?=some .none)(h0:vs[0]?=some a0)
  (h:∀ h',Heap.NotedW base (env::outer) e oe.cls a0 (rawInt L) s.heap h'->ziN h' e oe.dict->Q () { s with heap:=h' }):wpAny M A (noteFrame (.ref e) env) Q E s:=by
 unfold noteFrame
 simp only[hf]
 refine wpAny_bind (wpAny_field he hd h1 ?_)
 rw[if_neg (by decide)]
 exact zjI hfr hl hf he kb hen hd (Array.getElem?_eq_some_iff.mp h1).1 h0 h
theorem zlS (hfr:A.frames=some (env::outer))(hl:s.heap.FunFrames base (env::outer))(hf:env.frame=some L)(ht:s.heap.TracedW base e cls a0)(hc:ziN s.heap e dc)(kb:base.StaysIn s.heap)(hen:base.get? e=none)
  (h:∀ h',Heap.NotedW base (env::outer) e cls a0 (rawInt L) s.heap h'->ziN h' e dc->Q () { s with heap:=h' }):wpAny M A (noteFrame (.ref e) env) Q E s:=by
 obtain⟨oe,vs,T,oT,ts,he,⟨rfl,h0⟩,hd,h1,hnT,hTe,hT,dT,h3⟩:=ht
 obtain⟨o',q,rfl⟩:=hc
 rw[he] at q;cases q
 have oth:∀ (f:Obj->Obj) (b:Addr),b≠T->(s.heap.update T f).get? b=s.heap.get? b:=fun f b hb=>Heap.get?_update_other _ _ (Ne.symm hb)
 have ne:∀ b o,s.heap.get? b=some o->(∀ vs,o.data≠.fields vs)->b≠T:=fun b o q z c=>by subst c;rw[hT] at q;cases q;exact z ts dT
 unfold noteFrame
 simp only[hf]
 refine wpAny_bind (wpAny_field he hd h1 ?_)
 rw[if_pos (by simp)]
 refine wpAny_bind (wpAny_field hT dT h3 ?_)
 rw[if_neg (by simp [rawInt])]
 refine wpAny_bind (wpAny_setField hT dT (Array.getElem?_eq_some_iff.mp h3).1 ?_)
 refine zjI hfr (hl.of_keeps fun b o q z=>⟨o,(oth _ b (ne b o q z)).trans q,rfl⟩) hf ((oth _ e (Ne.symm hTe)).trans he) (fun b o q=>(oth _ b fun c=>by subst c;rw[hnT] at q;cases q).trans (kb b o q)) hen hd (Array.getElem?_eq_some_iff.mp h1).1 h0 fun h' ⟨x1,x2,x3,x4⟩ x5=>h h' ⟨x1,x2,x3,fun b o q z=>x4 b o ((oth _ b (ne b o q z)).trans q) z⟩ x5
theorem zeD (kb:base.StaysIn s.heap)(hl:s.heap.FunFrames base l)(ht:s.heap.TracedAtW base e cls a0 fl)(hc:ziN s.heap e dc)
  (h:∀ h',base.StaysIn h'->h'.FunFrames base l->h'.TracedW base e cls a0->(∀ b o,s.heap.get? b=some o->(∀ vs,o.data≠.fields vs)->h'.get? b=some o)->ziN h' e dc->Q () { s with heap:=h' }):wpAny M A (setFlight (.ref e) none) Q E s:=by
 obtain⟨oe,vs,T,oT,ts,he,hcl,hd,h1,hnT,hTe,hT,dT,h3⟩:=ht
 have z3:3 < ts.size:=(Array.getElem?_eq_some_iff.mp h3).1
 have oth:∀ (f:Obj->Obj) (b:Addr),b≠T->(s.heap.update T f).get? b=s.heap.get? b:=fun f b hb=>Heap.get?_update_other _ _ (Ne.symm hb)
 have ne:∀ b o,s.heap.get? b=some o->(∀ vs,o.data≠.fields vs)->b≠T:=fun b o q z c=>by subst c;rw[hT] at q;cases q;exact z ts dT
 unfold setFlight
 refine wpAny_bind (wpAny_field he hd h1 ?_)
 rw[if_pos (by simp)]
 obtain⟨o',q',rfl⟩:=hc
 refine wpAny_setField hT dT z3 (h _ (fun b o q=>(oth _ b fun c=>by subst c;rw[hnT] at q;cases q).trans (kb b o q)) (hl.of_keeps fun b o q z=>⟨o,(oth _ b (ne b o q z)).trans q,rfl⟩) ?_ (fun b o q z=>(oth _ b (ne b o q z)).trans q) ⟨o',(oth _ e (Ne.symm hTe)).trans q',rfl⟩)
 exact⟨oe,vs,T,_,_,(oth _ e (Ne.symm hTe)).trans he,hcl,hd,h1,hnT,hTe,Heap.get?_update_self _ hT (Obj.isFreed_of_fields (Obj.data_mapFields dT _)),Obj.data_mapFields dT _,by simp [z3]⟩
def zte (h:Heap)(e:Addr)(ox:Option Addr):Prop:=∃ dc,ziN h e dc/\(ox=none∨ox=dc)
theorem zky {oe:Obj}{vs:Array Value}(hfr:A.frames=some (env::outer))(hl:s.heap.FunFrames base (env::outer))(hf:env.frame=some L)(he:s.heap.get? e=some oe)(kb:base.StaysIn s.heap)(hen:base.get? e=none)(hd:oe.data=.fields vs)(h1:vs[1]?=some .none)(h0:vs[0]?=some a0)
  (h:∀ h',Heap.FlyingW base outer e oe.cls a0 h'->s.heap.UpToSlots h'->ziN h' e oe.dict->Q () { s with heap:=h' }):wpAny M A (leaving env (.ref e)) Q E s:=by
 unfold leaving
 refine wpAny_bind (znr hfr hl hf he kb hen hd h1 h0 fun g ⟨k1,k2,k3,k4⟩ dg=>?_)
 refine zeD (s:={ s with heap:=g }) k1 k2 k3 dg fun h' m1 ⟨_,_,m2⟩ m3 m4 dh=>h h' ⟨m1,hen,m2,m3⟩ (fun b o q z=>?_) dh
 obtain⟨sl,x⟩:=k4 b o q z
 exact⟨sl,m4 b _ x z⟩
theorem zlT (hfr:A.frames=some (env::outer))(hf:env.frame=some L)(hfl:Heap.FlyingW base (env::outer) e cls a0 s.heap)(hc:ziN s.heap e dc)
  (h:∀ h',Heap.FlyingW base outer e cls a0 h'->s.heap.UpToSlots h'->ziN h' e dc->Q () { s with heap:=h' }):wpAny M A (leaving env (.ref e)) Q E s:=by
 obtain⟨f1,f2,f3,f4⟩:=hfl
 unfold leaving
 refine wpAny_bind (zlS hfr f3 hf f4 hc f1 f2 fun g ⟨k1,k2,k3,k4⟩ dg=>?_)
 refine zeD (s:={ s with heap:=g }) k1 k2 k3 dg fun h' m1 ⟨_,_,m2⟩ m3 m4 dh=>h h' ⟨m1,f2,m2,m3⟩ (fun b o q z=>?_) dh
 obtain⟨sl,x⟩:=k4 b o q z
 exact⟨sl,m4 b _ x z⟩
theorem zns (hfr:A.frames=some (env::outer))(hf:env.frame=some L)(hfl:Heap.FlyingW base (env::outer) e cls a0 s.heap)(hc:ziN s.heap e dc)
  (h:∀ h',Heap.HeldW base (env::outer) e cls a0 L h'->s.heap.UpToSlots h'->ziN h' e dc->Q () { s with heap:=h' }):wpAny M A (noteFrame (.ref e) env) Q E s:=by
 obtain⟨f1,f2,f3,f4⟩:=hfl
 exact zlS hfr f3 hf f4 hc f1 f2 fun g ⟨k1,k2,k3,k4⟩ dg=>h g ⟨k1,f2,k2,k3⟩ k4 dg
theorem znt (hh:Heap.HeldW base l e cls a0 L s.heap)(hc:ziN s.heap e dc)(h:∀ h',Heap.FlyingW base l e cls a0 h'->s.heap.UpToSlots h'->ziN h' e dc->Q () { s with heap:=h' }):wpAny M A (setFlight (.ref e) none) Q E s:=by
 obtain⟨f1,f2,f3,f4⟩:=hh
 exact zeD f1 f3 f4 hc fun h' k1 k2 k3 k4 k5=>h h' ⟨k1,f2,k2,k3⟩ (fun b o q z=>⟨o.slots,k4 b o q z⟩) k5
theorem znu (hh:Heap.FlyingW base l e cls a0 s.heap)(hc:ziN s.heap e dc)(h:∀ h',Heap.FlyingW base l e cls a0 h'->s.heap.UpToSlots h'->ziN h' e dc->Q () { s with heap:=h' }):wpAny M A (setFlight (.ref e) none) Q E s:=by
 obtain⟨f1,f2,f3,f4⟩:=hh
 exact zeD f1 f3 f4.at hc fun h' k1 k2 k3 k4 k5=>h h' ⟨k1,f2,k2,k3⟩ (fun b o q z=>⟨o.slots,k4 b o q z⟩) k5
end
end DL
namespace L2
open PySem PySem.Spec PyProof.Rows
section
variable {κ:Type}[DecidableEq κ]
def zse (kvs:List (κ×V))(k:κ)(v:V):List (κ×V) :=
 if(kvs.any fun kv=>decide (kv.1=k))=true then kvs.map (fun kv=>if kv.1=k then(kv.1,v) else kv) else kvs++[(k,v)]
def zpl (kvs:List (κ×V))(k:κ):List (κ×V):=kvs.filter fun kv=>decide (kv.1≠k)
end
section
variable {P:Program}{w:World}{H:Hp}{h:Heap}{a:Addr}
end
section
variable {X:Cx}{pins:List (Addr×Obj)}{σ:St}{H:Hp}{s:Shared}{a:Addr}{y v:V}{u r:Value}{o:Option V}{A:Around}{E:Value->Shared->Prop}
end
section
variable {X:Cx}{pins:List (Addr×Obj)}{σ:St}{H:Hp}{s:Shared}{a:Addr}{kvs:List (Key×V)}{k:Key}{u:Value}{A:Around}{E:Value->Shared->Prop}
end
section
variable {X:Cx}{o i e value:Expr}{pos pos' tpos:Pos}{td ty tv:TE}
end
section
variable {X:Cx}{pos:Pos}
end
section
variable {X:Cx}{pins:List (Addr×Obj)}{σ:St}{H:Hp}{s:Shared}{a:Addr}{y d:V}{u r:Value}{o:Option V}{A:Around}{E:Value->Shared->Prop}
end
section
variable {X:Cx}{o e f:Expr}{apos cpos:Pos}{td ty tx:TE}
end
section
variable {X:Cx}{pins:List (Addr×Obj)}{σ:St}{H:Hp}{s:Shared}{a:Addr}{kvs:List (Key×V)}{A:Around}{E:Value->Shared->Prop}
end
section
variable {X:Cx}{pins:List (Addr×Obj)}{σ:St}{H:Hp}{s:Shared}{a:Addr}{y:V}{u:Value}{A:Around}{E:Value->Shared->Prop}
end
end L2
namespace DL
open PySem PySem.Spec PyProof.Rows L2
def nst:Expr->Bool
 | .Starred _ _=>false
 | _=>true
theorem zaw {e:Expr}{es:List Expr}{env:PySem.Env}(h:nst e=true):starEach (e::es) env=(false,eval e env)::starEach es env:=by
 cases e<;>first | (rw[starEach];intros;contradiction) | rw[starEach] | (cases h)
theorem zjr {e:Expr}{env:PySem.Env}(h:nst e=true):starEach [e] env=[(false,eval e env)]:=by
 rw[zaw h,starEach]
theorem zaY {env:PySem.Env}{pos:Pos}:∀ {es:List Expr},es.all nst=true->(backTo pos (starEach es env)).any (·.1)=false
 | [],_=>by rw[starEach];rfl
 | e::es,h=>by
  rw[List.all_cons,Bool.and_eq_true] at h
  rw[zaw h.1]
  have:=zaY (env:=env) (pos:=pos) h.2
  show(false||(backTo pos (starEach es env)).any (·.1))=false
  rw[this];rfl
theorem zeC {e:Expr}{env:PySem.Env}{pos:Pos}(h:nst e=true):((backTo pos (starEach [e] env)).all (fun x=>!x.1)&&(backToKw pos (keywordEach [] env)).all (fun x=>x.1.isSome)
  &&decide ([e].length+([]:List Keyword).length+(if([]:List Keyword).isEmpty then 0 else 1) < 30))=true:=by
 rw[zjr h,keywordEach];rfl
inductive Kd where
 | ins (c:Str) (ks:List Str) | dint (ks:List Int) | exf (c:Str) (ks:List Str)
inductive D where
 | non | bl (b:Bool) | int (i:Int) | str (x:Str) | tup (xs:List D) | lst (xs:List D) | dic (ks:List Str) (xs:List D) | exc (x:Str) | ob (k:Kd) (xs:List D)
structure ztU (K:W.Frag) (ks:List Str) (C:Addr):Prop where
 cls:Cls K C
 no:∀ f∈ks,zeN K C f
 gc:W.findIn K (.ref C) "__class__"=some (some (.builtin "object.__class__"))
 gn:W.specialIn K (.builtin "object.__class__") "__get__"=some (some (.builtin "getset_descriptor.__get__"))
 tk:W.takesIn K (.builtin "object.__class__")=some true
 mo:W.mroIn K C (.type "object")=some true
 bt:∀ T∈zdl,W.kitOne K (.ref C) (.type T)=some false
def zru (K:W.Frag)(H:Hp):Kd->Addr->List V->Prop
 | .ins c ks,a,vs=>∃ C dx,W.nsIn K mainGlobals c=some (some (.ref C))/\ztU K ks C/\H a=some (.ins C dx (ks.zip vs))/\ks.length=vs.length
 | .dint ks,a,vs=>∃ kvs,Rd H a (.dK kvs)/\kvs=(ks.map Sum.inl).zip vs/\ks.length=vs.length
 | .exf c ks,a,vs=>∃ C dx fs,XC K c C/\Rd H a (.ext (ExD a C (some dx)))/\H dx=some (.xd fs)/\ks.length=vs.length/\∀ (i:Nat) (f:Str) (v:V),ks[i]?=some f->vs[i]?=some v->fs.lookup f=some v
structure Exn where
 cls:Str
 flds:List (Str×D)
inductive Res (α:Type) where
 | ok (a:α) | exn (x:Exn) | stuck
def Res.bind {α β:Type}(r:Res α)(f:α->Res β):Res β:=match r with
 | .ok a=>f a
 | .exn x=>.exn x
 | .stuck=>.stuck
mutual
def Rep (K:W.Frag)(H:Hp):D->V->Prop
 | .non,v=>v=.non
 | .bl b,v=>v=.bl b
 | .int i,v=>v=.int i
 | .str x,v=>v=.str x
 | .tup ds,v=>∃ a vs,v=.ref a/\SqT K H a vs/\Reps K H ds vs
 | .lst ds,v=>∃ a vs,v=.ref a/\SqL K H a vs/\Reps K H ds vs
 | .dic ks ds,v=>∃ a kvs vs,v=.ref a/\Rd H a (.dK kvs)/\kvs=(ks.map Sum.inr).zip vs/\ks.length=vs.length/\Reps K H ds vs
 | .exc x,v=>∃ a C dc,v=.ref a/\XC K x C/\Rd H a (.ext (ExD a C dc))
 | .ob k ds,v=>∃ a vs,v=.ref a/\zru K H k a vs/\Reps K H ds vs
def Reps (K:W.Frag)(H:Hp):List D->List V->Prop
 | [],vs=>vs=[]
 | d::ds,vs=>∃ v r,vs=v::r/\Rep K H d v/\Reps K H ds r
end
theorem zaG.rd {H H':Hp}(e:zaG H H'){a:Addr}{o:HO}(h:Rd H a o):Rd H' a o:=by
 rcases h with h | ⟨o',h⟩
 ·exact .inl (e _ _ h)
 ·exact .inr ⟨o',e _ _ h⟩
theorem zaG.sqT {K:W.Frag}{H H':Hp}(e:zaG H H'){a:Addr}{xs:List V}(h:SqT K H a xs):SqT K H' a xs:=by
 rcases h with h | h
 ·exact .inl (zaG.rd e h)
 ·exact .inr h
theorem zaG.sqL {K:W.Frag}{H H':Hp}(e:zaG H H'){a:Addr}{xs:List V}(h:SqL K H a xs):SqL K H' a xs:=by
 rcases h with h | h
 ·exact .inl (zaG.rd e h)
 ·exact .inr h
theorem zru.mono {K:W.Frag}{H H':Hp}(e:zaG H H'):∀ {k:Kd}{a:Addr}{vs:List V},zru K H k a vs->zru K H' k a vs
 | .ins c ks,a,vs,⟨C,dx,h0,h1,h2,h3⟩=>⟨C,dx,h0,h1,e _ _ h2,h3⟩
 | .dint ks,a,vs,⟨kvs,h1,h2,h3⟩=>⟨kvs,zaG.rd e h1,h2,h3⟩
 | .exf c ks,a,vs,⟨C,dx,fs,h1,h2,h3,h4⟩=>⟨C,dx,fs,h1,zaG.rd e h2,e _ _ h3,h4⟩
mutual
theorem Rep.mono {K:W.Frag}{H H':Hp}(e:zaG H H'):∀ {d:D}{v:V},Rep K H d v->Rep K H' d v
 | .non,_,h=>by unfold Rep at h ⊢;exact h
 | .bl _,_,h=>by unfold Rep at h ⊢;exact h
 | .int _,_,h=>by unfold Rep at h ⊢;exact h
 | .str _,_,h=>by unfold Rep at h ⊢;exact h
 | .tup ds,_,h=>by
  unfold Rep at h ⊢
  obtain⟨a,vs,e1,e2,e3⟩:=h
  exact⟨a,vs,e1,zaG.sqT e e2,Reps.mono e e3⟩
 | .lst ds,_,h=>by
  unfold Rep at h ⊢
  obtain⟨a,vs,e1,e2,e3⟩:=h
  exact⟨a,vs,e1,zaG.sqL e e2,Reps.mono e e3⟩
 | .dic ks ds,_,h=>by
  unfold Rep at h ⊢
  obtain⟨a,kvs,vs,e1,e2,e3,e4,e5⟩:=h
  exact⟨a,kvs,vs,e1,zaG.rd e e2,e3,e4,Reps.mono e e5⟩
 | .exc x,_,h=>by
  unfold Rep at h ⊢
  obtain⟨a,C,dc,e1,e2,e3⟩:=h
  exact⟨a,C,dc,e1,e2,zaG.rd e e3⟩
 | .ob k ds,_,h=>by
  unfold Rep at h ⊢
  obtain⟨a,vs,e1,e2,e3⟩:=h
  exact⟨a,vs,e1,e2.mono e,Reps.mono e e3⟩
theorem Reps.mono {K:W.Frag}{H H':Hp}(e:zaG H H'):∀ {ds:List D}{vs:List V},Reps K H ds vs->Reps K H' ds vs
 | [],_,h=>by unfold Reps at h ⊢;exact h
 | d::ds,_,h=>by
  unfold Reps at h ⊢
  obtain⟨v,r,e1,e2,e3⟩:=h
  exact⟨v,r,e1,Rep.mono e e2,Reps.mono e e3⟩
end
section
variable {K:W.Frag}{H:Hp}{v:V}{vs:List V}{d:D}{ds:List D}
theorem Rep.non_iff:Rep K H .non v↔v=.non:=by unfold Rep;exact Iff.rfl
theorem Rep.bl_iff {b}:Rep K H (.bl b) v↔v=.bl b:=by unfold Rep;exact Iff.rfl
theorem Rep.int_iff {i}:Rep K H (.int i) v↔v=.int i:=by unfold Rep;exact Iff.rfl
theorem Rep.str_iff {x}:Rep K H (.str x) v↔v=.str x:=by unfold Rep;exact Iff.rfl
theorem Rep.tup_iff:Rep K H (.tup ds) v↔∃ a vs,v=.ref a/\SqT K H a vs/\Reps K H ds vs:=by rw[Rep]
theorem Rep.lst_iff:Rep K H (.lst ds) v↔∃ a vs,v=.ref a/\SqL K H a vs/\Reps K H ds vs:=by rw[Rep]
theorem Rep.exc_iff {x}:Rep K H (.exc x) v↔∃ a C dc,v=.ref a/\XC K x C/\Rd H a (.ext (ExD a C dc)):=by rw[Rep]
theorem Rep.ob_iff {k}:Rep K H (.ob k ds) v↔∃ a vs,v=.ref a/\zru K H k a vs/\Reps K H ds vs:=by rw[Rep]
theorem Rep.exf_exc {c:Str}{ks:List Str}(h:Rep K H (.ob (.exf c ks) ds) v):Rep K H (.exc c) v:=by
 obtain⟨a,vs,e,⟨C,dx,fs,h1,h2,_⟩,_⟩:=Rep.ob_iff.mp h
 exact Rep.exc_iff.mpr ⟨a,C,some dx,e,h1,h2⟩
theorem Reps.nil_iff:Reps K H [] vs↔vs=[]:=by unfold Reps;exact Iff.rfl
theorem Reps.cons_iff:Reps K H (d::ds) vs↔∃ v r,vs=v::r/\Rep K H d v/\Reps K H ds r:=by rw[Reps]
theorem Reps.nil:Reps K H [] []:=Reps.nil_iff.mpr rfl
theorem Reps.cons (h:Rep K H d v)(h':Reps K H ds vs):Reps K H (d::ds) (v::vs):=Reps.cons_iff.mpr ⟨_,_,rfl,h,h'⟩
end
theorem Reps.length {K:W.Frag}{H:Hp}:∀ {ds:List D}{vs:List V},Reps K H ds vs->ds.length=vs.length
 | [],_,h=>by rw[Reps.nil_iff.mp h];rfl
 | d::ds,_,h=>by
  obtain⟨v,r,rfl,_,h⟩:=Reps.cons_iff.mp h
  simp [Reps.length h]
theorem Reps.get {K:W.Frag}{H:Hp}:∀ {ds:List D}{vs:List V}{i:Nat}{d:D},Reps K H ds vs->ds[i]?=some d->∃ v,vs[i]?=some v/\Rep K H d v
 | [],_,_,_,h,e=>by simp at e
 | x::ds,_,0,d,h,e=>by
  obtain⟨v,r,rfl,h1,_⟩:=Reps.cons_iff.mp h
  simp at e;subst e;exact⟨v,rfl,h1⟩
 | x::ds,_,i+1,d,h,e=>by
  obtain⟨v,r,rfl,_,h2⟩:=Reps.cons_iff.mp h
  obtain⟨u,e1,e2⟩:=Reps.get (i:=i) h2 (by simpa using e)
  exact⟨u,by simpa using e1,e2⟩
theorem Reps.app {K:W.Frag}{H:Hp}:∀ {ds es:List D}{vs us:List V},Reps K H ds vs->Reps K H es us->Reps K H (ds++es) (vs++us)
 | [],_,_,_,h,h'=>by rw[Reps.nil_iff.mp h];exact h'
 | d::ds,_,_,_,h,h'=>by
  obtain⟨v,r,rfl,h1,h2⟩:=Reps.cons_iff.mp h
  exact Reps.cons h1 (Reps.app h2 h')
theorem Reps.take {K:W.Frag}{H:Hp}:∀ {ds:List D}{vs:List V}(n:Nat),Reps K H ds vs->Reps K H (ds.take n) (vs.take n)
 | _,_,0,_=>by simp;exact Reps.nil
 | [],_,n+1,h=>by rw[Reps.nil_iff.mp h];exact Reps.nil
 | d::ds,_,n+1,h=>by
  obtain⟨v,r,rfl,h1,h2⟩:=Reps.cons_iff.mp h
  exact Reps.cons h1 (Reps.take n h2)
theorem Reps.drop {K:W.Frag}{H:Hp}:∀ {ds:List D}{vs:List V}(n:Nat),Reps K H ds vs->Reps K H (ds.drop n) (vs.drop n)
 | _,_,0,h=>by simpa using h
 | [],_,n+1,h=>by rw[Reps.nil_iff.mp h];exact Reps.nil
 | d::ds,_,n+1,h=>by
  obtain⟨v,r,rfl,h1,h2⟩:=Reps.cons_iff.mp h
  exact Reps.drop n h2
theorem Reps.ints {K:W.Frag}{H:Hp}:∀ (ns:List Int),Reps K H (ns.map D.int) (ns.map V.int)
 | []=>Reps.nil
 | n::r=>Reps.cons (Rep.int_iff.mpr rfl) (Reps.ints r)
structure zbh (H H₀ H' H₀':Hp):Prop where
 s:zaG H H'
 z:zaG H₀ H₀'
 sub:zaG H₀' H'
 nw:∀ a,H₀' a≠none->H₀ a=none->H a=none
theorem zbh.refl {H H₀:Hp}(h:zaG H₀ H):zbh H H₀ H H₀:=⟨zaG.refl _,zaG.refl _,h,fun a h1 h2=>absurd h2 h1⟩
theorem zbh.trans {H H₀ H1 H01 H2 H02:Hp}(a:zbh H H₀ H1 H01)(b:zbh H1 H01 H2 H02):zbh H H₀ H2 H02 :=
 ⟨a.s.trans b.s,a.z.trans b.z,b.sub,fun x h1 h2=>by
  cases q:H01 x with
  | none=>exact a.s.free (b.nw x h1 q)
  | some o=>exact a.nw x (by rw[q];simp) h2⟩
theorem zbh.alloc {H H₀:Hp}{p:Addr}{o:HO}(hs:zaG H₀ H)(hp:H p=none):zbh H H₀ (upd H p o) (upd H₀ p o) :=
 ⟨same_new hp o,same_new (hs.free hp) o,fun b u e=>by
  by_cases hb:b=p
  ·subst hb;rw[zap] at e ⊢;exact e
  ·rw[zao hb] at e ⊢;exact hs _ _ e,fun a h1 h2=>by
  by_cases hb:a=p
  ·subst hb;exact hp
  ·rw[zao hb] at h1;exact absurd h2 h1⟩
where
 same_new {H:Hp}{p:Addr}(h:H p=none) (o:HO):zaG H (upd H p o):=fun b u q=>by rw[zao (zaD q h)];exact q
inductive Sl where
 | no | sh (d:D) | ow (d:D) | ox (j:Nat) (ds:List D)
abbrev Ev:=List Sl
def zdN (K:W.Frag)(H₀:Hp)(σ:L2.St)(ρ:Ev):Prop:=∀ (i:Nat) (d:D),ρ[i]?=some (.sh d)->∃ v,σ[i]?=some (some v)/\Rep K H₀ d v
theorem zdN.mono {K:W.Frag}{H H':Hp}{σ:L2.St}{ρ:Ev}(e:zaG H H')(r:zdN K H σ ρ):zdN K H' σ ρ:=fun i d h =>
 let ⟨v,h1,h2⟩:=r i d h
 ⟨v,h1,h2.mono e⟩
def ExR (K:W.Frag)(H:Hp)(x:Exn)(C:Value)(ox:Option Addr):Prop :=
 (∃ c,C=.ref c/\XC K x.cls c)/\match ox with
  | none=>x.flds=[]
  | some a=>∃ fs,H a=some (.xd fs)/\∀ n d,x.flds.lookup n=some d->∃ v,fs.lookup n=some v/\Rep K H d v
def post (K:W.Frag)(E:XK)(H H₀:Hp)(r:Res D)(Q:VK):Prop:=match r with
 | .ok d=>∀ v H' H₀',zbh H H₀ H' H₀'->Rep K H₀' d v->Q v H'
 | .exn x=>∀ C ox H' H₀',zbh H H₀ H' H₀'->ExR K H₀' x C ox->E C ox H'
 | .stuck=>False
def ziX (K:W.Frag)(E:XK)(H H₀:Hp)(r:Res (List D))(Q:List V->Hp->Prop):Prop:=match r with
 | .ok ds=>∀ vs H' H₀',zbh H H₀ H' H₀'->Reps K H₀' ds vs->Q vs H'
 | .exn x=>∀ C ox H' H₀',zbh H H₀ H' H₀'->ExR K H₀' x C ox->E C ox H'
 | .stuck=>False
def ziY (K:W.Frag)(E:XK)(H H₀:Hp)(r:Res D)(Q:Bool->Hp->Prop):Prop:=match r with
 | .ok (.bl b)=>∀ H' H₀',zbh H H₀ H' H₀'->Q b H'
 | .ok _=>False
 | .exn x=>∀ C ox H' H₀',zbh H H₀ H' H₀'->ExR K H₀' x C ox->E C ox H'
 | .stuck=>False
section
variable {K:W.Frag}{E:XK}{H H₀ H1 H01:Hp}
theorem post.grow {r:Res D}{Q:VK}(h:post K E H H₀ r Q)(g:zbh H H₀ H1 H01):post K E H1 H01 r Q:=by
 cases r with
 | ok d=>exact fun v H' H₀' g'=>h v H' H₀' (g.trans g')
 | exn x=>exact fun C ox H' H₀' g'=>h C ox H' H₀' (g.trans g')
 | stuck=>exact h
theorem ziX.grow {r:Res (List D)}{Q:List V->Hp->Prop}(h:ziX K E H H₀ r Q)(g:zbh H H₀ H1 H01):ziX K E H1 H01 r Q:=by
 cases r with
 | ok d=>exact fun v H' H₀' g'=>h v H' H₀' (g.trans g')
 | exn x=>exact fun C ox H' H₀' g'=>h C ox H' H₀' (g.trans g')
 | stuck=>exact h
theorem ziY.grow {r:Res D}{Q:Bool->Hp->Prop}(h:ziY K E H H₀ r Q)(g:zbh H H₀ H1 H01):ziY K E H1 H01 r Q:=by
 cases r with
 | ok d =>
  cases d with
  | bl b=>exact fun H' H₀' g'=>h H' H₀' (g.trans g')
  | _=>exact h
 | exn x=>exact fun C ox H' H₀' g'=>h C ox H' H₀' (g.trans g')
 | stuck=>exact h
end
def tD (K:W.Frag)(E:XK)(f:Ev->Res D):TE:=fun σ H Q=>∃ H₀ ρ,zaG H₀ H/\zdN K H₀ σ ρ/\post K E H H₀ (f ρ) Q
def tDA (K:W.Frag)(E:XK)(f:Ev->Res (List D)):TA:=fun σ H Q=>∃ H₀ ρ,zaG H₀ H/\zdN K H₀ σ ρ/\ziX K E H H₀ (f ρ) Q
def tDT (K:W.Frag)(E:XK)(f:Ev->Res D):TT:=fun σ H Q=>∃ H₀ ρ,zaG H₀ H/\zdN K H₀ σ ρ/\ziY K E H H₀ (f ρ) Q
structure DE (X:Cx) (E:XK) (e:Expr) (f:Ev->Res D):Prop where
 o:PE X e (tD X.K E f)
structure DA (X:Cx) (E:XK) (es:List Expr) (f:Ev->Res (List D)):Prop where
 o:PA X es (tDA X.K E f)
structure DT (X:Cx) (E:XK) (e:Expr) (f:Ev->Res D):Prop where
 o:PT X e (tDT X.K E f)
structure DW (X:Cx) (E:XK) (e:Expr) (f:Ev->Res D):Prop where
 o:PW X e (tDT X.K E f)
section
variable {X:Cx}{E:XK}{e a b:Expr}{es:List Expr}{f g:Ev->Res D}{fa:Ev->Res (List D)}{pos:Pos}
theorem zaP {t t':TE}(h:PE X e t)(w:∀ σ H Q,t' σ H Q->t σ H Q):PE X e t':=fun pins s σ H Q I q=>h pins s σ H Q I (w σ H Q q)
theorem zlq {t t':TA}(h:PA X es t)(w:∀ σ H Q,t' σ H Q->t σ H Q):PA X es t':=fun pos pins s σ H Q I q=>h pos pins s σ H Q I (w σ H Q q)
theorem zgZ {t t':TT}(h:PT X e t)(w:∀ σ H Q,t' σ H Q->t σ H Q):PT X e t':=fun pins s σ H Q I q=>h pins s σ H Q I (w σ H Q q)
theorem zlb {t t':TT}(h:PW X e t)(w:∀ σ H Q,t' σ H Q->t σ H Q):PW X e t':=fun wh pins s σ H Q I q=>h wh pins s σ H Q I (w σ H Q q)
def zaf (i:Nat):Ev->Res D:=fun ρ=>match ρ[i]? with
 | some (.sh d)=>.ok d
 | _=>.stuck
def dC (d:D):Ev->Res D:=fun _=>.ok d
theorem zrg {i:Nat}{x:Str}(hN:X.N[i]?=some x)(hv:Vis X.env.scope x)(hd:(x==("__debug__" : Str))=false:=by decide)(hcd:(x==("__classdict__" : Str))=false:=by decide):DE X E (.Name x pos) (zaf i):=by
 refine⟨?_⟩
 refine zaP (zh8 hN hv hd hcd) fun σ H Q ⟨H₀,ρ,hs,hr,q⟩=>?_
 unfold zaf at q
 cases e:ρ[i]? with
 | none=>rw[e] at q;exact q.elim
 | some s =>
  rw[e] at q
  cases s with
  | sh d =>
   obtain⟨v,e1,e2⟩:=hr i d e
   exact⟨v,e1,q v H H₀ (zbh.refl hs) e2⟩
  | no=>exact q.elim
  | ow d=>exact q.elim
  | ox j ds=>exact q.elim
theorem zae {i j}:DE X E (.Constant (.int i) j pos) (dC (.int i)):=⟨zaP zqw fun σ H Q ⟨H₀,ρ,hs,hr,q⟩=>q _ H H₀ (zbh.refl hs) (Rep.int_iff.mpr rfl)⟩
theorem ze0 {i j}:DE X E (.Constant (.bool i) j pos) (dC (.bl i)):=⟨zaP zsm fun σ H Q ⟨H₀,ρ,hs,hr,q⟩=>q _ H H₀ (zbh.refl hs) (Rep.bl_iff.mpr rfl)⟩
theorem zgH {j}:DE X E (.Constant .none j pos) (dC .non):=⟨zaP zqv fun σ H Q ⟨H₀,ρ,hs,hr,q⟩=>q _ H H₀ (zbh.refl hs) (Rep.non_iff.mpr rfl)⟩
theorem zaF {x j}:DE X E (.Constant (.str x) j pos) (dC (.str x)):=⟨zaP zqs fun σ H Q ⟨H₀,ρ,hs,hr,q⟩=>q _ H H₀ (zbh.refl hs) (Rep.str_iff.mpr rfl)⟩
theorem zpq {x:Str}{v:V}{u:Value}{d:D}(hg:Gl X x)(hm:X.mg x=some u)(r:zbB v u)(hr:∀ H,Rep X.K H d v)(hd:(x==("__debug__" : Str))=false:=by decide):DE X E (.Name x pos) (dC d) :=
 ⟨zaP (zln hg hm r hd) fun σ H Q ⟨H₀,ρ,hs,hr',q⟩=>q _ H H₀ (zbh.refl hs) (hr H₀)⟩
def zac (f g:Ev->Res D)(op:D->D->Res D):Ev->Res D:=fun ρ=>(f ρ).bind fun x=>(g ρ).bind fun y=>op x y
def zbr (f:Ev->Res D)(op:D->Res D):Ev->Res D:=fun ρ=>(f ρ).bind op
def OpD (K:W.Frag)(E:XK)(r:R2)(op:D->D->Res D):Prop:=∀ (x y:D) (v u:V) (H H₀:Hp) (Q:VK),zaG H₀ H->Rep K H₀ x v->Rep K H₀ y u->post K E H H₀ (op x y) Q->r v u H Q
theorem zeo {r:R2}{op:D->D->Res D}(ho:OpD X.K E r op)(σ:L2.St)(H:Hp)(Q:VK)(h:tD X.K E (zac f g op) σ H Q):tOp r (tD X.K E f) (tD X.K E g) σ H Q:=by
 obtain⟨H₀,ρ,hs,hr,q⟩:=h
 refine⟨H₀,ρ,hs,hr,?_⟩
 unfold zac at q
 cases e1:f ρ with
 | stuck=>rw[e1] at q;exact q
 | exn x=>rw[e1] at q;exact q
 | ok x =>
  rw[e1] at q
  intro v H1 H01 g1 r1
  refine⟨H01,ρ,g1.sub,hr.mono g1.z,?_⟩
  replace q:post X.K E H H₀ ((g ρ).bind fun y=>op x y) Q:=q
  replace q:=q.grow g1
  cases e2:g ρ with
  | stuck=>rw[e2] at q;exact q
  | exn x=>rw[e2] at q;exact q
  | ok y =>
   rw[e2] at q
   intro u H2 H02 g2 r2
   exact ho x y v u H2 H02 Q g2.sub (r1.mono g2.z) r2 (post.grow (r:=op x y) q g2)
theorem zi9 {op:Operator}{r:R2}{o:D->D->Res D}(h:OpR X (binaryOp op) r)(ho:OpD X.K E r o)(ha:DE X E a f)(hb:DE X E b g):DE X E (.BinOp a op b pos) (zac f g o) :=
 ⟨zaP (zsk h ha.o hb.o) (zeo ho)⟩
theorem zgJ {op:CmpOp}{r:R2}{o:D->D->Res D}(h:OpR X (compareOp op) r)(ho:OpD X.K E r o)(ha:DE X E a f)(hb:DE X E b g)(hm:behindInMarks op b=false):DE X E (.Compare a [op] [b] pos) (zac f g o) :=
 ⟨zaP (zoN h ha.o hb.o hm) (zeo ho)⟩
theorem zsI {r:R2}{o:D->D->Res D}(h:IxR X r)(ho:OpD X.K E r o)(ha:DE X E a f)(hb:DE X E b g)(hs:zjm b):DE X E (.Subscript a b pos) (zac f g o) :=
 ⟨zaP (zsl h ha.o hb.o hs) (zeo ho)⟩
def UnD (K:W.Frag)(E:XK)(r:V->Hp->VK->Prop)(op:D->Res D):Prop:=∀ (x:D) (v:V) (H H₀:Hp) (Q:VK),zaG H₀ H->Rep K H₀ x v->post K E H H₀ (op x) Q->r v H Q
theorem zsH {op:UnaryOp}{r:V->Hp->VK->Prop}{o:D->Res D}(h:UnR X (unaryOp op) r)(ho:UnD X.K E r o)(ha:DE X E a f):DE X E (.UnaryOp op a pos) (zbr f o):=by
 refine⟨?_⟩
 refine zaP (zsj h ha.o) fun σ H Q ⟨H₀,ρ,hs,hr,q⟩=>⟨H₀,ρ,hs,hr,?_⟩
 unfold zbr at q
 cases e1:f ρ with
 | stuck=>rw[e1] at q;exact q
 | exn x=>rw[e1] at q;exact q
 | ok x =>
  rw[e1] at q
  intro v H1 H01 g1 r1
  exact ho x v H1 H01 Q g1.sub r1 (post.grow (r:=o x) q g1)
def zaH:Ev->Res (List D):=fun _=>.ok []
def zad (f:Ev->Res D)(fa:Ev->Res (List D)):Ev->Res (List D):=fun ρ=>(f ρ).bind fun x=>(fa ρ).bind fun xs=>.ok (x::xs)
theorem zai:DA X E [] zaH:=⟨zlq zfJ fun σ H Q ⟨H₀,ρ,hs,hr,q⟩=>q [] H H₀ (zbh.refl hs) Reps.nil⟩
theorem zab (ha:DE X E e f)(hr:DA X E es fa)(hs:starEach (e::es) X.env=(false,eval e X.env)::starEach es X.env:=by exact zaw rfl):DA X E (e::es) (zad f fa):=by
 refine⟨?_⟩
 refine zlq (zc0 ha.o hr.o hs) fun σ H Q ⟨H₀,ρ,hs,hr,q⟩=>⟨H₀,ρ,hs,hr,?_⟩
 unfold zad at q
 cases e1:f ρ with
 | stuck=>rw[e1] at q;exact q
 | exn x=>rw[e1] at q;exact q
 | ok x =>
  rw[e1] at q
  intro v H1 H01 g1 r1
  refine⟨H01,ρ,g1.sub,hr.mono g1.z,?_⟩
  replace q:ziX X.K E H H₀ ((fa ρ).bind fun xs=>.ok (x::xs)) Q:=q
  replace q:=q.grow g1
  cases e2:fa ρ with
  | stuck=>rw[e2] at q;exact q
  | exn x=>rw[e2] at q;exact q
  | ok xs =>
   rw[e2] at q
   intro us H2 H02 g2 r2
   exact q (v::us) H2 H02 g2 (Reps.cons (r1.mono g2.z) r2)
def line:Nat:=1000000
theorem zcq {n:Nat}(h:n<=line):n<=sizeLine:=Nat.le_trans h (by decide)
def zak (fa:Ev->Res (List D))(m:List D->Res D):Ev->Res D:=fun ρ=>(fa ρ).bind m
def zkp:List D->Res D:=fun ds=>if ds.length<=line then .ok (.tup ds) else .stuck
def zg9:List D->Res D:=fun ds=>if ds.length<=line then .ok (.lst ds) else .stuck
theorem zeK {m:List D->Res D}{r:List V->Hp->VK->Prop}(ho:∀ (ds:List D) (vs:List V) (H H₀:Hp) (Q:VK),zaG H₀ H->Reps X.K H₀ ds vs->post X.K E H H₀ (m ds) Q->r vs H Q)
  (σ:L2.St)(H:Hp)(Q:VK)(h:tD X.K E (zak fa m) σ H Q):tDA X.K E fa σ H fun vs H1=>r vs H1 Q:=by
 obtain⟨H₀,ρ,hs,hr,q⟩:=h
 refine⟨H₀,ρ,hs,hr,?_⟩
 unfold zak at q
 cases e1:fa ρ with
 | stuck=>rw[e1] at q;exact q
 | exn x=>rw[e1] at q;exact q
 | ok x =>
  rw[e1] at q
  intro v H1 H01 g1 r1
  exact ho x v H1 H01 Q g1.sub r1 (post.grow (r:=m x) q g1)
theorem zfi {x1}(h:DA X E es fa):DE X E (.Tuple es x1 pos) (zak fa zkp):=by
 refine⟨?_⟩
 refine zaP (zqr h.o) (zeK (r:=fun xs H1 Q=>xs.length<=sizeLine/\∀ p,H1 p=none->Q (.ref p) (upd H1 p (.tup xs))) fun ds vs H H₀ Q hs hr q=>?_)
 unfold zkp at q
 by_cases hl:ds.length<=line
 ·rw[if_pos hl] at q
  refine⟨by rw[← hr.length];exact zcq hl,fun p hp=>q _ _ _ (zbh.alloc hs hp) (Rep.tup_iff.mpr ⟨p,vs,rfl,SqT.of zap,hr.mono (zbh.alloc hs hp).z⟩)⟩
 ·rw[if_neg hl] at q;exact q.elim
theorem zec (h:DA X E es fa):DE X E (.List es pos) (zak fa zg9):=by
 refine⟨?_⟩
 refine zaP (znY h.o) (zeK (r:=fun xs H1 Q=>xs.length<=sizeLine/\∀ p,H1 p=none->Q (.ref p) (upd H1 p (.lst xs))) fun ds vs H H₀ Q hs hr q=>?_)
 unfold zg9 at q
 by_cases hl:ds.length<=line
 ·rw[if_pos hl] at q
  refine⟨by rw[← hr.length];exact zcq hl,fun p hp=>q _ _ _ (zbh.alloc hs hp) (Rep.lst_iff.mpr ⟨p,vs,rfl,SqL.of zap,hr.mono (zbh.alloc hs hp).z⟩)⟩
 ·rw[if_neg hl] at q;exact q.elim
def spD (K:W.Frag)(n:Nat)(m:List D->Res D):Sp:=fun vs H Q E=>vs.length=n/\∃ H₀ ds,zaG H₀ H/\Reps K H₀ ds vs/\post K E H H₀ (m ds) Q
theorem zaB {CX:CXT}{k n:Nat}{fn:Addr}{fd:FuncData}{ps:List Str}{m:List D->Res D}{x:Str}{p:Pos}(F:FnOk X.prog X.w X.K X.mg X.base CX k fn fd ps (spD X.K n m))(hr:zel k X.A)(hg:Gl X x)(hm:X.mg x=some (.ref fn))
  (hk:W.keepIn X.K (.ref fn)=true)(hb:zbE X.K fd ps [])(hx:zgM CX X E)(ha:DA X E (e::es) fa)(hn:(e::es).length=n:=by rfl)(hl:∀ ρ ds,fa ρ=.ok ds->ds.length=(e::es).length)
  (hdb:(x==("__debug__" : Str))=false:=by decide)(he:starEach (e::es) X.env=(false,eval e X.env)::starEach es X.env:=by exact zaw rfl)(hpl:(backTo pos (starEach es X.env)).any (·.1)=false:=by exact zaY rfl) :
  DE X E (.Call (.Name x p) (e::es) [] pos) (zak fa m):=by
 refine⟨?_⟩
 refine zaP (zoO F hr hg hm hk hb .nil hx ha.o hdb he hpl) fun σ H Q h=>?_
 obtain⟨H₀,ρ,hs,hr,q⟩:=h
 refine⟨H₀,ρ,hs,hr,?_⟩
 unfold zak at q
 cases e1:fa ρ with
 | stuck=>rw[e1] at q;exact q
 | exn x=>rw[e1] at q;exact q
 | ok ds =>
  rw[e1] at q
  intro v H1 H01 g1 r1
  refine⟨?_,H01,ds,g1.sub,by simpa using r1,post.grow (r:=m ds) q g1⟩
  have:=r1.length
  have:=hl ρ ds e1
  simp only[List.append_nil]
  omega
theorem zau {ρ:Ev}{ds:List D}(h:zaH ρ=.ok ds):ds.length=0:=by cases h;rfl
theorem zah {ρ:Ev}{ds:List D}{n:Nat}(hr:∀ es,fa ρ=.ok es->es.length=n)(h:zad f fa ρ=.ok ds):ds.length=n+1:=by
 unfold zad at h
 cases e1:f ρ with
 | stuck=>rw[e1] at h;cases h
 | exn x=>rw[e1] at h;cases h
 | ok x =>
  rw[e1] at h
  replace h:((fa ρ).bind fun xs=>Res.ok (x::xs))=.ok ds:=h
  cases e2:fa ρ with
  | stuck=>rw[e2] at h;cases h
  | exn x=>rw[e2] at h;cases h
  | ok xs =>
   rw[e2] at h
   cases h
   simp [hr xs e2]
def zgk (X:Cx)(E:XK)(r:List V->Hp->VK->Prop)(m:List D->Res D):Prop:=∀ (ds:List D) (vs:List V) (H H₀:Hp) (Q:VK),zaG H₀ H->Reps X.K H₀ ds vs->post X.K E H H₀ (m ds) Q->r vs H Q
theorem zby {id:String}{r:List V->Hp->VK->Prop}{m:List D->Res D}{x:Str}{p:Pos}(hc:zfs X (.builtin id) r)(hd:zgk X E r m)(hg:Gl X x)(hm:X.mg x=none)(hv:bootBuiltins x=some (.builtin id))(ha:DA X E (e::es) fa)(hn:x≠"__name__":=by decide)(hdb:(x==("__debug__" : Str))=false:=by decide)
  (he:starEach (e::es) X.env=(false,eval e X.env)::starEach es X.env:=by exact zaw rfl)(hpl:(backTo pos (starEach es X.env)).any (·.1)=false:=by exact zaY rfl):DE X E (.Call (.Name x p) (e::es) [] pos) (zak fa m) :=
 ⟨zaP (zg1 hc hg hm hv ha.o hn hdb he hpl) (zeK hd)⟩
theorem znx (h:PT X e (tB (tD X.K E f))):DT X E e f:=by
 refine⟨?_⟩
 refine zgZ h fun σ H Q ⟨H₀,ρ,hs,hr,q⟩=>⟨H₀,ρ,hs,hr,?_⟩
 cases e1:f ρ with
 | stuck=>rw[e1] at q;exact q
 | exn x=>rw[e1] at q;exact q
 | ok d =>
  rw[e1] at q
  intro v H1 H01 g1 r1
  cases d with
  | bl b=>rw[Rep.bl_iff.mp r1];exact⟨b,rfl,q H1 H01 g1⟩
  | _=>exact q.elim
theorem zbS (h:DE X E e f)(he:∀ whole,isTrue e X.env whole=(do let v ← whole;standAt e.pos;holding [v] (truthy v)):=by intro _;rfl):DT X E e f:=znx (zqj h.o he)
theorem zaZ {op:CmpOp}{r:R2}{o:D->D->Res D}(h:OpR X (compareOp op) r)(ho:OpD X.K E r o)(ha:DE X E a f)(hb:DE X E b g)(hm:behindInMarks op b=false):DT X E (.Compare a [op] [b] pos) (zac f g o):=by
 refine⟨?_⟩
 refine zgZ (zoF h ha.o hb.o hm) fun σ H Q h=>?_
 have w:tD X.K E (zac f g o) σ H fun x H'=>∃ k,x=.bl k/\Q k H':=by
  obtain⟨H₀,ρ,hs,hr,q⟩:=h
  refine⟨H₀,ρ,hs,hr,?_⟩
  cases e1:zac f g o ρ with
  | stuck=>rw[e1] at q;exact q
  | exn x=>rw[e1] at q;exact q
  | ok d =>
   rw[e1] at q
   intro v H1 H01 g1 r1
   cases d with
   | bl b=>rw[Rep.bl_iff.mp r1];exact⟨b,rfl,q H1 H01 g1⟩
   | _=>exact q.elim
 exact zeo ho σ H _ w
def zem (f:Ev->Res D):Ev->Res D:=zbr f fun x=>match x with
 | .bl b=>.ok (.bl (!b))
 | _=>.stuck
def zhk (f g:Ev->Res D):Ev->Res D:=fun ρ=>(f ρ).bind fun x=>match x with
 | .bl true=>g ρ
 | .bl false=>.ok (.bl false)
 | _=>.stuck
def dOr (f g:Ev->Res D):Ev->Res D:=fun ρ=>(f ρ).bind fun x=>match x with
 | .bl true=>.ok (.bl true)
 | .bl false=>g ρ
 | _=>.stuck
theorem zcs (ha:DT X E a f):DT X E (.UnaryOp .Not a pos) (zem f):=by
 refine⟨?_⟩
 refine zgZ (zqk ha.o) fun σ H Q ⟨H₀,ρ,hs,hr,q⟩=>⟨H₀,ρ,hs,hr,?_⟩
 unfold zem zbr at q
 cases e1:f ρ with
 | stuck=>rw[e1] at q;exact q
 | exn x=>rw[e1] at q;exact q
 | ok d =>
  rw[e1] at q
  cases d with
  | bl b=>exact q
  | _=>exact q.elim
theorem zn9 (ha:DE X E a f):DE X E (.UnaryOp .Not a pos) (zem f):=by
 refine⟨?_⟩
 refine zaP (zqu ha.o) fun σ H Q ⟨H₀,ρ,hs,hr,q⟩=>⟨H₀,ρ,hs,hr,?_⟩
 unfold zem zbr at q
 cases e1:f ρ with
 | stuck=>rw[e1] at q;exact q
 | exn x=>rw[e1] at q;exact q
 | ok d =>
  rw[e1] at q
  intro v H1 H01 g1 r1
  cases d with
  | bl b=>rw[Rep.bl_iff.mp r1];exact⟨b,rfl,q (.bl !b) H1 H01 g1 (Rep.bl_iff.mpr rfl)⟩
  | _=>exact q.elim
variable {rest:List Expr}
theorem zgD (ha:DT X E a f):DW X E (.BoolOp .And [a] pos) f:=⟨zoE ha.o⟩
theorem zbp (ha:DT X E a f):DW X E (.BoolOp .Or [a] pos) f:=⟨zqf ha.o⟩
theorem zn4 (ha:DT X E a f)(hb:DW X E (.BoolOp .And (b::rest) pos) g):DW X E (.BoolOp .And (a::b::rest) pos) (zhk f g):=by
 refine⟨?_⟩
 refine zlb (zqg ha.o hb.o) fun σ H Q ⟨H₀,ρ,hs,hr,q⟩=>⟨H₀,ρ,hs,hr,?_⟩
 unfold zhk at q
 cases e1:f ρ with
 | stuck=>rw[e1] at q;exact q
 | exn x=>rw[e1] at q;exact q
 | ok d =>
  rw[e1] at q
  cases d with
  | bl b =>
   cases b with
   | true=>exact fun H1 H01 g1=>⟨H01,ρ,g1.sub,hr.mono g1.z,ziY.grow (r:=g ρ) q g1⟩
   | false=>exact fun H1 H01 g1=>q H1 H01 g1
  | _=>exact q.elim
theorem zeg (ha:DT X E a f)(hb:DW X E (.BoolOp .Or (b::rest) pos) g):DW X E (.BoolOp .Or (a::b::rest) pos) (dOr f g):=by
 refine⟨?_⟩
 refine zlb (zsd ha.o hb.o) fun σ H Q ⟨H₀,ρ,hs,hr,q⟩=>⟨H₀,ρ,hs,hr,?_⟩
 unfold dOr at q
 cases e1:f ρ with
 | stuck=>rw[e1] at q;exact q
 | exn x=>rw[e1] at q;exact q
 | ok d =>
  rw[e1] at q
  cases d with
  | bl b =>
   cases b with
   | false=>exact fun H1 H01 g1=>⟨H01,ρ,g1.sub,hr.mono g1.z,ziY.grow (r:=g ρ) q g1⟩
   | true=>exact fun H1 H01 g1=>q H1 H01 g1
  | _=>exact q.elim
theorem DW.dt (h:DW X E e f):DT X E e f:=⟨PW.pt h.o⟩
theorem zfj {op}(h:DE X E a f):DE X E (.BoolOp op [a] pos) f:=⟨zqt h.o⟩
theorem zfk (ha:DE X E a f)(hb:DE X E (.BoolOp .And (b::rest) pos) g):DE X E (.BoolOp .And (a::b::rest) pos) (zhk f g):=by
 refine⟨?_⟩
 refine zaP (zqy ha.o hb.o) fun σ H Q ⟨H₀,ρ,hs,hr,q⟩=>⟨H₀,ρ,hs,hr,?_⟩
 unfold zhk at q
 cases e1:f ρ with
 | stuck=>rw[e1] at q;exact q
 | exn x=>rw[e1] at q;exact q
 | ok d =>
  rw[e1] at q
  intro v H1 H01 g1 r1
  cases d with
  | bl b =>
   rw[Rep.bl_iff.mp r1]
   cases b with
   | true=>exact⟨true,rfl,H01,ρ,g1.sub,hr.mono g1.z,post.grow (r:=g ρ) q g1⟩
   | false=>exact⟨false,rfl,q (.bl false) H1 H01 g1 (Rep.bl_iff.mpr rfl)⟩
  | _=>exact q.elim
def dIf (c f g:Ev->Res D):Ev->Res D:=fun ρ=>(c ρ).bind fun x=>match x with
 | .bl true=>f ρ
 | .bl false=>g ρ
 | _=>.stuck
theorem zhj {c:Expr}{fc:Ev->Res D}(hc:DT X E c fc)(ha:DE X E a f)(hb:DE X E b g):DE X E (.IfExp c a b pos) (dIf fc f g):=by
 refine⟨?_⟩
 refine zaP (zm3 hc.o ha.o hb.o) fun σ H Q ⟨H₀,ρ,hs,hr,q⟩=>⟨H₀,ρ,hs,hr,?_⟩
 unfold dIf at q
 cases e1:fc ρ with
 | stuck=>rw[e1] at q;exact q
 | exn x=>rw[e1] at q;exact q
 | ok d =>
  rw[e1] at q
  cases d with
  | bl b =>
   cases b with
   | true=>exact fun H1 H01 g1=>⟨H01,ρ,g1.sub,hr.mono g1.z,post.grow (r:=f ρ) q g1⟩
   | false=>exact fun H1 H01 g1=>⟨H01,ρ,g1.sub,hr.mono g1.z,post.grow (r:=g ρ) q g1⟩
  | _=>exact q.elim
end
def ztV (K:W.Frag)(H₀ H:Hp)(a:Addr)(d:D):Prop:=match d with
 | .lst ds=>∃ vs,H a=some (.lst vs)/\Reps K H₀ ds vs
 | _=>False
def OXr (K:W.Frag)(He H₀ H:Hp)(a:Addr)(j:Nat)(ds:List D)(p:Addr):Prop:=∃ vs es us,He a=none/\H a=some (.tup vs)/\He p=none/\H₀ p=none/\ds[j]?=some (.lst es)/\vs[j]?=some (.ref p)/\H p=some (.lst us)/\Reps K H₀ es us/\ds.length=vs.length/\∀ k d v,k≠j->ds[k]?=some d->vs[k]?=some v->Rep K H₀ d v
def OX (K:W.Frag)(He H₀:Hp)(σ:L2.St)(H:Hp)(ρ:Ev):Prop:=∀ (i j:Nat) (ds:List D),ρ[i]?=some (.ox j ds)->∃ a p,σ[i]?=some (some (.ref a))/\OXr K He H₀ H a j ds p/\(∀ (k:Nat) (d:D),ρ[k]?=some (.ow d)->σ[k]?≠some (some (.ref p)))/\∀ (k j':Nat) (ds':List D),ρ[k]?=some (.ox j' ds')->k=i
theorem OX.upd {K:W.Frag}{He H₀ H₀' H H':Hp}{σ σ':L2.St}{ρ ρ':Ev}(h:OX K He H₀ σ H ρ)
  (hk:∀ (j:Nat) (s:Sl),ρ'[j]?=some s->(ρ[j]?=some s/\σ'[j]?=σ[j]?)∨(∃ d,s=.sh d)∨s=.no∨∃ d q,s=.ow d/\σ'[j]?=some (some (.ref q))/\∀ (i j:Nat) (ds:List D) (a p:Addr),ρ[i]?=some (.ox j ds)->σ[i]?=some (some (.ref a))->OXr K He H₀ H a j ds p->q≠p)
  (hz:zaG H₀ H₀')(ht:∀ a vs,He a=none->H a=some (.tup vs)->H' a=some (.tup vs))
  (hl:∀ p us,He p=none->H₀ p=none->H p=some (.lst us)->(∀ (k:Nat) (d:D),ρ[k]?=some (.ow d)->σ[k]?≠some (some (.ref p)))->H' p=some (.lst us)/\H₀' p=none):OX K He H₀' σ' H' ρ':=fun i j ds e=>by
 have old:ρ[i]?=some (.ox j ds)/\σ'[i]?=σ[i]?:=by
  rcases hk i _ e with h1 | ⟨d,h1⟩ | h1 | ⟨d,q,h1,_⟩
  ·exact h1
  ·cases h1
  ·cases h1
  ·cases h1
 obtain⟨a,p,h1,h2,h3,h4⟩:=h i j ds old.1
 have h2':=h2
 obtain⟨vs,es,us,r1,r2,r3,r4,r5,r6,r7,r8,r9,r10⟩:=h2
 obtain⟨l1,l2⟩:=hl p us r3 r4 r7 h3
 refine⟨a,p,old.2.trans h1,⟨vs,es,us,r1,ht a vs r1 r2,r3,l2,r5,r6,l1,r8.mono hz,r9,fun k d v hk e1 e2=>(r10 k d v hk e1 e2).mono hz⟩,fun k d ek z=>?_,fun k j' ds' ek=>?_⟩
 ·rcases hk k _ ek with h1' | ⟨d',h1'⟩ | h1' | ⟨d',q,h1',h2'',h3'⟩
  ·exact h3 k d h1'.1 (by rw[← h1'.2];exact z)
  ·cases h1'
  ·cases h1'
  ·rw[h2''] at z
   cases z
   exact h3' i j ds a p old.1 h1 h2' rfl
 ·rcases hk k _ ek with h1' | ⟨d',h1'⟩ | h1' | ⟨d',q,h1',_⟩
  ·exact h4 k j' ds' h1'.1
  ·cases h1'
  ·cases h1'
  ·cases h1'
theorem OX.none {K:W.Frag}{He H₀ H:Hp}{σ:L2.St}{ρ:Ev}(h:∀ (i j:Nat) (ds:List D),ρ[i]?≠some (.ox j ds)):OX K He H₀ σ H ρ:=fun i j ds e=>absurd e (h i j ds)
theorem zk6 {K:W.Frag}{H:Hp}:∀ {ds:List D}{vs:List V},ds.length=vs.length->(∀ (k:Nat) (d:D) (v:V),ds[k]?=some d->vs[k]?=some v->Rep K H d v)->Reps K H ds vs
 | [],[],_,_=>Reps.nil
 | d::ds,v::vs,hl,h=>Reps.cons (h 0 d v rfl rfl) (zk6 (by simpa using hl) fun k d' v' e1 e2=>h (k+1) d' v' e1 e2)
structure SRx (K:W.Frag) (He H0e H₀:Hp) (σ:L2.St) (H:Hp) (ρ:Ev):Prop where
 g:zbh He H0e H H₀
 rd:zdN K H₀ σ ρ
 ow:∀ (i:Nat) (d:D),ρ[i]?=some (.ow d)->∃ a,σ[i]?=some (some (.ref a))/\He a=none/\H₀ a=none/\ztV K H₀ H a d
 ap:∀ (i j:Nat) (d d':D),i≠j->ρ[i]?=some (.ow d)->ρ[j]?=some (.ow d')->σ[i]?≠σ[j]?
 ln:ρ.length=σ.length
 ex:OX K He H₀ σ H ρ
inductive Fl where
 | nx (ρ:Ev) | rt (d:D) | bk (ρ:Ev) | ct (ρ:Ev)
def zb6 (K:W.Frag)(E:XK)(He H0e H₀:Hp)(r:Res Fl)(D:zhy):Prop:=match r with
 | .ok (.nx ρ)=>∀ σ H H₀',zaG H₀ H₀'->SRx K He H0e H₀' σ H ρ->D.nx σ H
 | .ok (.rt d)=>∀ v H H₀',zbh He H0e H H₀'->Rep K H₀' d v->D.rt v H
 | .ok (.bk ρ)=>∀ σ H H₀',zaG H₀ H₀'->SRx K He H0e H₀' σ H ρ->D.bk σ H
 | .ok (.ct ρ)=>∀ σ H H₀',zaG H₀ H₀'->SRx K He H0e H₀' σ H ρ->D.ct σ H
 | .exn x=>∀ C ox H H₀',zbh He H0e H H₀'->ExR K H₀' x C ox->E C ox H
 | .stuck=>False
theorem zb6.grow {K:W.Frag}{E:XK}{He H0e H₀ H₁:Hp}{r:Res Fl}{D:zhy}(h:zb6 K E He H0e H₀ r D)(s:zaG H₀ H₁):zb6 K E He H0e H₁ r D:=by
 cases r with
 | ok f =>
  cases f with
  | nx ρ=>exact fun σ H H₀' s'=>h σ H H₀' (s.trans s')
  | rt d=>exact h
  | bk ρ=>exact fun σ H H₀' s'=>h σ H H₀' (s.trans s')
  | ct ρ=>exact fun σ H H₀' s'=>h σ H H₀' (s.trans s')
 | exn x=>exact h
 | stuck=>exact h
def tS (K:W.Frag)(E:XK)(He H0e:Hp)(g:Ev->Res Fl):TS:=fun D σ H=>∃ H₀ ρ,SRx K He H0e H₀ σ H ρ/\zb6 K E He H0e H₀ (g ρ) D
structure DS (X:Cx) (E:XK) (He H0e:Hp) (st:Stmt) (g:Ev->Res Fl):Prop where
 o:PS X st (tS X.K E He H0e g)
structure DSs (X:Cx) (E:XK) (He H0e:Hp) (st:List Stmt) (g:Ev->Res Fl):Prop where
 o:PSs X st (tS X.K E He H0e g)
def shr (ρ:Ev):Ev:=ρ.map fun s=>match s with
 | .ow d=>.sh d
 | .ox _ ds=>.sh (.tup ds)
 | x=>x
def frz (He H₀ H:Hp):Hp:=fun a=>match He a with
 | none=>H a
 | some _=>H₀ a
section
variable {K:W.Frag}{E:XK}{He H0e H₀ H H1:Hp}{σ:L2.St}{ρ:Ev}
theorem SRx.same (h:SRx K He H0e H₀ σ H ρ)(s:zaG H H1):SRx K He H0e H₀ σ H1 ρ :=
 ⟨⟨h.g.s.trans s,h.g.z,h.g.sub.trans s,h.g.nw⟩,h.rd,fun i d e=>by
  obtain⟨a,h1,h2,h3,h4⟩:=h.ow i d e
  refine⟨a,h1,h2,h3,?_⟩
  cases d with
  | lst ds=>obtain⟨vs,h5,h6⟩:=h4;exact⟨vs,s _ _ h5,h6⟩
  | _=>exact h4,h.ap,h.ln,h.ex.upd (fun j s' e=>.inl ⟨e,rfl⟩) (zaG.refl _) (fun a vs _ e=>s _ _ e) fun p us _ h0 hp _=>⟨s _ _ hp,h0⟩⟩
theorem SRx.grow {H01:Hp}(h:SRx K He H0e H₀ σ H ρ)(s:zbh H H₀ H1 H01):SRx K He H0e H01 σ H1 ρ :=
 ⟨h.g.trans s,h.rd.mono s.z,fun i d e=>by
  obtain⟨a,h1,h2,h3,h4⟩:=h.ow i d e
  have ha:H01 a=none:=by
   cases q:H01 a with
   | none=>rfl
   | some o =>
    have:=s.nw a (by rw[q];simp) h3
    cases d with
    | lst ds=>obtain⟨vs,h5,_⟩:=h4;rw[h5] at this;cases this
    | _=>exact h4.elim
  refine⟨a,h1,h2,ha,?_⟩
  cases d with
  | lst ds=>obtain⟨vs,h5,h6⟩:=h4;exact⟨vs,s.s _ _ h5,h6.mono s.z⟩
  | _=>exact h4,h.ap,h.ln,h.ex.upd (fun j s' e=>.inl ⟨e,rfl⟩) s.z (fun a vs _ e=>s.s _ _ e) fun p us _ h0 hp _=>⟨s.s _ _ hp,by
   cases q:H01 p with
   | none=>rfl
   | some o=>have:=s.nw p (by rw[q];simp) h0;rw[hp] at this;cases this⟩⟩
theorem SRx.frz_sub (h:SRx K He H0e H₀ σ H ρ):zaG H₀ (frz He H₀ H):=fun b o e=>by
 unfold frz
 cases q:He b with
 | none=>exact h.g.sub _ _ e
 | some _=>exact e
theorem SRx.frz_le (h:SRx K He H0e H₀ σ H ρ):zaG (frz He H₀ H) H:=fun b o e=>by
 unfold frz at e
 cases q:He b with
 | none=>rw[q] at e;exact e
 | some _=>rw[q] at e;exact h.g.sub _ _ e
theorem SRx.frz_grow (h:SRx K He H0e H₀ σ H ρ):zbh He H0e H (frz He H₀ H) :=
 ⟨h.g.s,h.g.z.trans h.frz_sub,h.frz_le,fun a h1 h2=>by
  cases q:He a with
  | none=>rfl
  | some o =>
   unfold frz at h1
   rw[q] at h1
   have:=h.g.nw a h1 h2
   rw[q] at this;cases this⟩
theorem SRx.looks (h:SRx K He H0e H₀ σ H ρ):zdN K (frz He H₀ H) σ (shr ρ):=fun i d e=>by
 unfold shr at e
 rw[List.getElem?_map] at e
 cases q:ρ[i]? with
 | none=>rw[q] at e;cases e
 | some s =>
  rw[q] at e
  cases s with
  | no=>cases e
  | sh d' =>
   cases e
   obtain⟨v,h1,h2⟩:=h.rd i d q
   exact⟨v,h1,h2.mono h.frz_sub⟩
  | ow d' =>
   cases e
   obtain⟨a,h1,h2,h3,h4⟩:=h.ow i d q
   refine⟨_,h1,?_⟩
   cases d with
   | lst ds =>
    obtain⟨vs,h5,h6⟩:=h4
    exact Rep.lst_iff.mpr ⟨a,vs,rfl,SqL.of (by unfold frz;rw[h2];exact h5),h6.mono h.frz_sub⟩
   | _=>exact h4.elim
  | ox j ds =>
   cases e
   obtain⟨a,p,h1,⟨vs,es,us,r1,r2,r3,r4,r5,r6,r7,r8,r9,r10⟩,_⟩:=h.ex i j ds q
   refine⟨_,h1,Rep.tup_iff.mpr ⟨a,vs,rfl,SqT.of (by unfold frz;rw[r1];exact r2),zk6 r9 fun k d v e1 e2=>?_⟩⟩
   by_cases hk:k=j
   ·subst hk
    rw[r5] at e1;cases e1
    rw[r6] at e2;cases e2
    exact Rep.lst_iff.mpr ⟨p,us,rfl,SqL.of (by unfold frz;rw[r3];exact r7),r8.mono h.frz_sub⟩
   ·exact(r10 k d v hk e1 e2).mono h.frz_sub
theorem SRx.put (h:SRx K He H0e H₀ σ H ρ){i:Nat}{d:D}{v:V}(r:Rep K H₀ d v):SRx K He H0e H₀ (σ.set i (some v)) H (ρ.set i (.sh d)):=by
 have key:∀ (j:Nat) (s:Sl),(ρ.set i (.sh d))[j]?=some s->(j=i/\s=.sh d/\i < σ.length)∨(j≠i/\ρ[j]?=some s):=fun j s e=>by
  by_cases hj:i=j
  ·subst hj
   rw[List.getElem?_set_self'] at e
   cases q:ρ[i]? with
   | none=>rw[q] at e;cases e
   | some s' =>
    rw[q] at e
    cases e
    refine .inl ⟨rfl,rfl,?_⟩
    rw[← h.ln]
    exact(List.getElem?_eq_some_iff.mp q).1
  ·rw[List.getElem?_set_ne hj] at e
   exact .inr ⟨fun z=>hj z.symm,e⟩
 refine⟨h.g,fun j d' e=>?_,fun j d' e=>?_,fun j k d1 d2 hn e1 e2=>?_,by simp [h.ln],h.ex.upd (fun j s e=>?_) (zaG.refl _) (fun a vs _ e=>e) fun p us _ h0 hp _=>⟨hp,h0⟩⟩
 rotate_left 3
 ·rcases key j _ e with⟨rfl,e',hl⟩ | ⟨hj,e'⟩
  ·exact .inr (.inl ⟨d,e'⟩)
  ·exact .inl ⟨e',by rw[List.getElem?_set_ne (Ne.symm hj)]⟩
 ·rcases key j _ e with⟨rfl,e',hl⟩ | ⟨hj,e'⟩
  ·cases e'
   exact⟨v,by rw[List.getElem?_set_self hl],r⟩
  ·obtain⟨v',h1,h2⟩:=h.rd j d' e'
   exact⟨v',by rw[List.getElem?_set_ne (Ne.symm hj)];exact h1,h2⟩
 ·rcases key j _ e with⟨rfl,e',hl⟩ | ⟨hj,e'⟩
  ·cases e'
  ·obtain⟨a,h1,h2⟩:=h.ow j d' e'
   exact⟨a,by rw[List.getElem?_set_ne (Ne.symm hj)];exact h1,h2⟩
 ·rcases key j _ e1 with⟨_,e',_⟩ | ⟨hj,e1'⟩
  ·cases e'
  rcases key k _ e2 with⟨_,e',_⟩ | ⟨hk,e2'⟩
  ·cases e'
  rw[List.getElem?_set_ne (Ne.symm hj),List.getElem?_set_ne (Ne.symm hk)]
  exact h.ap j k d1 d2 hn e1' e2'
theorem SRx.putOwn (h:SRx K He H0e H₀ σ H ρ){i:Nat}{ds:List D}{vs:List V}{p:Addr}(hp:∀ (j:Nat) (a:Addr),σ[j]?=some (some (V.ref a))->a=p->∀ d:D,ρ[j]?≠some (Sl.ow d))(he:He p=none)(h0:H₀ p=none)(hv:H p=some (.lst vs))(r:Reps K H₀ ds vs)(hx:∀ (i j:Nat) (ds:List D) (a q:Addr),ρ[i]?=some (.ox j ds)->σ[i]?=some (some (.ref a))->OXr K He H₀ H a j ds q->p≠q) :
  SRx K He H0e H₀ (σ.set i (some (.ref p))) H (ρ.set i (.ow (.lst ds))):=by
 have key:∀ (j:Nat) (s:Sl),(ρ.set i (.ow (.lst ds)))[j]?=some s->(j=i/\s=.ow (.lst ds)/\i < σ.length)∨(j≠i/\ρ[j]?=some s):=fun j s e=>by
  by_cases hj:i=j
  ·subst hj
   rw[List.getElem?_set_self'] at e
   cases q:ρ[i]? with
   | none=>rw[q] at e;cases e
   | some s' =>
    rw[q] at e
    cases e
    refine .inl ⟨rfl,rfl,?_⟩
    rw[← h.ln]
    exact(List.getElem?_eq_some_iff.mp q).1
  ·rw[List.getElem?_set_ne hj] at e
   exact .inr ⟨fun z=>hj z.symm,e⟩
 have other:∀ (k:Nat) (d2:D),k≠i->ρ[k]?=some (.ow d2)->some (some (V.ref p))≠σ[k]?:=fun k d2 hk e2 z=>by
  obtain⟨a,h1,_⟩:=h.ow k d2 e2
  rw[h1] at z
  cases z
  exact hp k p h1 rfl d2 e2
 refine⟨h.g,fun j d' e=>?_,fun j d' e=>?_,fun j k d1 d2 hn e1 e2=>?_,by simp [h.ln],h.ex.upd (fun j s e=>?_) (zaG.refl _) (fun a vs _ e=>e) fun p us _ h0 hp _=>⟨hp,h0⟩⟩
 rotate_left 3
 ·rcases key j _ e with⟨rfl,e',hl⟩ | ⟨hj,e'⟩
  ·exact .inr (.inr (.inr ⟨.lst ds,p,e',by rw[List.getElem?_set_self hl],hx⟩))
  ·exact .inl ⟨e',by rw[List.getElem?_set_ne (Ne.symm hj)]⟩
 ·rcases key j _ e with⟨rfl,e',hl⟩ | ⟨hj,e'⟩
  ·cases e'
  ·obtain⟨v',h1,h2⟩:=h.rd j d' e'
   exact⟨v',by rw[List.getElem?_set_ne (Ne.symm hj)];exact h1,h2⟩
 ·rcases key j _ e with⟨rfl,e',hl⟩ | ⟨hj,e'⟩
  ·cases e'
   exact⟨p,by rw[List.getElem?_set_self hl],he,h0,vs,hv,r⟩
  ·obtain⟨a,h1,h2⟩:=h.ow j d' e'
   exact⟨a,by rw[List.getElem?_set_ne (Ne.symm hj)];exact h1,h2⟩
 ·rcases key j _ e1 with⟨rfl,_,hl⟩ | ⟨hj,e1'⟩
  ·rcases key k _ e2 with⟨rfl,_,_⟩ | ⟨hk,e2'⟩
   ·exact absurd rfl hn
   ·rw[List.getElem?_set_self hl,List.getElem?_set_ne (Ne.symm hk)]
    exact other k d2 hk e2'
  ·rcases key k _ e2 with⟨rfl,_,hl⟩ | ⟨hk,e2'⟩
   ·rw[List.getElem?_set_self hl,List.getElem?_set_ne (Ne.symm hj)]
    exact fun z=>other j d1 hj e1' z.symm
   ·rw[List.getElem?_set_ne (Ne.symm hj),List.getElem?_set_ne (Ne.symm hk)]
    exact h.ap j k d1 d2 hn e1' e2'
theorem SRx.fresh_x {H01:Hp}{p:Addr}(h:SRx K He H0e H₀ σ H ρ)(s:zaG H H1)(hp:H p=none):∀ (i j:Nat) (ds:List D) (a q:Addr),ρ[i]?=some (.ox j ds)->σ[i]?=some (some (.ref a))->OXr K He H01 H1 a j ds q->p≠q:=fun i j ds a q x1 x2 x3=>by
 obtain⟨a2,p2,y1,⟨vs2,_,us2,_,z3,_,_,_,z4,z5,_⟩,_⟩:=h.ex i j ds x1
 rw[x2] at y1;cases y1
 obtain⟨vs1,_,_,_,z1,_,_,_,z2,_⟩:=x3
 have:=s _ _ z3
 rw[z1] at this;cases this
 rw[z2] at z4;cases z4
 intro z;subst z
 rw[hp] at z5;cases z5
theorem SRx.write (h:SRx K He H0e H₀ σ H ρ){i:Nat}{d:D}{p:Addr}{ds:List D}{vs:List V}(e:ρ[i]?=some (.ow d))(es:σ[i]?=some (some (.ref p)))(r:Reps K H₀ ds vs) :
  SRx K He H0e H₀ σ (upd H p (.lst vs)) (ρ.set i (.ow (.lst ds))):=by
 obtain⟨a,h1,h2,h3,h4⟩:=h.ow i d e
 rw[h1] at es;cases es
 have hil:i < ρ.length:=(List.getElem?_eq_some_iff.mp e).1
 have key:∀ (j:Nat) (s:Sl),(ρ.set i (.ow (.lst ds)))[j]?=some s->(j=i/\s=.ow (.lst ds))∨(j≠i/\ρ[j]?=some s):=fun j s e=>by
  by_cases hj:i=j
  ·subst hj
   rw[List.getElem?_set_self hil] at e
   cases e
   exact .inl ⟨rfl,rfl⟩
  ·rw[List.getElem?_set_ne hj] at e
   exact .inr ⟨fun z=>hj z.symm,e⟩
 refine⟨⟨fun b o eb=>?_,h.g.z,fun b o eb=>?_,h.g.nw⟩,fun j d' e'=>?_,fun j d' e'=>?_,fun j k d1 d2 hn e1 e2=>?_,by simp [h.ln],h.ex.upd (fun j s e'=>?_) (zaG.refl _) (fun b us _ eb=>?_) fun q us _ q0 hq hd=>?_⟩
 rotate_left 5
 ·rcases key j _ e' with⟨rfl,e''⟩ | ⟨hj,e''⟩
  ·exact .inr (.inr (.inr ⟨.lst ds,p,e'',h1,fun i' j' ds' a' p' x1 x2 x3=>by
    obtain⟨a2,p2,y1,y2,y3,_⟩:=h.ex i' j' ds' x1
    rw[x2] at y1;cases y1
    have:p2=p':=by
     obtain⟨vs1,_,_,_,z1,_,_,_,z2,_⟩:=x3
     obtain⟨vs2,_,_,_,z3,_,_,_,z4,_⟩:=y2
     rw[z1] at z3;cases z3
     rw[z2] at z4;cases z4;rfl
    subst this
    intro zz;subst zz
    exact y3 j d e h1⟩))
  ·exact .inl ⟨e'',rfl⟩
 ·rw[zao (by
   intro z;subst z
   cases d with
   | lst ds'=>obtain⟨vs',h5,_⟩:=h4;rw[h5] at eb;cases eb
   | _=>exact h4)];exact eb
 ·have hq':q≠p:=by
   intro z;subst z
   exact hd i d e h1
  exact⟨by rw[zao hq'];exact hq,q0⟩
 ·rw[zao (by intro z;subst z;rw[h2] at eb;cases eb)];exact h.g.s _ _ eb
 ·rw[zao (by intro z;subst z;rw[h3] at eb;cases eb)];exact h.g.sub _ _ eb
 ·rcases key j _ e' with⟨rfl,e''⟩ | ⟨hj,e''⟩
  ·cases e''
  ·exact h.rd j d' e''
 ·rcases key j _ e' with⟨rfl,e''⟩ | ⟨hj,e''⟩
  ·cases e''
   exact⟨p,h1,h2,h3,vs,zap,r⟩
  ·obtain⟨b,k1,k2,k3,k4⟩:=h.ow j d' e''
   refine⟨b,k1,k2,k3,?_⟩
   have hb:b≠p:=by
    intro z;subst z
    exact h.ap j i d' d hj e'' e (by rw[k1,h1])
   cases d' with
   | lst ds' =>
    obtain⟨vs',h5,h6⟩:=k4
    exact⟨vs',by rw[zao hb];exact h5,h6⟩
   | _=>exact k4.elim
 ·rcases key j _ e1 with⟨rfl,e1'⟩ | ⟨hj,e1'⟩
  ·rcases key k _ e2 with⟨rfl,_⟩ | ⟨hk,e2'⟩
   ·exact absurd rfl hn
   ·exact h.ap j k d d2 hn e e2'
  ·rcases key k _ e2 with⟨rfl,_⟩ | ⟨hk,e2'⟩
   ·exact h.ap j k d1 d hn e1' e
   ·exact h.ap j k d1 d2 hn e1' e2'
end
mutual
def zn0:D->Bool
 | .lst _=>false
 | .dic _ _=>false
 | .exc _=>false
 | .ob _ _=>false
 | .tup ds=>flats ds
 | _=>true
def flats:List D->Bool
 | []=>true
 | d::ds=>zn0 d&&flats ds
end
section
variable {K:W.Frag}{E:XK}{He H0e H₀ H H1 J:Hp}{σ:L2.St}{ρ:Ev}
end
section
variable {X:Cx}{E:XK}{He H0e:Hp}{st:Stmt}{rest:List Stmt}{e a b:Expr}{es:List Expr}{f g:Ev->Res D}{fa:Ev->Res (List D)}{s t:Ev->Res Fl}{pos:Pos}
theorem zcD {t t':TS}(h:PS X st t)(w:∀ D σ H,t' D σ H->t D σ H):PS X st t':=fun pins s σ H D I q=>h pins s σ H D I (w D σ H q)
theorem zfu {t t':TS}(h:PSs X rest t)(w:∀ D σ H,t' D σ H->t D σ H):PSs X rest t':=fun pins s σ H D I q=>h pins s σ H D I (w D σ H q)
def zaj:Ev->Res Fl:=fun ρ=>.ok (.nx ρ)
def zar (s t:Ev->Res Fl):Ev->Res Fl:=fun ρ=>(s ρ).bind fun r=>match r with
 | .nx ρ'=>t ρ'
 | r=>.ok r
theorem zag:DSs X E He H0e [] zaj:=⟨zfu zld fun D σ H ⟨H₀,ρ,h,q⟩=>q σ H H₀ (zaG.refl _) h⟩
theorem zaa (h1:DS X E He H0e st s)(h2:DSs X E He H0e rest t):DSs X E He H0e (st::rest) (zar s t):=by
 refine⟨?_⟩
 refine zfu (zg0 h1.o h2.o) fun D σ H ⟨H₀,ρ,h,q⟩=>⟨H₀,ρ,h,?_⟩
 unfold zar at q
 cases e1:s ρ with
 | stuck=>rw[e1] at q;exact q
 | exn x=>rw[e1] at q;exact q
 | ok r =>
  rw[e1] at q
  cases r with
  | nx ρ'=>exact fun σ' H' H₀' s' h'=>⟨H₀',ρ',h',zb6.grow (r:=t ρ') q s'⟩
  | rt d=>exact q
  | bk ρ'=>exact q
  | ct ρ'=>exact q
def znS:Ev->Res Fl:=fun _=>.stuck
theorem plain {K:W.Frag}{H₀ H:Hp}{σ:L2.St}{ρ:Ev}{k:D->Res Fl}{D':zhy}(h:SRx K He H0e H₀ σ H ρ){r:Res D}{Q:VK}
  (q:zb6 K E He H0e H₀ (r.bind k) D')(hk:∀ d v H' H₀',r=.ok d->zbh H H₀ H' H₀'->Rep K H₀' d v->zb6 K E He H0e H₀' (k d) D'->Q v H'):post K E H H₀ r Q:=by
 cases r with
 | stuck=>exact q
 | exn x=>exact fun C ox H' H₀' g ex=>q C ox H' H₀' (h.g.trans g) ex
 | ok d=>exact fun v H' H₀' g rp=>hk d v H' H₀' rfl g rp (zb6.grow (r:=k d) q g.z)
theorem look {K:W.Frag}{H₀ H:Hp}{σ:L2.St}{ρ:Ev}{k:D->Res Fl}{D':zhy}(h:SRx K He H0e H₀ σ H ρ){r:Res D}{Q:VK}
  (q:zb6 K E He H0e H₀ (r.bind k) D')(hk:∀ d v H' J,r=.ok d->zbh H (frz He H₀ H) H' J->Rep K J d v->zb6 K E He H0e H₀ (k d) D'->Q v H'):post K E H (frz He H₀ H) r Q:=by
 cases r with
 | stuck=>exact q
 | exn x=>exact fun C ox H' H₀' g ex=>q C ox H' H₀' (h.frz_grow.trans g) ex
 | ok d=>exact fun v H' J g rp=>hk d v H' J rfl g rp q
theorem zqT {K:W.Frag}{H₀ H:Hp}{σ:L2.St}{ρ:Ev}{k:Bool->Res Fl}{D':zhy}(h:SRx K He H0e H₀ σ H ρ){r:Res D}{Q:Bool->Hp->Prop}
  (q:zb6 K E He H0e H₀ (r.bind fun x=>match x with | .bl b=>k b | _=>.stuck) D')(hk:∀ b H',zaG H H'->zb6 K E He H0e H₀ (k b) D'->Q b H'):ziY K E H (frz He H₀ H) r Q:=by
 cases r with
 | stuck=>exact q
 | exn x=>exact fun C ox H' H₀' g ex=>q C ox H' H₀' (h.frz_grow.trans g) ex
 | ok d =>
  cases d with
  | bl b=>exact fun H' J g=>hk b H' g.s q
  | _=>exact q.elim
def zbo (i:Nat)(f:Ev->Res D):Ev->Res Fl:=fun ρ=>(f ρ).bind fun d=>.ok (.nx (ρ.set i (.sh d)))
def zr3 (i:Nat)(f:Ev->Res D):Ev->Res Fl:=fun ρ=>(f (shr ρ)).bind fun d=>if zn0 d=true then .ok (.nx (ρ.set i (.sh d))) else .stuck
def zci (f:Ev->Res D):Ev->Res Fl:=fun ρ=>(f (shr ρ)).bind fun d=>.ok (.rt d)
def zr8 (f:Ev->Res D):Ev->Res Fl:=fun ρ=>(f (shr ρ)).bind fun _=>.ok (.nx ρ)
def sIf (c:Ev->Res D)(s t:Ev->Res Fl):Ev->Res Fl:=fun ρ=>(c (shr ρ)).bind fun x=>match x with
 | .bl b=>if b=true then s ρ else t ρ
 | _=>.stuck
theorem zax {i:Nat}{x:Str}{pos':Pos}(hN:X.N.Nodup)(hi:X.N[i]?=some x)(hx:Loc X.env.scope x)(he:DE X E e f)(hs:swapsWith e (some (.Name x pos')) pos.line X.env=pure false:=by rfl)
  (hf:X.fn x=true∨X.env.scope.names.lookup x=some .local := by first | exact .inl rfl | exact .inr rfl | assumption):DS X E He H0e (.Assign [.Name x pos'] e pos) (zbo i f):=by
 refine⟨?_⟩
 refine zcD (znW hN hi hx he.o hs hf) fun D σ H ⟨H₀,ρ,h,q⟩=>⟨H₀,ρ,h.g.sub,h.rd,?_⟩
 refine plain h q fun d v H' H₀' _ g rp q'=>?_
 exact q' _ H' H₀' (zaG.refl _) ((h.grow g).put rp)
theorem zaM (he:DE X E e f):DS X E He H0e (.Return (some e) pos) (zci f):=by
 refine⟨?_⟩
 refine zcD (zql he.o) fun D σ H ⟨H₀,ρ,h,q⟩=>⟨frz He H₀ H,shr ρ,h.frz_le,h.looks,?_⟩
 exact look h q fun d v H' J _ g rp q'=>q' v H' J (h.frz_grow.trans g) rp
def zr4:Ev->Res Fl:=fun _=>.ok (.rt .non)
theorem zb2 {c:Expr}{fc:Ev->Res D}{sa sb:List Stmt}(hc:DT X E c fc)(ha:DSs X E He H0e sa s)(hb:DSs X E He H0e sb t):DS X E He H0e (.If c sa sb pos) (sIf fc s t):=by
 refine⟨?_⟩
 refine zcD (zsg hc.o ha.o hb.o) fun D σ H ⟨H₀,ρ,h,q⟩=>⟨frz He H₀ H,shr ρ,h.frz_le,h.looks,?_⟩
 refine zqT (k:=fun b=>if b=true then s ρ else t ρ) h q fun b H' hs q'=>?_
 cases b with
 | true=>rw[if_pos rfl] at q' ⊢;exact⟨H₀,ρ,h.same hs,q'⟩
 | false=>rw[if_neg Bool.false_ne_true] at q' ⊢;exact⟨H₀,ρ,h.same hs,q'⟩
def tF (K:W.Frag)(E:XK)(f:Ev->Res D):TE:=fun σ H Q=>∃ H₀ ρ,zaG H₀ H/\zdN K H₀ σ ρ/\match f ρ with
 | .ok (.lst ds)=>∀ p vs H' H₀',zbh H H₀ H' H₀'->H p=none->H₀' p=none->H' p=some (.lst vs)->Reps K H₀' ds vs->Q (.ref p) H'
 | .ok _=>False
 | .exn x=>∀ C ox H' H₀',zbh H H₀ H' H₀'->ExR K H₀' x C ox->E C ox H'
 | .stuck=>False
structure DF (X:Cx) (E:XK) (e:Expr) (f:Ev->Res D):Prop where
 o:PE X e (tF X.K E f)
def zrB (i:Nat)(f:Ev->Res D):Ev->Res Fl:=fun ρ=>(f ρ).bind fun d=>match d with
 | .lst ds=>.ok (.nx (ρ.set i (.ow (.lst ds))))
 | _=>.stuck
theorem zrd {i:Nat}{x:Str}{pos':Pos}(hN:X.N.Nodup)(hi:X.N[i]?=some x)(hx:Loc X.env.scope x)(he:DF X E e f)(hs:swapsWith e (some (.Name x pos')) pos.line X.env=pure false:=by rfl)
  (hf:X.fn x=true∨X.env.scope.names.lookup x=some .local := by first | exact .inl rfl | exact .inr rfl | assumption):DS X E He H0e (.Assign [.Name x pos'] e pos) (zrB i f):=by
 refine⟨?_⟩
 refine zcD (znW hN hi hx he.o hs hf) fun D σ H ⟨H₀,ρ,h,q⟩=>⟨H₀,ρ,h.g.sub,h.rd,?_⟩
 unfold zrB at q
 cases e1:f ρ with
 | stuck=>rw[e1] at q;exact q
 | exn x=>rw[e1] at q;exact fun C ox H' H₀' g ex=>q C ox H' H₀' (h.g.trans g) ex
 | ok d =>
  rw[e1] at q
  cases d with
  | lst ds =>
   intro p vs H' H₀' g hp h0 hv rp
   refine q _ H' H₀' g.z ((h.grow g).putOwn (fun j a ej ea d ed=>?_) (h.g.s.free hp) h0 hv rp (h.fresh_x g.s hp))
   subst ea
   obtain⟨a',k1,_,_,k4⟩:=h.ow j d ed
   rw[ej] at k1;cases k1
   cases d with
   | lst ds'=>obtain⟨vs',h5,_⟩:=k4;rw[hp] at h5;cases h5
   | _=>exact k4.elim
  | _=>exact q.elim
theorem zrf (h:DA X E es fa):DF X E (.List es pos) (zak fa zg9):=by
 refine⟨?_⟩
 refine zaP (znY h.o) fun σ H Q h=>?_
 obtain⟨H₀,ρ,hs,hr,q⟩:=h
 refine⟨H₀,ρ,hs,hr,?_⟩
 unfold zak at q
 cases e1:fa ρ with
 | stuck=>rw[e1] at q;exact q
 | exn x=>rw[e1] at q;exact q
 | ok ds =>
  rw[e1] at q
  intro vs H1 H01 g1 r1
  replace q:match zg9 ds with
   | .ok (.lst ds)=>∀ p vs H' H₀',zbh H H₀ H' H₀'->H p=none->H₀' p=none->H' p=some (.lst vs)->Reps X.K H₀' ds vs->Q (.ref p) H'
   | .ok _=>False
   | .exn x=>∀ C ox H' H₀',zbh H H₀ H' H₀'->ExR X.K H₀' x C ox->E C ox H'
   | .stuck=>False:=q
  unfold zg9 at q
  by_cases hl:ds.length<=line
  ·rw[if_pos hl] at q
   refine⟨by rw[← r1.length];exact zcq hl,fun p hp=>?_⟩
   have h0:H01 p=none:=g1.sub.free hp
   refine q p vs _ H01 (g1.trans ⟨fun b o q=>by rw[zao (zaD q hp)];exact q,zaG.refl _,fun b o q=>?_,fun a h1 h2=>absurd h2 h1⟩) (g1.s.free hp) h0 zap r1
   rw[zao (by intro z;subst z;rw[h0] at q;cases q)];exact g1.sub _ _ q
  ·rw[if_neg hl] at q;exact q.elim
def zi0 (ρ:Ev)(i:Nat)(k:List D->Res Fl):Res Fl:=match ρ[i]? with
 | some (.ow (.lst ds))=>k ds
 | _=>.stuck
def zdq (i:Nat)(f:Ev->Res D):Ev->Res Fl:=fun ρ=>zi0 ρ i fun ds=>(f ρ).bind fun d=>if ds.length < line then .ok (.nx (ρ.set i (.ow (.lst (ds++[d]))))) else .stuck
def zmS (i:Nat)(f:Ev->Res D):Ev->Res Fl:=fun ρ=>zi0 ρ i fun ds=>(f (shr ρ)).bind fun d=>if zn0 d=true/\ds.length < line then .ok (.nx (ρ.set i (.ow (.lst (ds++[d]))))) else .stuck
theorem zm6 {K:W.Frag}{H₀ H:Hp}{σ:L2.St}{ρ:Ev}{i:Nat}{k:List D->Res Fl}{D':zhy}(h:SRx K He H0e H₀ σ H ρ)(q:zb6 K E He H0e H₀ (zi0 ρ i k) D') :
  ∃ ds p vs,ρ[i]?=some (.ow (.lst ds))/\σ[i]?=some (some (.ref p))/\He p=none/\H₀ p=none/\H p=some (.lst vs)/\Reps K H₀ ds vs/\zb6 K E He H0e H₀ (k ds) D':=by
 unfold zi0 at q
 cases e:ρ[i]? with
 | none=>rw[e] at q;exact q.elim
 | some s =>
  rw[e] at q
  cases s with
  | no=>exact q.elim
  | sh d=>exact q.elim
  | ox j ds=>exact q.elim
  | ow d =>
   cases d with
   | lst ds =>
    obtain⟨p,h1,h2,h3,vs,h4,h5⟩:=h.ow i _ e
    exact⟨ds,p,vs,rfl,h1,h2,h3,h4,h5,q⟩
   | _=>exact q.elim
theorem ziv {i:Nat}{x:Str}{p1 p2 p3:Pos}(hN:X.N[i]?=some x)(hv:Vis X.env.scope x)(he:DE X E e f)
  (hd:(x==("__debug__" : Str))=false:=by decide)(hcd:(x==("__classdict__" : Str))=false:=by decide)
  (hbase:attributeBase (.Name x p1) "append" X.env (eval (.Name x p1) X.env)=eval (.Name x p1) X.env:=by rfl)
  (hfew:((backTo p3 (starEach [e] X.env)).all (fun x=>!x.1)&&(backToKw p3 (keywordEach [] X.env)).all (fun x=>x.1.isSome)
  &&decide ([e].length+([]:List Keyword).length+(if([]:List Keyword).isEmpty then 0 else 1) < 30))=true:=by exact zeC rfl)
  (hline:(p2.endLine==p3.line)=true:=by rfl) (hs:starEach [e] X.env=(false,eval e X.env)::starEach [] X.env:=by exact zaw rfl) (hplain:(backTo p3 (starEach [] X.env)).any (·.1)=false:=by exact zaY rfl)
  (hw:swapsWith (.Call (.Attribute (.Name x p1) "append" p2) [e] [] p3) none pos.line X.env=pure false:=by rfl) :
  DS X E He H0e (.Expr (.Call (.Attribute (.Name x p1) "append" p2) [e] [] p3) pos) (zdq i f):=by
 refine⟨?_⟩
 refine zcD (zle (zqx PySem.F.plainAttrs_list PySem.F.slot_list_append PySem.F.type_list_append zib (zh8 hN hv hd hcd) (zc0 he.o zfJ hs) hbase hfew hline hs hplain) hw) fun D σ H ⟨H₀,ρ,h,q⟩=>?_
 obtain⟨ds,p,vs,e1,e2,e3,e4,e5,e6,q⟩:=zm6 h q
 refine⟨.ref p,e2,.inl ⟨rfl,vs,SqL.of e5⟩,?_⟩
 refine⟨H₀,ρ,h.g.sub,h.rd,plain h q fun d v H' H₀' _ g rp q'=>?_⟩
 by_cases hl:ds.length < line
 ·rw[if_pos hl] at q'
  have e5':H' p=some (.lst vs):=g.s _ _ e5
  refine⟨p,vs,v,rfl,rfl,e5',by rw[← e6.length];exact Nat.lt_of_lt_of_le hl (by decide),?_⟩
  exact q' σ _ H₀' (zaG.refl _) ((h.grow g).write e1 e2 ((e6.mono g.z).app (Reps.cons rp Reps.nil)))
 ·rw[if_neg hl] at q';exact q'.elim
def putAt (ρ:Ev)(i:Nat)(ds:List D)(d:D)(j:D):Res Fl:=match j with
 | .int j=>match ixN ds.length j with
  | some n=>.ok (.nx (ρ.set i (.ow (.lst (ds.set n d)))))
  | none=>.stuck
 | _=>.stuck
def ztx (i:Nat)(f k:Ev->Res D):Ev->Res Fl:=fun ρ=>zi0 ρ i fun ds=>(f ρ).bind fun d=>(k ρ).bind fun j=>putAt ρ i ds d j
def zr5 (i:Nat)(f k:Ev->Res D):Ev->Res Fl:=fun ρ=>zi0 ρ i fun ds=>(f (shr ρ)).bind fun d=>(k (shr ρ)).bind fun j=>if zn0 d=true then putAt ρ i ds d j else .stuck
section
variable {i:Nat}{x:Str}{p1 p2:Pos}{k:Ev->Res D}
end
def zfv (tg:Ev->D->Res Ev)(body:Ev->Res Fl):List D->Ev->Res Fl
 | [],ρ=>.ok (.nx ρ)
 | d::r,ρ=>(tg ρ d).bind fun ρ1=>(body ρ1).bind fun x=>match x with
  | .nx ρ2=>zfv tg body r ρ2
  | .ct ρ2=>zfv tg body r ρ2
  | .bk ρ2=>.ok (.nx ρ2)
  | .rt d=>.ok (.rt d)
def tG (K:W.Frag)(He H0e:Hp)(tg:Ev->D->Res Ev):TG:=fun v σ H Q=>∃ H₀ ρ d,SRx K He H0e H₀ σ H ρ/\Rep K H₀ d v/\match tg ρ d with
  | .ok ρ'=>∀ σ' H' H₀',zaG H₀ H₀'->SRx K He H0e H₀' σ' H' ρ'->Q σ' H'
  | _=>False
structure DG (X:Cx) (E:XK) (He H0e:Hp) (target:Expr) (tg:Ev->D->Res Ev):Prop where
 o:PG X target (tG X.K He H0e tg)
def zgC (i:Nat):Ev->D->Res Ev:=fun ρ d=>.ok (ρ.set i (.sh d))
theorem zll {tgt:Expr}{t t':TG}(h:PG X tgt t)(w:∀ v σ H Q,t' v σ H Q->t v σ H Q):PG X tgt t':=fun pins s σ H v u Q I r q=>h pins s σ H v u Q I r (w v σ H Q q)
theorem zeY {i:Nat}{x:Str}(hN:X.N.Nodup)(hi:X.N[i]?=some x)(hx:Loc X.env.scope x)(hf:X.fn x=true∨X.env.scope.names.lookup x=some .local := by first | exact .inl rfl | exact .inr rfl | assumption):DG X E He H0e (.Name x pos) (zgC i) :=
 ⟨zll (zlm hN hi hx hf) fun v σ H Q ⟨H₀,ρ,d,h,rp,q⟩=>q _ H H₀ (zaG.refl _) (h.put rp)⟩
def zhw (K:W.Frag)(E:XK)(He H0e H₁:Hp)(tg:Ev->D->Res Ev)(s:Ev->Res Fl)(ds:List D)(D':zhy)(i:Nat)(σ:L2.St)(H:Hp):Prop :=
 ∃ H₀ ρ,zaG H₁ H₀/\SRx K He H0e H₀ σ H ρ/\zb6 K E He H0e H₀ (zfv tg s (ds.drop i) ρ) D'
theorem zhw.step {K:W.Frag}{H₁:Hp}{tg:Ev->D->Res Ev}{ds:List D}{D':zhy}{i:Nat}{σ:L2.St}{H:Hp}{d:D}{v:V}(h:zhw K E He H0e H₁ tg s ds D' i σ H)(hd:ds[i]?=some d)(rv:Rep K H₁ d v)
  (he:∀ ρ,tg ρ d=.stuck∨∃ ρ',tg ρ d=.ok ρ') :
  tG K He H0e tg v σ H fun σ2 H2=>tS K E He H0e s { D' with nx:=zhw K E He H0e H₁ tg s ds D' (i+1),ct:=zhw K E He H0e H₁ tg s ds D' (i+1),bk:=D'.nx } σ2 H2:=by
 obtain⟨H₀,ρ,z,h,q⟩:=h
 have hi:i < ds.length:=(List.getElem?_eq_some_iff.mp hd).1
 have hdr:ds.drop i=d::ds.drop (i+1):=by
  rw[List.drop_eq_getElem_cons hi]
  rw[List.getElem?_eq_getElem hi] at hd
  cases hd;rfl
 rw[hdr] at q
 refine⟨H₀,ρ,d,h,rv.mono z,?_⟩
 unfold zfv at q
 rcases he ρ with e1 | ⟨ρ1,e1⟩
 ·rw[e1] at q;exact q.elim
 ·rw[e1] at q ⊢
  intro σ' H' H₀' z' h'
  refine⟨H₀',ρ1,h',?_⟩
  replace q:=zb6.grow (r:=(s ρ1).bind fun x=>match x with
   | .nx ρ2=>zfv tg s (ds.drop (i+1)) ρ2
   | .ct ρ2=>zfv tg s (ds.drop (i+1)) ρ2
   | .bk ρ2=>.ok (.nx ρ2)
   | .rt d=>.ok (.rt d)) q z'
  cases e2:s ρ1 with
  | stuck=>rw[e2] at q;exact q
  | exn x=>rw[e2] at q;exact q
  | ok r =>
   rw[e2] at q
   cases r with
   | nx ρ2=>exact fun σ3 H3 H03 z3 h3=>⟨H03,ρ2,(z.trans z').trans z3,h3,zb6.grow (r:=zfv tg s (ds.drop (i+1)) ρ2) q z3⟩
   | ct ρ2=>exact fun σ3 H3 H03 z3 h3=>⟨H03,ρ2,(z.trans z').trans z3,h3,zb6.grow (r:=zfv tg s (ds.drop (i+1)) ρ2) q z3⟩
   | bk ρ2=>exact q
   | rt d=>exact q
theorem zhw.done {K:W.Frag}{H₁:Hp}{tg:Ev->D->Res Ev}{ds:List D}{D':zhy}{σ:L2.St}{H:Hp}(h:zhw K E He H0e H₁ tg s ds D' ds.length σ H):D'.nx σ H:=by
 obtain⟨H₀,ρ,z,h,q⟩:=h
 rw[List.drop_length] at q
 unfold zfv at q
 exact q σ H H₀ (zaG.refl _) h
def zpC (tg:Ev->D->Res Ev):Prop:=∀ ρ d,tg ρ d=.stuck∨∃ ρ',tg ρ d=.ok ρ'
theorem zfB {i:Nat}:zpC (zgC i):=fun ρ d=>.inr ⟨_,rfl⟩
def znU (f:Ev->Res D)(tg:Ev->D->Res Ev)(s:Ev->Res Fl):Ev->Res Fl:=fun ρ=>(f ρ).bind fun d=>match d with
 | .lst ds=>zfv tg s ds ρ
 | _=>.stuck
theorem zn6 {tgt iter:Expr}{body:List Stmt}{tg:Ev->D->Res Ev}(hp:PassesOwn (model X.prog X.w) X.A X.env X.xe)(hc:X.calm=true)(hi:DE X E iter f)(hg:DG X E He H0e tgt tg)(ht:zpC tg)(hb:DSs X E He H0e body s)
  (hs:∀ x,foldedSetIterable iter X.env x=pure x:=by intro _;rfl):DS X E He H0e (.For tgt iter body [] pos) (znU f tg s):=by
 refine⟨?_⟩
 refine zcD (znX hp hc (zlk hi.o) hg.o hb.o hs) fun D' σ H ⟨H₀,ρ,h,q⟩=>⟨H₀,ρ,h.g.sub,h.rd,?_⟩
 refine plain h q fun d v H1 H01 _ g rp q1=>?_
 cases d with
 | lst ds =>
  obtain⟨a,vs,rfl,hv,hr⟩:=Rep.lst_iff.mp rp
  refine⟨a,rfl,⟨vs,zaG.sqL g.sub hv⟩,?_⟩
  refine znp (K:=X.K) (a:=a) (g:=tG X.K He H0e tg) (tb:=tS X.K E He H0e s) (D:=D') (xs:=vs) (zhw X.K E He H0e H01 tg s ds D') ⟨H01,ρ,zaG.refl _,h.grow g,q1⟩ ?_ ?_ ?_
  ·rintro i σ' H' _ ⟨H₀',ρ',z,h',_⟩
   exact zaG.sqL (z.trans h'.g.sub) hv
  ·intro i x σ' H' hx hI
   have hil:i < ds.length:=by rw[hr.length];exact(List.getElem?_eq_some_iff.mp hx).1
   obtain⟨u,e1,e2⟩:=hr.get (List.getElem?_eq_getElem hil)
   rw[hx] at e1;cases e1
   exact hI.step (List.getElem?_eq_getElem hil) e2 fun ρ=>ht ρ _
  ·intro σ' H' hI
   rw[← hr.length] at hI
   exact hI.done
 | _=>exact q1.elim
def intsFrom (lo:Int)(n:Nat):List D:=(List.range n).map fun(k:Nat)=>D.int (lo+(k:Int))
def zk4 (f:Ev->Res D)(tg:Ev->D->Res Ev)(s:Ev->Res Fl):Ev->Res Fl:=fun ρ=>(f (shr ρ)).bind fun d=>match d with
 | .int j=>if -4611686018427387904<=j/\j < 4611686018427387904 then zfv tg s (intsFrom 0 j.toNat) ρ else .stuck
 | _=>.stuck
theorem zpk {tgt iter:Expr}{p pos2:Pos}{body:List Stmt}{tg:Ev->D->Res Ev}(hp:PassesOwn (model X.prog X.w) X.A X.env X.xe)(hc:X.calm=true)(hgl:Gl X "range")(hm:X.mg "range"=none)(hi:DE X E iter f)(hg:DG X E He H0e tgt tg)(ht:zpC tg)(hb:DSs X E He H0e body s)
  (hst:starEach [iter] X.env=[(false,eval iter X.env)]:=by exact zjr rfl)(hs:∀ x,foldedSetIterable (.Call (.Name "range" p) [iter] [] pos2) X.env x=pure x:=by intro _;rfl):DS X E He H0e (.For tgt (.Call (.Name "range" p) [iter] [] pos2) body [] pos) (zk4 f tg s):=by
 refine⟨?_⟩
 refine zcD (znX hp hc (zlj hgl hm (zc0 hi.o zfJ hst) hst) hg.o hb.o hs) fun D' σ H ⟨H₀,ρ,h,q⟩=>?_
 refine⟨frz He H₀ H,shr ρ,h.frz_le,h.looks,look h q fun d v H1 J _ g rp q1=>?_⟩
 cases d with
 | int j =>
  rw[Rep.int_iff.mp rp]
  replace q1:zb6 X.K E He H0e H₀ (if -4611686018427387904<=j/\j < 4611686018427387904 then zfv tg s (intsFrom 0 j.toNat) ρ else .stuck) D':=q1
  by_cases hj:-4611686018427387904<=j/\j < 4611686018427387904
  ·rw[if_pos hj] at q1
   refine⟨j,rfl,by omega,by omega,?_⟩
   have hlen:(intsFrom 0 j.toNat).length=j.toNat:=by unfold intsFrom;simp
   refine zlM (lo:=0) (n:=j.toNat) (g:=tG X.K He H0e tg) (tb:=tS X.K E He H0e s) (D:=D') (zhw X.K E He H0e H₀ tg s (intsFrom 0 j.toNat) D') ⟨H₀,ρ,zaG.refl _,h.same g.s,q1⟩ ?_ ?_
   ·intro i σ' H' hlt hI
    refine hI.step (d:=.int (0+i)) ?_ (Rep.int_iff.mpr rfl) fun ρ=>ht ρ _
    unfold intsFrom
    simp [hlt]
   ·intro σ' H' hI
    exact zhw.done (ds:=intsFrom 0 j.toNat) (by rw[hlen];exact hI)
  ·rw[if_neg hj] at q1;exact q1.elim
 | _=>exact q1.elim
def zcz (c:Ev->Res D)(s:Ev->Res Fl):Nat->Ev->Res Fl
 | 0,_=>.stuck
 | n+1,ρ=>(c (shr ρ)).bind fun x=>match x with
  | .bl b=>if b=true then(s ρ).bind fun x=>match x with
    | .nx ρ2=>zcz c s n ρ2
    | .ct ρ2=>zcz c s n ρ2
    | .bk ρ2=>.ok (.nx ρ2)
    | .rt d=>.ok (.rt d)
   else .ok (.nx ρ)
  | _=>.stuck
def zh1 (fuel:Ev->Nat)(c:Ev->Res D)(s:Ev->Res Fl):Ev->Res Fl:=fun ρ=>zcz c s (fuel ρ) ρ
theorem zjM (fuel:Ev->Nat){c:Expr}{body:List Stmt}{fc:Ev->Res D}(hp:PassesOwn (model X.prog X.w) X.A X.env X.xe)(hc:DT X E c fc)(hb:DSs X E He H0e body s):DS X E He H0e (.While c body [] pos) (zh1 fuel fc s):=by
 refine⟨?_⟩
 refine zcD (zmZ hp hc.o hb.o) fun D' σ H ⟨H₀,ρ,h,q⟩=>?_
 refine⟨fun m σ H=>∃ H₀ ρ,SRx X.K He H0e H₀ σ H ρ/\zb6 X.K E He H0e H₀ (zcz fc s m ρ) D',⟨fuel ρ,H₀,ρ,h,q⟩,?_⟩
 rintro m σ1 H1 ⟨H01,ρ1,h1,q1⟩
 cases m with
 | zero=>exact q1.elim
 | succ m =>
  refine⟨frz He H01 H1,shr ρ1,h1.frz_le,h1.looks,?_⟩
  unfold zcz at q1
  refine zqT (k:=fun b=>if b=true then(s ρ1).bind fun x=>match x with
    | .nx ρ2=>zcz fc s m ρ2
    | .ct ρ2=>zcz fc s m ρ2
    | .bk ρ2=>.ok (.nx ρ2)
    | .rt d=>.ok (.rt d)
   else .ok (.nx ρ1)) h1 q1 fun b H2 hs q2=>?_
  cases b with
  | false =>
   rw[if_neg Bool.false_ne_true] at q2 ⊢
   exact q2 σ1 H2 H01 (zaG.refl _) (h1.same hs)
  | true =>
   rw[if_pos rfl] at q2 ⊢
   refine⟨fun σ' H'=>∃ m',m' < m+1/\∃ H₀ ρ,SRx X.K He H0e H₀ σ' H' ρ/\zb6 X.K E He H0e H₀ (zcz fc s m' ρ) D',fun σ' H' z=>z,H01,ρ1,h1.same hs,?_⟩
   cases e2:s ρ1 with
   | stuck=>rw[e2] at q2;exact q2
   | exn x=>rw[e2] at q2;exact q2
   | ok r =>
    rw[e2] at q2
    cases r with
    | nx ρ2=>exact fun σ3 H3 H03 z3 h3=>⟨m,Nat.lt_succ_self _,H03,ρ2,h3,zb6.grow (r:=zcz fc s m ρ2) q2 z3⟩
    | ct ρ2=>exact fun σ3 H3 H03 z3 h3=>⟨m,Nat.lt_succ_self _,H03,ρ2,h3,zb6.grow (r:=zcz fc s m ρ2) q2 z3⟩
    | bk ρ2=>exact q2
    | rt d=>exact q2
end
def zdm (n:Nat)(s:Ev->Res Fl)(ds:List D):Res D:=(s (ds.map Sl.sh++List.replicate (n-ds.length) .no)).bind fun r=>match r with
 | .nx _=>.ok .non
 | .rt d=>.ok d
 | _=>.stuck
theorem zee {K:W.Frag}{H₀:Hp}{N:List Str}{ds:List D}{vs:List V}(h:Reps K H₀ ds vs):zdN K H₀ (start N vs) (ds.map Sl.sh++List.replicate (N.length-ds.length) .no):=by
 intro i d e
 have hl:=h.length
 by_cases hi:i < ds.length
 ·rw[List.getElem?_append_left (by simpa using hi),List.getElem?_map] at e
  cases q:ds[i]? with
  | none=>rw[q] at e;cases e
  | some d' =>
   rw[q] at e;cases e
   obtain⟨v,h1,h2⟩:=h.get q
   refine⟨v,?_,h2⟩
   unfold L2.start
   rw[List.getElem?_append_left (by simp;omega),List.getElem?_map,h1]
   rfl
 ·rw[List.getElem?_append_right (by simpa using hi),List.getElem?_replicate] at e
  split at e<;>cases e
theorem zfC {ds:List D}{n:Nat}(i j:Nat)(es:List D):(ds.map Sl.sh++List.replicate n Sl.no)[i]?≠some (.ox j es):=fun e=>by
 have:=List.mem_of_getElem? e
 rw[List.mem_append] at this
 rcases this with h | h
 ·obtain⟨_,_,h⟩:=List.mem_map.mp h;cases h
 ·have:=List.eq_of_mem_replicate h;cases this
theorem zaR {P:Program}{w:World}{K:W.Frag}{mg:Str->Option Value}{base:Heap}{x qual:Str}{st:Stmt}{f:Addr}{fd:FuncData}{N ps:List Str}{k:Nat}{s:Ev->Res Fl}(F:Fun K x qual st f fd)(S:zaC N ps (defScope st))
  (hbody:∀ (cdv:Value) (A:Around) (outer:List PySem.Env) (s0:Shared) (H H₀:Hp) (E:XK),zel k (A.deeper (envOfC qual (defScope st) s0.heap.objs.size f cdv)) ->
   DSs (zdX CX0 P w K mg base N qual (defScope st) f cdv A outer s0 H E).nox E H H₀ (defBody st) s):FnOk P w K mg base CX0 (k+1) f fd ps (spD K ps.length (zdm N.length s)):=by
 have hpl:ps.length<=N.length:=by have:=congrArg List.length S.pre;rw[List.length_take] at this;omega
 refine F.ok S (fun vs H Q E h=>h.1) fun cdv A outer s0 H vs Q E hr h=>?_
 obtain⟨hn,H₀,ds,hs,hv,q⟩:=h
 refine⟨_,(hbody cdv A outer s0 H H₀ E hr).o,H₀,ds.map Sl.sh++List.replicate (N.length-ds.length) .no,?_,?_⟩
 ·refine⟨zbh.refl hs,zee hv,fun i d e=>?_,fun i j d d' hij e=>?_,?_,OX.none zfC⟩
  ·by_cases hi:i < ds.length
   ·rw[List.getElem?_append_left (by simpa using hi),List.getElem?_map] at e
    cases q:ds[i]? with
    | none=>rw[q] at e;cases e
    | some d'=>rw[q] at e;cases e
   ·rw[List.getElem?_append_right (by simpa using hi),List.getElem?_replicate] at e
    split at e<;>cases e
  ·by_cases hi:i < ds.length
   ·rw[List.getElem?_append_left (by simpa using hi),List.getElem?_map] at e
    cases q:ds[i]? with
    | none=>rw[q] at e;cases e
    | some d'=>rw[q] at e;cases e
   ·rw[List.getElem?_append_right (by simpa using hi),List.getElem?_replicate] at e
    split at e<;>cases e
  ·unfold L2.start
   have:=hv.length
   simp only[List.length_append,List.length_map,List.length_replicate]
   omega
 ·unfold zdm at q
  cases e1:s (ds.map Sl.sh++List.replicate (N.length-ds.length) .no) with
  | stuck=>rw[e1] at q;exact q
  | exn x=>rw[e1] at q;exact q
  | ok r =>
   rw[e1] at q
   cases r with
   | nx ρ'=>exact fun σ' H' H₀' _ h'=>q .non H' H₀' h'.g (Rep.non_iff.mpr rfl)
   | rt d=>exact fun v H' H₀' g rp=>q v H' H₀' g rp
   | bk ρ'=>exact q.elim
   | ct ρ'=>exact q.elim
mutual
def eqD:D->D->Bool
 | .non,.non=>true
 | .bl a,.bl b=>a==b
 | .bl a,.int b=>(if a then 1 else 0)==b
 | .int a,.bl b=>a==(if b then 1 else 0)
 | .int a,.int b=>a==b
 | .str a,.str b=>a==b
 | .tup xs,.tup ys=>eqDs xs ys
 | .lst xs,.lst ys=>eqDs xs ys
 | _,_=>false
def eqDs:List D->List D->Bool
 | [],[]=>true
 | x::xs,y::ys=>eqD x y&&eqDs xs ys
 | _,_=>false
end
def zbb:Nat->D->Bool
 | _,.non=>true
 | _,.bl _=>true
 | _,.int _=>true
 | _,.str _=>true
 | n+1,.tup ds=>ds.all (zbb n)
 | n+1,.lst ds=>ds.all (zbb n)
 | _,_=>false
theorem zit {ds:List D}(h:∀ d∈ds,eqD d d=true):eqDs ds ds=true:=by
 induction ds with
 | nil=>simp [eqDs]
 | cons d r ih =>
  unfold eqDs
  rw[h d List.mem_cons_self,ih fun x hx=>h x (List.mem_cons_of_mem _ hx)]
  rfl
theorem zfz:∀ (n:Nat) (d:D),zbb n d=true->eqD d d=true
 | _,.non,_=>by simp [eqD]
 | _,.bl b,_=>by simp [eqD]
 | _,.int b,_=>by simp [eqD]
 | _,.str b,_=>by simp [eqD]
 | n+1,.tup ds,h=>by
  unfold zbb at h
  unfold eqD
  exact zit fun d hd=>zfz n d (List.all_eq_true.mp h d hd)
 | n+1,.lst ds,h=>by
  unfold zbb at h
  unfold eqD
  exact zit fun d hd=>zfz n d (List.all_eq_true.mp h d hd)
 | 0,.tup ds,h=>by unfold zbb at h;cases h
 | 0,.lst ds,h=>by unfold zbb at h;cases h
 | 0,.dic ks ds,h=>by unfold zbb at h;cases h
 | n+1,.dic ks ds,h=>by unfold zbb at h;cases h
 | 0,.exc x,h=>by unfold zbb at h;cases h
 | 0,.ob k x,h=>by unfold zbb at h;cases h
 | n+1,.ob k x,h=>by unfold zbb at h;cases h
 | n+1,.exc x,h=>by unfold zbb at h;cases h
theorem zpi {xs ys:List D}:eqD (.tup xs) (.tup ys)=eqDs xs ys:=by rw[eqD]
theorem zlY {xs ys:List D}:eqD (.lst xs) (.lst ys)=eqDs xs ys:=by rw[eqD]
theorem zeX:∀ (xs ys:List D),xs.length=ys.length->eqDs xs ys=(List.range xs.length).all fun j=>eqD (xs.getD j .non) (ys.getD j .non)
 | [],[],_=>by simp [eqDs]
 | x::xs,y::ys,h=>by
  have ih:=zeX xs ys (by simpa using h)
  unfold eqDs
  rw[ih,List.length_cons,List.range_succ_eq_map,List.all_cons,List.all_map]
  rfl
 | [],_::_,h=>by simp at h
 | _::_,[],h=>by simp at h
theorem zhh:∀ (xs ys:List D),xs.length≠ys.length->eqDs xs ys=false
 | [],[],h=>absurd rfl h
 | x::xs,y::ys,h=>by
  unfold eqDs
  rw[zhh xs ys (by simpa using h),Bool.and_false]
 | [],_::_,h=>by simp [eqDs]
 | _::_,[],h=>by simp [eqDs]
section
variable {X:Cx}{pins:List (Addr×Obj)}{σ:L2.St}{H:Hp}{s:Shared}
theorem Rep.tup_get (I:Inv X pins σ H s){ds:List D}{v:V}{u:Value}(r:Rep X.K H (.tup ds) v)(rv:zbB v u):∃ a vs its,v=.ref a/\u=.ref a/\SqT X.K H a vs/\Reps X.K H ds vs/\zbG vs its/\IsTup s.heap a its.toArray/\ds.length=its.length:=by
 obtain⟨a,vs,rfl,h1,h2⟩:=Rep.tup_iff.mp r
 obtain rfl:u=Value.ref a:=rv
 obtain⟨its,h3,h4,_⟩:=I.tuple h1
 exact⟨a,vs,its,rfl,rfl,h1,h2,h3,h4,h2.length.trans h3.length⟩
theorem Rep.lst_get (I:Inv X pins σ H s){ds:List D}{v:V}{u:Value}(r:Rep X.K H (.lst ds) v)(rv:zbB v u):∃ a vs its,v=.ref a/\u=.ref a/\SqL X.K H a vs/\Reps X.K H ds vs/\zbG vs its/\s.heap.IsList a its.toArray/\ds.length=its.length:=by
 obtain⟨a,vs,rfl,h1,h2⟩:=Rep.lst_iff.mp r
 obtain rfl:u=Value.ref a:=rv
 obtain⟨its,h3,h4,_⟩:=I.list h1
 exact⟨a,vs,its,rfl,rfl,h1,h2,h3,h4.isList,h2.length.trans h3.length⟩
theorem zgX {n:Nat}(ih:∀ (d d':D) (v:V),zbb n d=true->zbb n d'=true->Rep X.K H d v->Rep X.K H d' v->d=d'):∀ (ds ds':List D) (vs:List V),ds.all (zbb n)=true->ds'.all (zbb n)=true->Reps X.K H ds vs->Reps X.K H ds' vs->ds=ds'
 | [],ds',vs,_,_,h,h'=>by
  rw[Reps.nil_iff.mp h] at h'
  cases ds' with
  | nil=>rfl
  | cons d r=>obtain⟨_,_,e,_⟩:=Reps.cons_iff.mp h';cases e
 | d::ds,ds',vs,a,a',h,h'=>by
  obtain⟨v,r,rfl,h1,h2⟩:=Reps.cons_iff.mp h
  cases ds' with
  | nil=>cases Reps.nil_iff.mp h'
  | cons d' ds' =>
   obtain⟨v',r',e,h1',h2'⟩:=Reps.cons_iff.mp h'
   cases e
   rw[List.all_cons,Bool.and_eq_true] at a a'
   rw[ih d d' v a.1 a'.1 h1 h1',zgX ih ds ds' r a.2 a'.2 h2 h2']
theorem Rep.inj (I:Inv X pins σ H s):∀ (n:Nat) (d d':D) (v:V),zbb n d=true->zbb n d'=true->Rep X.K H d v->Rep X.K H d' v->d=d':=by
 have atom:∀ (n:Nat) (d d':D) (v:V),(∀ ds,d≠.tup ds)->(∀ ds,d≠.lst ds)->zbb n d=true->zbb n d'=true->Rep X.K H d v->Rep X.K H d' v->d=d':=by
  intro n d d' v n1 n2 s1 s2 h h'
  have nd:∀ m ks ds,zbb m (.dic ks ds)=true->False:=fun m ks ds h=>by cases m<;>(unfold zbb at h;cases h)
  have nx:∀ m x,zbb m (.exc x)=true->False:=fun m x h=>by cases m<;>(unfold zbb at h;cases h)
  have nb:∀ m k x,zbb m (.ob k x)=true->False:=fun m k x h=>by cases m<;>(unfold zbb at h;cases h)
  cases d with
  | tup ds=>exact absurd rfl (n1 ds)
  | lst ds=>exact absurd rfl (n2 ds)
  | dic ks ds=>exact(nd _ _ _ s1).elim
  | exc x=>exact(nx _ _ s1).elim
  | ob k x=>exact(nb _ _ _ s1).elim
  | non =>
   rw[Rep.non_iff.mp h] at h'
   cases d' with
   | non=>rfl
   | bl b=>cases Rep.bl_iff.mp h'
   | int b=>cases Rep.int_iff.mp h'
   | str b=>cases Rep.str_iff.mp h'
   | tup ds=>obtain⟨_,_,e,_⟩:=Rep.tup_iff.mp h';cases e
   | lst ds=>obtain⟨_,_,e,_⟩:=Rep.lst_iff.mp h';cases e
   | dic ks ds=>exact(nd _ _ _ s2).elim
   | exc x=>exact(nx _ _ s2).elim
   | ob k x=>exact(nb _ _ _ s2).elim
  | bl x =>
   rw[Rep.bl_iff.mp h] at h'
   cases d' with
   | non=>cases Rep.non_iff.mp h'
   | bl b=>cases Rep.bl_iff.mp h';rfl
   | int b=>cases Rep.int_iff.mp h'
   | str b=>cases Rep.str_iff.mp h'
   | tup ds=>obtain⟨_,_,e,_⟩:=Rep.tup_iff.mp h';cases e
   | lst ds=>obtain⟨_,_,e,_⟩:=Rep.lst_iff.mp h';cases e
   | dic ks ds=>exact(nd _ _ _ s2).elim
   | exc x=>exact(nx _ _ s2).elim
   | ob k x=>exact(nb _ _ _ s2).elim
  | int x =>
   rw[Rep.int_iff.mp h] at h'
   cases d' with
   | non=>cases Rep.non_iff.mp h'
   | bl b=>cases Rep.bl_iff.mp h'
   | int b=>cases Rep.int_iff.mp h';rfl
   | str b=>cases Rep.str_iff.mp h'
   | tup ds=>obtain⟨_,_,e,_⟩:=Rep.tup_iff.mp h';cases e
   | lst ds=>obtain⟨_,_,e,_⟩:=Rep.lst_iff.mp h';cases e
   | dic ks ds=>exact(nd _ _ _ s2).elim
   | exc x=>exact(nx _ _ s2).elim
   | ob k x=>exact(nb _ _ _ s2).elim
  | str x =>
   rw[Rep.str_iff.mp h] at h'
   cases d' with
   | non=>cases Rep.non_iff.mp h'
   | bl b=>cases Rep.bl_iff.mp h'
   | int b=>cases Rep.int_iff.mp h'
   | str b=>cases Rep.str_iff.mp h';rfl
   | tup ds=>obtain⟨_,_,e,_⟩:=Rep.tup_iff.mp h';cases e
   | lst ds=>obtain⟨_,_,e,_⟩:=Rep.lst_iff.mp h';cases e
   | dic ks ds=>exact(nd _ _ _ s2).elim
   | exc x=>exact(nx _ _ s2).elim
   | ob k x=>exact(nb _ _ _ s2).elim
 intro n
 induction n with
 | zero =>
  intro d d' v s1 s2 h h'
  exact atom 0 d d' v (fun ds e=>by subst e;unfold zbb at s1;cases s1) (fun ds e=>by subst e;unfold zbb at s1;cases s1) s1 s2 h h'
 | succ n ih =>
  intro d d' v s1 s2 h h'
  by_cases t1:∃ ds,d=.tup ds
  ·obtain⟨ds,rfl⟩:=t1
   by_cases t2:∃ ds',d'=.tup ds'
   ·obtain⟨ds',rfl⟩:=t2
    obtain⟨a,vs,rfl,h1,h2⟩:=Rep.tup_iff.mp h
    obtain⟨a',vs',e,h1',h2'⟩:=Rep.tup_iff.mp h'
    cases e
    rw[I.tuple_inj h1' h1] at h2'
    unfold zbb at s1 s2
    rw[zgX ih ds ds' vs s1 s2 h2 h2']
   ·by_cases t3:∃ ds',d'=.lst ds'
    ·obtain⟨ds',rfl⟩:=t3
     obtain⟨a0,_,ev,_,_⟩:=Rep.tup_iff.mp h;subst ev
     obtain⟨a,vs,its,ea,_,h1,h2,h3,h4,_⟩:=Rep.tup_get I h rfl;cases ea
     obtain⟨a',vs',its',e,_,h1',h2',h3',h4',_⟩:=Rep.lst_get I h' rfl
     cases e
     exact absurd rfl (SeqAt.ne_of_list_tuple h4' h4)
    ·exact(atom (n+1) d' _ v (fun ds e=>t2 ⟨ds,e⟩) (fun ds e=>t3 ⟨ds,e⟩) s2 s1 h' h).symm
  ·by_cases t1':∃ ds,d=.lst ds
   ·obtain⟨ds,rfl⟩:=t1'
    by_cases t2:∃ ds',d'=.lst ds'
    ·obtain⟨ds',rfl⟩:=t2
     obtain⟨a,vs,rfl,h1,h2⟩:=Rep.lst_iff.mp h
     obtain⟨a',vs',e,h1',h2'⟩:=Rep.lst_iff.mp h'
     cases e
     rw[I.list_inj h1' h1] at h2'
     unfold zbb at s1 s2
     rw[zgX ih ds ds' vs s1 s2 h2 h2']
    ·by_cases t3:∃ ds',d'=.tup ds'
     ·obtain⟨ds',rfl⟩:=t3
      obtain⟨a0,_,ev,_,_⟩:=Rep.lst_iff.mp h;subst ev
      obtain⟨a,vs,its,ea,_,h1,h2,h3,h4,_⟩:=Rep.lst_get I h rfl;cases ea
      obtain⟨a',vs',its',e,_,h1',h2',h3',h4',_⟩:=Rep.tup_get I h' rfl
      cases e
      exact absurd rfl (SeqAt.ne_of_list_tuple h4 h4')
     ·exact(atom (n+1) d' _ v (fun ds e=>t3 ⟨ds,e⟩) (fun ds e=>t2 ⟨ds,e⟩) s2 s1 h' h).symm
   ·exact atom (n+1) d d' v (fun ds e=>t1 ⟨ds,e⟩) (fun ds e=>t1' ⟨ds,e⟩) s1 s2 h h'
theorem zjC {n:Nat}{A:Around}{xs ys:List D}{vs us:List V}{is js:List Value}
  (ih:∀ (x y:D) (v u:V) (a b:Value),zbb n x=true->zbb n y=true->Rep X.K H x v->Rep X.K H y u->zbB v a->zbB u b->SeqAt.EqAt A.in1 s a b (eqD x y))
  (sx:xs.all (zbb n)=true)(sy:ys.all (zbb n)=true)(rx:Reps X.K H xs vs)(ry:Reps X.K H ys us)(qx:zbG vs is)(qy:zbG us js) :
  ∀ j (h1:j < is.toArray.size) (h2:j < js.toArray.size),SeqAt.EqAt A.in1 s is.toArray[j] js.toArray[j] (eqD (xs.getD j .non) (ys.getD j .non)):=by
 intro j h1 h2
 have lx:=rx.length
 have ly:=ry.length
 have kx:=qx.length
 have ky:=qy.length
 have h1':j < is.length:=by simpa using h1
 have h2':j < js.length:=by simpa using h2
 have hx:j < xs.length:=by omega
 have hy:j < ys.length:=by omega
 obtain⟨v,e1,r1⟩:=rx.get (List.getElem?_eq_getElem hx)
 obtain⟨u,e2,r2⟩:=ry.get (List.getElem?_eq_getElem hy)
 obtain⟨a,e3,r3⟩:=qx.get e1
 obtain⟨b,e4,r4⟩:=qy.get e2
 have ea:is.toArray[j]=a:=by
  rw[List.getElem?_eq_getElem h1'] at e3
  simpa using Option.some.inj e3
 have eb:js.toArray[j]=b:=by
  rw[List.getElem?_eq_getElem h2'] at e4
  simpa using Option.some.inj e4
 rw[ea,eb]
 have gx:xs.getD j .non=xs[j]:=by simp [List.getD,List.getElem?_eq_getElem hx]
 have gy:ys.getD j .non=ys[j]:=by simp [List.getD,List.getElem?_eq_getElem hy]
 rw[gx,gy]
 exact ih _ _ v u a b (List.all_eq_true.mp sx _ (List.getElem_mem hx)) (List.all_eq_true.mp sy _ (List.getElem_mem hy)) r1 r2 r3 r4
theorem zjv (I:Inv X pins σ H s){A:Around}(hu:A.units < cLine){x y:D}{v u:V}{a b:Value}(rx:Rep X.K H x v)(ry:Rep X.K H y u)(qx:zbB v a)(qy:zbB u b)
  (n1:∀ ds ds',¬ (x=.lst ds/\y=.lst ds'))(n2:∀ ds ds',¬ (x=.tup ds/\y=.tup ds'))(d1:∀ ks ds,x≠.dic ks ds)(d2:∀ ks ds,y≠.dic ks ds)(x1:∀ c,x≠.exc c)(x2:∀ c,y≠.exc c)(o1:∀ k c,x≠.ob k c)(o2:∀ k c,y≠.ob k c) :
  SeqAt.RcAt A s a b (eqD x y)/\SeqAt.EqAt A s a b (eqD x y)/\SeqAt.RcNeAt A s a b (!(eqD x y)):=by
 cases x with
 | non =>
  cases y with
  | non =>
   obtain rfl:=Rep.non_iff.mp rx;obtain rfl:a=Value.none:=qx
   obtain rfl:=Rep.non_iff.mp ry;obtain rfl:b=Value.none:=qy
   unfold eqD
   exact⟨SeqAt.RcAt.none_none ,SeqAt.EqAt.same _,SeqAt.RcNeAt.none_none ⟩
  | bl y =>
   obtain rfl:=Rep.non_iff.mp rx;obtain rfl:a=Value.none:=qx
   obtain rfl:=Rep.bl_iff.mp ry;obtain rfl:b=Value.bool _:=qy
   unfold eqD
   exact⟨SeqAt.RcAt.none_bool _,SeqAt.EqAt.none_bool _,SeqAt.RcNeAt.none_bool _⟩
  | int y =>
   obtain rfl:=Rep.non_iff.mp rx;obtain rfl:a=Value.none:=qx
   obtain rfl:=Rep.int_iff.mp ry;obtain⟨ty,rfl⟩:∃ t,b=Value.int _ t:=qy
   unfold eqD
   exact⟨SeqAt.RcAt.none_int _ _,SeqAt.EqAt.none_int _ _,SeqAt.RcNeAt.none_int _ _⟩
  | str y =>
   obtain rfl:=Rep.non_iff.mp rx;obtain rfl:a=Value.none:=qx
   obtain rfl:=Rep.str_iff.mp ry;obtain⟨ty,rfl⟩:∃ t,b=Value.str _ t:=qy
   unfold eqD
   exact⟨SeqAt.RcAt.none_str _ _,SeqAt.EqAt.none_str _ _,SeqAt.RcNeAt.none_str _ _⟩
  | lst y =>
   obtain rfl:=Rep.non_iff.mp rx;obtain rfl:a=Value.none:=qx
   obtain⟨ly,_,_,rfl,rfl,_,_,_,hy,_⟩:=Rep.lst_get I ry qy
   unfold eqD
   exact⟨SeqAt.RcAt.none_list  hy hu,SeqAt.EqAt.none_list  hy hu,SeqAt.RcNeAt.none_list  hy hu⟩
  | tup y =>
   obtain rfl:=Rep.non_iff.mp rx;obtain rfl:a=Value.none:=qx
   obtain⟨ly,_,_,rfl,rfl,_,_,_,hy,_⟩:=Rep.tup_get I ry qy
   unfold eqD
   exact⟨SeqAt.RcAt.none_tuple  hy hu,SeqAt.EqAt.none_tuple  hy hu,SeqAt.RcNeAt.none_tuple  hy hu⟩
  | dic ks ds=>exact absurd rfl (d2 ks ds)
  | exc c=>exact absurd rfl (x2 c)
  | ob k c=>exact absurd rfl (o2 k c)
 | bl x =>
  cases y with
  | non =>
   obtain rfl:=Rep.bl_iff.mp rx;obtain rfl:a=Value.bool _:=qx
   obtain rfl:=Rep.non_iff.mp ry;obtain rfl:b=Value.none:=qy
   unfold eqD
   exact⟨SeqAt.RcAt.bool_none _,SeqAt.EqAt.bool_none _,SeqAt.RcNeAt.bool_none _⟩
  | bl y =>
   obtain rfl:=Rep.bl_iff.mp rx;obtain rfl:a=Value.bool _:=qx
   obtain rfl:=Rep.bl_iff.mp ry;obtain rfl:b=Value.bool _:=qy
   unfold eqD
   exact⟨SeqAt.RcAt.bool_bool _ _,SeqAt.EqAt.bool_bool _ _,SeqAt.RcNeAt.bool_bool _ _⟩
  | int y =>
   obtain rfl:=Rep.bl_iff.mp rx;obtain rfl:a=Value.bool _:=qx
   obtain rfl:=Rep.int_iff.mp ry;obtain⟨ty,rfl⟩:∃ t,b=Value.int _ t:=qy
   unfold eqD
   exact⟨SeqAt.RcAt.bool_int _ _ _,SeqAt.EqAt.bool_int _ _ _,SeqAt.RcNeAt.bool_int _ _ _⟩
  | str y =>
   obtain rfl:=Rep.bl_iff.mp rx;obtain rfl:a=Value.bool _:=qx
   obtain rfl:=Rep.str_iff.mp ry;obtain⟨ty,rfl⟩:∃ t,b=Value.str _ t:=qy
   unfold eqD
   exact⟨SeqAt.RcAt.bool_str _ _ _,SeqAt.EqAt.bool_str _ _ _,SeqAt.RcNeAt.bool_str _ _ _⟩
  | lst y =>
   obtain rfl:=Rep.bl_iff.mp rx;obtain rfl:a=Value.bool _:=qx
   obtain⟨ly,_,_,rfl,rfl,_,_,_,hy,_⟩:=Rep.lst_get I ry qy
   unfold eqD
   exact⟨SeqAt.RcAt.bool_list _ hy hu,SeqAt.EqAt.bool_list _ hy hu,SeqAt.RcNeAt.bool_list _ hy hu⟩
  | tup y =>
   obtain rfl:=Rep.bl_iff.mp rx;obtain rfl:a=Value.bool _:=qx
   obtain⟨ly,_,_,rfl,rfl,_,_,_,hy,_⟩:=Rep.tup_get I ry qy
   unfold eqD
   exact⟨SeqAt.RcAt.bool_tuple _ hy hu,SeqAt.EqAt.bool_tuple _ hy hu,SeqAt.RcNeAt.bool_tuple _ hy hu⟩
  | dic ks ds=>exact absurd rfl (d2 ks ds)
  | exc c=>exact absurd rfl (x2 c)
  | ob k c=>exact absurd rfl (o2 k c)
 | int x =>
  cases y with
  | non =>
   obtain rfl:=Rep.int_iff.mp rx;obtain⟨tx,rfl⟩:∃ t,a=Value.int _ t:=qx
   obtain rfl:=Rep.non_iff.mp ry;obtain rfl:b=Value.none:=qy
   unfold eqD
   exact⟨SeqAt.RcAt.int_none _ _,SeqAt.EqAt.int_none _ _,SeqAt.RcNeAt.int_none _ _⟩
  | bl y =>
   obtain rfl:=Rep.int_iff.mp rx;obtain⟨tx,rfl⟩:∃ t,a=Value.int _ t:=qx
   obtain rfl:=Rep.bl_iff.mp ry;obtain rfl:b=Value.bool _:=qy
   unfold eqD
   exact⟨SeqAt.RcAt.int_bool _ _ _,SeqAt.EqAt.int_bool _ _ _,SeqAt.RcNeAt.int_bool _ _ _⟩
  | int y =>
   obtain rfl:=Rep.int_iff.mp rx;obtain⟨tx,rfl⟩:∃ t,a=Value.int _ t:=qx
   obtain rfl:=Rep.int_iff.mp ry;obtain⟨ty,rfl⟩:∃ t,b=Value.int _ t:=qy
   unfold eqD
   exact⟨SeqAt.RcAt.int_int _ _ _ _,SeqAt.EqAt.int_int _ _ _ _,SeqAt.RcNeAt.int_int _ _ _ _⟩
  | str y =>
   obtain rfl:=Rep.int_iff.mp rx;obtain⟨tx,rfl⟩:∃ t,a=Value.int _ t:=qx
   obtain rfl:=Rep.str_iff.mp ry;obtain⟨ty,rfl⟩:∃ t,b=Value.str _ t:=qy
   unfold eqD
   exact⟨SeqAt.RcAt.int_str _ _ _ _,SeqAt.EqAt.int_str _ _ _ _,SeqAt.RcNeAt.int_str _ _ _ _⟩
  | lst y =>
   obtain rfl:=Rep.int_iff.mp rx;obtain⟨tx,rfl⟩:∃ t,a=Value.int _ t:=qx
   obtain⟨ly,_,_,rfl,rfl,_,_,_,hy,_⟩:=Rep.lst_get I ry qy
   unfold eqD
   exact⟨SeqAt.RcAt.int_list _ _ hy hu,SeqAt.EqAt.int_list _ _ hy hu,SeqAt.RcNeAt.int_list _ _ hy hu⟩
  | tup y =>
   obtain rfl:=Rep.int_iff.mp rx;obtain⟨tx,rfl⟩:∃ t,a=Value.int _ t:=qx
   obtain⟨ly,_,_,rfl,rfl,_,_,_,hy,_⟩:=Rep.tup_get I ry qy
   unfold eqD
   exact⟨SeqAt.RcAt.int_tuple _ _ hy hu,SeqAt.EqAt.int_tuple _ _ hy hu,SeqAt.RcNeAt.int_tuple _ _ hy hu⟩
  | dic ks ds=>exact absurd rfl (d2 ks ds)
  | exc c=>exact absurd rfl (x2 c)
  | ob k c=>exact absurd rfl (o2 k c)
 | str x =>
  cases y with
  | non =>
   obtain rfl:=Rep.str_iff.mp rx;obtain⟨tx,rfl⟩:∃ t,a=Value.str _ t:=qx
   obtain rfl:=Rep.non_iff.mp ry;obtain rfl:b=Value.none:=qy
   unfold eqD
   exact⟨SeqAt.RcAt.str_none _ _,SeqAt.EqAt.str_none _ _,SeqAt.RcNeAt.str_none _ _⟩
  | bl y =>
   obtain rfl:=Rep.str_iff.mp rx;obtain⟨tx,rfl⟩:∃ t,a=Value.str _ t:=qx
   obtain rfl:=Rep.bl_iff.mp ry;obtain rfl:b=Value.bool _:=qy
   unfold eqD
   exact⟨SeqAt.RcAt.str_bool _ _ _,SeqAt.EqAt.str_bool _ _ _,SeqAt.RcNeAt.str_bool _ _ _⟩
  | int y =>
   obtain rfl:=Rep.str_iff.mp rx;obtain⟨tx,rfl⟩:∃ t,a=Value.str _ t:=qx
   obtain rfl:=Rep.int_iff.mp ry;obtain⟨ty,rfl⟩:∃ t,b=Value.int _ t:=qy
   unfold eqD
   exact⟨SeqAt.RcAt.str_int _ _ _ _,SeqAt.EqAt.str_int _ _ _ _,SeqAt.RcNeAt.str_int _ _ _ _⟩
  | str y =>
   obtain rfl:=Rep.str_iff.mp rx;obtain⟨tx,rfl⟩:∃ t,a=Value.str _ t:=qx
   obtain rfl:=Rep.str_iff.mp ry;obtain⟨ty,rfl⟩:∃ t,b=Value.str _ t:=qy
   unfold eqD
   exact⟨SeqAt.RcAt.str_str _ _ _ _,SeqAt.EqAt.str_str _ _ _ _,SeqAt.RcNeAt.str_str _ _ _ _⟩
  | lst y =>
   obtain rfl:=Rep.str_iff.mp rx;obtain⟨tx,rfl⟩:∃ t,a=Value.str _ t:=qx
   obtain⟨ly,_,_,rfl,rfl,_,_,_,hy,_⟩:=Rep.lst_get I ry qy
   unfold eqD
   exact⟨SeqAt.RcAt.str_list _ _ hy hu,SeqAt.EqAt.str_list _ _ hy hu,SeqAt.RcNeAt.str_list _ _ hy hu⟩
  | tup y =>
   obtain rfl:=Rep.str_iff.mp rx;obtain⟨tx,rfl⟩:∃ t,a=Value.str _ t:=qx
   obtain⟨ly,_,_,rfl,rfl,_,_,_,hy,_⟩:=Rep.tup_get I ry qy
   unfold eqD
   exact⟨SeqAt.RcAt.str_tuple _ _ hy hu,SeqAt.EqAt.str_tuple _ _ hy hu,SeqAt.RcNeAt.str_tuple _ _ hy hu⟩
  | dic ks ds=>exact absurd rfl (d2 ks ds)
  | exc c=>exact absurd rfl (x2 c)
  | ob k c=>exact absurd rfl (o2 k c)
 | lst x =>
  cases y with
  | non =>
   obtain⟨lx,_,_,rfl,rfl,_,_,_,hx,_⟩:=Rep.lst_get I rx qx
   obtain rfl:=Rep.non_iff.mp ry;obtain rfl:b=Value.none:=qy
   unfold eqD
   exact⟨SeqAt.RcAt.list_none  hx hu,SeqAt.EqAt.list_none  hx hu,SeqAt.RcNeAt.list_none  hx hu⟩
  | bl y =>
   obtain⟨lx,_,_,rfl,rfl,_,_,_,hx,_⟩:=Rep.lst_get I rx qx
   obtain rfl:=Rep.bl_iff.mp ry;obtain rfl:b=Value.bool _:=qy
   unfold eqD
   exact⟨SeqAt.RcAt.list_bool _ hx hu,SeqAt.EqAt.list_bool _ hx hu,SeqAt.RcNeAt.list_bool _ hx hu⟩
  | int y =>
   obtain⟨lx,_,_,rfl,rfl,_,_,_,hx,_⟩:=Rep.lst_get I rx qx
   obtain rfl:=Rep.int_iff.mp ry;obtain⟨ty,rfl⟩:∃ t,b=Value.int _ t:=qy
   unfold eqD
   exact⟨SeqAt.RcAt.list_int _ _ hx hu,SeqAt.EqAt.list_int _ _ hx hu,SeqAt.RcNeAt.list_int _ _ hx hu⟩
  | str y =>
   obtain⟨lx,_,_,rfl,rfl,_,_,_,hx,_⟩:=Rep.lst_get I rx qx
   obtain rfl:=Rep.str_iff.mp ry;obtain⟨ty,rfl⟩:∃ t,b=Value.str _ t:=qy
   unfold eqD
   exact⟨SeqAt.RcAt.list_str _ _ hx hu,SeqAt.EqAt.list_str _ _ hx hu,SeqAt.RcNeAt.list_str _ _ hx hu⟩
  | lst y =>
   exact absurd ⟨rfl,rfl⟩ (n1 x y)
  | tup y =>
   obtain⟨lx,_,_,rfl,rfl,_,_,_,hx,_⟩:=Rep.lst_get I rx qx
   obtain⟨ly,_,_,rfl,rfl,_,_,_,hy,_⟩:=Rep.tup_get I ry qy
   unfold eqD
   exact⟨SeqAt.RcAt.list_tuple  hx hy hu,SeqAt.EqAt.list_tuple  hx hy hu,SeqAt.RcNeAt.list_tuple  hx hy hu⟩
  | dic ks ds=>exact absurd rfl (d2 ks ds)
  | exc c=>exact absurd rfl (x2 c)
  | ob k c=>exact absurd rfl (o2 k c)
 | tup x =>
  cases y with
  | non =>
   obtain⟨lx,_,_,rfl,rfl,_,_,_,hx,_⟩:=Rep.tup_get I rx qx
   obtain rfl:=Rep.non_iff.mp ry;obtain rfl:b=Value.none:=qy
   unfold eqD
   exact⟨SeqAt.RcAt.tuple_none  hx hu,SeqAt.EqAt.tuple_none  hx hu,SeqAt.RcNeAt.tuple_none  hx hu⟩
  | bl y =>
   obtain⟨lx,_,_,rfl,rfl,_,_,_,hx,_⟩:=Rep.tup_get I rx qx
   obtain rfl:=Rep.bl_iff.mp ry;obtain rfl:b=Value.bool _:=qy
   unfold eqD
   exact⟨SeqAt.RcAt.tuple_bool _ hx hu,SeqAt.EqAt.tuple_bool _ hx hu,SeqAt.RcNeAt.tuple_bool _ hx hu⟩
  | int y =>
   obtain⟨lx,_,_,rfl,rfl,_,_,_,hx,_⟩:=Rep.tup_get I rx qx
   obtain rfl:=Rep.int_iff.mp ry;obtain⟨ty,rfl⟩:∃ t,b=Value.int _ t:=qy
   unfold eqD
   exact⟨SeqAt.RcAt.tuple_int _ _ hx hu,SeqAt.EqAt.tuple_int _ _ hx hu,SeqAt.RcNeAt.tuple_int _ _ hx hu⟩
  | str y =>
   obtain⟨lx,_,_,rfl,rfl,_,_,_,hx,_⟩:=Rep.tup_get I rx qx
   obtain rfl:=Rep.str_iff.mp ry;obtain⟨ty,rfl⟩:∃ t,b=Value.str _ t:=qy
   unfold eqD
   exact⟨SeqAt.RcAt.tuple_str _ _ hx hu,SeqAt.EqAt.tuple_str _ _ hx hu,SeqAt.RcNeAt.tuple_str _ _ hx hu⟩
  | lst y =>
   obtain⟨lx,_,_,rfl,rfl,_,_,_,hx,_⟩:=Rep.tup_get I rx qx
   obtain⟨ly,_,_,rfl,rfl,_,_,_,hy,_⟩:=Rep.lst_get I ry qy
   unfold eqD
   exact⟨SeqAt.RcAt.tuple_list  hx hy hu,SeqAt.EqAt.tuple_list  hx hy hu,SeqAt.RcNeAt.tuple_list  hx hy hu⟩
  | tup y =>
   exact absurd ⟨rfl,rfl⟩ (n2 x y)
  | dic ks ds=>exact absurd rfl (d2 ks ds)
  | exc c=>exact absurd rfl (x2 c)
  | ob k c=>exact absurd rfl (o2 k c)
 | dic ks ds=>exact absurd rfl (d1 ks ds)
 | exc c=>exact absurd rfl (x1 c)
 | ob k c=>exact absurd rfl (o1 k c)
theorem zsa (I:Inv X pins σ H s):∀ (n:Nat) (A:Around),A.units+n < cLine->∀ (x y:D) (v u:V) (a b:Value),zbb n x=true->zbb n y=true->Rep X.K H x v->Rep X.K H y u->zbB v a->zbB u b ->
  SeqAt.RcAt A s a b (eqD x y)/\SeqAt.EqAt A s a b (eqD x y)/\SeqAt.RcNeAt A s a b (!(eqD x y)):=by
 have nd:∀ m ks ds,zbb m (.dic ks ds)=true->False:=fun m ks ds h=>by cases m<;>(unfold zbb at h;cases h)
 have nx:∀ m x,zbb m (.exc x)=true->False:=fun m x h=>by cases m<;>(unfold zbb at h;cases h)
 have nb:∀ m k x,zbb m (.ob k x)=true->False:=fun m k x h=>by cases m<;>(unfold zbb at h;cases h)
 intro n
 induction n with
 | zero =>
  intro A hu x y v u a b sx sy rx ry qa qb
  refine zjv I (by omega) rx ry qa qb (fun ds ds' z=>?_) (fun ds ds' z=>?_) (fun ks ds z=>?_) (fun ks ds z=>?_) (fun c z=>nx _ _ (z▸sx)) (fun c z=>nx _ _ (z▸sy)) (fun k c z=>nb _ _ _ (z▸sx)) (fun k c z=>nb _ _ _ (z▸sy))
  ·rw[z.1] at sx;unfold zbb at sx;cases sx
  ·rw[z.1] at sx;unfold zbb at sx;cases sx
  ·rw[z] at sx;exact nd _ _ _ sx
  ·rw[z] at sy;exact nd _ _ _ sy
 | succ n ih =>
  intro A hu x y v u a b sx sy rx ry qa qb
  have ih':∀ (x y:D) (v u:V) (a b:Value),zbb n x=true->zbb n y=true->Rep X.K H x v->Rep X.K H y u->zbB v a->zbB u b->SeqAt.EqAt A.in1 s a b (eqD x y) :=
   fun x y v u a b s1 s2 r1 r2 q1 q2=>(ih A.in1 (by show A.units+1+n < cLine;omega) x y v u a b s1 s2 r1 r2 q1 q2).2.1
  by_cases t1:∃ ds ds',x=.tup ds/\y=.tup ds'
  ·obtain⟨xs,ys,rfl,rfl⟩:=t1
   obtain⟨l,vs,is,rfl,rfl,h1,h2,h3,h4,h5⟩:=Rep.tup_get I rx qa
   obtain⟨m,us,js,rfl,rfl,k1,k2,k3,k4,k5⟩:=Rep.tup_get I ry qb
   have hsx:=sx
   have hsy:=sy
   unfold zbb at sx sy
   have each:=zjC (A:=A) ih' sx sy h2 k2 h3 k3
   have eall:eqD (.tup xs) (.tup ys)=((List.range (min is.toArray.size js.toArray.size)).all (fun j=>eqD (xs.getD j .non) (ys.getD j .non))&&is.toArray.size==js.toArray.size):=by
    rw[zpi]
    simp only[List.size_toArray,← h5,← k5]
    by_cases hl:xs.length=ys.length
    ·rw[zeX xs ys hl,← hl,Nat.min_self,beq_self_eq_true,Bool.and_true]
    ·rw[zhh xs ys hl,beq_eq_false_iff_ne.mpr hl,Bool.and_false]
   refine⟨?_,?_,?_⟩
   ·rw[eall];exact SeqAt.RcAt.tuples h4 k4 (by omega) each
   ·by_cases hlm:l=m
    ·subst hlm
     rw[Rep.inj I (n+1) _ _ _ hsx hsy rx ry,zfz (n+1) _ hsy]
     exact SeqAt.EqAt.same _
    ·refine SeqAt.EqAt.of_refs hlm ?_
     rw[eall];exact SeqAt.RcAt.tuples h4 k4 (by omega) each
   ·rw[eall];exact SeqAt.RcNeAt.tuples h4 k4 (by omega) each
  ·by_cases t2:∃ ds ds',x=.lst ds/\y=.lst ds'
   ·obtain⟨xs,ys,rfl,rfl⟩:=t2
    obtain⟨l,vs,is,rfl,rfl,h1,h2,h3,h4,h5⟩:=Rep.lst_get I rx qa
    obtain⟨m,us,js,rfl,rfl,k1,k2,k3,k4,k5⟩:=Rep.lst_get I ry qb
    have hsx:=sx
    have hsy:=sy
    unfold zbb at sx sy
    have each:=zjC (A:=A) ih' sx sy h2 k2 h3 k3
    by_cases hl:xs.length=ys.length
    ·have hsz:is.toArray.size=js.toArray.size:=by simp only[List.size_toArray];omega
     have eall:eqD (.lst xs) (.lst ys)=(List.range is.toArray.size).all (fun j=>eqD (xs.getD j .non) (ys.getD j .non)):=by
      rw[zlY]
      simp only[List.size_toArray,← h5]
      exact zeX xs ys hl
     refine⟨?_,?_,?_⟩
     ·rw[eall];exact SeqAt.RcAt.lists h4 k4 hsz (by omega) each
     ·by_cases hlm:l=m
      ·subst hlm
       rw[Rep.inj I (n+1) _ _ _ hsx hsy rx ry,zfz (n+1) _ hsy]
       exact SeqAt.EqAt.same _
      ·refine SeqAt.EqAt.of_refs hlm ?_
       rw[eall];exact SeqAt.RcAt.lists h4 k4 hsz (by omega) each
     ·rw[eall];exact SeqAt.RcNeAt.lists h4 k4 hsz (by omega) each
    ·have hsz:(is.toArray.size != js.toArray.size)=true:=by simp only[List.size_toArray,bne_iff_ne,ne_eq];omega
     have eall:eqD (.lst xs) (.lst ys)=false:=by rw[zlY];exact zhh xs ys hl
     rw[eall]
     refine⟨SeqAt.RcAt.lists_lengths h4 k4 hsz (by omega),?_,SeqAt.RcNeAt.lists_lengths h4 k4 hsz (by omega)⟩
     refine SeqAt.EqAt.of_refs (fun e=>?_) (SeqAt.RcAt.lists_lengths h4 k4 hsz (by omega))
     subst e
     have:=Rep.inj I (n+1) _ _ _ hsx hsy rx ry
     cases this
     exact hl rfl
   ·exact zjv I (by omega) rx ry qa qb (fun ds ds' z=>t2 ⟨ds,ds',z⟩) (fun ds ds' z=>t1 ⟨ds,ds',z⟩) (fun ks ds z=>by rw[z] at sx;exact nd _ _ _ sx) (fun ks ds z=>by rw[z] at sy;exact nd _ _ _ sy) (fun c z=>nx _ _ (z▸sx)) (fun c z=>nx _ _ (z▸sy)) (fun k c z=>nb _ _ _ (z▸sx)) (fun k c z=>nb _ _ _ (z▸sy))
end
section
variable {X:Cx}{E:XK}
def dEq (x y:D):Res D:=if zbb 40 x=true/\zbb 40 y=true then .ok (.bl (eqD x y)) else .stuck
def dNe (x y:D):Res D:=if zbb 40 x=true/\zbb 40 y=true then .ok (.bl (!(eqD x y))) else .stuck
def zs1 (K:W.Frag):R2:=fun v u H Q=>∃ x y,Rep K H x v/\Rep K H y u/\zbb 40 x=true/\zbb 40 y=true/\Q (.bl (eqD x y)) H
def zsX (K:W.Frag):R2:=fun v u H Q=>∃ x y,Rep K H x v/\Rep K H y u/\zbb 40 x=true/\zbb 40 y=true/\Q (.bl (!(eqD x y))) H
theorem zb7 (hu:X.A.units+64 < cLine):OpR X (compareOp .Eq) (zs1 X.K):=by
 intro pins s σ H x y v u Q I rx ry h
 obtain⟨d,d',h1,h2,s1,s2,q⟩:=h
 exact(zsa I 40 X.A (by omega) d d' x y v u s1 s2 h1 h2 rx ry).1 _ _ _ _ ⟨.bl _,H,I,rfl,q⟩
theorem zd5 (hu:X.A.units+64 < cLine):OpR X (compareOp .NotEq) (zsX X.K):=by
 intro pins s σ H x y v u Q I rx ry h
 obtain⟨d,d',h1,h2,s1,s2,q⟩:=h
 exact(zsa I 40 X.A (by omega) d d' x y v u s1 s2 h1 h2 rx ry).2.2 _ _ _ _ ⟨.bl _,H,I,rfl,q⟩
theorem zdu:OpD X.K E (zs1 X.K) dEq:=by
 intro x y v u H H₀ Q hs r1 r2 q
 unfold dEq at q
 by_cases c:zbb 40 x=true/\zbb 40 y=true
 ·rw[if_pos c] at q
  exact⟨x,y,r1.mono hs,r2.mono hs,c.1,c.2,q _ H H₀ (zbh.refl hs) (Rep.bl_iff.mpr rfl)⟩
 ·rw[if_neg c] at q;exact q.elim
theorem zgg:OpD X.K E (zsX X.K) dNe:=by
 intro x y v u H H₀ Q hs r1 r2 q
 unfold dNe at q
 by_cases c:zbb 40 x=true/\zbb 40 y=true
 ·rw[if_pos c] at q
  exact⟨x,y,r1.mono hs,r2.mono hs,c.1,c.2,q _ H H₀ (zbh.refl hs) (Rep.bl_iff.mpr rfl)⟩
 ·rw[if_neg c] at q;exact q.elim
open Classical in
noncomputable def ziK (K:W.Frag) (H:Hp) (ds:List D) (x:D) (u:Value):Bool :=
 if h:∃ d,d∈ds/\∃ v,Rep K H d v/\zbB v u then eqD h.choose x else false
theorem zlX {pins:List (Addr×Obj)}{σ:L2.St}{H:Hp}{s:Shared}(I:Inv X pins σ H s){ds:List D}{x d:D}{v:V}{u:Value}(sd:ds.all (zbb 40)=true)(hd:d∈ds)(r:Rep X.K H d v)(q:zbB v u):ziK X.K H ds x u=eqD d x:=by
 have h:∃ d,d∈ds/\∃ v,Rep X.K H d v/\zbB v u:=⟨d,hd,v,r,q⟩
 unfold ziK
 rw[dif_pos h]
 obtain⟨h1,v',h2,h3⟩:=h.choose_spec
 have e:v'=v:=h3.inj q
 subst e
 rw[Rep.inj I 40 _ _ _ (List.all_eq_true.mp sd _ h1) (List.all_eq_true.mp sd _ hd) h2 r]
def zoC (K:W.Frag)(neg:Bool):R2:=fun v u H Q=>∃ x ds,Rep K H x v/\(Rep K H (.lst ds) u∨Rep K H (.tup ds) u)/\zbb 40 x=true/\ds.all (zbb 40)=true/\Q (.bl (if neg then !(ds.any fun d=>eqD d x) else ds.any fun d=>eqD d x)) H
theorem zeL {pins:List (Addr×Obj)}{σ:L2.St}{H:Hp}{s:Shared}(I:Inv X pins σ H s){x:D}{es:List D}(se:es.all (zbb 40)=true):∀ {ds:List D}{vs:List V}{us:List Value},(∀ d∈ds,d∈es)->Reps X.K H ds vs->zbG vs us->us.any (ziK X.K H es x)=ds.any fun d=>eqD d x
 | [],_,_,_,h,q=>by
  rw[Reps.nil_iff.mp h] at q
  cases q
  rfl
 | d::ds,_,_,hm,h,q=>by
  obtain⟨v,r,rfl,h1,h2⟩:=Reps.cons_iff.mp h
  cases q with
  | cons q1 q2 =>
   rw[List.any_cons,List.any_cons,zlX I se (hm d List.mem_cons_self) h1 q1,zeL I se (fun x hx=>hm x (List.mem_cons_of_mem _ hx)) h2 q2]
theorem zdz {pins:List (Addr×Obj)}{σ:L2.St}{H:Hp}{s:Shared}(I:Inv X pins σ H s)(hu:X.A.units+64 < cLine){x:D}{v:V}{u:Value}(sx:zbb 40 x=true)(rx:Rep X.K H x v)(qx:zbB v u){es:List D}(se:es.all (zbb 40)=true):∀ {ds:List D}{vs:List V}{us:List Value},(∀ d∈ds,d∈es)->Reps X.K H ds vs->zbG vs us->∀ y∈us,SeqAt.EqAt X.A.in1 s y u (ziK X.K H es x y)
 | [],_,_,_,h,q=>fun y hy=>by
  rw[Reps.nil_iff.mp h] at q
  cases q
  cases hy
 | d::ds,_,_,hm,h,q=>fun y hy=>by
  obtain⟨w,r,rfl,h1,h2⟩:=Reps.cons_iff.mp h
  cases q with
  | cons q1 q2 =>
   rcases List.mem_cons.mp hy with rfl | hy
   ·rw[zlX I se (hm d List.mem_cons_self) h1 q1]
    exact(zsa I 40 X.A.in1 (by show X.A.units+1+40 < cLine;omega) d x w v _ u (List.all_eq_true.mp se _ (hm d List.mem_cons_self)) sx h1 rx q1 qx).2.1
   ·exact zdz I hu sx rx qx se (fun x hx=>hm x (List.mem_cons_of_mem _ hx)) h2 q2 y hy
theorem zqG (hu:X.A.units+64 < cLine):OpR X (compareOp .In) (zoC X.K false):=by
 intro pins s σ H x y v u Q I rx ry h
 obtain⟨d,ds,h1,h2,s1,s2,q⟩:=h
 rcases h2 with h2 | h2
 ·obtain⟨a,vs,its,rfl,rfl,k1,k2,k3,k4,k5⟩:=Rep.lst_get I h2 ry
  refine SeqAt.in_listAt (ziK X.K H ds d) k4 (fun w hw=>zdz I hu s1 h1 rx s2 (fun _ z=>z) k2 k3 w (by simpa using hw)) ⟨.bl _,H,I,rfl,?_⟩
  rw[show its.toArray.any (ziK X.K H ds d)=its.any (ziK X.K H ds d) by simp,zeL I s2 (fun _ z=>z) k2 k3]
  exact q
 ·obtain⟨a,vs,its,rfl,rfl,k1,k2,k3,k4,k5⟩:=Rep.tup_get I h2 ry
  refine SeqAt.in_tupleAt (ziK X.K H ds d) k4 (fun w hw=>zdz I hu s1 h1 rx s2 (fun _ z=>z) k2 k3 w (by simpa using hw)) ⟨.bl _,H,I,rfl,?_⟩
  rw[show its.toArray.any (ziK X.K H ds d)=its.any (ziK X.K H ds d) by simp,zeL I s2 (fun _ z=>z) k2 k3]
  exact q
theorem zlr (hu:X.A.units+64 < cLine):OpR X (compareOp .NotIn) (zoC X.K true):=by
 intro pins s σ H x y v u Q I rx ry h
 obtain⟨d,ds,h1,h2,s1,s2,q⟩:=h
 rcases h2 with h2 | h2
 ·obtain⟨a,vs,its,rfl,rfl,k1,k2,k3,k4,k5⟩:=Rep.lst_get I h2 ry
  refine SeqAt.notIn_listAt (ziK X.K H ds d) k4 (fun w hw=>zdz I hu s1 h1 rx s2 (fun _ z=>z) k2 k3 w (by simpa using hw)) ⟨.bl _,H,I,rfl,?_⟩
  rw[show its.toArray.any (ziK X.K H ds d)=its.any (ziK X.K H ds d) by simp,zeL I s2 (fun _ z=>z) k2 k3]
  exact q
 ·obtain⟨a,vs,its,rfl,rfl,k1,k2,k3,k4,k5⟩:=Rep.tup_get I h2 ry
  refine SeqAt.notIn_tupleAt (ziK X.K H ds d) k4 (fun w hw=>zdz I hu s1 h1 rx s2 (fun _ z=>z) k2 k3 w (by simpa using hw)) ⟨.bl _,H,I,rfl,?_⟩
  rw[show its.toArray.any (ziK X.K H ds d)=its.any (ziK X.K H ds d) by simp,zeL I s2 (fun _ z=>z) k2 k3]
  exact q
def occ (i j:Str):Bool:=!(Builtin.Str.occurrences j i 0 j.length 1).isEmpty
def inD (x y:D):Option Bool:=match y with
 | .lst ds=>if zbb 40 x=true/\ds.all (zbb 40)=true then some (ds.any fun d=>eqD d x) else none
 | .tup ds=>if zbb 40 x=true/\ds.all (zbb 40)=true then some (ds.any fun d=>eqD d x) else none
 | .str j=>match x with
  | .str i=>some (occ i j)
  | _=>none
 | _=>none
def dIn (x y:D):Res D:=match inD x y with
 | some b=>.ok (.bl b)
 | none=>.stuck
def zjR (x y:D):Res D:=match inD x y with
 | some b=>.ok (.bl (!b))
 | none=>.stuck
def zqe (neg:Bool):R2:=fun x y H Q=>∃ i j,x=.str i/\y=.str j/\Q (.bl (if neg then !(occ i j) else occ i j)) H
theorem zsn (hu:X.A.units+64 < cLine):OpR X (compareOp .In) (fun v u H Q=>zoC X.K false v u H Q∨zqe false v u H Q):=OpR.or (zqG hu) (by
 intro pins s σ H x y v u Q I rx ry h
 obtain⟨i,j,rfl,rfl,q⟩:=h
 exact zls pins s σ H _ _ v u Q I rx ry ⟨i,j,rfl,rfl,q⟩)
theorem zm8 (hu:X.A.units+64 < cLine):OpR X (compareOp .NotIn) (fun v u H Q=>zoC X.K true v u H Q∨zqe true v u H Q):=OpR.or (zlr hu) (by
 intro pins s σ H x y v u Q I rx ry h
 obtain⟨i,j,rfl,rfl,q⟩:=h
 exact zh9 pins s σ H _ _ v u Q I rx ry ⟨i,j,rfl,rfl,q⟩)
theorem zjy {neg:Bool}{x y:D}{v u:V}{H H₀:Hp}{Q:VK}(hs:zaG H₀ H)(r1:Rep X.K H₀ x v)(r2:Rep X.K H₀ y u)
  (q:post X.K E H H₀ (match inD x y with | some b=>.ok (.bl (if neg then !b else b)) | none=>.stuck) Q):zoC X.K neg v u H Q∨zqe neg v u H Q:=by
 cases y with
 | lst ds =>
  simp only[inD] at q
  by_cases c:zbb 40 x=true/\ds.all (zbb 40)=true
  ·rw[if_pos c] at q
   exact .inl ⟨x,ds,r1.mono hs,.inl (r2.mono hs),c.1,c.2,q _ H H₀ (zbh.refl hs) (Rep.bl_iff.mpr rfl)⟩
  ·rw[if_neg c] at q;exact q.elim
 | tup ds =>
  simp only[inD] at q
  by_cases c:zbb 40 x=true/\ds.all (zbb 40)=true
  ·rw[if_pos c] at q
   exact .inl ⟨x,ds,r1.mono hs,.inr (r2.mono hs),c.1,c.2,q _ H H₀ (zbh.refl hs) (Rep.bl_iff.mpr rfl)⟩
  ·rw[if_neg c] at q;exact q.elim
 | str j =>
  cases x with
  | str i=>exact .inr ⟨i,j,Rep.str_iff.mp r1,Rep.str_iff.mp r2,q _ H H₀ (zbh.refl hs) (Rep.bl_iff.mpr rfl)⟩
  | _=>exact q.elim
 | _=>exact q.elim
theorem zsp:OpD X.K E (fun v u H Q=>zoC X.K false v u H Q∨zqe false v u H Q) dIn:=fun x y v u H H₀ Q hs r1 r2 q=>zjy (neg:=false) (E:=E) hs r1 r2 (by
 unfold dIn at q
 cases e:inD x y with
 | none=>rw[e] at q;exact q
 | some b=>rw[e] at q;exact q)
theorem znc:OpD X.K E (fun v u H Q=>zoC X.K true v u H Q∨zqe true v u H Q) zjR:=fun x y v u H H₀ Q hs r1 r2 q=>zjy (neg:=true) (E:=E) hs r1 r2 (by
 unfold zjR at q
 cases e:inD x y with
 | none=>rw[e] at q;exact q
 | some b=>rw[e] at q;exact q)
end
@[irreducible] def B9:Nat:=2 ^ 9000
@[irreducible] def B13:Nat:=2 ^ 13500
@[irreducible] def B60:Nat:=2 ^ 60000
theorem zpD:B9=2 ^ 9000:=by unfold B9;rfl
theorem zmx:B13=2 ^ 13500:=by unfold B13;rfl
theorem zmw:B60=2 ^ 60000:=by unfold B60;rfl
theorem zgr {n k:Nat}(h:n < 2 ^ k)(hk:0 < k):n.log2 < k:=by
 by_cases h0:n=0
 ·rw[h0]
  have:Nat.log2 0=0:=by decide
  omega
 ·exact(Nat.log2_lt h0).mpr h
theorem zsq {x y:Int}(h:y.natAbs < B9):Builtin.divisionGoesByPylong x y=false:=by
 rw[zpD] at h
 exact PyProof.noPylong_of_log2 (zgr h (by omega))
theorem zqO {x y:Int}(h:x.natAbs < B13):Builtin.divisionGoesByPylong x y=false:=by
 rw[zmx] at h
 have hx:x.natAbs.log2 < 13500:=zgr h (by omega)
 show(decide ((if y==0 then 0 else y.natAbs.log2 / 30+1) > 300)&&decide ((if x==0 then 0 else x.natAbs.log2 / 30+1) > (if y==0 then 0 else y.natAbs.log2 / 30+1)+150))=false
 have k:(if x==0 then 0 else x.natAbs.log2 / 30+1)<=450:=by
  by_cases hx0:(x==0)=true
  ·rw[if_pos hx0];omega
  ·rw[if_neg hx0];omega
 by_cases c:(if y==0 then 0 else y.natAbs.log2 / 30+1) > 300
 ·rw[Bool.and_eq_false_iff];right;exact decide_eq_false (by omega)
 ·rw[Bool.and_eq_false_iff];left;exact decide_eq_false c
def zd1 (i j:Int):Bool:=decide (j≠0)&&(decide (j.natAbs < B9)||decide (i.natAbs < B13))
def zew (i j:Int):Bool:=decide (i.natAbs < B60)&&decide (j.natAbs < B60)
theorem zd1.ok {i j:Int}(h:zd1 i j=true):j≠0/\Builtin.divisionGoesByPylong i j=false:=by
 unfold zd1 at h
 rw[Bool.and_eq_true,Bool.or_eq_true] at h
 refine⟨of_decide_eq_true h.1,?_⟩
 rcases h.2 with h | h
 ·exact zsq (of_decide_eq_true h)
 ·exact zqO (of_decide_eq_true h)
theorem zew.ok {i j:Int}(h:zew i j=true):IntMulOk i j:=by
 unfold zew at h
 rw[Bool.and_eq_true] at h
 have h1:=of_decide_eq_true h.1
 have h2:=of_decide_eq_true h.2
 rw[zmw] at h1 h2
 exact PyProof.Rows.mulOk_of_bits (m:=60000) (n:=60000) (PySem.intBits_le_iff.mpr h1) (PySem.intBits_le_iff.mpr h2) (by decide)
section
variable {X:Cx}{E:XK}{e a b c:Expr}{es:List Expr}{f g k:Ev->Res D}{fa:Ev->Res (List D)}{pos:Pos}
theorem zaU {K:W.Frag}{H H₀:Hp}{d:D}{v:V}{Q:VK}(hs:zaG H₀ H)(q:post K E H H₀ (.ok d) Q)(r:Rep K H₀ d v):Q v H:=q v H H₀ (zbh.refl hs) r
def iop (c:Int->Int->Bool)(g:Int->Int->D)(x y:D):Res D:=match x,y with
 | .int i,.int j=>if c i j=true then .ok (g i j) else .stuck
 | _,_=>.stuck
theorem zlu {C:Int->Int->Prop}{c:Int->Int->Bool}{gv:Int->Int->V}{g:Int->Int->D}(hc:∀ i j,c i j=true->C i j)(hg:∀ K H i j,Rep K H (g i j) (gv i j)):OpD X.K E (rI C gv) (iop c g):=by
 intro x y v u H H₀ Q hs r1 r2 q
 unfold iop at q
 cases x with
 | int i =>
  cases y with
  | int j =>
   by_cases h:c i j=true
   ·simp only[if_pos h] at q
    exact⟨i,j,Rep.int_iff.mp r1,Rep.int_iff.mp r2,hc i j h,zaU hs q (hg _ _ i j)⟩
   ·simp only[if_neg h] at q;exact q.elim
  | _=>exact q.elim
 | _=>exact q.elim
theorem zef {gv:Int->Int->V}{g:Int->Int->D}(hg:∀ K H i j,Rep K H (g i j) (gv i j)):OpD X.K E (rI0 gv) (iop (fun _ _=>true) g):=by
 intro x y v u H H₀ Q hs r1 r2 q
 unfold iop at q
 cases x with
 | int i =>
  cases y with
  | int j=>simp only[if_pos] at q;exact⟨i,j,Rep.int_iff.mp r1,Rep.int_iff.mp r2,zaU hs q (hg _ _ i j)⟩
  | _=>exact q.elim
 | _=>exact q.elim
theorem ri {K:W.Frag}{H:Hp}(n:Int):Rep K H (.int n) (.int n):=Rep.int_iff.mpr rfl
theorem rb {K:W.Frag}{H:Hp}(n:Bool):Rep K H (.bl n) (.bl n):=Rep.bl_iff.mpr rfl
abbrev zpI:=iop (fun _ _=>true) fun i j=>.int (i-j)
abbrev zje:=iop zd1 fun i j=>.int (i.fdiv j)
abbrev zd2:=iop (fun _ j=>decide (j≠0)) fun i j=>.int (i.fmod j)
abbrev zjQ:=iop (fun i j=>decide (0<=j)&&decide (j<=1000000)&&decide (i.natAbs < 18446744073709551616)) fun i j=>.int (i ^ j.toNat)
abbrev dLt:=iop (fun _ _=>true) fun i j=>.bl (decide (i < j))
abbrev dLe:=iop (fun _ _=>true) fun i j=>.bl (decide (i<=j))
abbrev dGt:=iop (fun _ _=>true) fun i j=>.bl (decide (j < i))
abbrev dGe:=iop (fun _ _=>true) fun i j=>.bl (decide (j<=i))
theorem zoR:OpR X (binaryOp .Mult) (rI IntMulOk fun i j=>.int (i*j)):=opI fun _ _ _ _ _ _ _ hc q=>mul_int q hc
theorem zoT:OpR X (binaryOp .FloorDiv) (rI (fun i j=>j≠0/\Builtin.divisionGoesByPylong i j=false) fun i j=>.int (i.fdiv j)):=opI fun _ _ _ _ _ _ _ hc q=>floordiv_int hc.1 q (.inl hc.2)
theorem zjP (ha:DE X E a f)(hb:DE X E b g):DE X E (.BinOp a .Sub b pos) (zac f g zpI):=zi9 zqC (zef fun _ _ _ _=>ri _) ha hb
theorem zgI (ha:DE X E a f)(hb:DE X E b g):DE X E (.BinOp a .FloorDiv b pos) (zac f g zje):=zi9 zoT (zlu (fun _ _ h=>zd1.ok h) fun _ _ _ _=>ri _) ha hb
theorem zdA (ha:DE X E a f)(hb:DE X E b g):DE X E (.BinOp a .Mod b pos) (zac f g zd2):=zi9 zoS (zlu (fun _ _ h=>of_decide_eq_true h) fun _ _ _ _=>ri _) ha hb
theorem ziz (ha:DE X E a f)(hb:DE X E b g):DE X E (.BinOp a .Pow b pos) (zac f g zjQ):=zi9 zqD (zlu (fun i j h=>by
 rw[Bool.and_eq_true,Bool.and_eq_true] at h
 exact⟨of_decide_eq_true h.1.1,of_decide_eq_true h.1.2,of_decide_eq_true h.2⟩) fun _ _ _ _=>ri _) ha hb
theorem nm {op:CmpOp}{b:Expr}(h1:op≠.In:=by decide)(h2:op≠.NotIn:=by decide):behindInMarks op b=false:=zjz _ h1 h2
def zpJ (x:D):Res D:=match x with
 | .int i=>.ok (.int (-i))
 | _=>.stuck
theorem zoa (ha:DE X E a f):DE X E (.UnaryOp .USub a pos) (zbr f zpJ):=zsH zpT (by
 intro x v H H₀ Q hs r q
 cases x with
 | int i=>exact⟨i,Rep.int_iff.mp r,zaU hs q (ri _)⟩
 | _=>exact q.elim) ha
theorem zoV:OpR X (binaryOp .Add) (fun x y H Q=>∃ l b xs zs,x=.ref l/\y=.ref b/\SqL X.K H l xs/\SqL X.K H b zs/\xs.length+zs.length<=sizeLine/\∀ p,H p=none->Q (.ref p) (upd H p (.lst (xs++zs)))):=by
 intro pins s σ H x y v u Q I rx ry h
 obtain⟨l,b,xs,zs,rfl,rfl,hH,hB,hz,q⟩:=h
 cases rx
 cases ry
 obtain⟨its,r,pl,z⟩:=I.list hH
 obtain⟨its2,r2,pl2,z2⟩:=I.list hB
 obtain⟨⟨cls,dd,data,sl⟩,ho,hc,n,hd⟩:=pl.isList
 obtain⟨⟨cls2,dd2,data2,sl2⟩,ho2,hc2,n2,hd2⟩:=pl2.isList
 simp only at hc hd hc2 hd2
 subst hc hd hc2 hd2
 have e:its.toArray++its2.toArray=(its++its2).toArray:=by simp
 have l1:=r.length
 have l2:=r2.length
 refine concat_meets ⟨_,ho,rfl⟩ ⟨_,ho2,rfl⟩ noFill_list_add seq_list_add PySem.F.slot_list_add PySem.F.entry_list_add (PySem.F.args_list_add_2 _ _) (list_addW l b its.toArray its2.toArray n n2 dd dd2 sl sl2 (by simp only[List.size_toArray];omega)) ⟨ho,ho2,?_⟩
 rw[e]
 exact⟨.ref _,_,I.lnew (t':=s.toks) (r.append r2) (by rw[List.length_append];omega),rfl,q _ I.fresh⟩
def zcx (x y:D):Res D:=match x,y with
 | .int i,.int j=>.ok (.int (i+j))
 | .str i,.str j=>if i.length+j.length<=line then .ok (.str (i++j)) else .stuck
 | .lst ds,.lst es=>if ds.length+es.length<=line then .ok (.lst (ds++es)) else .stuck
 | .tup ds,.tup es=>if ds.isEmpty=false/\ds.length+es.length<=line then .ok (.tup (ds++es)) else .stuck
 | _,_=>.stuck
theorem zbq (ha:DE X E a f)(hb:DE X E b g):DE X E (.BinOp a .Add b pos) (zac f g zcx):=zi9 (OpR.or zqJ (OpR.or zkk (OpR.or zoV zoU))) (by
 intro x y v u H H₀ Q hs r1 r2 q
 unfold zcx at q
 cases x with
 | int i =>
  cases y with
  | int j=>exact .inl ⟨i,j,Rep.int_iff.mp r1,Rep.int_iff.mp r2,zaU hs q (ri _)⟩
  | _=>exact q.elim
 | str i =>
  cases y with
  | str j =>
   by_cases h:i.length+j.length<=line
   ·simp only[if_pos h] at q
    exact .inr (.inl ⟨i,j,Rep.str_iff.mp r1,Rep.str_iff.mp r2,zcq h,zaU hs q (Rep.str_iff.mpr rfl)⟩)
   ·simp only[if_neg h] at q;exact q.elim
  | _=>exact q.elim
 | lst ds =>
  cases y with
  | lst es =>
   by_cases h:ds.length+es.length<=line
   ·simp only[if_pos h] at q
    obtain⟨l,vs,rfl,h1,h2⟩:=Rep.lst_iff.mp r1
    obtain⟨m,us,rfl,k1,k2⟩:=Rep.lst_iff.mp r2
    refine .inr (.inr (.inl ⟨l,m,vs,us,rfl,rfl,zaG.sqL hs h1,zaG.sqL hs k1,by rw[← h2.length,← k2.length];exact zcq h,fun p hp=>?_⟩))
    exact q _ _ _ (zbh.alloc hs hp) (Rep.lst_iff.mpr ⟨p,_,rfl,SqL.of zap,(h2.app k2).mono (zbh.alloc hs hp).z⟩)
   ·simp only[if_neg h] at q;exact q.elim
  | _=>exact q.elim
 | tup ds =>
  cases y with
  | tup es =>
   by_cases h:ds.isEmpty=false/\ds.length+es.length<=line
   ·simp only[if_pos h] at q
    obtain⟨l,vs,rfl,h1,h2⟩:=Rep.tup_iff.mp r1
    obtain⟨m,us,rfl,k1,k2⟩:=Rep.tup_iff.mp r2
    refine .inr (.inr (.inr ⟨l,m,vs,us,rfl,rfl,zaG.sqT hs h1,zaG.sqT hs k1,fun z=>?_,by rw[← h2.length,← k2.length];exact zcq h.2,fun z=>?_,fun z p hp=>?_⟩))
    ·have:=h2.length
     rw[z] at this
     have e:ds=[]:=List.length_eq_zero_iff.mp this
     rw[e] at h;exact absurd h.1 (by decide)
    ·have:=k2.length
     rw[z] at this
     have e:es=[]:=List.length_eq_zero_iff.mp this
     rw[e,List.append_nil] at q
     exact zaU hs q r1
    ·exact q _ _ _ (zbh.alloc hs hp) (Rep.tup_iff.mpr ⟨p,_,rfl,SqT.of zap,(h2.app k2).mono (zbh.alloc hs hp).z⟩)
   ·simp only[if_neg h] at q;exact q.elim
  | _=>exact q.elim
 | _=>exact q.elim) ha hb
def dIx (x y:D):Res D:=match y with
 | .int i=>match x with
  | .lst ds=>match atI ds i with
   | some d=>.ok d
   | none=>.stuck
  | .tup ds=>match atI ds i with
   | some d=>.ok d
   | none=>.stuck
  | .str z=>if z.length<=line then match atI z.cps.toList i with
   | some c=>.ok (.str ⟨#[c]⟩)
   | none=>.stuck else .stuck
  | _=>.stuck
 | _=>.stuck
theorem Reps.atI {K:W.Frag}{H:Hp}{ds:List D}{vs:List V}{i:Int}{d:D}(h:Reps K H ds vs)(e:atI ds i=some d):∃ v,L2.atI vs i=some v/\Rep K H d v:=by
 unfold L2.atI at e ⊢
 rw[← h.length]
 cases q:ixN ds.length i with
 | none=>rw[q] at e;cases e
 | some j =>
  rw[q] at e
  exact h.get e
theorem zso:OpD X.K E (rIx X.K) dIx:=by
 intro x y v u H H₀ Q hs r1 r2 q
 unfold dIx at q
 cases y with
 | int i =>
  cases x with
  | lst ds =>
   obtain⟨l,vs,rfl,h1,h2⟩:=Rep.lst_iff.mp r1
   cases e:atI ds i with
   | none=>simp only[e] at q;exact q.elim
   | some d =>
    simp only[e] at q
    obtain⟨w,e1,e2⟩:=h2.atI e
    exact .inl ⟨l,vs,i,w,rfl,Rep.int_iff.mp r2,zaG.sqL hs h1,e1,zaU hs q e2⟩
  | tup ds =>
   obtain⟨l,vs,rfl,h1,h2⟩:=Rep.tup_iff.mp r1
   cases e:atI ds i with
   | none=>simp only[e] at q;exact q.elim
   | some d =>
    simp only[e] at q
    obtain⟨w,e1,e2⟩:=h2.atI e
    exact .inr (.inl ⟨l,vs,i,w,rfl,Rep.int_iff.mp r2,zaG.sqT hs h1,e1,zaU hs q e2⟩)
  | str z =>
   by_cases hz:z.length<=line
   ·simp only[if_pos hz] at q
    cases e:atI z.cps.toList i with
    | none=>simp only[e] at q;exact q.elim
    | some c =>
     simp only[e] at q
     exact .inr (.inr ⟨z,i,c,Rep.str_iff.mp r1,Rep.int_iff.mp r2,zcq hz,e,zaU hs q (Rep.str_iff.mpr rfl)⟩)
   ·simp only[if_neg hz] at q;exact q.elim
  | _=>exact q.elim
 | _=>exact q.elim
theorem zav (ha:DE X E a f)(hb:DE X E b g)(hs:zjm b:=by intro _ _;rfl):DE X E (.Subscript a b pos) (zac f g dIx):=zsI zq3 zso ha hb hs
def zd0:Ev->Res (Option Int):=fun _=>.ok none
def zdv (f:Ev->Res D):Ev->Res (Option Int):=fun ρ=>(f ρ).bind fun x=>match x with
 | .int i=>.ok (some i)
 | _=>.stuck
def tDO (K:W.Frag)(E:XK)(f:Ev->Res (Option Int)):TO:=fun σ H Q=>∃ H₀ ρ,zaG H₀ H/\zdN K H₀ σ ρ/\match f ρ with
 | .ok o=>∀ H' H₀',zbh H H₀ H' H₀'->Q o H'
 | .exn x=>∀ C ox H' H₀',zbh H H₀ H' H₀'->ExR K H₀' x C ox->E C ox H'
 | .stuck=>False
structure DO (X:Cx) (E:XK) (e:Option Expr) (f:Ev->Res (Option Int)):Prop where
 o:PO X e (tDO X.K E f)
theorem zlh {eo:Option Expr}{t t':TO}(h:PO X eo t)(w:∀ σ H Q,t' σ H Q->t σ H Q):PO X eo t':=fun pins s σ H Q I q=>h pins s σ H Q I (w σ H Q q)
theorem zcc:DO X E none zd0:=⟨zlh zoH fun σ H Q ⟨H₀,ρ,hs,hr,q⟩=>q H H₀ (zbh.refl hs)⟩
theorem zcb (ha:DE X E a f):DO X E (some a) (zdv f):=by
 refine⟨?_⟩
 refine zlh (zoG ha.o) fun σ H Q ⟨H₀,ρ,hs,hr,q⟩=>⟨H₀,ρ,hs,hr,?_⟩
 unfold zdv at q
 cases e1:f ρ with
 | stuck=>rw[e1] at q;exact q
 | exn x=>rw[e1] at q;exact q
 | ok d =>
  rw[e1] at q
  intro v H1 H01 g1 r1
  cases d with
  | int i=>exact⟨i,Rep.int_iff.mp r1,q H1 H01 g1⟩
  | _=>exact q.elim
def zmf (xs:List D)(lo hi:Option Int):List D:=(xs.drop (HT.sIx xs.length 0 lo)).take (HT.sIx xs.length xs.length hi-HT.sIx xs.length 0 lo)
theorem Reps.cut {K:W.Frag}{H:Hp}{ds:List D}{vs:List V}(h:Reps K H ds vs)(lo hi:Option Int):Reps K H (zmf ds lo hi) (zof vs lo hi):=by
 unfold zmf zof
 rw[← h.length]
 exact(h.drop _).take _
theorem ziT {r:V->Option Int->Option Int->Hp->VK->Prop}{lo hi:Ev->Res (Option Int)}{m:D->Option Int->Option Int->Res D}
  (ho:∀ x v l h H H₀ Q,zaG H₀ H->Rep X.K H₀ x v->post X.K E H H₀ (m x l h) Q->r v l h H Q)(σ:L2.St)(H:Hp)(Q:VK)
  (h:tD X.K E (fun ρ=>(f ρ).bind fun x=>(lo ρ).bind fun l=>(hi ρ).bind fun h=>m x l h) σ H Q):tSl r (tD X.K E f) (tDO X.K E lo) (tDO X.K E hi) σ H Q:=by
 obtain⟨H₀,ρ,hs,hr,q⟩:=h
 refine⟨H₀,ρ,hs,hr,?_⟩
 replace q:post X.K E H H₀ ((f ρ).bind fun x=>(lo ρ).bind fun l=>(hi ρ).bind fun h=>m x l h) Q:=q
 cases e1:f ρ with
 | stuck=>rw[e1] at q;exact q
 | exn x=>rw[e1] at q;exact q
 | ok x =>
  rw[e1] at q
  intro v H1 H01 g1 r1
  refine⟨H01,ρ,g1.sub,hr.mono g1.z,?_⟩
  replace q:post X.K E H H₀ ((lo ρ).bind fun l=>(hi ρ).bind fun h=>m x l h) Q:=q
  replace q:=q.grow g1
  cases e2:lo ρ with
  | stuck=>rw[e2] at q;exact q
  | exn x=>rw[e2] at q;exact q
  | ok l =>
   rw[e2] at q
   intro H2 H02 g2
   refine⟨H02,ρ,g2.sub,(hr.mono g1.z).mono g2.z,?_⟩
   replace q:post X.K E H1 H01 ((hi ρ).bind fun h=>m x l h) Q:=q
   replace q:=q.grow g2
   cases e3:hi ρ with
   | stuck=>rw[e3] at q;exact q
   | exn x=>rw[e3] at q;exact q
   | ok h =>
    rw[e3] at q
    intro H3 H03 g3
    exact ho x v l h H3 H03 Q g3.sub ((r1.mono g2.z).mono g3.z) (post.grow (r:=m x l h) q g3)
def m1 (m:D->Res D)(ds:List D):Res D:=match ds with
 | [x]=>m x
 | _=>.stuck
def m2 (m:D->D->Res D)(ds:List D):Res D:=match ds with
 | [x,y]=>m x y
 | _=>.stuck
theorem zmp {r:List V->Hp->VK->Prop}{m:D->Res D}(h:∀ x v H H₀ Q,zaG H₀ H->Rep X.K H₀ x v->post X.K E H H₀ (m x) Q->r [v] H Q):zgk X E r (m1 m):=by
 intro ds vs H H₀ Q hs hr q
 unfold m1 at q
 match ds,hr,q with
 | [x],hr,q =>
  obtain⟨v,r',rfl,h1,h2⟩:=Reps.cons_iff.mp hr
  rw[Reps.nil_iff.mp h2]
  exact h x v H H₀ Q hs h1 q
 | [],_,q=>exact q.elim
 | _::_::_,_,q=>exact q.elim
theorem zsN {r:List V->Hp->VK->Prop}{m:D->D->Res D}(h:∀ x y v u H H₀ Q,zaG H₀ H->Rep X.K H₀ x v->Rep X.K H₀ y u->post X.K E H H₀ (m x y) Q->r [v,u] H Q):zgk X E r (m2 m):=by
 intro ds vs H H₀ Q hs hr q
 unfold m2 at q
 match ds,hr,q with
 | [x,y],hr,q =>
  obtain⟨v,r',rfl,h1,h2⟩:=Reps.cons_iff.mp hr
  obtain⟨u,r'',rfl,h3,h4⟩:=Reps.cons_iff.mp h2
  rw[Reps.nil_iff.mp h4]
  exact h x y v u H H₀ Q hs h1 h3 q
 | [],_,q=>exact q.elim
 | [_],_,q=>exact q.elim
 | _::_::_::_,_,q=>exact q.elim
def zrG (x:D):Res D:=match x with
 | .int i=>.ok (.int (if i < 0 then -i else i))
 | _=>.stuck
def zsK (x y:D):Res D:=match x,y with
 | .int i,.int j=>.ok (.int (if j > i then j else i))
 | _,_=>.stuck
def zjd (x:D):Res D:=match x with
 | .lst ds=>.ok (.int ds.length)
 | .tup ds=>.ok (.int ds.length)
 | .str z=>if z.length<=line then .ok (.int z.length) else .stuck
 | _=>.stuck
def zod (x:D):Res D:=match x with
 | .int i=>.ok (.int i)
 | .bl b=>.ok (.int (if b then 1 else 0))
 | _=>.stuck
def zri (x:D):Res D:=match x with
 | .lst ds=>.ok (.lst ds)
 | .tup ds=>.ok (.lst ds)
 | _=>.stuck
theorem zmm:zgk X E (fun xs H Q=>∃ i,xs=[.int i]/\Q (.int (if i < 0 then -i else i)) H) (m1 zrG):=zmp fun x v H H₀ Q hs r q=>by
 cases x with
 | int i=>exact⟨i,by rw[Rep.int_iff.mp r],zaU hs q (ri _)⟩
 | _=>exact q.elim
theorem zrk:zgk X E (fun xs H Q=>∃ i j,xs=[.int i,.int j]/\Q (.int (if j > i then j else i)) H) (m2 zsK):=zsN fun x y v u H H₀ Q hs r r' q=>by
 cases x with
 | int i =>
  cases y with
  | int j=>exact⟨i,j,by rw[Rep.int_iff.mp r,Rep.int_iff.mp r'],zaU hs q (ri _)⟩
  | _=>exact q.elim
 | _=>exact q.elim
theorem zf3:zgk X E (fun xs H Q=>∃ x n,xs=[x]/\ztg X.K x H n/\Q (.int n) H) (m1 zjd):=zmp fun x v H H₀ Q hs r q=>by
 cases x with
 | lst ds =>
  obtain⟨p,vs,rfl,h1,h2⟩:=Rep.lst_iff.mp r
  refine⟨_,vs.length,rfl,.inl ⟨vs,zaG.sqL hs h1,rfl⟩,?_⟩
  rw[← h2.length];exact zaU hs q (ri _)
 | tup ds =>
  obtain⟨p,vs,rfl,h1,h2⟩:=Rep.tup_iff.mp r
  refine⟨_,vs.length,rfl,.inr ⟨vs,zaG.sqT hs h1,rfl⟩,?_⟩
  rw[← h2.length];exact zaU hs q (ri _)
 | str z =>
  unfold zjd at q
  by_cases hz:z.length<=line
  ·simp only[if_pos hz] at q
   rw[Rep.str_iff.mp r]
   exact⟨_,z.length,rfl,⟨zcq hz,rfl⟩,zaU hs q (ri _)⟩
  ·simp only[if_neg hz] at q;exact q.elim
 | _=>exact q.elim
theorem zbx {T:String}{r:List V->Hp->VK->Prop}{m:List D->Res D}{x:Str}{p:Pos}(hc:zfs X (.type T) r)(hd:zgk X E r m)(hg:Gl X x)(hm:X.mg x=none)(hv:bootBuiltins x=some (.type T))(ha:DA X E (e::es) fa)(hn:x≠"__name__":=by decide)(hdb:(x==("__debug__" : Str))=false:=by decide)
  (he:starEach (e::es) X.env=(false,eval e X.env)::starEach es X.env:=by exact zaw rfl)(hpl:(backTo pos (starEach es X.env)).any (·.1)=false:=by exact zaY rfl):DE X E (.Call (.Name x p) (e::es) [] pos) (zak fa m) :=
 ⟨zaP (zlo hc hg hm hv ha.o hn hdb he hpl) (zeK hd)⟩
def zo8:D->Bool
 | .non=>true
 | _=>false
def zmB (x y:D):Res D:=match y with
 | .non=>.ok (.bl (zo8 x))
 | _=>.stuck
def zjc (x y:D):Res D:=match y with
 | .non=>.ok (.bl (!(zo8 x)))
 | _=>.stuck
theorem Rep.is_non {K:W.Frag}{H:Hp}{x:D}{v:V}(r:Rep K H x v):decide (v=.non)=zo8 x:=by
 cases x with
 | non=>rw[Rep.non_iff.mp r];rfl
 | bl b=>rw[Rep.bl_iff.mp r];rfl
 | int b=>rw[Rep.int_iff.mp r];rfl
 | str b=>rw[Rep.str_iff.mp r];rfl
 | tup ds=>obtain⟨_,_,e,_⟩:=Rep.tup_iff.mp r;rw[e];rfl
 | lst ds=>obtain⟨_,_,e,_⟩:=Rep.lst_iff.mp r;rw[e];rfl
 | dic ks ds=>rw[Rep] at r;obtain⟨_,_,_,e,_⟩:=r;rw[e];rfl
 | exc x=>obtain⟨_,_,_,e,_⟩:=Rep.exc_iff.mp r;rw[e];rfl
 | ob k x=>obtain⟨_,_,e,_⟩:=Rep.ob_iff.mp r;rw[e];rfl
theorem zqL:OpD X.K E (fun x y H Q=>y=.non/\Q (.bl (decide (x=.non))) H) zmB:=by
 intro x y v u H H₀ Q hs r1 r2 q
 unfold zmB at q
 cases y with
 | non=>exact⟨Rep.non_iff.mp r2,by rw[r1.is_non];exact zaU hs q (rb _)⟩
 | _=>exact q.elim
def tyD:D->String
 | .non=>"NoneType"
 | .bl _=>"bool"
 | .int _=>"int"
 | .str _=>"str"
 | .tup _=>"tuple"
 | .lst _=>"list"
 | .dic _ _=>"dict"
 | .exc _=>"<exc>"
 | .ob (.ins _ _) _=>"<exc>"
 | .ob (.dint _) _=>"dict"
 | .ob (.exf _ _) _=>"<exc>"
def zbV (T:String)(x:D):Res D:=.ok (.bl (tyD x==T||(tyD x=="bool"&&T=="int")))
def zkK (K:W.Frag)(T:String):Prop:=∀ S,S∈["NoneType","bool","int","str","tuple","list","dict"]->W.kitOne K (.type S) (.type T)=some (S==T||(S=="bool"&&T=="int"))
theorem znh {pins:List (Addr×Obj)}{σ:L2.St}{H:Hp}{s:Shared}{A:Around}{Q:Value->Shared->Prop}{x:D}{v:V}{u:Value}{T:String}(I:Inv X pins σ H s)(r:Rep X.K H x v)(q:zbB v u)(hk:zkK X.K T)(hT:T∈zdl)(h:∀ tk,Q (.bool (tyD x==T||(tyD x=="bool"&&T=="int"))) { s with toks:=tk }) :
  wpAny (model X.prog X.w) A (call (.builtin "isinstance") [u,.type T]) Q X.xe s:=by
 cases x with
 | non=>rw[Rep.non_iff.mp r] at q;exact zex I q .non (hk _ (by simp)) h
 | bl b=>rw[Rep.bl_iff.mp r] at q;exact zex I q (.bl b) (hk _ (by simp)) h
 | int b=>rw[Rep.int_iff.mp r] at q;exact zex I q (.int b) (hk _ (by simp)) h
 | str b=>rw[Rep.str_iff.mp r] at q;exact zex I q (.str b) (hk _ (by simp)) h
 | tup ds =>
  obtain⟨a,vs,its,rfl,rfl,h1,h2,h3,h4,_⟩:=Rep.tup_get I r q
  obtain⟨o,k1,k2,_⟩:=h4
  exact W.kia_one W.kitx_tuple I.kIn ⟨o,k1,k2⟩ (hk _ (by simp)) (fun z=>nomatch z) h
 | lst ds =>
  obtain⟨a,vs,its,rfl,rfl,h1,h2,h3,h4,_⟩:=Rep.lst_get I r q
  obtain⟨o,k1,k2,_⟩:=h4
  exact W.kia_one W.kitx_list I.kIn ⟨o,k1,k2⟩ (hk _ (by simp)) (fun z=>nomatch z) h
 | dic ks ds =>
  rw[Rep] at r
  obtain⟨a,kvs,vs,rfl,h1,h2,_⟩:=r
  cases (show u=Value.ref a from q)
  obtain⟨_,_,vs',_,p⟩:=h1.ok I.hok
  obtain⟨o,es,ep,k1,k2,_⟩:=p
  exact W.kia_one W.kitx_dict I.kIn ⟨o,k1,k2.1⟩ (hk _ (by simp)) (fun z=>nomatch z) h
 | exc x =>
  obtain⟨a,C,dc,rfl,hc,h1⟩:=Rep.exc_iff.mp r
  cases (show u=Value.ref a from q)
  obtain⟨p,_,_⟩:=h1.ok I.hok
  have e:(tyD (.exc x)==T||(tyD (.exc x)=="bool"&&T=="int"))=false:=by
   have:∀ T∈zdl,(tyD (.exc x)==T||(tyD (.exc x)=="bool"&&T=="int"))=false:=by show ∀ T∈zdl,("<exc>"==T||("<exc>"=="bool"&&T=="int"))=false;decide
   exact this T hT
  rw[e] at h
  exact W.kia_one (zha hc.ek hc.ek.isCls) I.kIn p (hc.bt T hT) (fun z=>nomatch z) h
 | ob k xs =>
  obtain⟨a,vs,rfl,h1,_⟩:=Rep.ob_iff.mp r
  cases (show u=Value.ref a from q)
  cases k with
  | exf c ks =>
   obtain⟨C,dx,fs,hc,h2,_⟩:=h1
   obtain⟨p,_,_⟩:=h2.ok I.hok
   have e:(tyD (.ob (.exf c ks) xs)==T||(tyD (.ob (.exf c ks) xs)=="bool"&&T=="int"))=false:=by
    have:∀ T∈zdl,("<exc>"==T||("<exc>"=="bool"&&T=="int"))=false:=by decide
    exact this T hT
   rw[e] at h
   exact W.kia_one (zha hc.ek hc.ek.isCls) I.kIn p (hc.bt T hT) (fun z=>nomatch z) h
  | ins c ks =>
   obtain⟨C,dx,_,hc,h2,_⟩:=h1
   obtain⟨mA,O,_⟩:=zlH I.hok h2
   obtain⟨od,O',_⟩:=O.look
   have e:(tyD (.ob (.ins c ks) xs)==T||(tyD (.ob (.ins c ks) xs)=="bool"&&T=="int"))=false:=by
    have:∀ T∈zdl,(tyD (.ob (.ins c ks) xs)==T||(tyD (.ob (.ins c ks) xs)=="bool"&&T=="int"))=false:=by show ∀ T∈zdl,("<exc>"==T||("<exc>"=="bool"&&T=="int"))=false;decide
    exact this T hT
   rw[e] at h
   exact W.kia_one (W.kitx_own (hc.cls.get _) hc.cls.hd hc.gc hc.gn hc.tk hc.mo) I.kIn O' (hc.bt T hT) (fun z=>nomatch z) h
  | dint ks =>
   obtain⟨kvs,h2,_⟩:=h1
   obtain⟨_,_,vs',_,p⟩:=h2.ok I.hok
   obtain⟨o,es,ep,k1,k2,_⟩:=p
   exact W.kia_one W.kitx_dict I.kIn ⟨o,k1,k2.1⟩ (hk _ (by simp)) (fun z=>nomatch z) h
theorem zbD {T:String}{x:Str}{p1 p2:Pos}(hk:zkK X.K T)(hgi:Gl X "isinstance")(hmi:X.mg "isinstance"=none)(hg:Gl X x)(hm:X.mg x=none)(hv:bootBuiltins x=some (.type T))(ha:DE X E a f)
  (hn:x≠"__name__":=by decide)(hdb:(x==("__debug__" : Str))=false:=by decide)(hT:T∈zdl:=by decide)
  (he:starEach [a,.Name x p2] X.env=(false,eval a X.env)::starEach [.Name x p2] X.env:=by exact zaw rfl)(he2:starEach [.Name x p2] X.env=(false,eval (.Name x p2) X.env)::starEach [] X.env:=by exact zaw rfl)(hpl:(backTo pos (starEach [.Name x p2] X.env)).any (·.1)=false:=by exact zaY rfl) :
  DE X E (.Call (.Name "isinstance" p1) [a,.Name x p2] [] pos) (zbr f (zbV T)):=by
 refine⟨?_⟩
 refine zaP (zg1 (r:=fun vs H Q=>∃ d v,vs=[v,.ty T]/\Rep X.K H d v/\Q (.bl (tyD d==T||(tyD d=="bool"&&T=="int"))) H) ?_ hgi hmi PyProof.Rows.Boot.«isinstance» (zc0 ha.o (zc0 (zlp (v:=.ty T) hg hm hv rfl hn hdb) zfJ he2) he) (by decide) (by decide) he hpl) fun σ H Q ⟨H₀,ρ,hs,hr,q⟩=>⟨H₀,ρ,hs,hr,?_⟩
 ·intro pins s σ H xs us Q I r h
  obtain⟨d,v,rfl,h1,q⟩:=h
  cases r with
  | cons r1 r2 =>
   cases r2 with
   | cons r3 r4 =>
    cases r4
    rename_i u1 u2
    obtain rfl:u2=Value.type T:=r3
    exact znh I h1 r1 hk hT fun tk=>⟨.bl _,H,I.tok _,rfl,q⟩
 ·unfold zbr at q
  cases e1:f ρ with
  | stuck=>rw[e1] at q;exact q
  | exn x=>rw[e1] at q;exact q
  | ok d =>
   rw[e1] at q
   intro v H1 H01 g1 r1
   exact⟨d,v,rfl,r1.mono g1.sub,q _ H1 H01 g1 (rb _)⟩
end
theorem ziw {prog:Program}{w:World}{A:Around}{E:Value->Shared->Prop}{it t:Addr}{items:Array Value}(hne:t≠it):∀ (n i:Nat) (s:Shared) (Q:List Value->Shared->Prop),s.heap.IsListIter it t i->s.heap.IsList t items->i+n<=items.size ->
  (∀ h',h'.IsListIter it t (i+n)->Heap.SameBut it s.heap h'->Q ((items.toList.drop i).take n) { s with heap:=h' })->wpAny (model prog w) A (draw (.ref it) n) Q E s
 | 0,i,s,Q,hit,_,_,hQ=>by
  show wpAny _ _ (pure []) Q E s
  exact wpAny_pure (by simpa using hQ s.heap hit (Heap.SameBut.refl ..))
 | n+1,i,s,Q,hit,ht,hle,hQ=>by
  have hlt:i < items.size:=by omega
  show wpAny _ _ (pyNext (.ref it) >>= _) Q E s
  refine wpAny_bind (wpAny_pyNext_list_item hit ht (x:=items[i]) (by simp [hlt]) fun h₁ hit₁ hs₁=>?_)
  have ht₁:h₁.IsList t items:=by
   obtain⟨o,k1,k2⟩:=ht
   exact⟨o,(hs₁.2 t hne).trans k1,k2⟩
  refine wpAny_bind (wpAny_holding (ziw hne n (i+1) _ _ hit₁ ht₁ (by omega) fun h₂ hit₂ hs₂=>wpAny_pure ?_))
  have hd:items.toList.drop i=items[i]::items.toList.drop (i+1):=by simp [List.drop_eq_getElem_cons,hlt]
  have:=hQ h₂ (by rw[show i+(n+1)=i+1+n by omega];exact hit₂) (hs₁.trans hs₂)
  rw[hd,List.take_succ_cons] at this
  exact this
theorem zfo {prog:Program}{w:World}{A:Around}{E:Value->Shared->Prop}{s:Shared}{t:Addr}{items:Array Value}{Q:List Value->Shared->Prop}(hh:A.handled=none)(ht:s.heap.IsList t items)
  (hQ:∀ h',Heap.ExtBut s.heap.objs.size s.heap h'->Q items.toList { s with heap:=h' }):wpAny (model prog w) A (unpackItems (.ref t) items.size none) Q E s:=by
 have hlt:t≠s.heap.objs.size:=by obtain⟨o,ho,_⟩:=ht;exact Nat.ne_of_lt (Heap.lt_size ho)
 unfold unpackItems
 refine wpAny_bind ?_
 ·unfold notIterableAtAll
  refine wpAny_bind (wpAny_specialOf ht.typeIs slot_list_iter.lookup ?_)
  refine wpAny_pure ?_
  simp only[Bool.false_eq_true,if_false]
  refine wpAny_bind (wpAny_holding (wpAny_pyIter_list ht ?_))
  have ht0:(s.heap.push { cls:=.type "list_iterator",data:=.fields #[.ref t,.int 0 0] }).IsList t items:=by
   obtain⟨o,k1,k2⟩:=ht
   exact⟨o,Heap.get?_push_of_some _ k1,k2⟩
  refine wpAny_bind (wpAny_holding (ziw hlt items.size 0 _ _ ⟨_,Heap.get?_push_size _ rfl,rfl,rfl⟩ ht0 (by omega) fun h₁ hit₁ hs₁=>?_))
  have hall:List.take items.size (List.drop 0 items.toList)=items.toList:=by
   rw[List.drop_zero];exact List.take_of_length_le (by simp)
  rw[hall]
  rw[if_neg (by simp)]
  have ht₁:h₁.IsList t items:=by
   obtain⟨o,k1,k2⟩:=ht0
   exact⟨o,(hs₁.2 t hlt).trans k1,k2⟩
  refine wpAny_bind (wpAny_holding (wpAny_pyNext_list_end hh hit₁ ht₁ (by simp) fun h₂ he₂=>?_))
  simp only[Option.isSome_none,Bool.false_eq_true,if_false]
  refine wpAny_pure (hQ h₂ fun b o hb e=>he₂ b o hb (hs₁.extBut b o hb (Heap.get?_push_of_some _ e)))
def zoA (σ:L2.St):List Nat->List V->L2.St
 | i::is,v::vs=>zoA (σ.set i (some v)) is vs
 | _,_=>σ
def zch (ρ:Ev):List Nat->List D->Ev
 | i::is,d::ds=>zch (ρ.set i (.sh d)) is ds
 | _,_=>ρ
theorem SRx.putAll {K:W.Frag}{He H0e H₀ H:Hp}:∀ {is:List Nat}{ds:List D}{vs:List V}{σ:L2.St}{ρ:Ev},SRx K He H0e H₀ σ H ρ->Reps K H₀ ds vs->SRx K He H0e H₀ (zoA σ is vs) H (zch ρ is ds)
 | [],_,_,_,_,h,_=>by unfold zoA zch;exact h
 | _::_,[],_,_,_,h,r=>by rw[Reps.nil_iff.mp r];unfold zoA zch;exact h
 | i::is,d::ds,_,_,_,h,r=>by
  obtain⟨v,vs,rfl,h1,h2⟩:=Reps.cons_iff.mp r
  unfold zoA zch
  exact SRx.putAll (h.put h1) h2
section
variable {X:Cx}{E:XK}{He H0e:Hp}{e a b:Expr}{es:List Expr}{f g:Ev->Res D}{fa:Ev->Res (List D)}{pos:Pos}{is:List Nat}
def tVs (is:List Nat):TGs:=fun vs σ H Q=>vs.length=is.length/\Q (zoA σ is vs) H
theorem zjx {t t':TGs}(h:PGs X es t)(w:∀ vs σ H Q,t' vs σ H Q->t vs σ H Q):PGs X es t':=fun pins s σ H vs us Q I r q=>h pins s σ H vs us Q I r (w vs σ H Q q)
theorem zl2:PGs X [] (tVs []):=zjx zoK fun vs σ H Q ⟨h,q⟩=>by
 have e:vs=[]:=List.length_eq_zero_iff.mp h
 subst e
 exact⟨rfl,q⟩
theorem zdW {i:Nat}{x:Str}{p:Pos}(hN:X.N.Nodup)(hi:X.N[i]?=some x)(hx:Loc X.env.scope x)(h:PGs X es (tVs is))(hf:X.fn x=true∨X.env.scope.names.lookup x=some .local := by first | exact .inl rfl | exact .inr rfl | assumption)
  (hs:(assignEach (.Name x p::es) X.env).map (·.2)=assign (.Name x p) X.env::(assignEach es X.env).map (·.2):=by rfl):PGs X (.Name x p::es) (tVs (i::is)) :=
 zjx (zm1 (zlm hN hi hx hf) h hs) fun vs σ H Q ⟨h,q⟩=>by
  cases vs with
  | nil=>simp at h
  | cons v vs=>exact⟨v,vs,rfl,by simpa using h,q⟩
theorem zoL {k:Nat}{t:TGs}{n:Nat}(hc:X.calm=true)(h:PGs X es t)
  (hn:(assignEach es X.env).length=n:=by rfl)(hst:(assignEach es X.env).findIdx? (·.1)=none:=by rfl):PG X (.Tuple es k pos) (fun v σ H Q=>∃ a xs,v=.ref a/\SqL X.K H a xs/\xs.length=n/\t xs σ H Q):=by
 intro pins s σ H v u Q I r hw
 obtain⟨a,xs,e1,hq,hl,hw⟩:=hw
 subst e1
 cases r
 obtain⟨its,rv,ht,hz⟩:=I.list hq
 rw[assign_Tuple]
 refine wpAny_bind (wpAny_standAt ?_)
 unfold unpack
 rw[hn,hst]
 have hsz:n=its.toArray.size:=by rw[List.size_toArray,← rv.length,hl]
 rw[hsz]
 refine wpAny_bind (wpAny_holding (zfo (I.ok.hd hc) ht.isList fun h' hx=>?_))
 have I1:Inv X pins σ H { s with heap:=h' }:=I.kept (t':=s.toks) fun b o e=>hx b o (Nat.ne_of_lt (Heap.lt_size e)) e
 exact h pins _ σ H xs _ Q I1 (by simpa using rv) hw
theorem zsh {tgt:Expr}{t t':TG}(h:PG X tgt t)(h':PG X tgt t'):PG X tgt (fun v σ H Q=>t v σ H Q∨t' v σ H Q):=fun pins s σ H v u Q I r q=>q.elim (h pins s σ H v u Q I r) (h' pins s σ H v u Q I r)
theorem zqq {k:Nat}(hc:X.calm=true)(h:PGs X es (tVs is))(hn:(assignEach es X.env).length=is.length:=by rfl)(hst:(assignEach es X.env).findIdx? (·.1)=none:=by rfl) :
  PG X (.Tuple es k pos) (fun v σ H Q=>∃ a xs,v=.ref a/\(SqT X.K H a xs∨SqL X.K H a xs)/\xs.length=is.length/\Q (zoA σ is xs) H) :=
 zll (zsh (zqp hc h hn hst) (zoL hc h hn hst)) fun v σ H Q ⟨a,xs,e,hq,hl,q⟩=>hq.elim (fun z=>.inl ⟨a,xs,e,z,hl,hl,q⟩) fun z=>.inr ⟨a,xs,e,z,hl,hl,q⟩
def zcZ (n:Nat)(d:D):Option (List D):=match d with
 | .tup ds=>if ds.length=n then some ds else none
 | .lst ds=>if ds.length=n then some ds else none
 | _=>none
theorem ziZ {K:W.Frag}{H:Hp}{n:Nat}{d:D}{ds:List D}{v:V}(h:zcZ n d=some ds)(r:Rep K H d v):∃ a vs,v=.ref a/\(SqT K H a vs∨SqL K H a vs)/\vs.length=n/\Reps K H ds vs:=by
 unfold zcZ at h
 cases d with
 | tup es =>
  by_cases c:es.length=n
  ·simp only[if_pos c] at h;cases h
   obtain⟨a,vs,rfl,h1,h2⟩:=Rep.tup_iff.mp r
   exact⟨a,vs,rfl,.inl h1,by rw[← h2.length];exact c,h2⟩
  ·simp only[if_neg c] at h;cases h
 | lst es =>
  by_cases c:es.length=n
  ·simp only[if_pos c] at h;cases h
   obtain⟨a,vs,rfl,h1,h2⟩:=Rep.lst_iff.mp r
   exact⟨a,vs,rfl,.inr h1,by rw[← h2.length];exact c,h2⟩
  ·simp only[if_neg c] at h;cases h
 | _=>cases h
theorem zmP {K:W.Frag}{H H':Hp}{a:Addr}{vs:List V}(hs:zaG H H')(h:SqT K H a vs∨SqL K H a vs):SqT K H' a vs∨SqL K H' a vs:=h.elim (fun z=>.inl (zaG.sqT hs z)) fun z=>.inr (zaG.sqL hs z)
def zrA (is:List Nat)(f:Ev->Res D):Ev->Res Fl:=fun ρ=>(f ρ).bind fun d=>match zcZ is.length d with
 | some ds=>.ok (.nx (zch ρ is ds))
 | none=>.stuck
theorem zn5 {k:Nat}{tp:Pos}(hc:X.calm=true)(he:DE X E e f)(h:PGs X es (tVs is))(hs:swapsWithSole [.Tuple es k tp] e pos.line X.env=pure false:=by rfl)(hw:swappedStores [.Tuple es k tp] e X.env=pure none:=by rfl)
  (h1:(assignEach [.Tuple es k tp] X.env).map (·.2)=[assign (.Tuple es k tp) X.env]:=by rfl)(hn:(assignEach es X.env).length=is.length:=by rfl)(hst:(assignEach es X.env).findIdx? (·.1)=none:=by rfl) :
  DS X E He H0e (.Assign [.Tuple es k tp] e pos) (zrA is f):=by
 refine⟨?_⟩
 refine zcD (zqn he.o (zqq hc h hn hst) hs hw h1) fun D σ H ⟨H₀,ρ,h,q⟩=>⟨H₀,ρ,h.g.sub,h.rd,?_⟩
 refine plain (k:=fun d=>match zcZ is.length d with
  | some ds=>.ok (.nx (zch ρ is ds))
  | none=>.stuck) h q fun d v H' H₀' _ g rp q'=>?_
 cases e1:zcZ is.length d with
 | none=>rw[e1] at q';exact q'.elim
 | some ds =>
  rw[e1] at q'
  obtain⟨a,vs,rfl,k1,k2,k3⟩:=ziZ e1 rp
  exact⟨a,vs,rfl,zmP g.sub k1,k2,q' _ H' H₀' (zaG.refl _) ((h.grow g).putAll k3)⟩
def ztM (is:List Nat):Ev->D->Res Ev:=fun ρ d=>match zcZ is.length d with
 | some ds=>.ok (zch ρ is ds)
 | none=>.stuck
def znT (i j:Nat)(fa:Ev->Res (List D)):Ev->Res Fl:=fun ρ=>(fa ρ).bind fun ds=>match ds with
 | [x,y]=>.ok (.nx ((ρ.set i (.sh x)).set j (.sh y)))
 | _=>.stuck
theorem zrc {i j:Nat}{x y:Str}{px py pt pt2:Pos}{kt k2}(hc:X.calm=true)(hN:X.N.Nodup)(hi:X.N[i]?=some x)(hj:X.N[j]?=some y)(hij:i≠j)
  (hx:X.env.scope.names.lookup x=some .local)(hy:X.env.scope.names.lookup y=some .local)(ha:DA X E [a,b] fa)
  (hw:swappedStores [.Tuple [.Name x px,.Name y py] kt pt] (.Tuple [a,b] k2 pt2) X.env=pure (some [x,y]))
  (hs:swapsWithSole [.Tuple [.Name x px,.Name y py] kt pt] (.Tuple [a,b] k2 pt2) pos.line X.env=pure false:=by rfl) :
  DS X E He H0e (.Assign [.Tuple [.Name x px,.Name y py] kt pt] (.Tuple [a,b] k2 pt2) pos) (znT i j fa):=by
 refine⟨?_⟩
 refine zcD (zqm hc hN hi hj hij hx hy ha.o hw hs) fun D σ H ⟨H₀,ρ,h,q⟩=>⟨H₀,ρ,h.g.sub,h.rd,?_⟩
 unfold znT at q
 cases e1:fa ρ with
 | stuck=>rw[e1] at q;exact q
 | exn x=>rw[e1] at q;exact fun C ox H' H₀' g ex=>q C ox H' H₀' (h.g.trans g) ex
 | ok ds =>
  rw[e1] at q
  intro vs H1 H01 g1 r1
  match ds,r1,q with
  | [x,y],r1,q =>
   obtain⟨v,r',rfl,h1,h2⟩:=Reps.cons_iff.mp r1
   obtain⟨u,r'',rfl,h3,h4⟩:=Reps.cons_iff.mp h2
   rw[Reps.nil_iff.mp h4]
   exact⟨v,u,rfl,q _ H1 H01 g1.z (((h.grow g1).put h1).put h3)⟩
  | [],_,q=>exact q.elim
  | [_],_,q=>exact q.elim
  | _::_::_::_,_,q=>exact q.elim
end
theorem zgu {K:W.Frag}:zkK K "int":=by
 intro S hS
 simp only[List.mem_cons,List.mem_nil_iff,or_false] at hS
 rcases hS with rfl | rfl | rfl | rfl | rfl | rfl | rfl<;>first | rfl | decide +kernel
theorem zfO {K:W.Frag}:zkK K "bool":=by
 intro S hS
 simp only[List.mem_cons,List.mem_nil_iff,or_false] at hS
 rcases hS with rfl | rfl | rfl | rfl | rfl | rfl | rfl<;>first | rfl | decide +kernel
theorem zdU {K:W.Frag}:zkK K "str":=by
 intro S hS
 simp only[List.mem_cons,List.mem_nil_iff,or_false] at hS
 rcases hS with rfl | rfl | rfl | rfl | rfl | rfl | rfl<;>first | rfl | decide +kernel
theorem zfb {K:W.Frag}:zkK K "tuple":=by
 intro S hS
 simp only[List.mem_cons,List.mem_nil_iff,or_false] at hS
 rcases hS with rfl | rfl | rfl | rfl | rfl | rfl | rfl<;>first | rfl | decide +kernel
section
variable {X:Cx}{E:XK}{He H0e:Hp}{e a b c:Expr}{f g h:Ev->Res D}{pos:Pos}
theorem dv (i:Nat){x:Str}(hN:X.N[i]?=some x:=by rfl)(hv:Vis X.env.scope x:=by first | exact Or.inl rfl | exact Or.inr (Or.inl rfl) | exact Or.inr (Or.inr rfl))(hd:(x==("__debug__" : Str))=false:=by decide)
  (hcd:(x==("__classdict__" : Str))=false:=by decide):DE X E (.Name x pos) (zaf i):=zrg hN hv hd hcd
def Kon (K:W.Frag)(mg:Str->Option Value)(x:Str)(d:D):Prop:=∃ v u,mg x=some u/\zbB v u/\∀ H,Rep K H d v
theorem zob {x:Str}{d:D}(k:Kon X.K X.mg x d)(hg:Gl X x)(hd:(x==("__debug__" : Str))=false:=by decide):DE X E (.Name x pos) (dC d):=by
 obtain⟨v,u,h1,h2,h3⟩:=k
 exact zpq hg h1 h2 h3 hd
theorem zo2 {K:W.Frag}{mg:Str->Option Value}{x:Str}{i:Int}{t:Tok}(h:mg x=some (.int i t)):Kon K mg x (.int i):=⟨.int i,_,h,⟨t,rfl⟩,fun _=>ri _⟩
theorem zo1 {K:W.Frag}{mg:Str->Option Value}{x:Str}{i:Str}{t:Tok}(h:mg x=some (.str i t)):Kon K mg x (.str i):=⟨.str i,_,h,⟨t,rfl⟩,fun _=>Rep.str_iff.mpr rfl⟩
def zeG (op op':D->D->Res D)(f g h:Ev->Res D):Ev->Res D:=fun ρ=>(f ρ).bind fun x=>(g ρ).bind fun y=>(op x y).bind fun z=>match z with
 | .bl true=>(h ρ).bind fun w=>op' y w
 | .bl false=>.ok (.bl false)
 | _=>.stuck
def zjl (r:R2)(o:D->D->Res D):Prop:=∀ (K:W.Frag) (x y:D) (v u:V) (H H₀:Hp) (Q:VK) (d:D),zaG H₀ H->Rep K H₀ x v->Rep K H₀ y u->o x y=.ok d->(∀ w,Rep K H₀ d w->Q w H)->r v u H Q
theorem zet {gv:Int->Int->V}{g:Int->Int->D}(hg:∀ K H i j,Rep K H (g i j) (gv i j)):zjl (rI0 gv) (iop (fun _ _=>true) g):=by
 intro K x y v u H H₀ Q d hs r1 r2 e q
 unfold iop at e
 cases x with
 | int i =>
  cases y with
  | int j=>simp only[if_pos] at e;cases e;exact⟨i,j,Rep.int_iff.mp r1,Rep.int_iff.mp r2,q _ (hg _ _ i j)⟩
  | _=>cases e
 | _=>cases e
def zjn (o:D->D->Res D):Prop:=∀ x y,∀ z,o x y≠.exn z
theorem zf2 {r r':R2}{o o':D->D->Res D}(p:zjl r o)(p':zjl r' o')(n:zjn o)(n':zjn o')(σ:L2.St)(H:Hp)(Q:VK)(q:tD X.K E (zeG o o' f g h) σ H Q) :
  zkV r r' (tD X.K E f) (tD X.K E g) (tD X.K E h) σ H Q:=by
 obtain⟨H₀,ρ,hs,hr,q⟩:=q
 refine⟨H₀,ρ,hs,hr,?_⟩
 unfold zeG at q
 cases e1:f ρ with
 | stuck=>rw[e1] at q;exact q
 | exn x=>rw[e1] at q;exact q
 | ok x =>
  rw[e1] at q
  intro v H1 H01 g1 r1
  refine⟨H01,ρ,g1.sub,hr.mono g1.z,?_⟩
  replace q:=post.grow (r:=(g ρ).bind fun y=>(o x y).bind fun z=>match z with
   | .bl true=>(h ρ).bind fun w=>o' y w
   | .bl false=>.ok (.bl false)
   | _=>.stuck) q g1
  cases e2:g ρ with
  | stuck=>rw[e2] at q;exact q
  | exn x=>rw[e2] at q;exact q
  | ok y =>
   rw[e2] at q
   intro u H2 H02 g2 r2
   replace q:=post.grow (r:=(o x y).bind fun z=>match z with
    | .bl true=>(h ρ).bind fun w=>o' y w
    | .bl false=>.ok (.bl false)
    | _=>.stuck) q g2
   cases e3:o x y with
   | stuck=>rw[e3] at q;exact q.elim
   | exn z=>exact absurd e3 (n x y z)
   | ok z =>
    rw[e3] at q
    refine p X.K x y v u H2 H02 _ z g2.sub (r1.mono g2.z) r2 e3 fun w rw'=>?_
    cases z with
    | bl b =>
     rw[Rep.bl_iff.mp rw']
     refine⟨b,rfl,?_⟩
     cases b with
     | false=>rw[if_neg Bool.false_ne_true];exact q _ H2 H02 (zbh.refl g2.sub) (rb _)
     | true =>
      rw[if_pos rfl]
      refine⟨H02,ρ,g2.sub,(hr.mono g1.z).mono g2.z,?_⟩
      replace q:post X.K E H2 H02 ((h ρ).bind fun w=>o' y w) Q:=q
      cases e4:h ρ with
      | stuck=>rw[e4] at q;exact q
      | exn x=>rw[e4] at q;exact q
      | ok w2 =>
       rw[e4] at q
       intro v3 H3 H03 g3 r3
       replace q:=post.grow (r:=o' y w2) q g3
       cases e5:o' y w2 with
       | stuck=>rw[e5] at q;exact q.elim
       | exn z=>exact absurd e5 (n' y w2 z)
       | ok d =>
        rw[e5] at q
        exact p' X.K y w2 u v3 H3 H03 Q d g3.sub (r2.mono g3.z) r3 e5 fun w3 r5=>q w3 H3 H03 (zbh.refl g3.sub) r5
    | _=>exact q.elim
theorem znE {op op':CmpOp}{r r':R2}{o o':D->D->Res D}(ho:OpR X (compareOp op) r)(ho':OpR X (compareOp op') r')(p:zjl r o)(p':zjl r' o')(n:zjn o)(n':zjn o')(ha:DE X E a f)(hb:DE X E b g)(hc:DE X E c h)
  (hm:lastMarks [op,op'] [b,c]=false:=by with_unfolding_all rfl):DE X E (.Compare a [op,op'] [b,c] pos) (zeG o o' f g h):=⟨zaP (zm4 ho ho' ha.o hb.o hc.o hm) (zf2 p p' n n')⟩
theorem zny {op op':CmpOp}{r r':R2}{o o':D->D->Res D}(ho:OpR X (compareOp op) r)(ho':OpR X (compareOp op') r')(p:zjl r o)(p':zjl r' o')(n:zjn o)(n':zjn o')(ha:DE X E a f)(hb:DE X E b g)(hc:DE X E c h)
  (hm:lastMarks [op,op'] [b,c]=false:=by with_unfolding_all rfl):DT X E (.Compare a [op,op'] [b,c] pos) (zeG o o' f g h):=by
 refine⟨?_⟩
 refine zgZ (zmY ho ho' ha.o hb.o hc.o hm) fun σ H Q q=>?_
 have w:tD X.K E (zeG o o' f g h) σ H fun x H'=>∃ k,x=.bl k/\Q k H':=by
  obtain⟨H₀,ρ,hs,hr,q⟩:=q
  refine⟨H₀,ρ,hs,hr,?_⟩
  cases e1:zeG o o' f g h ρ with
  | stuck=>rw[e1] at q;exact q
  | exn x=>rw[e1] at q;exact q
  | ok d =>
   rw[e1] at q
   intro v H1 H01 g1 r1
   cases d with
   | bl b=>rw[Rep.bl_iff.mp r1];exact⟨b,rfl,q H1 H01 g1⟩
   | _=>exact q.elim
 exact zf2 p p' n n' σ H _ w
theorem zev {c:Int->Int->Bool}{g:Int->Int->D}:zjn (iop c g):=by
 intro x y z
 unfold iop
 cases x<;>cases y<;>simp<;>split<;>simp
end
def zhf (i:Nat):Ev->Nat:=fun ρ=>match ρ[i]? with
 | some (.sh (.int j))=>j.natAbs+1
 | _=>0
section
variable {X:Cx}{E:XK}{a b:Expr}{f g:Ev->Res D}{pos:Pos}
def zbA (x y:D):Res D:=match x,y with
 | .int i,.int j=>if zew i j=true then .ok (.int (i*j)) else .stuck
 | _,_=>.stuck
theorem zdk (ha:DE X E a f)(hb:DE X E b g):DE X E (.BinOp a .Mult b pos) (zac f g zbA):=zi9 zoR (by
 intro x y v u H H₀ Q hs r1 r2 q
 unfold zbA at q
 cases x with
 | int i =>
  cases y with
  | int j =>
   by_cases h:zew i j=true
   ·simp only[if_pos h] at q
    exact⟨i,j,Rep.int_iff.mp r1,Rep.int_iff.mp r2,zew.ok h,zaU hs q (ri _)⟩
   ·simp only[if_neg h] at q;exact q.elim
  | _=>exact q.elim
 | _=>exact q.elim) ha hb
end
def zsz (K:W.Frag)(tg:Ev->D->Res Ev):TG:=fun v σ H Q=>∃ He H0e,tG K He H0e tg v σ H Q
section
variable {X:Cx}{E:XK}{a b:Expr}{f g:Ev->Res D}{pos:Pos}
def zrh (x y:D):Res D:=match x,y with
 | .lst ds,.int k=>if ds.length*k.toNat<=line/\-9223372036854775808<=k/\k < 9223372036854775808 then .ok (.lst (List.replicate k.toNat ds).flatten) else .stuck
 | _,_=>.stuck
def ztz (f g:Ev->Res D):Ev->Res D:=fun ρ=>(f ρ).bind fun x=>match x with
 | .lst ds=>(g ρ).bind fun y=>zrh (.lst ds) y
 | _=>.stuck
end
def znP:List D->Option (List Str)
 | []=>some []
 | .str x::r=>(znP r).map (x::·)
 | _=>none
section
variable {X:Cx}{E:XK}{o e:Expr}{fo:Ev->Res D}{fa:Ev->Res (List D)}
def zo3 (z:Str)(ys:List Str):Bool:=decide (z.length<=16)&&decide ((ys.map (·.length)).sum+ys.length<=1048576)
def zo4 (z:Str)(xs:List D):Res D:=match xs with
 | [.lst ds]=>match znP ds with
  | some ys=>if zo3 z ys=true then .ok (.str (Txt.join z ys)) else .stuck
  | none=>.stuck
 | _=>.stuck
def zsL (fo:Ev->Res D)(fa:Ev->Res (List D)):Ev->Res D:=fun ρ=>(fo ρ).bind fun x=>match x with
 | .str z=>(fa ρ).bind fun xs=>zo4 z xs
 | _=>.stuck
end
section
variable {X:Cx}{E:XK}{a:Expr}{f:Ev->Res D}{pos:Pos}
def ztB:V->Option Int->Option Int->Hp->VK->Prop:=fun x lo hi H Q=>∃ z,x=.str z/\z.length<=sizeLine/\Q (.str (Txt.slice z lo hi)) H
theorem zp4:SlR X ztB:=by
 intro pins s σ H x v vl vu lo hi sl Q I rx hs pl pu h
 obtain⟨z,rfl,hz,q⟩:=h
 obtain⟨t,rfl⟩:=rx
 have fin:∀ t' k,EP X pins σ Q (.str (Txt.slice z lo hi) t') { s with toks:=k }:=fun t' k=>⟨.str (Txt.slice z lo hi),H,I.tok _,⟨_,rfl⟩,q⟩
 refine⟨"str",_,PySem.F.slot_str_getitem.lookup,typeIs_str s z t,?_⟩
 cases pl with
 | none =>
  cases pu with
  | none=>exact wpAny_getItem_str_slice (l:=none) (u:=none) (st:=none) hs rfl (post_val_or_str ⟨Nat.le_trans (Txt.slice_le z _ _) hz,fin⟩)
  | int j uj=>exact wpAny_getItem_str_slice (l:=none) (u:=some (j,uj)) (st:=none) hs rfl (post_val_or_str ⟨Nat.le_trans (Txt.slice_le z _ _) hz,fin⟩)
 | int i ui =>
  cases pu with
  | none=>exact wpAny_getItem_str_slice (l:=some (i,ui)) (u:=none) (st:=none) hs rfl (post_val_or_str ⟨Nat.le_trans (Txt.slice_le z _ _) hz,fin⟩)
  | int j uj=>exact wpAny_getItem_str_slice (l:=some (i,ui)) (u:=some (j,uj)) (st:=none) hs rfl (post_val_or_str ⟨Nat.le_trans (Txt.slice_le z _ _) hz,fin⟩)
def zfD (x:D)(l h:Option Int):Res D:=match x with
 | .lst ds=>.ok (.lst (zmf ds l h))
 | .str z=>if z.length<=line then .ok (.str (Txt.slice z l h)) else .stuck
 | .tup ds=>if HT.sIx ds.length 0 l=0/\HT.sIx ds.length ds.length h=ds.length then .stuck else .ok (.tup (zmf ds l h))
 | _=>.stuck
def ziL (f:Ev->Res D)(lo hi:Ev->Res (Option Int)):Ev->Res D:=fun ρ=>(f ρ).bind fun x=>(lo ρ).bind fun l=>(hi ρ).bind fun h=>zfD x l h
theorem zbi {lo hi:Option Expr}{p2:Pos}{fl fh:Ev->Res (Option Int)}(ha:DE X E a f)(hl:DO X E lo fl)(hh:DO X E hi fh):DE X E (.Subscript a (.Slice lo hi none p2) pos) (ziL f fl fh) :=
 ⟨zaP (zm2 (SlR.or zoz (SlR.or zp4 zp3)) ha.o hl.o hh.o) (ziT (m:=zfD) fun x v l h H H₀ Q hs r q=>by
  cases x with
  | lst ds =>
   obtain⟨p,vs,rfl,h1,h2⟩:=Rep.lst_iff.mp r
   exact .inl ⟨p,vs,rfl,zaG.sqL hs h1,fun n hn=>q _ _ _ (zbh.alloc hs hn) (Rep.lst_iff.mpr ⟨n,_,rfl,SqL.of zap,(h2.cut l h).mono (zbh.alloc hs hn).z⟩)⟩
  | str z =>
   unfold zfD at q
   by_cases c:z.length<=line
   ·simp only[if_pos c] at q
    exact .inr (.inl ⟨z,Rep.str_iff.mp r,zcq c,zaU hs q (Rep.str_iff.mpr rfl)⟩)
   ·simp only[if_neg c] at q;exact q.elim
  | tup ds =>
   unfold zfD at q
   by_cases c:HT.sIx ds.length 0 l=0/\HT.sIx ds.length ds.length h=ds.length
   ·simp only[if_pos c] at q;exact q.elim
   ·simp only[if_neg c] at q
    obtain⟨p,vs,rfl,h1,h2⟩:=Rep.tup_iff.mp r
    exact .inr (.inr ⟨p,vs,rfl,zaG.sqT hs h1,by rw[← h2.length];exact c,fun n hn=>q _ _ _ (zbh.alloc hs hn) (Rep.tup_iff.mpr ⟨n,_,rfl,SqT.of zap,(h2.cut l h).mono (zbh.alloc hs hn).z⟩)⟩)
  | _=>exact q.elim)⟩
end
def Its (z:Str):It:=⟨fun i _=>i < z.cps.size,fun i H x H'=>H'=H/\∃ c,z.cps[i]?=some c/\x=.str ⟨#[c]⟩,fun i _=>z.cps.size<=i⟩
theorem zkc {P:Program}{w:World}{K:W.Frag}{tg:Expr}(z:Str)(t:Tok)(it:Addr):zrs P w K tg (Its z) [it] it (fun i h=>h.IsStrIter it "str_ascii_iterator" z t i) where
 mem:=by simp
 obj:=fun i h st b hb=>by
  have e:b=it:=by simpa using hb
  subst e
  obtain⟨o,e,c,d⟩:=st
  exact⟨o,e,fun v z=>by rw[d] at z;cases z⟩
 keep:=fun i h h' st k=>let ⟨o,ho,r⟩:=st;⟨o,k it (by simp) o ho,r⟩
 item:=by
  intro X hP hw hK hc i pins s σ H E I hf st hg
  subst hP hw hK
  have hg':i < z.cps.size:=hg
  obtain⟨f0,f1,f2,f3,f4,f5⟩:=hf it (by simp)
  refine wpAny_pyNext_ascii_item st (c:=z.cps[i]) (by simp [hg']) fun h' st' sb=>?_
  have I1:Inv X pins σ H { s with heap:=h',toks:=s.toks+1 }:=I.turned (t':=s.toks+1) (fun b o hb e=>(sb.2 b hb).trans e) f0 f1 f3 f4 f5
  obtain⟨o,e,c,d⟩:=id st'
  exact⟨_,rfl,zno (s:={ s with heap:=h',toks:=s.toks+1 }) e c d (by decide) ⟨.str ⟨#[z.cps[i]]⟩,H,I1,⟨_,rfl⟩,⟨rfl,_,by simp [hg'],rfl⟩,st',fun b hb=>(hf b hb).1⟩⟩
 done:=by
  intro X hP hw hK hc i pins s σ H E I hf st hg
  subst hP hw hK
  have hg':z.cps.size<=i:=hg
  obtain⟨f0,f1,f2,f3,f4,f5⟩:=hf it (by simp)
  exact wpAny_pyNext_ascii_end (I.ok.hd hc) st (by simp [hg']) fun h' eb=>⟨rfl,I.turned (t':=s.toks) (fun b o hb e=>eb b o hb e) f0 f1 f3 f4 f5⟩
 self:=fun _ _ _ _ _ st h=>wpAny_pyIter_striter_ascii st h
theorem zkR {P:Program}{w:World}{K:W.Frag}{tg:Expr}(z:Str)(t:Tok)(it:Addr):zrs P w K tg (Its z) [it] it (fun i h=>h.IsStrIter it "str_iterator" z t i) where
 mem:=by simp
 obj:=fun i h st b hb=>by
  have e:b=it:=by simpa using hb
  subst e
  obtain⟨o,e,c,d⟩:=st
  exact⟨o,e,fun v z=>by rw[d] at z;cases z⟩
 keep:=fun i h h' st k=>let ⟨o,ho,r⟩:=st;⟨o,k it (by simp) o ho,r⟩
 item:=by
  intro X hP hw hK hc i pins s σ H E I hf st hg
  subst hP hw hK
  have hg':i < z.cps.size:=hg
  obtain⟨f0,f1,f2,f3,f4,f5⟩:=hf it (by simp)
  refine wpAny_pyNext_wide_item st (c:=z.cps[i]) (by simp [hg']) fun h' st' sb=>?_
  have I1:Inv X pins σ H { s with heap:=h',toks:=s.toks+1 }:=I.turned (t':=s.toks+1) (fun b o hb e=>(sb.2 b hb).trans e) f0 f1 f3 f4 f5
  obtain⟨o,e,c,d⟩:=id st'
  exact⟨_,rfl,zno (s:={ s with heap:=h',toks:=s.toks+1 }) e c d (by decide) ⟨.str ⟨#[z.cps[i]]⟩,H,I1,⟨_,rfl⟩,⟨rfl,_,by simp [hg'],rfl⟩,st',fun b hb=>(hf b hb).1⟩⟩
 done:=by
  intro X hP hw hK hc i pins s σ H E I hf st hg
  subst hP hw hK
  have hg':z.cps.size<=i:=hg
  obtain⟨f0,f1,f2,f3,f4,f5⟩:=hf it (by simp)
  exact wpAny_pyNext_wide_end (I.ok.hd hc) st (by simp [hg']) fun h' eb=>⟨rfl,I.turned (t':=s.toks) (fun b o hb e=>eb b o hb e) f0 f1 f3 f4 f5⟩
 self:=fun _ _ _ _ _ st h=>wpAny_pyIter_striter_wide st h
def ztL (tl:TE):TI:=fun σ H R=>tl σ H fun x H1=>∃ z,x=.str z/\R (Its z) H1
theorem zqo {X:Cx}{tg l:Expr}{tl:TE}(hl:PE X l tl):PI X tg l (ztL tl):=by
 intro pins s σ H R I h
 refine thn (hl pins s σ H _ I h) fun v s1 ⟨x,H1,I1,r1,q1⟩=>?_
 obtain⟨z,rfl,q⟩:=q1
 obtain⟨t,rfl⟩:=r1
 have fpo:∀ b∈[s1.heap.objs.size],zms X pins H1 b:=fun b hb=>by
  have e:b=s1.heap.objs.size:=by simpa using hb
  subst e
  exact I1.fpOk (Nat.le_refl _) (I1.hok.fresh (Nat.le_refl _))
 cases ha:z.cps.all (· < 128) with
 | false=>exact wpAny_pyIter_wide ha ⟨s1.heap.objs.size,[s1.heap.objs.size],_,_,H1,rfl,I1.kept (t':=s1.toks) fun b o e=>Heap.get?_push_of_some _ e,zkR z t _,⟨_,Heap.get?_push_size _ rfl,rfl,rfl⟩,fpo,q⟩
 | true=>exact wpAny_pyIter_ascii ha ⟨s1.heap.objs.size,[s1.heap.objs.size],_,_,H1,rfl,I1.kept (t':=s1.toks) fun b o e=>Heap.get?_push_of_some _ e,zkc z t _,⟨_,Heap.get?_push_size _ rfl,rfl,rfl⟩,fpo,q⟩
def zcQ (z:Str):List D:=z.cps.toList.map fun c=>.str ⟨#[c]⟩
theorem zdR (z:Str):(zcQ z).length=z.cps.size:=by unfold zcQ;simp
section
variable {X:Cx}{E:XK}{He H0e:Hp}{f:Ev->Res D}{s:Ev->Res Fl}{pos:Pos}
end
section
variable {X:Cx}{E:XK}
def zs2 (K:W.Frag):List V->Hp->VK->Prop:=fun xs H Q=>∃ (p:Addr) (bs:List Bool),xs=[.ref p]/\SqL K H p (bs.map V.bl)/\Q (.bl (bs.all id)) H
theorem ziI:∀ bs:List Bool,(List.range bs.length).all (fun i=>bs.getD i false)=bs.all id
 | []=>rfl
 | b::r=>by
  rw[List.length_cons,List.range_succ_eq_map,List.all_cons,List.all_map,List.all_cons,← ziI r]
  rfl
theorem zjU (hc:X.calm=true):zfs X (.builtin "all") (zs2 X.K):=by
 intro pins s σ H xs us Q I r h
 obtain⟨p,bs,rfl,hq,q⟩:=h
 obtain⟨u,rfl,rx⟩:=zka r
 cases rx
 obtain⟨its,rv,pl,hz⟩:=I.list hq
 have hlen:=rv.length
 rw[List.length_map] at hlen
 have hne:p≠s.heap.objs.size:=Nat.ne_of_lt pl.lt
 refine call_all_walk (wpAny_pyIter_list pl.isList ?_)
 have pl2:(s.heap.push { cls:=.type "list_iterator",data:=.fields #[.ref p,.int 0 0] }).IsList p its.toArray:=by
  obtain⟨o,k1,k2⟩:=pl.isList
  exact⟨o,Heap.get?_push_of_some _ k1,k2⟩
 refine⟨s.heap.objs.size,_,_,_,_,_,fun i=>bs.getD i false,rfl,Walks.list (A:=X.A.in1) (I.ok.hd hc) s.heap.objs.size p hne its.toArray,⟨⟨_,Heap.get?_push_size _ rfl,rfl,rfl⟩,pl2⟩,?_,fun h' tk hk=>?_⟩
 ·intro i v s' Q' E' hv hQ
  have hv':its[i]?=some v:=by simpa using hv
  have hi:i < its.length:=(List.getElem?_eq_some_iff.mp hv').1
  obtain⟨w,e1,e2⟩:=rv.get (show(bs.map V.bl)[i]?=some (V.bl (bs.getD i false)) by
   rw[List.getElem?_map,List.getElem?_eq_getElem (by omega)]
   simp [List.getD,List.getElem?_eq_getElem (show i < bs.length by omega)])
  rw[hv'] at e1
  cases e1
  obtain rfl:v=Value.bool _:=e2
  exact wpAny_truthy_bool hQ
 ·have hall:(List.range its.toArray.size).all (fun i=>bs.getD i false)=bs.all id:=by
   rw[List.size_toArray,← hlen]
   exact ziI bs
  rw[hall]
  exact⟨.bl _,H,I.kept (t':=tk) (fun b o e=>hk b o (by simp only[List.mem_singleton];exact Nat.ne_of_lt (Heap.lt_size e)) (Heap.get?_push_of_some _ e)),rfl,q⟩
def zce:List D->Option (List Bool)
 | []=>some []
 | .bl b::r=>(zce r).map (b::·)
 | _=>none
theorem ziD {K:W.Frag}{H:Hp}:∀ {ds:List D}{bs:List Bool}{vs:List V},zce ds=some bs->Reps K H ds vs->vs=bs.map V.bl
 | [],bs,vs,h,r=>by cases h;exact Reps.nil_iff.mp r
 | d::ds,bs,vs,h,r=>by
  obtain⟨v,r',rfl,h1,h2⟩:=Reps.cons_iff.mp r
  cases d with
  | bl x =>
   unfold zce at h
   cases e:zce ds with
   | none=>rw[e] at h;cases h
   | some zs =>
    rw[e] at h
    cases h
    rw[Rep.bl_iff.mp h1,ziD e h2]
    rfl
  | _=>cases h
def zoe (x:D):Res D:=match x with
 | .lst ds=>match zce ds with
  | some bs=>.ok (.bl (bs.all id))
  | none=>.stuck
 | _=>.stuck
theorem zoh:zgk X E (zs2 X.K) (m1 zoe):=zmp fun x v H H₀ Q hs r q=>by
 cases x with
 | lst ds =>
  unfold zoe at q
  obtain⟨p,vs,rfl,h1,h2⟩:=Rep.lst_iff.mp r
  cases e:zce ds with
  | none=>simp only[e] at q;exact q.elim
  | some bs =>
   simp only[e] at q
   exact⟨p,bs,rfl,by rw[← ziD e h2];exact zaG.sqL hs h1,zaU hs q (rb _)⟩
 | _=>exact q.elim
end
section
variable {X:Cx}{E:XK}{e:Expr}{f:Ev->Res D}{pos p1:Pos}
def dOne (x:Str)(d:D):Res D:=.ok (.dic [x] [d])
end
def zgj (cells:List (Str×Addr)):List (Str×NameKind)->List (Str×Addr)->List (Str×Addr)
 | [],acc=>acc
 | (n,k)::r,acc=>if(k==NameKind.free)=true then zgj cells r ((n,(cells.lookup n).getD 0)::acc) else zgj cells r acc
theorem zho {scope:Scope}{env:PySem.Env}(h:∀ x∈scope.names,x.2=.free->∃ c,env.cells.lookup x.1=some c):closureFor scope env=pure (zgj env.cells scope.names []):=by
 simp only[closureFor]
 have key:∀ (names:List (Str×NameKind)) (acc:List (Str×Addr)),(∀ x∈names,x.2=.free->∃ c,env.cells.lookup x.1=some c) ->
   (forIn names acc fun(x:Str×NameKind) (z:List (Str×Addr)) =>
      if(x.snd==NameKind.free)=true then do
       let y ← cellOf env x.fst
       pure (ForInStep.yield ((x.fst,y)::z))
      else(pure (ForInStep.yield z):Sem _))=pure (zgj env.cells names acc):=by
  intro names
  induction names with
  | nil=>intro acc _;rfl
  | cons x r ih =>
   intro acc hh
   obtain⟨n,k⟩:=x
   rw[List.forIn_cons]
   by_cases hk:(k==NameKind.free)=true
   ·obtain⟨c,hc⟩:=hh (n,k) List.mem_cons_self (by simpa using hk)
    have hcell:cellOf env n=pure c:=by unfold cellOf;rw[show env.cells.lookup n=some c from hc]
    simp only[hk,if_true]
    rw[hcell]
    have:=ih ((n,c)::acc) (fun y hy=>hh y (List.mem_cons_of_mem _ hy))
    rw[show zgj env.cells ((n,k)::r) acc=zgj env.cells r ((n,c)::acc) by
     show(if(k==NameKind.free)=true then _ else _)=_
     rw[if_pos hk,show env.cells.lookup n=some c from hc];rfl]
    rw[← this]
    rfl
   ·have:=ih acc (fun y hy=>hh y (List.mem_cons_of_mem _ hy))
    rw[if_neg hk]
    rw[show zgj env.cells ((n,k)::r) acc=zgj env.cells r acc by
     show(if(k==NameKind.free)=true then _ else _)=_
     rw[if_neg hk]]
    rw[← this]
    rfl
 rw[key _ _ h]
 rfl
theorem zhp {cells:List (Str×Addr)}:∀ {names:List (Str×NameKind)}{acc:List (Str×Addr)}{x:Str}{c:Addr},(∀ y∈names,y.2=.free->∃ c,cells.lookup y.1=some c) ->
  (zgj cells names acc).lookup x=some c->acc.lookup x=some c∨cells.lookup x=some c
 | [],acc,x,c,_,h=>.inl h
 | (n,k)::r,acc,x,c,hh,h=>by
  unfold zgj at h
  by_cases hk:(k==NameKind.free)=true
  ·rw[if_pos hk] at h
   obtain⟨d,hd⟩:=hh (n,k) List.mem_cons_self (by simpa using hk)
   rcases zhp (fun y hy=>hh y (List.mem_cons_of_mem _ hy)) h with h | h
   ·rw[List.lookup_cons] at h
    cases e:x==n with
    | true =>
     rw[e] at h
     rw[show cells.lookup n=some d from hd] at h
     cases h
     rw[eq_of_beq e];exact .inr hd
    | false=>rw[e] at h;exact .inl h
   ·exact .inr h
  ·rw[if_neg hk] at h
   exact zhp (fun y hy=>hh y (List.mem_cons_of_mem _ hy)) h
theorem zfN {α:Type}{x:Str}:∀ {l:List (Str×α)},(∃ v,(x,v)∈l)->∃ v,l.lookup x=some v
 | [],⟨v,h⟩=>by cases h
 | (n,w)::r,⟨v,h⟩=>by
  rw[List.lookup_cons]
  cases e:x==n with
  | true=>exact⟨w,rfl⟩
  | false =>
   rcases List.mem_cons.mp h with h | h
   ·cases h;simp at e
   ·exact zfN ⟨v,h⟩
theorem zhr {cells:List (Str×Addr)}{x:Str}{c:Addr}:∀ {names:List (Str×NameKind)}{acc:List (Str×Addr)},(x,c)∈acc->(x,c)∈zgj cells names acc
 | [],acc,h=>h
 | (n,k)::r,acc,h=>by
  unfold zgj
  by_cases hk:(k==NameKind.free)=true
  ·rw[if_pos hk];exact zhr (List.mem_cons_of_mem _ h)
  ·rw[if_neg hk];exact zhr h
theorem zhq {cells:List (Str×Addr)}{x:Str}:∀ {names:List (Str×NameKind)}{acc:List (Str×Addr)},(x,NameKind.free)∈names->∃ c,(zgj cells names acc).lookup x=some c:=by
 intro names
 induction names with
 | nil=>intro acc h;cases h
 | cons y r ih =>
  intro acc h
  obtain⟨n,k⟩:=y
  unfold zgj
  rcases List.mem_cons.mp h with h | h
  ·cases h
   rw[if_pos (by rfl)]
   exact zfN ⟨_,zhr List.mem_cons_self⟩
  ·by_cases hk:(k==NameKind.free)=true
   ·rw[if_pos hk];exact ih h
   ·rw[if_neg hk];exact ih h
def zcW (X:Cx)(N:List Str)(scope:Scope)(s:Shared)(H:Hp)(C:Addr)(fp:List Addr)(pn:List (Addr×Obj)):Cx :=
 { X with N:=N,s₀:=s,H₀:=H,env:=compEnvC scope (zgj X.env.cells scope.names []) C X.env,outer:=X.stack,stack:=X.stack,ex:=fp,fn:=fun _=>false,pn:=pn,xe:=fun _ _=>False }
def zht (n:Nat)(fr:List Nat)(σ:L2.St):L2.St:=List.replicate n none++fr.map fun(i:Nat)=>(σ[i]?).getD none
def ziM (X:Cx)(N:List Str)(n:Nat)(fr:List Nat)(scope:Scope):Prop :=
 N.length=n+fr.length/\((N.drop n).zip fr).all (fun p=>X.N[p.2]?==some p.1&&X.env.scope.names.lookup p.1==some .cell&&scope.names.lookup p.1==some .free&&(relabel scope X.env).names.lookup p.1==some .cell)=true
theorem ziM.at {X:Cx}{N:List Str}{n:Nat}{fr:List Nat}{scope:Scope}(h:ziM X N n fr scope){k:Nat}{x:Str}{v:V}{σ:L2.St}(hx:N[k]?=some x)(hv:(zht n fr σ)[k]?=some (some v)) :
  ∃ i:Nat,X.N[i]?=some x/\σ[i]?=some (some v)/\X.env.scope.names.lookup x=some .cell/\scope.names.lookup x=some .free/\(relabel scope X.env).names.lookup x=some .cell:=by
 unfold zht at hv
 by_cases hk:k < n
 ·rw[List.getElem?_append_left (by simpa using hk),List.getElem?_replicate,if_pos hk] at hv
  cases hv
 ·rw[List.getElem?_append_right (by simpa using hk),List.length_replicate,List.getElem?_map] at hv
  cases hi:fr[k-n]? with
  | none=>rw[hi] at hv;cases hv
  | some i =>
   rw[hi] at hv
   have hz:((N.drop n).zip fr)[k-n]?=some (x,i):=by
    rw[List.getElem?_zip_eq_some]
    exact⟨by rw[List.getElem?_drop,show n+(k-n)=k by omega];exact hx,hi⟩
   have:=List.all_eq_true.mp h.2 _ (List.mem_of_getElem? hz)
   simp only[Bool.and_eq_true,beq_iff_eq] at this
   refine⟨i,this.1.1.1,?_,this.1.1.2,this.1.2,this.2⟩
   simp only[Option.map_some,Option.some.injEq] at hv
   cases hs:σ[i]? with
   | none=>rw[hs] at hv;cases hv
   | some u=>rw[hs] at hv;exact congrArg some hv
def PIf (X:Cx)(ifs:List Expr)(t:TT):Prop :=
 ∀ (pins:List (Addr×Obj)) (s:Shared) (σ:L2.St) (H:Hp) (Q:Bool->Hp->Prop),Inv X pins σ H s->t σ H Q ->
  wpAny (model X.prog X.w) X.A (forIn ifs true fun c r=>if r=true then do let ok ← isTrue c X.env (eval c X.env);pure (ForInStep.yield ok) else pure (ForInStep.yield r)) (TP X pins σ Q) X.xe s
def ztj:TT:=fun _ H Q=>Q true H
theorem zoJ {X:Cx}:PIf X [] ztj:=fun _ _ _ H _ I h=>wpAny_tests_nil ⟨H,I,h⟩
theorem zoI {X:Cx}{c:Expr}{t:TT}(h:PT X c t):PIf X [c] t:=fun pins s σ H Q I q=>wpAny_tests_one (h pins s σ H Q I q)
theorem zgi {prog:Program}{w:World}{A:Around}{R:Result->Shared->Prop}{s:Shared}{elt target iter:Expr}{ifs:List Expr}{scope:Scope}{pos:Pos}{it acc:Value}{env:PySem.Env}(I:Nat->Shared->Prop)
  (turn:∀ n s,I n s->wpAny (model prog w) A (pyNext it) (fun r s₁=>match r with
   | none=>R (.ok .next) s₁
   | some v=>wpAny (model prog w) A (letOwnedTupleGo target it v) (fun _ s₁'=>wpAny (model prog w) A (assign target env v) (fun _ s₂ =>
     wpAny (model prog w) A (forIn ifs true fun c r=>if r=true then do let ok ← isTrue c env (eval c env);pure (ForInStep.yield ok) else pure (ForInStep.yield r)) (fun ok s₃ =>
      if ok=true then wpAny (model prog w) A (eval elt env) (fun x s₄ =>
       wpAny (model prog w) A (call (.builtin "list.append") [acc,x]) (fun _ s₅=>∃ m,m < n/\I m s₅) (fun _ _=>False) s₄) (fun _ _=>False) s₃
      else ∃ m,m < n/\I m s₃) (fun _ _=>False) s₂) (fun _ _=>False) s₁') (fun _ _=>False) s₁) (fun _ _=>False) s)
  (n:Nat) (h:I n s) :
  codeAny (model prog w) A (.compLoop (.ListComp elt [⟨target,iter,ifs,0⟩] scope pos) 0 it acc env) R s:=by
 refine codeAny_loop rfl I (fun n s hI=>?_) n h
 show wpAny _ A ((compTurn (.ListComp elt [⟨target,iter,ifs,0⟩] scope pos) 0 it acc env).onRaise (fun x=>do noteFrame x env;theTreesLotGoes x)) _ _ s
 refine wpAny_noted ?_
 rw[compTurn_list]
 refine wpAny_bind (wpAny_standAt (wpAny_bind (wpAny_mono (turn n s hI) (fun r s₁ h₁=>?_) fun _ _ h'=>h'.elim)))
 cases r with
 | none=>exact wpAny_pure h₁
 | some v =>
  refine wpAny_bind (wpAny_mono h₁ (fun _ s₁' h₁'=>?_) fun _ _ h'=>h'.elim)
  refine wpAny_bind (wpAny_mono h₁' (fun _ s₂ h₂=>wpAny_bind (wpAny_mono h₂ (fun ok s₃ h₃=>?_) fun _ _ h'=>h'.elim)) fun _ _ h'=>h'.elim)
  cases ok with
  | false=>exact wpAny_pure ⟨rfl,h₃⟩
  | true =>
   exact wpAny_bind (wpAny_bind (wpAny_mono h₃ (fun x s₄ h₄=>wpAny_bind (wpAny_mono h₄ (fun _ s₅ h₅=>wpAny_pure (wpAny_pure ⟨rfl,h₅⟩)) fun _ _ h'=>h'.elim)) fun _ _ h'=>h'.elim))
def zkU (n:Nat)(fr:List Nat)(g:TG)(tt:TT)(te:TE)(J:It)(σ:L2.St)(H1:Hp)(Q:VK):Prop:=∀ D,H1 D=none->∃ W:Nat->Nat->List V->L2.St->Hp->Prop,(∃ m,W 0 m [] (zht n fr σ) (upd H1 D (.lst []))) /\
 ∀ i m ys σ' H',W i m ys σ' H'->H' D=some (.lst ys)/\((J.stop i H'/\Q (.ref D) H')∨(J.go i H'/\ys.length < sizeLine/\∀ x H2,J.yld i H' x H2->g x σ' H2 fun σ3 H3=>tt σ3 H3 fun b H4 =>
  if b=true then te σ3 H4 fun y H5=>H5 D=some (.lst ys)/\∃ m',m' < m/\W (i+1) m' (ys++[y]) σ3 (upd H5 D (.lst (ys++[y])))
  else ∃ m',m' < m/\W (i+1) m' ys σ3 H4))
theorem zmj {X:Cx}{tg iter elt:Expr}{ifs:List Expr}{scope:Scope}{pos:Pos}{N:List Str}{n:Nat}{fr:List Nat}{g:TG}{tt:TT}{te:TE}(hc:X.calm=true)(hfr:ziM X N n fr scope)
  (hcell:∀ x∈scope.names,x.2≠.cell)(hfree:∀ x∈scope.names,x.2=.free->X.env.scope.names.lookup x.1=some .cell)(hkind:scope.kind=.function)
  (blk:∀ s H C fp pn,PG (zcW X N scope s H C fp pn) tg g/\PIf (zcW X N scope s H C fp pn) ifs tt/\PE (zcW X N scope s H C fp pn) elt te)
  {pins:List (Addr×Obj)}{σ:L2.St}{s2:Shared}{Q:VK}{itv:Value}{RR:Value->Addr->Result->Shared->Prop}
  (h2:PIE X pins σ tg (fun J H1=>zkU n fr g tt te J σ H1 Q) itv s2)
  (fin:∀ (Da C:Addr) (s6:Shared) (H5:Hp) (m:Str->Option Value),Inv X pins σ H5 s6->s6.heap.Ns C m->zms X pins H5 C->Q (.ref Da) H5->RR (.ref Da) C (.ok .next) s6) :
  wpAny (model X.prog X.w) X.A (newList []) (fun acc s₃=>wpAny (model X.prog X.w) X.A (newFunctionEnv scope X.env.globals (zgj X.env.cells scope.names []) [] X.env.qual none .none (some X.env)) (fun cenv s₄ =>
   codeAny (model X.prog X.w) X.A (.compStart (.ListComp elt [⟨tg,iter,ifs,0⟩] scope pos) 0 itv acc { cenv with scope:=relabel scope X.env }) (RR acc cenv.locals) s₄) X.xe s₃) X.xe s2:=by
 obtain⟨it,fp,tn,J,H2,e,I2,T,st2,f2,q⟩:=h2
 subst e
 have hD:H2 s2.heap.objs.size=none:=I2.fresh
 refine wpAny_newObj_type ?_
 have I3:Inv X pins σ (upd H2 s2.heap.objs.size (.lst [])) { s2 with heap:=s2.heap.push { cls:=.type "list",data:=.seq ([]:List Value).toArray } }:=I2.lnew (t':=s2.toks) (its:=[]) .nil (Nat.zero_le _)
 obtain⟨W,⟨m0,w0⟩,turn⟩:=q s2.heap.objs.size hD
 generalize hs3:({ s2 with heap:=s2.heap.push { cls:=.type "list",data:=.seq ([]:List Value).toArray } }:Shared)=s3 at I3 ⊢
 have hs3h:s3.heap=s2.heap.push { cls:=.type "list",data:=.seq ([]:List Value).toArray }:=by rw[← hs3]
 have hDs:s2.heap.objs.size < s3.heap.objs.size:=by rw[hs3h,Heap.size_push];exact Nat.lt_succ_self _
 have fpl:∀ b∈fp,b < s2.heap.objs.size:=fun b hb=>by
  obtain⟨o,ho,_⟩:=T.obj _ _ st2 b hb
  exact Heap.lt_size ho
 have kept3:∀ b o,s2.heap.get? b=some o->s3.heap.get? b=some o:=fun b o e=>by rw[hs3h];exact Heap.get?_push_of_some _ e
 have st3:tn 0 s3.heap:=T.keep _ _ _ st2 fun b _ o e=>kept3 b o e
 generalize hDa:s2.heap.objs.size=Da at *
 generalize hH3:upd H2 Da (.lst [])=H3 at *
 have fr3:∀ b∈fp,H3 b=none:=fun b hb=>by rw[← hH3,zao (Nat.ne_of_lt (fpl b hb))];exact(f2 b hb).1
 have cls:∀ x c,(zgj X.env.cells scope.names []).lookup x=some c->X.env.cells.lookup x=some c:=fun x c e=>by
  rcases zhp (fun y hy hf=>I3.ok.has y.1 (.inl (hfree y hy hf))) e with e | e
  ·cases e
  ·exact e
 refine wpAny_newFunctionEnv hcell (by intro y hy;simp at hy) (fun h4 ns4 sb4=>?_) hkind
 have k4:∀ b o,s3.heap.get? b=some o->h4.get? b=some o:=fun b o e=>(sb4.2 b (Nat.ne_of_lt (Heap.lt_size e))).trans (Heap.get?_push_of_some _ e)
 generalize hC:s3.heap.objs.size=C at *
 have hCn:H3 C=none:=I3.hok.fresh (by rw[hC];exact Nat.le_refl _)
 have ltC:∀ b o,s3.heap.get? b=some o->b≠C:=fun b o e=>by rw[← hC];exact Nat.ne_of_lt (Heap.lt_size e)
 have cellC:∀ x c,X.env.cells.lookup x=some c->c≠C:=fun x c e=>by
  obtain⟨v,o,ho,_⟩:=I3.cell x c e
  exact ltC c o ho
 have fpC:∀ b∈fp,b≠C:=fun b hb=>by
  have:=fpl b hb
  exact Nat.ne_of_lt (Nat.lt_trans this hDs)
 show codeAny (model X.prog X.w) X.A (.compStart (.ListComp elt [⟨tg,iter,ifs,0⟩] scope pos) 0 (.ref it) (.ref Da) (compEnvC scope (zgj X.env.cells scope.names []) C X.env)) _ _
 generalize hs4:({ s3 with heap:=h4,toks:=s3.toks+([]:List (Str×Value)).length }:Shared)=s4
 have hs4h:s4.heap=h4:=by rw[← hs4]
 have ok:(zcW X N scope s3 H3 C fp (X.pn++pins)).Ok:=by
  refine⟨I3.ok.mod,hkind,I3.ok.glob,I3.ok.blt,Nat.le_of_eq hC,fun x y c e1 e2=>I3.ok.inj x y c (cls x c e1) (cls y c e2),fun x e=>?_,fun x c e=>?_,fun _=>I3.ok.hd hc,I3.ok.frames,.inl rfl,fun b hb=>⟨fpC b hb,fun x c e=>(f2 b hb).2.2.2.2.1 x c (cls x c e)⟩,I3.bs,Nat.le_trans I3.ok.bsz I3.sz,fun b o e hb=>?_,fun b hb z=>?_,I3.stack,I3.stkFree⟩
  ·have mm:∀ k:NameKind,(relabel scope X.env).names.lookup x=some k->(k=.cell∨k=.free)->(x,NameKind.free)∈scope.names:=fun k hk hk2=>by
    have hm:=PySem.mem_of_lookup hk
    obtain⟨⟨n',k'⟩,hm1,hm2⟩:=List.mem_map.mp hm
    dsimp only at hm2
    split at hm2
    ·rename_i hcnd
     cases hm2
     simp only[Bool.and_eq_true,beq_iff_eq] at hcnd
     rw[hcnd.1.1] at hm1
     exact hm1
    ·cases hm2
     rcases hk2 with rfl | rfl
     ·exact absurd rfl (hcell _ hm1)
     ·exact hm1
   rcases e with e | e
   ·exact zhq (mm _ e (.inl rfl))
   ·exact zhq (mm _ e (.inr rfl))
  ·cases e
  ·rcases(f2 b hb).2.2.2.1 with z | z
   ·exact I3.ok.noex b o e z
   ·exact absurd (Nat.lt_of_lt_of_le (Heap.lt_size e) (Nat.le_trans I3.ok.bsz z)) (Nat.lt_irrefl _)
  ·rcases List.mem_cons.mp (I3.stkSub b z) with z | z
   ·exact(f2 b hb).2.1 z
   ·exact(f2 b hb).2.2.1 z
 have I4:Inv (zcW X N scope s3 H3 C fp (X.pn++pins)) [] (zht n fr σ) H3 s4:=by
  refine⟨ok,by rw[← hs4];rfl,by rw[← hs4];exact I3.bare,by rw[hs4h];exact Un.kept k4,⟨_,by rw[hs4h];exact ns4,fun i x v h1 h2 h3=>?_⟩,fun x c e=>?_,hCn,fun x c e=>I3.freeC x c (cls x c e),fun p hp=>?_,by rw[hs4h];exact I3.hok.kept k4,?_⟩
  ·obtain⟨j,j1,j2,j3,j4,j5⟩:=hfr.at h1 h2
   obtain⟨m,hn,hl⟩:=I3.loc
   obtain⟨u,ru,l⟩:=hl j x v j1 j2 (.inr (.inl j3))
   refine⟨u,ru,.inr ⟨.inl j5,?_⟩⟩
   rcases l with⟨z,_⟩ | ⟨_,c,z1,z2⟩
   ·rw[show X.env.kindOf x=X.env.scope.names.lookup x from rfl,j3] at z;cases z
   ·obtain⟨c',hc'⟩:=zhq (cells:=X.env.cells) (names:=scope.names) (acc:=[]) (PySem.mem_of_lookup j4)
    have:=cls x c' hc'
    rw[z1] at this;cases this
    obtain⟨oc,q1,q2⟩:=z2
    exact⟨c,hc',oc,by rw[hs4h];exact k4 _ _ q1,q2⟩
  ·obtain⟨v,oc,q1,q2⟩:=I3.cell x c (cls x c e)
   exact⟨v,oc,by rw[hs4h];exact k4 _ _ q1,q2⟩
  ·rw[List.append_nil] at hp
   obtain⟨p1,p2,p3,p4,p5⟩:=I3.pin p hp
   refine⟨by rw[hs4h];exact k4 _ _ p1,p2,ltC _ _ p1,fun z=>?_,p5⟩
   rcases List.mem_cons.mp (I3.stkSub _ z) with z | z
   ·exact p3 z
   ·exact p4 z
  ·show(zht n fr σ).length=N.length
   unfold zht
   rw[List.length_append,List.length_replicate,List.length_map,hfr.1]
 have st4:tn 0 s4.heap:=by rw[hs4h];exact T.keep _ _ _ st3 fun b _ o e=>k4 b o e
 have stat:∀ {H':Hp},(∀ b∈fp,H' b=none)->∀ b∈fp,zms (zcW X N scope s3 H3 C fp (X.pn++pins)) [] H' b:=fun hn b hb=>by
  refine⟨hn b hb,fpC b hb,fun z=>?_,.inl hb,fun x c e=>(f2 b hb).2.2.2.2.1 x c (cls x c e),fun p hp=>?_⟩
  ·rcases List.mem_cons.mp (I3.stkSub b z) with z | z
   ·exact(f2 b hb).2.1 z
   ·exact(f2 b hb).2.2.1 z
  ·rw[List.append_nil] at hp
   exact(f2 b hb).2.2.2.2.2 p hp
 have loop:codeAny (model X.prog X.w) X.A (.compLoop (.ListComp elt [⟨tg,iter,ifs,0⟩] scope pos) 0 (.ref it) (.ref Da) (compEnvC scope (zgj X.env.cells scope.names []) C X.env)) (RR (.ref Da) C) s4:=by
  refine zgi (fun n s'=>∃ i ys σ' H',Inv (zcW X N scope s3 H3 C fp (X.pn++pins)) [] σ' H' s'/\tn i s'.heap/\(∀ b∈fp,H' b=none)/\W i n ys σ' H') ?_ m0 ⟨0,[],_,H3,I4,st4,fr3,w0⟩
  rintro k s5 ⟨i,ys,σ5,H5,I5,st5,fr5,w5⟩
  obtain⟨hDl,ways⟩:=turn i k ys σ5 H5 w5
  rcases ways with⟨stop,fin'⟩ | ⟨go,hz,step⟩
  ·refine thn (T.done (zcW X N scope s3 H3 C fp (X.pn++pins)) rfl rfl rfl hc i [] s5 σ5 H5 (fun _ _=>False) I5 (stat fr5) st5 stop) fun r s6 ⟨hr,I6⟩=>?_
   subst hr
   obtain⟨mm,nsm,_⟩:=I6.loc
   have free6:H5 C=none:=I6.free
   have hok:HOk X.prog X.w H5 s6.heap:=I6.hok
   have un:Un (frs X.stack) fp H3 H5 s3.heap s6.heap:=I6.base
   have IX:Inv X pins σ H5 s6:=I3.call' (s':=s6) (ch:=fp) I6.os un hok I6.bare (fun b hb=>⟨(f2 b hb).2.2.2.1,(f2 b hb).2.1,(f2 b hb).2.2.2.2.1,(f2 b hb).2.2.2.2.2⟩)
   have fC:zms X pins H5 C:=I3.fpOk (b:=C) (H':=H5) (by rw[hC];exact Nat.le_refl _) free6
   exact fin Da C s6 H5 mm IX nsm fC fin'
  ·refine thn (T.item (zcW X N scope s3 H3 C fp (X.pn++pins)) rfl rfl rfl hc i [] s5 σ5 H5 (fun _ _=>False) I5 (stat fr5) st5 go) fun r s6 ⟨u,hr,h6⟩=>?_
   subst hr
   refine thn h6 fun _ s7 ⟨x,H7,I7,r7,y7,st7,fr7⟩=>?_
   have I7':=I7.pinned (stat fr7) (T.obj _ _ st7)
   refine thn ((blk s3 H3 C fp (X.pn++pins)).1 _ s7 σ5 H7 x u _ I7' r7 (step x H7 y7)) fun _ s8 ⟨σ8,H8,I8,q8⟩=>?_
   refine thn ((blk s3 H3 C fp (X.pn++pins)).2.1 _ s8 σ8 H8 _ I8 q8) fun b s8b ⟨H8b,I8b,q8b⟩=>?_
   have back:∀ {σ':L2.St}{H':Hp}{s':Shared},L2.Inv (zcW X N scope s3 H3 C fp (X.pn++pins)) (([]:List (Addr×Obj))++zh7 fp s7.heap) σ' H' s'->tn (i+1) s'.heap/\∀ b∈fp,H' b=none:=fun {σ' H' s'} I'=>by
    refine⟨T.keep _ _ _ st7 fun b hb o e=>(I'.pin (b,o) (List.mem_append_right _ (List.mem_append_right _ (zdT hb e)))).1,fun b hb=>?_⟩
    obtain⟨o,e,d⟩:=T.obj _ _ st7 b hb
    exact(I'.pin (b,o) (List.mem_append_right _ (List.mem_append_right _ (zdT hb e)))).2.1
   cases b with
   | false =>
    rw[if_neg Bool.false_ne_true] at q8b ⊢
    obtain⟨m',hm,w9⟩:=q8b
    exact⟨m',hm,i+1,ys,σ8,_,I8b.unpinned,(back I8b).1,(back I8b).2,w9⟩
   | true =>
    rw[if_pos rfl] at q8b ⊢
    refine thn ((blk s3 H3 C fp (X.pn++pins)).2.2 _ s8b σ8 H8b _ I8b q8b) fun y s9 ⟨yv,H9,I9,r9,hD9,m',hm,w9⟩=>?_
    refine thn (zib (X:=zcW X N scope s3 H3 C fp (X.pn++pins)) _ s9 σ8 H9 (.ref Da) [yv] (.ref Da) [y] (fun v H'=>H'=upd H9 Da (.lst (ys++[yv]))) I9 rfl (.cons r9 .nil) ⟨Da,ys,yv,rfl,rfl,hD9,hz,rfl⟩) fun _ s10 ⟨v10,H10,I10,_,e10⟩=>?_
    subst e10
    exact⟨m',hm,i+1,ys++[yv],σ8,_,I10.unpinned,(back I10).1,(back I10).2,w9⟩
 exact codeAny_compStart_list loop (T.self _ 0 _ _ _ st4 loop)
structure ItD (K:W.Frag) (ds:List D) (J:It) (H₀:Hp):Prop where
 go:∀ (i:Nat) (H' H₀':Hp),zaG H₀ H₀'->zaG H₀' H'->i < ds.length->J.go i H'
 yld:∀ (i:Nat) (H' H₀':Hp) (x:V) (H2:Hp) (d:D),zaG H₀ H₀'->zaG H₀' H'->ds[i]?=some d->J.yld i H' x H2->∃ H₀2,zbh H' H₀' H2 H₀2/\Rep K H₀2 d x
 stop:∀ (i:Nat) (H' H₀':Hp),zaG H₀ H₀'->zaG H₀' H'->ds.length<=i->J.stop i H'
def tDI (K:W.Frag)(E:XK)(src:Ev->Res (List D)):TI:=fun σ H R=>∃ H₀ ρ,zaG H₀ H/\zdN K H₀ σ ρ/\match src ρ with
 | .ok ds=>∀ J H' H₀',zbh H H₀ H' H₀'->ItD K ds J H₀'->R J H'
 | .exn x=>∀ C ox H' H₀',zbh H H₀ H' H₀'->ExR K H₀' x C ox->E C ox H'
 | .stuck=>False
structure DI (X:Cx) (E:XK) (tg iter:Expr) (src:Ev->Res (List D)):Prop where
 o:PI X tg iter (tDI X.K E src)
theorem zli {X:Cx}{tg iter:Expr}{t t':TI}(h:PI X tg iter t)(w:∀ σ H R,t' σ H R->t σ H R):PI X tg iter t':=fun pins s σ H R I q=>h pins s σ H R I (w σ H R q)
def zrx (f:Ev->Res D):Ev->Res (List D):=fun ρ=>(f ρ).bind fun d=>match d with
 | .lst ds=>.ok ds
 | _=>.stuck
def ztv (f:Ev->Res D):Ev->Res (List D):=fun ρ=>(f ρ).bind fun d=>match d with
 | .tup ds=>.ok ds
 | _=>.stuck
def zpE (f:Ev->Res D):Ev->Res (List D):=fun ρ=>(f ρ).bind fun d=>match d with
 | .str z=>.ok (zcQ z)
 | _=>.stuck
section
variable {X:Cx}{E:XK}{tg e a b:Expr}{f g:Ev->Res D}
theorem zpn (h:DE X E e f):DI X E tg e (zrx f):=by
 refine⟨zli (zlk h.o) fun σ H R ⟨H₀,ρ,hs,hr,q⟩=>⟨H₀,ρ,hs,hr,?_⟩⟩
 unfold zrx at q
 cases e1:f ρ with
 | stuck=>rw[e1] at q;exact q
 | exn x=>rw[e1] at q;exact q
 | ok d =>
  rw[e1] at q
  intro v H1 H01 g1 r1
  cases d with
  | lst ds =>
   obtain⟨p,vs,rfl,hv,hrv⟩:=Rep.lst_iff.mp r1
   refine⟨p,rfl,⟨vs,zaG.sqL g1.sub hv⟩,q _ H1 H01 g1 ⟨fun i H' H₀' s1 s2 hi=>?_,fun i H' H₀' x H2 d s1 s2 hd hy=>?_,fun i H' H₀' s1 s2 hi=>?_⟩⟩
   ·exact⟨vs,vs[i]'(by rw[← hrv.length];exact hi),zaG.sqL (s1.trans s2) hv,by simp⟩
   ·obtain⟨rfl,hy⟩:=hy
    obtain⟨u,k1,k2⟩:=hrv.get hd
    have:=hy vs (zaG.sqL (s1.trans s2) hv)
    rw[k1] at this;cases this
    exact⟨H₀',zbh.refl s2,k2.mono s1⟩
   ·exact⟨vs,zaG.sqL (s1.trans s2) hv,by rw[← hrv.length];exact hi⟩
  | _=>exact q.elim
theorem zn7 (h:DE X E e f):DI X E tg e (zpE f):=by
 refine⟨zli (zqo h.o) fun σ H R ⟨H₀,ρ,hs,hr,q⟩=>⟨H₀,ρ,hs,hr,?_⟩⟩
 unfold zpE at q
 cases e1:f ρ with
 | stuck=>rw[e1] at q;exact q
 | exn x=>rw[e1] at q;exact q
 | ok d =>
  rw[e1] at q
  intro v H1 H01 g1 r1
  cases d with
  | str z =>
   refine⟨z,Rep.str_iff.mp r1,q _ H1 H01 g1 ⟨fun i H' H₀' s1 s2 hi=>?_,fun i H' H₀' x H2 d s1 s2 hd hy=>?_,fun i H' H₀' s1 s2 hi=>?_⟩⟩
   ·rw[zdR] at hi;exact hi
   ·obtain⟨rfl,c,hc,rfl⟩:=hy
    have:d=.str ⟨#[c]⟩:=by
     unfold zcQ at hd
     rw[List.getElem?_map] at hd
     have h2:z.cps.toList[i]?=some c:=by simpa using hc
     rw[h2] at hd;cases hd;rfl
    subst this
    exact⟨H₀',zbh.refl s2,Rep.str_iff.mpr rfl⟩
   ·rw[zdR] at hi;exact hi
  | _=>exact q.elim
end
def zr7 (src:Ev->Res (List D))(tg:Ev->D->Res Ev)(s:Ev->Res Fl):Ev->Res Fl:=fun ρ=>(src ρ).bind fun ds=>zfv tg s ds ρ
section
variable {X:Cx}{E:XK}{He H0e:Hp}{st:Stmt}{s:Ev->Res Fl}{pos:Pos}
end
def zhx (f:Ev->Res D):Prop:=∀ ρ d,f ρ=.ok d->∃ ds,d=.lst ds
theorem zmL {K:W.Frag}{E:XK}{f:Ev->Res D}(hf:zhx f){σ:L2.St}{H:Hp}{Q:VK}(h:tD K E f σ H Q):tF K E f σ H Q:=by
 obtain⟨H₀,ρ,hs,hr,q⟩:=h
 refine⟨H₀,ρ,hs,hr,?_⟩
 cases e1:f ρ with
 | stuck=>rw[e1] at q;exact q
 | exn x=>rw[e1] at q;exact q
 | ok d =>
  obtain⟨ds,rfl⟩:=hf ρ d e1
  rw[e1] at q
  intro p vs H' H₀' g hp h0 hv rp
  have n0:H₀ p=none:=hs.free hp
  refine q (.ref p) H' (upd H₀' p (.lst vs)) ⟨g.s,fun b o e=>?_,fun b o e=>?_,fun b k1 k2=>?_⟩ (Rep.lst_iff.mpr ⟨p,vs,rfl,SqL.of zap,rp.mono fun b o e=>?_⟩)
  ·rw[zao (by intro z;subst z;rw[n0] at e;cases e)];exact g.z _ _ e
  ·by_cases hb:b=p
   ·subst hb;rw[zap] at e;cases e;exact hv
   ·rw[zao hb] at e;exact g.sub _ _ e
  ·by_cases hb:b=p
   ·subst hb;exact hp
   ·rw[zao hb] at k1;exact g.nw b k1 k2
  ·rw[zao (by intro z;subst z;rw[h0] at e;cases e)];exact e
theorem znD {X:Cx}{E:XK}{e:Expr}{f:Ev->Res D}(hf:zhx f)(h:DF X E e f):DE X E e f:=⟨zaP h.o fun σ H Q q=>zmL hf q⟩
def zcv (n:Nat)(fr:List Nat)(ρ:Ev):Ev:=List.replicate n .no++fr.map fun(i:Nat)=>match ρ[i]? with
 | some (.sh d)=>.sh d
 | _=>.no
def zbn (b:Ev)(tg:Ev->D->Res Ev)(tt fe:Ev->Res D):List D->Res (List D)
 | []=>.ok []
 | d::r=>(tg b d).bind fun ρ1=>(tt ρ1).bind fun t=>match t with
  | .bl true=>(fe ρ1).bind fun x=>(zbn b tg tt fe r).bind fun xs=>.ok (x::xs)
  | .bl false=>zbn b tg tt fe r
  | _=>.stuck
def zeH (n:Nat)(fr:List Nat)(src:Ev->Res (List D))(tg:Ev->D->Res Ev)(tt fe:Ev->Res D):Ev->Res D:=fun ρ=>(src ρ).bind fun ds =>
 if ds.length<=line then match zbn (zcv n fr ρ) tg tt fe ds with
  | .ok es=>.ok (.lst es)
  | _=>.stuck
 else .stuck
theorem zmi {n:Nat}{fr:List Nat}{src:Ev->Res (List D)}{tg:Ev->D->Res Ev}{tt fe:Ev->Res D}:zhx (zeH n fr src tg tt fe):=fun ρ d h=>by
 unfold zeH at h
 cases e1:src ρ with
 | stuck=>rw[e1] at h;cases h
 | exn x=>rw[e1] at h;cases h
 | ok ds =>
  rw[e1] at h
  replace h:(if ds.length<=line then match zbn (zcv n fr ρ) tg tt fe ds with
   | .ok es=>Res.ok (D.lst es)
   | _=>.stuck else .stuck)=.ok d:=h
  split at h
  ·split at h
   ·cases h;exact⟨_,rfl⟩
   ·cases h
  ·cases h
theorem zdZ {b:Ev}{tg:Ev->D->Res Ev}{tt fe:Ev->Res D}{d:D}{r es:List D}(h:zbn b tg tt fe (d::r)=.ok es) :
  ∃ ρ1 t,tg b d=.ok ρ1/\tt ρ1=.ok (.bl t)/\((t=true/\∃ x xs,fe ρ1=.ok x/\zbn b tg tt fe r=.ok xs/\es=x::xs)∨(t=false/\zbn b tg tt fe r=.ok es)):=by
 unfold zbn at h
 cases e1:tg b d with
 | stuck=>rw[e1] at h;cases h
 | exn z=>rw[e1] at h;cases h
 | ok ρ1 =>
  rw[e1] at h
  replace h:((tt ρ1).bind fun t=>match t with
   | .bl true=>(fe ρ1).bind fun x=>(zbn b tg tt fe r).bind fun xs=>Res.ok (x::xs)
   | .bl false=>zbn b tg tt fe r
   | _=>.stuck)=.ok es:=h
  cases e2:tt ρ1 with
  | stuck=>rw[e2] at h;cases h
  | exn z=>rw[e2] at h;cases h
  | ok t =>
   rw[e2] at h
   cases t with
   | bl t =>
    cases t with
    | true =>
     replace h:((fe ρ1).bind fun x=>(zbn b tg tt fe r).bind fun xs=>Res.ok (x::xs))=.ok es:=h
     cases e3:fe ρ1 with
     | stuck=>rw[e3] at h;cases h
     | exn z=>rw[e3] at h;cases h
     | ok x =>
      rw[e3] at h
      replace h:((zbn b tg tt fe r).bind fun xs=>Res.ok (x::xs))=.ok es:=h
      cases e4:zbn b tg tt fe r with
      | stuck=>rw[e4] at h;cases h
      | exn z=>rw[e4] at h;cases h
      | ok xs=>rw[e4] at h;cases h;exact⟨ρ1,true,rfl,e2,.inl ⟨rfl,x,xs,e3,rfl,rfl⟩⟩
    | false=>exact⟨ρ1,false,rfl,e2,.inr ⟨rfl,h⟩⟩
   | _=>cases h
theorem zdG {b:Ev}{tg:Ev->D->Res Ev}{tt fe:Ev->Res D}{d x:D}{r:List D}{ρ1:Ev}(h1:tg b d=.ok ρ1)(h2:tt ρ1=.ok (.bl true))(h3:fe ρ1=.ok x):zbn b tg tt fe (d::r)=(zbn b tg tt fe r).bind fun xs=>.ok (x::xs):=by
 rw[zbn,h1]
 simp only[Res.bind,h2,h3]
theorem zhm {b:Ev}{tg:Ev->D->Res Ev}{tt fe:Ev->Res D}{d:D}{r:List D}{ρ1:Ev}(h1:tg b d=.ok ρ1)(h2:tt ρ1=.ok (.bl false)):zbn b tg tt fe (d::r)=zbn b tg tt fe r:=by
 rw[zbn,h1]
 simp only[Res.bind,h2]
theorem zf1 {b:Ev}{tg:Ev->D->Res Ev}{tt fe:Ev->Res D}:∀ {r q es:List D},zbn b tg tt fe (r++q)=.ok es->∃ e1 e2,zbn b tg tt fe r=.ok e1/\zbn b tg tt fe q=.ok e2/\es=e1++e2
 | [],q,es,h=>⟨[],es,rfl,h,rfl⟩
 | d::r,q,es,h=>by
  obtain⟨ρ1,t,h1,h2,h3⟩:=zdZ h
  rcases h3 with⟨rfl,x,xs,h3,h4,rfl⟩ | ⟨rfl,h4⟩
  ·obtain⟨e1,e2,k1,k2,rfl⟩:=zf1 h4
   refine⟨x::e1,e2,?_,k2,rfl⟩
   rw[zdG h1 h2 h3,k1];rfl
  ·obtain⟨e1,e2,k1,k2,rfl⟩:=zf1 h4
   refine⟨e1,e2,?_,k2,rfl⟩
   rw[zhm h1 h2];exact k1
theorem zdY {b:Ev}{tg:Ev->D->Res Ev}{tt fe:Ev->Res D}:∀ {r q e1 e2:List D},zbn b tg tt fe r=.ok e1->zbn b tg tt fe q=.ok e2->zbn b tg tt fe (r++q)=.ok (e1++e2)
 | [],q,e1,e2,h,h'=>by cases h;exact h'
 | d::r,q,e1,e2,h,h'=>by
  obtain⟨ρ1,t,h1,h2,h3⟩:=zdZ h
  show zbn b tg tt fe (d::(r++q))=_
  rcases h3 with⟨rfl,x,xs,h3,h4,rfl⟩ | ⟨rfl,h4⟩
  ·rw[zdG h1 h2 h3,zdY h4 h'];rfl
  ·rw[zhm h1 h2];exact zdY h4 h'
theorem zhn {b:Ev}{tg:Ev->D->Res Ev}{tt fe:Ev->Res D}:∀ {r es:List D},zbn b tg tt fe r=.ok es->es.length<=r.length
 | [],es,h=>by cases h;exact Nat.le_refl _
 | d::r,es,h=>by
  obtain⟨ρ1,t,h1,h2,h3⟩:=zdZ h
  rcases h3 with⟨rfl,x,xs,h3,h4,rfl⟩ | ⟨rfl,h4⟩
  ·exact Nat.succ_le_succ (zhn h4)
  ·exact Nat.le_succ_of_le (zhn h4)
def zrJ (n:Nat)(tg:Ev->D->Res Ev):Prop:=∀ ρ d ρ',tg ρ d=.ok ρ'->ρ'.length=ρ.length/\∀ (k:Nat),n<=k->ρ'[k]?=ρ[k]?
theorem zgQ {i n:Nat}(h:i < n):zrJ n (zgC i):=fun ρ d ρ' e=>by
 cases e
 exact⟨by simp,fun k hk=>by rw[List.getElem?_set_ne (by omega)]⟩
theorem zkG {K:W.Frag}{H₀:Hp}{σ:L2.St}{ρ:Ev}{n:Nat}{fr:List Nat}(h:zdN K H₀ σ ρ):zdN K H₀ (zht n fr σ) (zcv n fr ρ):=fun i d e=>by
 unfold zcv at e
 unfold zht
 by_cases hi:i < n
 ·rw[List.getElem?_append_left (by simpa using hi),List.getElem?_replicate,if_pos hi] at e
  cases e
 ·rw[List.getElem?_append_right (by simpa using hi),List.length_replicate,List.getElem?_map] at e ⊢
  cases hf:fr[i-n]? with
  | none=>rw[hf] at e;cases e
  | some j =>
   rw[hf] at e
   simp only[Option.map_some,Option.some.injEq] at e ⊢
   cases hj:ρ[j]? with
   | none=>rw[hj] at e;cases e
   | some s =>
    rw[hj] at e
    cases s with
    | sh d' =>
     cases e
     obtain⟨v,h1,h2⟩:=h j d hj
     exact⟨v,by rw[h1];rfl,h2⟩
    | _=>cases e
theorem zpw {n:Nat}{fr:List Nat}{ρ:Ev}{k:Nat}(h:k < n):(zcv n fr ρ)[k]?=some .no:=by
 unfold zcv
 rw[List.getElem?_append_left (by simpa using h),List.getElem?_replicate,if_pos h]
theorem znJ {n:Nat}{fr:List Nat}{ρ:Ev}(i j:Nat)(es:List D):(zcv n fr ρ)[i]?≠some (.ox j es):=fun e=>by
 unfold zcv at e
 by_cases hj:i < n
 ·rw[List.getElem?_append_left (by simpa using hj),List.getElem?_replicate,if_pos hj] at e;cases e
 ·rw[List.getElem?_append_right (by simpa using hj),List.getElem?_map] at e
  cases hf:fr[i-(List.replicate n Sl.no).length]? with
  | none=>rw[hf] at e;cases e
  | some z =>
   rw[hf] at e
   simp only[Option.map_some,Option.some.injEq] at e
   split at e<;>cases e
theorem zjW {n:Nat}{fr:List Nat}{ρ:Ev}:(zcv n fr ρ).length=n+fr.length:=by unfold zcv;simp
theorem zkE {K:W.Frag}{E:XK}{n:Nat}{fr:List Nat}{tg:Ev->D->Res Ev}{tt fe:Ev->Res D}{σ:L2.St}{ρ:Ev}{H H₀ H1 H01:Hp}{ds es:List D}{J:It}{Q:VK}(hsame:zaG H₀ H)(g1:zbh H H₀ H1 H01)(it:ItD K ds J H01)(hl:ds.length<=line)
  (e2:zbn (zcv n fr ρ) tg tt fe ds=.ok es)(hr:zdN K H01 σ ρ)(hok:zrJ n tg)
  (q:∀ p vs H' H₀',zbh H H₀ H' H₀'->H p=none->H₀' p=none->H' p=some (.lst vs)->Reps K H₀' es vs->Q (.ref p) H') :
  zkU n fr (zsz K tg) (tDT K E tt) (tD K E fe) J σ H1 Q:=by
 intro Da hDa
 have h0D:H01 Da=none:=g1.sub.free hDa
 refine⟨fun i m ys σ' H'=>m=ds.length-i/\i<=ds.length/\σ'.length=n+fr.length/\∃ H₀',zbh H1 H01 H' H₀'/\H₀' Da=none/\H' Da=some (.lst ys)/\zdN K H₀' σ' (zcv n fr ρ)/\∃ es1,zbn (zcv n fr ρ) tg tt fe (ds.take i)=.ok es1/\Reps K H₀' es1 ys,
  ⟨ds.length,by simp,Nat.zero_le _,by unfold zht;simp,H01,?_,h0D,zap,zkG hr,[],rfl,Reps.nil⟩,?_⟩
 ·refine⟨fun b o e=>by rw[zao (zaD e hDa)];exact e,zaG.refl _,fun b o e=>?_,fun b k1 k2=>absurd k2 k1⟩
  rw[zao (by intro z;subst z;rw[h0D] at e;cases e)];exact g1.sub _ _ e
 ·rintro i m ys σ' H' ⟨rfl,hile,hsl,H₀',gg,hD0,hDl,hrd,es1,hes1,hys⟩
  refine⟨hDl,?_⟩
  by_cases hlt:i < ds.length
  ·refine .inr ⟨it.go i H' H₀' gg.z gg.sub hlt,?_,?_⟩
   ·rw[← hys.length]
    have:=zhn hes1
    rw[List.length_take] at this
    have h2:line < sizeLine:=by decide
    omega
   ·intro x H2 hy
    obtain⟨H₀2,g2,rp⟩:=it.yld i H' H₀' x H2 ds[i] gg.z gg.sub (List.getElem?_eq_getElem hlt) hy
    have hsplit:ds=ds.take i++(ds[i]::ds.drop (i+1)):=by rw[← List.drop_eq_getElem_cons hlt,List.take_append_drop]
    rw[hsplit] at e2
    obtain⟨a1,a2,k1,k2,k3⟩:=zf1 e2
    rw[hes1] at k1;cases k1
    obtain⟨ρ1,t,t1,t2,t3⟩:=zdZ k2
    have hn2:H₀2 Da=none:=by
     cases qq:H₀2 Da with
     | none=>rfl
     | some o=>have:=g2.nw Da (by rw[qq];simp) hD0;rw[hDl] at this;cases this
    have hD2:H2 Da=some (.lst ys):=g2.s _ _ hDl
    refine⟨H2,H₀2,H₀2,zcv n fr ρ,ds[i],⟨zbh.refl g2.sub,hrd.mono g2.z,fun j d' e=>?_,fun j k d1 d2 _ e=>?_,by rw[zjW,hsl],OX.none znJ⟩,rp,?_⟩
    ·unfold zcv at e
     by_cases hj:j < n
     ·rw[List.getElem?_append_left (by simpa using hj),List.getElem?_replicate,if_pos hj] at e;cases e
     ·rw[List.getElem?_append_right (by simpa using hj),List.getElem?_map] at e
      cases hf:fr[j-(List.replicate n Sl.no).length]? with
      | none=>rw[hf] at e;cases e
      | some z =>
       rw[hf] at e
       simp only[Option.map_some,Option.some.injEq] at e
       split at e<;>cases e
    ·unfold zcv at e
     by_cases hj:j < n
     ·rw[List.getElem?_append_left (by simpa using hj),List.getElem?_replicate,if_pos hj] at e;cases e
     ·rw[List.getElem?_append_right (by simpa using hj),List.getElem?_map] at e
      cases hf:fr[j-(List.replicate n Sl.no).length]? with
      | none=>rw[hf] at e;cases e
      | some z =>
       rw[hf] at e
       simp only[Option.map_some,Option.some.injEq] at e
       split at e<;>cases e
    ·rw[t1]
     intro σ3 H3 H03 z3 s3
     have hrl:=hok _ _ _ t1
     have hσ3:σ3.length=n+fr.length:=by rw[← s3.ln,hrl.1,zjW]
     have back:∀ {Hx:Hp},zaG H03 Hx->zdN K Hx σ3 (zcv n fr ρ):=fun {Hx} sx k d e=>by
      by_cases hk:k < n
      ·rw[zpw hk] at e;cases e
      ·rw[← hrl.2 k (by omega)] at e
       obtain⟨v,h1,h2⟩:=s3.rd k d e
       exact⟨v,h1,h2.mono sx⟩
     have n3:H03 Da=none:=by
      cases qq:H03 Da with
      | none=>rfl
      | some o=>have:=s3.g.nw Da (by rw[qq];simp) hn2;rw[hD2] at this;cases this
     have hD3:H3 Da=some (.lst ys):=s3.g.s _ _ hD2
     refine⟨H03,ρ1,s3.g.sub,s3.rd,?_⟩
     rw[t2]
     intro H4 H04 g4
     have hD4:H4 Da=some (.lst ys):=g4.s _ _ hD3
     have n4:H04 Da=none:=by
      cases qq:H04 Da with
      | none=>rfl
      | some o=>have:=g4.nw Da (by rw[qq];simp) n3;rw[hD3] at this;cases this
     have htake:ds.take (i+1)=ds.take i++[ds[i]]:=by rw[List.take_add_one,List.getElem?_eq_getElem hlt];rfl
     have g04:=(gg.trans g2).trans (s3.g.trans g4)
     rcases t3 with⟨rfl,y,xs,t3,t4,_⟩ | ⟨rfl,t4⟩
     ·rw[if_pos rfl]
      refine⟨H04,ρ1,g4.sub,s3.rd.mono g4.z,?_⟩
      rw[t3]
      intro yv H5 H05 g5 ry
      have hD5:H5 Da=some (.lst ys):=g5.s _ _ hD4
      have n5:H05 Da=none:=by
       cases qq:H05 Da with
       | none=>rfl
       | some o=>have:=g5.nw Da (by rw[qq];simp) n4;rw[hD4] at this;cases this
      have gall:=g04.trans g5
      refine⟨hD5,ds.length-(i+1),by omega,rfl,hlt,hσ3,H05,⟨fun b o e=>?_,gall.z,fun b o e=>?_,gall.nw⟩,n5,zap,back (g4.z.trans g5.z),es1++[y],?_,?_⟩
      ·rw[zao (zaD e hDa)];exact gall.s _ _ e
      ·rw[zao (by intro z;subst z;rw[n5] at e;cases e)];exact gall.sub _ _ e
      ·rw[htake]
       refine zdY hes1 ?_
       rw[zdG t1 t2 t3];rfl
      ·exact(hys.mono ((g2.z.trans s3.g.z).trans (g4.z.trans g5.z))).app (Reps.cons ry Reps.nil)
     ·rw[if_neg Bool.false_ne_true]
      refine⟨ds.length-(i+1),by omega,rfl,hlt,hσ3,H04,g04,n4,hD4,back g4.z,es1,?_,hys.mono ((g2.z.trans s3.g.z).trans g4.z)⟩
      rw[htake]
      rw[show es1=es1++[] by simp]
      refine zdY hes1 ?_
      rw[zhm t1 t2];rfl
  ·have hi2:i=ds.length:=by omega
   refine .inl ⟨it.stop i H' H₀' gg.z gg.sub (by omega),?_⟩
   rw[hi2,List.take_length] at hes1
   rw[e2] at hes1;cases hes1
   exact q Da ys H' H₀' (g1.trans gg) (g1.s.free hDa) hD0 hDl hys
structure DIf (X:Cx) (E:XK) (ifs:List Expr) (f:Ev->Res D):Prop where
 o:PIf X ifs (tDT X.K E f)
def mYes:Ev->Res D:=fun _=>.ok (.bl true)
theorem zl1 {X:Cx}{E:XK}:DIf X E [] mYes:=⟨fun pins s σ H Q I ⟨H₀,ρ,hs,hr,q⟩=>zoJ pins s σ H Q I (q H H₀ (zbh.refl hs))⟩
theorem zpm {X:Cx}{E:XK}{c:Expr}{f:Ev->Res D}(h:DT X E c f):DIf X E [c] f:=⟨zoI h.o⟩
structure DCo (X:Cx) (E:XK) (e:Expr) (f:Ev->Res D):Prop where
 ev:PE X e (tF X.K E f)
 st:∀ {i:Nat}{x:Str}{pos' spos:Pos},X.N.Nodup->X.N[i]?=some x->X.env.scope.names.lookup x=some .local -> swapsWith e (some (.Name x pos')) spos.line X.env=pure true->PS X (.Assign [.Name x pos'] e spos) (zrY (tF X.K E f) (zpd i))
theorem dco {X:Cx}{E:XK}{tgt iter elt:Expr}{ifs:List Expr}{scope:Scope}{pos:Pos}(N:List Str)(n:Nat)(fr:List Nat){src:Ev->Res (List D)}{tg:Ev->D->Res Ev}{tt fe:Ev->Res D}(hc:X.calm=true)(hi:DI X E tgt iter src)(hok:zrJ n tg)
  (blk:∀ s H C fp pn,(∀ He H0e,DG (zcW X N scope s H C fp pn) E He H0e tgt tg)/\DIf (zcW X N scope s H C fp pn) E ifs tt/\DE (zcW X N scope s H C fp pn) E elt fe)
  (hfr:ziM X N n fr scope)(hcell:∀ x∈scope.names,x.2≠.cell)(hfree:∀ x∈scope.names,x.2=.free->X.env.scope.names.lookup x.1=some .cell)(hkind:scope.kind=.function)(hnames:∀ x∈scope.names,x.2=.local -> scope.names.lookup x.1=some .local)
  (hs:∀ x,foldedSetIterable iter X.env x=pure x:=by intro _;rfl):DCo X E (.ListComp elt [⟨tgt,iter,ifs,0⟩] scope pos) (zeH n fr src tg tt fe):=by
 have blk':∀ s H C fp pn,PG (zcW X N scope s H C fp pn) tgt (zsz X.K tg)/\PIf (zcW X N scope s H C fp pn) ifs (tDT X.K E tt)/\PE (zcW X N scope s H C fp pn) elt (tD X.K E fe):=fun s H C fp pn =>
  ⟨fun pins s' σ' H' v u Q' I r ⟨He,H0e,q'⟩=>((blk s H C fp pn).1 He H0e).o pins s' σ' H' v u Q' I r q',(blk s H C fp pn).2.1.o,(blk s H C fp pn).2.2.o⟩
 have first:∀ {pins:List (Addr×Obj)}{s:Shared}{σ:L2.St}{H:Hp}{Q:VK}{RR:Value->Addr->Result->Shared->Prop},L2.Inv X pins σ H s->tF X.K E (zeH n fr src tg tt fe) σ H Q ->
   (∀ (Da C:Addr) (s6:Shared) (H5:Hp) (m:Str->Option Value),L2.Inv X pins σ H5 s6->s6.heap.Ns C m->zms X pins H5 C->Q (.ref Da) H5->RR (.ref Da) C (.ok .next) s6) ->
   wpAny (model X.prog X.w) X.A (eval iter X.env) (fun x s₁=>wpAny (model X.prog X.w) X.A (pyIter x) (fun it s₂=>wpAny (model X.prog X.w) X.A (newList []) (fun acc s₃ =>
    wpAny (model X.prog X.w) X.A (newFunctionEnv scope X.env.globals (zgj X.env.cells scope.names []) [] X.env.qual none .none (some X.env)) (fun cenv s₄ =>
     codeAny (model X.prog X.w) X.A (.compStart (.ListComp elt [⟨tgt,iter,ifs,0⟩] scope pos) 0 it acc { cenv with scope:=relabel scope X.env }) (RR acc cenv.locals) s₄) X.xe s₃) X.xe s₂) X.xe s₁) X.xe s:=by
  intro pins s σ H Q RR I ⟨H₀,ρ,hsame,hr,q⟩ fin
  refine thn (hi.o pins s σ H (fun J H1=>zkU n fr (zsz X.K tg) (tDT X.K E tt) (tD X.K E fe) J σ H1 Q) I ⟨H₀,ρ,hsame,hr,?_⟩) fun v s1 h1=>thn h1 fun itv s2 h2=>zmj (N:=N) hc hfr hcell hfree hkind blk' h2 fin
  unfold zeH at q
  cases e1:src ρ with
  | stuck=>rw[e1] at q;exact q
  | exn x=>rw[e1] at q;exact q
  | ok ds =>
   rw[e1] at q
   intro J H1 H01 g1 it
   replace q:match (if ds.length<=line then match zbn (zcv n fr ρ) tg tt fe ds with
     | .ok es=>Res.ok (D.lst es)
     | _=>.stuck else .stuck) with
    | .ok (.lst ds)=>∀ p vs H' H₀',zbh H H₀ H' H₀'->H p=none->H₀' p=none->H' p=some (.lst vs)->Reps X.K H₀' ds vs->Q (.ref p) H'
    | .ok _=>False
    | .exn x=>∀ C ox H' H₀',zbh H H₀ H' H₀'->ExR X.K H₀' x C ox->E C ox H'
    | .stuck=>False:=q
   by_cases hl:ds.length<=line
   ·rw[if_pos hl] at q
    cases e2:zbn (zcv n fr ρ) tg tt fe ds with
    | stuck=>rw[e2] at q;exact q.elim
    | exn x=>rw[e2] at q;exact q.elim
    | ok es =>
     rw[e2] at q
     exact zkE hsame g1 it hl e2 (hr.mono g1.z) hok q
   ·rw[if_neg hl] at q;exact q.elim
 have hcl:∀ {pins:List (Addr×Obj)}{s:Shared}{σ:L2.St}{H:Hp},L2.Inv X pins σ H s->closureFor scope X.env=pure (zgj X.env.cells scope.names []):=fun {pins s σ H} I=>zho fun y hy hf=>I.ok.has y.1 (.inl (hfree y hy hf))
 refine⟨fun pins s σ H Q I h=>?_,fun {i x pos' spos} hN hi' hx hsw pins s σ H D' I h=>?_⟩
 ·rw[eval_ListComp]
  refine wpAny_comprehension_free (use:=none) rfl hs (hcl I) hkind hnames (first (RR:=fun acc C=>compPost (model X.prog X.w) X.A X.xe none (EP X pins σ Q) acc C) I h fun Da C s6 H5 m I6 ns fC q=>?_)
  refine⟨m,ns,fun h' sb=>⟨.ref Da,H5,?_,rfl,q⟩⟩
  exact I6.turned (t':=s6.toks) (it:=C) (fun b o hb e=>(sb.2 b hb).trans e) fC.1 fC.2.1 fC.2.2.2.1 fC.2.2.2.2.1 fC.2.2.2.2.2
 ·rw[exec_Assign_Name_used _ _ _ _ hsw]
  refine wpAny_bind (wpAny_standAt (wpAny_bind ?_))
  show wpAny _ X.A (do let _ ← comprehension (.ListComp elt [⟨tgt,iter,ifs,0⟩] scope pos) scope X.env _ (newList []) false (eval iter X.env) (some (assign (.Name x pos') X.env))) _ _ s
  refine wpAny_bind (wpAny_mono (wpAny_comprehension_free (use:=some (assign (.Name x pos') X.env)) (Q:=fun _ s'=>SP X pins D' .next s') rfl hs (hcl I) hkind hnames
   (first (RR:=fun acc C=>compPost (model X.prog X.w) X.A X.xe (some (assign (.Name x pos') X.env)) (fun _ s'=>SP X pins D' .next s') acc C) I h fun Da C s6 H5 m I6 ns fC q=>?_)) (fun _ s' hq=>wpAny_pure (wpAny_pure hq)) fun _ _ e=>e)
  show wpAny _ X.A (assign (.Name x pos') X.env (.ref Da)) _ _ _
  refine wpAny_assign_Name (zhY (v:=.ref Da) I6 hN hi' (.inl hx) rfl (fun s' I' ⟨a,sb,ha⟩=>?_) (.inr hx))
  have hCa:C≠a:=by
   rcases ha with rfl | ha
   ·exact fC.2.1
   ·exact fun z=>fC.2.2.2.2.1 x a ha z.symm
  refine⟨m,ns.sameBut sb hCa,fun h' sb'=>⟨_,H5,?_,q⟩⟩
  exact I'.turned (t':=s'.toks) (it:=C) (fun b o hb e=>(sb'.2 b hb).trans e) fC.1 fC.2.1 fC.2.2.2.1 fC.2.2.2.2.1 fC.2.2.2.2.2
theorem zsG {X:Cx}{E:XK}{e:Expr}{f:Ev->Res D}(h:DCo X E e f):DF X E e f:=⟨h.ev⟩
theorem zpr {X:Cx}{E:XK}{e:Expr}{n:Nat}{fr:List Nat}{src:Ev->Res (List D)}{tg:Ev->D->Res Ev}{tt fe:Ev->Res D}(h:DCo X E e (zeH n fr src tg tt fe)):DE X E e (zeH n fr src tg tt fe):=znD zmi (zsG h)
section
variable {X:Cx}{E:XK}{He H0e:Hp}{e:Expr}{f:Ev->Res D}{s:Ev->Res Fl}{pos:Pos}{st:Stmt}
def unown (i:Nat)(ρ:Ev):Ev:=match ρ[i]? with
 | some (.ow d)=>ρ.set i (.sh d)
 | _=>ρ
def zty (i:Nat)(s:Ev->Res Fl):Ev->Res Fl:=fun ρ=>s (unown i ρ)
theorem SRx.unown {K:W.Frag}{H₀ H:Hp}{σ:L2.St}{ρ:Ev}(h:SRx K He H0e H₀ σ H ρ)(i:Nat):∃ H₀',zaG H₀ H₀'/\SRx K He H0e H₀' σ H (DL.unown i ρ):=by
 unfold DL.unown
 cases e:ρ[i]? with
 | none=>exact⟨H₀,zaG.refl _,h⟩
 | some s =>
  cases s with
  | no=>exact⟨H₀,zaG.refl _,h⟩
  | sh d=>exact⟨H₀,zaG.refl _,h⟩
  | ox j ds=>exact⟨H₀,zaG.refl _,h⟩
  | ow d =>
   obtain⟨a,k1,k2,k3,k4⟩:=h.ow i d e
   cases d with
   | lst ds =>
    obtain⟨vs,h5,h6⟩:=k4
    have z:zaG H₀ (upd H₀ a (.lst vs)):=fun b o q=>by rw[zao (by intro z;subst z;rw[k3] at q;cases q)];exact q
    have h':SRx K He H0e (upd H₀ a (.lst vs)) σ H (ρ.set i .no):=by
     have nset:∀ (j:Nat) (s:Sl),(ρ.set i .no)[j]?=some s->s≠.no->j≠i/\ρ[j]?=some s:=fun j s q hs=>by
      by_cases hj:i=j
      ·subst hj
       rw[List.getElem?_set_self'] at q
       rw[e] at q;cases q;exact absurd rfl hs
      ·rw[List.getElem?_set_ne hj] at q;exact⟨fun z=>hj z.symm,q⟩
     refine⟨⟨h.g.s,h.g.z.trans z,fun b o q=>?_,fun b q1 q2=>?_⟩,fun j d' q=>?_,fun j d' q=>?_,fun j k d1 d2 hn q1 q2=>?_,by simp [h.ln],h.ex.upd (fun j s q=>?_) z (fun b us _ eb=>eb) fun q us _ q0 hq hd=>?_⟩
     rotate_left 5
     ·by_cases hs:s=.no
      ·exact .inr (.inr (.inl hs))
      ·exact .inl ⟨(nset j s q hs).2,rfl⟩
     ·have hq':q≠a:=by
       intro zz;subst zz
       exact hd i _ e k1
      exact⟨hq,by rw[zao hq'];exact q0⟩
     ·by_cases hb:b=a
      ·subst hb;rw[zap] at q;cases q;exact h5
      ·rw[zao hb] at q;exact h.g.sub _ _ q
     ·by_cases hb:b=a
      ·subst hb;exact k2
      ·rw[zao hb] at q1;exact h.g.nw b q1 q2
     ·obtain⟨hj,q⟩:=nset j _ q (fun z=>nomatch z)
      obtain⟨v,q1,q2⟩:=h.rd j d' q
      exact⟨v,q1,q2.mono z⟩
     ·obtain⟨hj,q⟩:=nset j _ q (fun z=>nomatch z)
      obtain⟨b,q1,q2,q3,q4⟩:=h.ow j d' q
      have hb:b≠a:=by
       intro zz;subst zz
       exact h.ap j i d' (.lst ds) hj q e (by rw[q1,k1])
      refine⟨b,q1,q2,by rw[zao hb];exact q3,?_⟩
      cases d' with
      | lst ds'=>obtain⟨vs',h7,h8⟩:=q4;exact⟨vs',h7,h8.mono z⟩
      | _=>exact q4.elim
     ·obtain⟨_,q1⟩:=nset j _ q1 (fun z=>nomatch z)
      obtain⟨_,q2⟩:=nset k _ q2 (fun z=>nomatch z)
      exact h.ap j k d1 d2 hn q1 q2
    refine⟨_,z,?_⟩
    have hp:=h'.put (i:=i) (d:=.lst ds) (v:=.ref a) (Rep.lst_iff.mpr ⟨a,vs,rfl,SqL.of zap,h6.mono z⟩)
    rw[List.set_set] at hp
    have hσ:σ.set i (some (V.ref a))=σ:=by
     apply List.ext_getElem?
     intro k
     by_cases hk:i=k
     ·subst hk
      obtain⟨hil,_⟩:=List.getElem?_eq_some_iff.mp k1
      rw[List.getElem?_set_self hil,k1]
     ·rw[List.getElem?_set_ne hk]
    rw[hσ] at hp
    exact hp
   | _=>exact k4.elim
end
theorem zsJ {X:Cx}{E:XK}{tgt iter elt:Expr}{ifs:List Expr}{scope:Scope}{pos:Pos}(N:List Str)(n:Nat)(fr:List Nat){src:Ev->Res (List D)}{tg:Ev->D->Res Ev}{tt fe:Ev->Res D}(hc:X.calm=true)(hi:DI X E tgt iter src)(hok:zrJ n tg)
  (blk:∀ s H C fp pn,(∀ He H0e,DG (zcW X N scope s H C fp pn) E He H0e tgt tg)/\DIf (zcW X N scope s H C fp pn) E ifs tt/\DE (zcW X N scope s H C fp pn) E elt fe)
  (hfr:ziM X N n fr scope)(hcell:(scope.names.all fun x=>!(x.2==.cell))=true)(hfree:(scope.names.all fun x=>!(x.2==.free)||(X.env.scope.names.lookup x.1==some .cell))=true)(hkind:scope.kind=.function)
  (hnames:(scope.names.all fun x=>!(x.2==.local)||(scope.names.lookup x.1==some .local))=true)
  (hs:∀ x,foldedSetIterable iter X.env x=pure x:=by intro _;rfl):DCo X E (.ListComp elt [⟨tgt,iter,ifs,0⟩] scope pos) (zeH n fr src tg tt fe):=by
 refine dco N n fr hc hi hok blk hfr (fun x hx z=>?_) (fun x hx z=>?_) hkind (fun x hx z=>?_) hs
 ·have:=List.all_eq_true.mp hcell x hx
  rw[z] at this;simp at this
 ·have:=List.all_eq_true.mp hfree x hx
  rw[z] at this;simpa using this
 ·have:=List.all_eq_true.mp hnames x hx
  rw[z] at this;simpa using this
theorem zbU.there {P:Program}{w:World}{H:Hp}{h:Heap}{a:Addr}{o:HO}(x:zbU P w H h a o):∃ u,h.get? a=some u:=by
 cases o with
 | lst xs=>obtain⟨_,_,_,_,e⟩:=x;exact⟨_,e⟩
 | tup xs=>obtain⟨_,_,_,ob,e,_⟩:=x;exact⟨_,e⟩
 | dK kvs=>obtain⟨_,_,_,_,o,_,_,e,_⟩:=x;exact⟨_,e⟩
 | dT kvs=>obtain⟨_,_,_,_,o,_,_,e,_⟩:=x;exact⟨_,e⟩
 | set S n=>obtain⟨o,_,_,_,e,_⟩:=x;exact⟨_,e⟩
 | ins C dx fs=>obtain⟨_,_,_,e,_⟩:=x;exact⟨_,e⟩
 | own y=>obtain⟨_,e⟩:=x;exact⟨_,e⟩
 | xd fs=>obtain⟨_,⟨_,_,_,e,_⟩,_⟩:=x;exact⟨_,e⟩
 | rng lo hi=>obtain⟨_,_,_,e⟩:=x;exact⟨_,e⟩
 | frz ob u=>obtain⟨e,_⟩:=x;exact⟨_,e⟩
 | tbl ps=>exact⟨_,show h.get? a=some _ from x⟩
 | met f y=>exact⟨_,show h.get? a=some _ from x⟩
 | ext φ=>obtain⟨_,⟨_,e⟩,_⟩:=x;exact⟨_,e⟩
def CXE (P:Program)(w:World):CXT:=fun outer H s E e s'=>∃ (ea C:Addr) (a0:Value) (B:Heap) (H':Hp),e=.ref ea/\s'.os=s.os/\AllBare s'.gens/\Un (frs outer) [] H H' s.heap s'.heap/\HOk P w H' s'.heap/\H' ea=none /\
 Heap.FlyingW B outer ea (.ref C) a0 s'.heap/\(∀ b,b∉frs outer->(H' b≠none∨∃ o,s.heap.get? b=some o)->∃ o,B.get? b=some o)/\∃ ox,zte s'.heap ea ox/\E (.ref C) ox H'
theorem zlL {l:List PySem.Env}:∀ env∈l,∀ a,env.frame=some a->a∈frs l:=fun env he a hf=>List.mem_filterMap.mpr ⟨env,he,hf⟩
section
variable {P:Program}{w:World}{K:W.Frag}{mg:Str->Option Value}{base:Heap}{N:List Str}{qual:Str}{scope:Scope}{f:Addr}{cd:Value}{A:Around}{outer:List PySem.Env}{s0:Shared}{H0:Hp}{E:XK}
 {pins:List (Addr×Obj)}{σ:L2.St}{H:Hp}{s:Shared}
theorem zcP {B h h':Heap}(k:B.StaysIn h)(k':B.StaysIn h'){b:Addr}{o:Obj}(hb:∃ u,B.get? b=some u)(e:h.get? b=some o):h'.get? b=some o:=by
 obtain⟨u,q⟩:=hb
 have:=k b u q
 rw[e] at this;cases this
 exact k' b o q
theorem zpf {X:Cx}(hX:X=zdX (CXE P w) P w K mg base N qual scope f cd A outer s0 H0 E)(I:Inv X pins σ H s){s1:Shared}{H1:Hp}{ea C:Addr}{a0:Value}{B h':Heap}(os:s1.os=s.os)(bare:AllBare s1.gens)
  (un:Un (frs X.stack) [] H H1 s.heap s1.heap)(hok:HOk P w H1 s1.heap)(hne:H1 ea=none)(hst:B.StaysIn s1.heap)(hfr:s1.heap.FunFrames B X.stack)
  (hB:∀ b,b∉frs X.stack->(H1 b≠none∨∃ o,s.heap.get? b=some o)->∃ o,B.get? b=some o)(fl:Heap.FlyingW B outer ea (.ref C) a0 h')(up:s1.heap.UpToSlots h')(hE:∃ ox,zte h' ea ox/\E (.ref C) ox H1) :
  CXE P w outer H0 s0 E (.ref ea) { s1 with heap:=h' }:=by
 subst hX
 have hL:(envOfC qual scope s0.heap.objs.size f cd).frame=some (envOfC qual scope s0.heap.objs.size f cd).locals:=rfl
 have hstk:∀ b,b∈frs (envOfC qual scope s0.heap.objs.size f cd::outer)->b=(envOfC qual scope s0.heap.objs.size f cd).locals∨b∈frs outer:=fun b hb=>by
  unfold frs at hb;rw[List.filterMap_cons,hL] at hb;exact List.mem_cons.mp hb
 have hsub:∀ b,b∈frs outer->b∈frs (envOfC qual scope s0.heap.objs.size f cd::outer):=fun b hb=>by
  unfold frs;rw[List.filterMap_cons,hL];exact List.mem_cons_of_mem _ hb
 have old:∀ b o,s0.heap.get? b=some o->b≠(envOfC qual scope s0.heap.objs.size f cd).locals:=fun b o e=>Nat.ne_of_lt (Nat.lt_of_lt_of_le (Heap.lt_size e) I.ok.above)
 have nofr:∀ b o,s0.heap.get? b=some o->b∉frs outer->b∉frs (envOfC qual scope s0.heap.objs.size f cd::outer):=fun b o e hb hm=>(hstk b hm).elim (old b o e) hb
 have thr:∀ b o,s0.heap.get? b=some o->∃ o',s.heap.get? b=some o':=fun b o e=>I.base.there b o e (by intro z;exact nomatch z)
 have fst:∀ b,b∈frs outer->∀ o,s1.heap.get? b=some o->∃ sl,h'.get? b=some { o with slots:=sl }:=fun b hb o e=>by
  obtain⟨_,o',ho',hd⟩:=hfr.mem (hsub b hb)
  rw[e] at ho';cases ho'
  exact up b o e hd
 have free1:∀ b∈frs (envOfC qual scope s0.heap.objs.size f cd::outer),H1 b=none:=fun b hb=>by
  obtain⟨_,o,ho,_⟩:=I.stack.mem hb
  exact un.free b o ho (I.stkFree b hb) (by simp)
 have B0:∀ b o,s0.heap.get? b=some o->b∉frs outer->∃ u,B.get? b=some u:=fun b o e hb=>hB b (nofr b o e hb) (.inr (thr b o e))
 refine⟨ea,C,a0,B,H1,rfl,os.trans I.os,bare,⟨fun b o e n hb hx=>?_,fun b o e n hb hx=>?_,fun b o e n hx=>?_,fun b o e hx=>?_,fun b xs e=>un.tups b xs (I.base.tups b xs e),fun b o u e=>un.frzs b o u (I.base.frzs b o u e),fun b ps e=>?_⟩,fun a o e=>?_,hne,fl,fun b hb h=>?_,hE⟩
 ·have e1:=I.base.keep b o e n hb (by intro z;exact nomatch z)
  have n1:=I.base.free b o e n (by intro z;exact nomatch z)
  have e2:=un.keep b o e1 n1 (nofr b o e hb) (by simp)
  exact zcP hst fl.1 (B0 b o e hb) e2
 ·obtain⟨sl,e1⟩:=I.base.slot b o e n hb (by intro z;exact nomatch z)
  have n1:=I.base.free b o e n (by intro z;exact nomatch z)
  obtain⟨sl2,e2⟩:=un.any e1 n1 (by simp)
  obtain⟨sl3,e3⟩:=fst b hb _ e2
  exact⟨sl3,e3⟩
 ·obtain⟨o',e1⟩:=thr b o e
  exact un.free b o' e1 (I.base.free b o e n (by intro z;exact nomatch z)) (by simp)
 ·obtain⟨o',e1⟩:=thr b o e
  obtain⟨o2,e2⟩:=un.there b o' e1 (by simp)
  by_cases hb:b∈frs outer
  ·obtain⟨sl,e3⟩:=fst b hb _ e2
   exact⟨_,e3⟩
  ·exact⟨_,zcP hst fl.1 (B0 b o e hb) e2⟩
 ·obtain⟨m1,e1⟩:=I.base.tbls b ps e
  obtain⟨m2,e2⟩:=un.tbls b _ e1
  exact⟨m1++m2,by rw[e2,Array.append_assoc]⟩
 ·refine(hok a o e).stay (fun b u hb q=>?_) (fun _ q=>q) fun _ _ q=>q
  have hn:H1 b≠none:=by
   rcases hb with rfl | hb
   ·rw[e];simp
   ·rw[hb];simp
  exact zcP hst fl.1 (hB b (fun hm=>hn (free1 b hm)) (.inl hn)) q
 ·by_cases hm:b∈frs (envOfC qual scope s0.heap.objs.size f cd::outer)
  ·rcases hstk b hm with z | z
   ·rcases h with h | ⟨o,h⟩
    ·exact absurd (free1 b hm) h
    ·exact absurd z (old b o h)
   ·exact absurd z hb
  ·exact hB b hm (h.elim .inl fun⟨o,h⟩=>.inr (thr b o h))
theorem zh3 (I:Inv (zdX (CXE P w) P w K mg base N qual scope f cd A outer s0 H0 E) pins σ H s){h1:Heap}{e C:Addr}{vs:List Value}(hx:Heap.MadeExcOf s.heap h1 e (.ref C) vs)(hE:E (.ref C) none H) :
  (zdX (CXE P w) P w K mg base N qual scope f cd A outer s0 H0 E).xe (.ref e) { s with heap:=h1 }:=by
 have hin:=zlL (l:=envOfC qual scope s0.heap.objs.size f cd::outer)
 have hl:s.heap.FunFrames (W.hideAll s.heap (frs (envOfC qual scope s0.heap.objs.size f cd::outer))) (envOfC qual scope s0.heap.objs.size f cd::outer):=W.funFrames_hide I.stack hin
 have hn:H e=none:=by
  cases q:H e with
  | none=>rfl
  | some o=>obtain⟨u,hu⟩:=zbU.there (I.hok e o q);rw[hx.new] at hu;cases hu
 refine wpAny_leaves_madeW (h:=s.heap) (base:=W.hideAll s.heap (frs (envOfC qual scope s0.heap.objs.size f cd::outer))) (cls:=.ref C) (args:=vs) I.ok.frames rfl (fun b o q=>W.of_hideAll _ q) hl hx fun h' t fl tup _ up=>?_
 refine zpf rfl I (s1:={ s with heap:=h1 }) (H1:=H) rfl I.bare (Un.kept hx.keeps) (I.hok.kept hx.keeps) hn (fun b o q=>hx.keeps b o (W.of_hideAll _ q)) (hl.of_keeps fun b o hb _=>⟨o,hx.keeps b o hb,rfl⟩) (fun b hb h=>?_) fl up ⟨none,(let ⟨ob,e1,_⟩:=fl.there;⟨_,⟨ob,e1,rfl⟩,.inl rfl⟩),hE⟩
 have:∃ o,s.heap.get? b=some o:=by
  rcases h with h | h
  ·cases q:H b with
   | none=>exact absurd q h
   | some o=>exact zbU.there (I.hok b o q)
  ·exact h
 obtain⟨o,q⟩:=this
 exact⟨o,W.hideAll_get _ q hb⟩
theorem zoP:zgM (CXE P w) (zdX (CXE P w) P w K mg base N qual scope f cd A outer s0 H0 E) E:=by
 intro pins σ H s e s' I h
 obtain⟨ea,C,a0,B,H',rfl,os,bare,un,hok,hne,fl,hB,ox,⟨dc,hdc,hox⟩,hE⟩:=h
 refine zlT I.ok.frames rfl fl hdc fun h' fl' up hd'=>?_
 exact zpf rfl I os bare un hok hne fl.1 fl.2.2.1 hB fl' up ⟨ox,⟨dc,hd',hox⟩,hE⟩
end
theorem zgp {X:Cx}{E:XK}:zgM CX0 X E:=fun _ _ _ _ _ _ _ h=>h.elim
theorem zeW {P:Program}{w:World}{K:W.Frag}{mg:Str->Option Value}{base:Heap}{x qual:Str}{st:Stmt}{f:Addr}{fd:FuncData}{N ps:List Str}{k:Nat}{s:Ev->Res Fl}(F:Fun K x qual st f fd)(S:zaC N ps (defScope st))
  (hbody:∀ (cdv:Value) (A:Around) (outer:List PySem.Env) (s0:Shared) (H H₀:Hp) (E:XK),zel k (A.deeper (envOfC qual (defScope st) s0.heap.objs.size f cdv)) ->
   DSs (zdX (CXE P w) P w K mg base N qual (defScope st) f cdv A outer s0 H E) E H H₀ (defBody st) s):FnOk P w K mg base (CXE P w) (k+1) f fd ps (spD K ps.length (zdm N.length s)):=by
 have hpl:ps.length<=N.length:=by have:=congrArg List.length S.pre;rw[List.length_take] at this;omega
 obtain⟨oc,od,kV,doc,pm,an,cdv,ct,osl,rfl,lk,hcd⟩:=F.ex
 refine zq8 lk hcd S (fun vs H Q E h=>h.1) fun A outer s0 H vs Q E hr h=>?_
 obtain⟨hn,H₀,ds,hs,hv,q⟩:=h
 refine⟨_,(hbody cdv A outer s0 H H₀ E hr).o,H₀,ds.map Sl.sh++List.replicate (N.length-ds.length) .no,?_,?_⟩
 ·refine⟨zbh.refl hs,zee hv,fun i d e=>?_,fun i j d d' hij e=>?_,?_,OX.none zfC⟩
  ·by_cases hi:i < ds.length
   ·rw[List.getElem?_append_left (by simpa using hi),List.getElem?_map] at e
    cases q:ds[i]? with
    | none=>rw[q] at e;cases e
    | some d'=>rw[q] at e;cases e
   ·rw[List.getElem?_append_right (by simpa using hi),List.getElem?_replicate] at e
    split at e<;>cases e
  ·by_cases hi:i < ds.length
   ·rw[List.getElem?_append_left (by simpa using hi),List.getElem?_map] at e
    cases q:ds[i]? with
    | none=>rw[q] at e;cases e
    | some d'=>rw[q] at e;cases e
   ·rw[List.getElem?_append_right (by simpa using hi),List.getElem?_replicate] at e
    split at e<;>cases e
  ·unfold L2.start
   have:=hv.length
   simp only[List.length_append,List.length_map,List.length_replicate]
   omega
 ·unfold zdm at q
  cases e1:s (ds.map Sl.sh++List.replicate (N.length-ds.length) .no) with
  | stuck=>rw[e1] at q;exact q
  | exn x=>rw[e1] at q;exact q
  | ok r =>
   rw[e1] at q
   cases r with
   | nx ρ'=>exact fun σ' H' H₀' _ h'=>q .non H' H₀' h'.g (Rep.non_iff.mpr rfl)
   | rt d=>exact fun v H' H₀' g rp=>q v H' H₀' g rp
   | bk ρ'=>exact q.elim
   | ct ρ'=>exact q.elim
def noX (m:List D->Res D)(ds:List D):Res D:=match m ds with
 | .exn _=>.stuck
 | r=>r
theorem zqN {m:List D->Res D}{ds:List D}{d:D}(h:m ds=.ok d):noX m ds=.ok d:=by unfold noX;rw[h]
theorem zk0 {K:W.Frag}{n:Nat}{m:List D->Res D}{vs:List V}{H:Hp}{Q:VK}{E E':XK}(h:spD K n (noX m) vs H Q E):spD K n m vs H Q E':=by
 obtain⟨hn,H₀,ds,hs,hv,q⟩:=h
 refine⟨hn,H₀,ds,hs,hv,?_⟩
 unfold noX at q
 cases e:m ds with
 | stuck=>rw[e] at q;exact q
 | exn x=>rw[e] at q;exact q.elim
 | ok d=>rw[e] at q;exact q
theorem FnOk.noX {P:Program}{w:World}{K:W.Frag}{mg:Str->Option Value}{base:Heap}{k n:Nat}{f:Addr}{fd:FuncData}{ps:List Str}{m:List D->Res D}(F:FnOk P w K mg base (CXE P w) k f fd ps (spD K n m)) :
  FnOk P w K mg base CX0 k f fd ps (spD K n (DL.noX m)) :=
 ⟨fun vs H Q E h=>F.len vs H Q E0 (zk0 h),fun A outer s H args us vs Q E hr he hb hv h=>codeAny_mono (F.run A outer s H args us vs Q E0 hr he hb hv (zk0 h)) fun r s' q=>by
  cases r with
  | ok fl=>cases fl<;>exact q
  | error e=>obtain⟨_,_,_,_,_,_,_,_,_,_,_,_,_,_,_,hE⟩:=q;exact hE.elim⟩
structure zrI (K:W.Frag) (x:Str) (C:Addr):Prop where
 xc:XC K x C
 ex:W.excIn K C [.type "ValueError",.type "Exception",.type "BaseException",.type "object"] "ValueError.__new__"=true
theorem zrI.obj {K:W.Frag}{x:Str}{C:Addr}(c:zrI K x C){h:Heap}(X:K.In h):∃ bm N nm q bs hdct sn sub ab col dd k0 k1 k2 k3 k5 mN,h.get? C=some (excClassObj nm q C N bs bm hdct sn sub ab col dd k0 k1 k2 k3 k5 "ValueError.__new__")/\h.Ns N mN/\mN "__init__"=none /\
  OwnTail h [.type "ValueError",.type "Exception",.type "BaseException",.type "object"] bm:=by
 have q:=c.ex
 unfold W.excIn at q
 split at q
 ·rename_i dd cd sl ho
  split at q
  ·rename_i C' bm k0 k1 k2 k3 n k5 hm hs
   simp only[Bool.and_eq_true,beq_iff_eq,Bool.not_eq_true'] at q
   obtain⟨⟨⟨⟨⟨rfl,rfl⟩,hdel⟩,ht⟩,hok⟩,hni⟩:=q
   obtain⟨nm,bs,mro,ns,qn,hd,sn,sub,ab,col,del⟩:=cd
   dsimp only at hm hdel hok hni
   subst hm hdel
   have hsl:sl=#[k0,k1,k2,k3,some (.builtin "ValueError.__new__"),k5]:=by
    obtain⟨l⟩:=sl
    simp only at hs
    rw[hs]
   subst hsl
   exact⟨bm,ns,nm,qn,bs,hd,sn,sub,ab,col,dd,k0,k1,k2,k3,k5,_,X _ _ ho,.of_isNs (W.isNs_of_in X hok),W.nsMap_none_of_in X hok hni,W.tail_of_in X ht⟩
  ·cases q
 ·cases q
def zgn (x:Str)(fa:Ev->Res (List D)):Ev->Res Fl:=fun ρ=>(fa (shr ρ)).bind fun ds=>if ds.length<=line then .exn ⟨x,[]⟩ else .stuck
section
variable {P:Program}{w:World}{K:W.Frag}{mg:Str->Option Value}{base:Heap}{N:List Str}{qual:Str}{scope:Scope}{f:Addr}{cd:Value}{A:Around}{outer:List PySem.Env}{s0:Shared}{H0:Hp}{E:XK}{He H0e:Hp}
theorem zjN {x:Str}{C:Addr}{np cpos pos:Pos}{e:Expr}{es:List Expr}{fa:Ev->Res (List D)}(c:zrI K x C)(hm:mg x=some (.ref C))(hh:A.handled=none)
  (hg:Gl (zdX (CXE P w) P w K mg base N qual scope f cd A outer s0 H0 E) x)(ha:DA (zdX (CXE P w) P w K mg base N qual scope f cd A outer s0 H0 E) E (e::es) fa)
  (hdb:(x==("__debug__" : Str))=false:=by decide)(he:starEach (e::es) (zdX (CXE P w) P w K mg base N qual scope f cd A outer s0 H0 E).env=(false,eval e (zdX (CXE P w) P w K mg base N qual scope f cd A outer s0 H0 E).env)::starEach es (zdX (CXE P w) P w K mg base N qual scope f cd A outer s0 H0 E).env:=by exact zaw rfl)
  (hpl:(backTo cpos (starEach es (zdX (CXE P w) P w K mg base N qual scope f cd A outer s0 H0 E).env)).any (·.1)=false:=by exact zaY rfl) :
  DS (zdX (CXE P w) P w K mg base N qual scope f cd A outer s0 H0 E) E He H0e (.Raise (some (.Call (.Name x np) (e::es) [] cpos)) none pos) (zgn x fa):=by
 refine⟨?_⟩
 intro pins s σ H D I ⟨H₀,ρ,hr,q⟩
 obtain⟨bm,Nn,nm,qn,bs,hdct,sn,sub,ab,col,dd,k0,k1,k2,k3,k5,mN,hC,hN,hni,T⟩:=c.obj I.ok.mod.kin
 refine wpAny_Raise_call_subT (C:=C) (nm:=nm) (q:=qn) (N:=Nn) (bs:=bs) (bm:=bm) (hdct:=hdct) (sn:=sn) (sub:=sub) (ab:=ab) (col:=col) (dd:=dd) (k0:=k0) (k1:=k1) (k2:=k2) (k3:=k3) (k5:=k5)
  PySem.F.excBase_ValueError (mN:=mN) (T.hasType PySem.F.excBase_ValueError.hasBase) hh (by rw[he];show(false||(backTo cpos (starEach es (zdX (CXE P w) P w K mg base N qual scope f cd A outer s0 H0 E).env)).any (·.1))=false;rw[hpl];rfl) hni (zdw I hg hm ⟨rfl,?_⟩ hdb)
 have hq:ziX K E H (frz He H₀ H) (fa (shr ρ)) (fun vs H1=>vs.length<=sizeLine/\E (.ref C) none H1):=by
  unfold zgn at q
  cases e1:fa (shr ρ) with
  | stuck=>rw[e1] at q;exact q
  | exn z=>rw[e1] at q;exact fun C ox H' H₀' g ex=>q C ox H' H₀' (hr.frz_grow.trans g) ex
  | ok ds =>
   rw[e1] at q
   intro vs H1 H01 g rp
   have q:zb6 K E He H0e H₀ (if ds.length<=line then Res.exn ⟨x,[]⟩ else .stuck) D:=q
   by_cases hl:ds.length<=line
   ·rw[if_pos hl] at q
    exact⟨by rw[← rp.length];exact zcq hl,q (.ref C) none H1 H01 (hr.frz_grow.trans g) ⟨⟨C,rfl,c.xc⟩,rfl⟩⟩
   ·rw[if_neg hl] at q;exact q.elim
 have h1:=ha.o cpos pins s σ H _ I ⟨frz He H₀ H,shr ρ,hr.frz_le,hr.looks,hq⟩
 rw[he] at h1 ⊢
 refine Calls.evalArgs_plain (wpAny_mono h1 (fun vs s2 h2=>?_) fun _ _ y=>y)
 obtain⟨vs',H1,I1,rv,hl,hE⟩:=h2
 exact⟨rfl,by rw[← rv.length];exact hl,I1.bk _ _ hC,hN.keeps I1.bk,T.keeps I1.bk,fun h' ee hx=>zh3 I1 hx hE⟩
end
section
variable {P:Program}{w:World}{st:List PySem.Env}{H H':Hp}{h g g' B:Heap}
theorem Un.fly (un:Un (frs st) [] H H' h g)(k:B.StaysIn g)(hfr:g.FunFrames B st)(hB:∀ b,b∉frs st->(H' b≠none∨∃ o,h.get? b=some o)->∃ o,B.get? b=some o)(k':B.StaysIn g')(up:g.UpToSlots g'):Un (frs st) [] H H' h g':=by
 have fst:∀ b,b∈frs st->∀ o,g.get? b=some o->∃ sl,g'.get? b=some { o with slots:=sl }:=fun b hb o e=>by
  obtain⟨_,o',ho',hd⟩:=hfr.mem hb
  rw[e] at ho';cases ho'
  exact up b o e hd
 refine⟨fun b o e n hb hx=>?_,fun b o e n hb hx=>?_,un.free,fun b o e hx=>?_,un.tups,un.frzs,un.tbls⟩
 ·exact zcP k k' (hB b hb (.inr ⟨o,e⟩)) (un.keep b o e n hb hx)
 ·obtain⟨sl,e1⟩:=un.slot b o e n hb hx
  obtain⟨sl2,e2⟩:=fst b hb _ e1
  exact⟨sl2,e2⟩
 ·obtain⟨o',e1⟩:=un.there b o e hx
  by_cases hb:b∈frs st
  ·obtain⟨sl,e2⟩:=fst b hb _ e1
   exact⟨_,e2⟩
  ·exact⟨_,zcP k k' (hB b hb (.inr ⟨o,e⟩)) e1⟩
theorem HOk.fly (ok:HOk P w H' g)(hf:∀ b∈frs st,H' b=none)(k:B.StaysIn g)(hB:∀ b,b∉frs st->(H' b≠none∨∃ o,h.get? b=some o)->∃ o,B.get? b=some o)(k':B.StaysIn g'):HOk P w H' g':=fun a o e=>by
 refine(ok a o e).stay (fun b u hb q=>?_) (fun _ q=>q) fun _ _ q=>q
 have hn:H' b≠none:=by
  rcases hb with rfl | hb
  ·rw[e];simp
  ·rw[hb];simp
 exact zcP k k' (hB b (fun hm=>hn (hf b hm)) (.inl hn)) q
theorem HOk.ext (ok:HOk P w H g){a:Addr}{φ:Heap->Prop}(hn:H a=none)(p:φ g)(ht:∃ o,g.get? a=some o)(hm:∀ h1 h2:Heap,φ h1->(∀ o,h1.get? a=some o->h2.get? a=some o)->φ h2):HOk P w (upd H a (.ext φ)) g:=fun b u e=>by
 by_cases hb:b=a
 ·subst hb;rw[zap] at e;cases e;exact⟨p,ht,hm⟩
 ·rw[zao hb] at e
  exact(ok b u e).stay (fun c v _ q=>q) (fun c q=>by rw[zao (zaD q hn)];exact q) fun c xs q=>by rw[zao (zaD q hn)];exact q
theorem Un.ext {fs:List Addr}(un:Un fs [] H H' h g){a:Addr}{o:HO}(hn:H' a=none)(ha:h.get? a=none):Un fs [] H (upd H' a o) h g :=
 ⟨un.keep,un.slot,fun b ob e n hx=>by rw[zao (fun z=>by subst z;rw[ha] at e;cases e)];exact un.free b ob e n hx,un.there,fun b xs q=>by rw[zao (zaD (un.tups b xs q) hn)];exact un.tups b xs q,
  fun b ob u q=>by rw[zao (zaD (un.frzs b ob u q) hn)];exact un.frzs b ob u q,fun b ps q=>by
   obtain⟨m,e⟩:=un.tbls b ps q
   exact⟨m,by rw[zao (zaD e hn)];exact e⟩⟩
theorem zlU {a C:Addr}{dc:Option Addr}:∀ h1 h2:Heap,ExD a C dc h1->(∀ o,h1.get? a=some o->h2.get? a=some o)->ExD a C dc h2:=fun h1 h2 ⟨o,vs,e,c,d⟩ k=>⟨o,vs,k o e,c,d⟩
end
def hand (X:Cx)(e:Addr):Cx:={ X with A:=X.A.mark (some (.ref e)),calm:=false,xe:=fun _ _=>False }
section
variable {X:Cx}{pins:List (Addr×Obj)}{σ:L2.St}{H:Hp}{s:Shared}{e:Addr}
theorem zpa (ok:X.Ok):(hand X e).Ok :=
 ⟨ok.mod,ok.kind,ok.glob,ok.blt,ok.above,ok.inj,ok.has,ok.cab,fun z=>Bool.noConfusion z,ok.frames,ok.stk,ok.exf,ok.bs,ok.bsz,ok.noex,ok.exfs,ok.funs,ok.frf⟩
theorem Inv.hand (I:Inv X pins σ H s):Inv (DL.hand X e) pins σ H s:=⟨zpa I.ok,I.os,I.bare,I.base,I.loc,I.cell,I.free,I.freeC,I.pin,I.hok,I.len⟩
theorem Inv.unhand (ok:X.Ok)(I:Inv (DL.hand X e) pins σ H s):Inv X pins σ H s:=⟨ok,I.os,I.bare,I.base,I.loc,I.cell,I.free,I.freeC,I.pin,I.hok,I.len⟩
theorem Inv.gone {i:Nat}{x:Str}{m:Str->Option Value}{v:Option Value}{h':Heap}{t':Nat}(I:Inv X pins σ H s)(hN:X.N.Nodup)(hi:X.N[i]?=some x)
  (hm:∀ (j:Nat) (y:Str) (v:V),X.N[j]?=some y->σ[j]?=some (some v)->Vis X.env.scope y->∃ u,zbB v u/\ztf X.env s.heap m y u)(hn:h'.Ns X.env.locals (fun y=>if y=x then v else m y))(hs:Heap.SameBut X.env.locals s.heap h') :
  Inv X pins (σ.set i none) H { s with heap:=h',toks:=t' }:=by
 have cne:=I.cne
 obtain⟨m0,⟨oL,_,_,hoL,_⟩,_⟩:=id I.loc
 have tracked:HOk X.prog X.w H h':=fun b ob e=>by
  refine(I.hok b ob e).stay (fun c w' hc q=>(hs.2 c ?_).trans q) (fun _ q=>q) fun _ _ q=>q
  rintro rfl
  have hfree:=I.free
  rcases hc with rfl | hc
  ·rw[hfree] at e;cases e
  ·rw[hfree] at hc;cases hc
 refine⟨I.ok,I.os,I.bare,⟨fun b o e n hb hx=>?_,fun b o e n hb hx=>?_,I.base.free,fun b o e hx=>?_,I.base.tups,I.base.frzs,I.base.tbls⟩,⟨_,hn,fun j y v' e1 e2 e3=>?_⟩,fun y c e=>?_,I.free,I.freeC,fun p hp=>?_,tracked,by simpa using I.len⟩
 ·exact(hs.2 b (Nat.ne_of_lt (Nat.lt_of_lt_of_le (Heap.lt_size e) I.ok.above))).trans (I.base.keep b o e n hb hx)
 ·obtain⟨sl,e1⟩:=I.base.slot b o e n hb hx
  exact⟨sl,(hs.2 b (Nat.ne_of_lt (Nat.lt_of_lt_of_le (Heap.lt_size e) I.ok.above))).trans e1⟩
 ·obtain⟨o',e1⟩:=I.base.there b o e hx
  exact⟨o',(hs.2 b (Nat.ne_of_lt (Nat.lt_of_lt_of_le (Heap.lt_size e) I.ok.above))).trans e1⟩
 ·by_cases hj:j=i
  ·subst hj
   have hiσ:j < σ.length:=by rw[I.len];exact(List.getElem?_eq_some_iff.mp hi).1
   rw[List.getElem?_set_self hiσ] at e2;cases e2
  ·rw[List.getElem?_set_ne (Ne.symm hj)] at e2
   obtain⟨u',r',q⟩:=hm j y v' e1 e2 e3
   refine⟨u',r',?_⟩
   rcases q with⟨k,e⟩ | ⟨k,c,e,z⟩
   ·refine .inl ⟨k,?_⟩
    have:y≠x:=fun e=>hj (zg6 hN e1 (e▸hi))
    simp [this,e]
   ·exact .inr ⟨k,c,e,z.sameBut hs (cne y c e)⟩
 ·obtain⟨w',z⟩:=I.cell y c e
  exact⟨w',z.sameBut hs (cne y c e)⟩
 ·obtain⟨e,n,ne,nf,d⟩:=I.pin p hp
  exact⟨(hs.2 p.1 ne).trans e,n,ne,nf,d⟩
theorem zrl {H1:Hp}{s1 s':Shared}{Ex:XK}{ev:Value}{c n:Str}{np hpos:Pos}{b₀:Stmt}{suite:List Stmt}{rest:List ExceptHandler}{cv:Value}{ni:Nat}{D:zhy}(hstk:X.stack=X.env::X.outer/\X.env.frame=some X.env.locals)(I:Inv X pins σ H1 s1)
  (h:CXE X.prog X.w X.stack H1 s1 Ex ev s')(hg:Gl X c)(hm:X.mg c=some cv)(hx:∀ C ox H',Ex (.ref C) ox H'->W.exmOne X.K (.ref C) cv=some true)
  (hN:X.N.Nodup)(hi:X.N[ni]?=some n)(hlo:X.env.scope.names.lookup n=some .local)
  (hs:∀ ea C dc ox H' s2,Ex (.ref C) ox H'->(ox=none∨ox=dc)->H' ea=none->Inv (DL.hand X ea) pins (σ.set ni (some (.ref ea))) (upd H' ea (.ext (ExD ea C dc))) s2 ->
   wpAny (model X.prog X.w) (X.A.mark (some (.ref ea))) (execs (b₀::suite) X.env) (SP (DL.hand X ea) pins { nx:=fun σ' H=>D.nx (σ'.set ni none) H,rt:=D.rt,bk:=fun σ' H=>D.bk (σ'.set ni none) H,ct:=fun σ' H=>D.ct (σ'.set ni none) H }) (fun _ _=>False) s2)
  (hdb:(c==("__debug__" : Str))=false:=by decide) :
  wpAny (model X.prog X.w) X.A (noteFrame ev X.env) (fun _ s₂=>wpAny (model X.prog X.w) X.A (setFlight ev none) (fun _ s₃ =>
   wpAny (model X.prog X.w) X.A (handleBy ev X.env (.ExceptHandler (some (.Name c np)) (some n) (b₀::suite) hpos::rest)) (SP X pins D) X.xe s₃) X.xe s₂) X.xe s':=by
 obtain⟨ea,C,a0,B,H',rfl,os,bare,un,hok,hne,fl,hB,ox,⟨dc,hdc,hox⟩,hE⟩:=h
 have hA:X.A.frames=some (X.env::X.outer):=by rw[← hstk.1];exact I.ok.frames
 have fl0:=fl
 rw[hstk.1] at fl
 have hf1:∀ b∈frs X.stack,H' b=none:=fun b hb=>by
  obtain⟨_,o,ho,_⟩:=I.stack.mem hb
  exact un.free b o ho (I.stkFree b hb) (by simp)
 have hnew:s1.heap.get? ea=none:=by
  cases q:s1.heap.get? ea with
  | none=>rfl
  | some o =>
   by_cases hb:ea∈frs X.stack
   ·obtain⟨_,o',ho',hd⟩:=fl0.2.2.1.mem hb
    obtain⟨oe,vs,he,_,hd',_⟩:=fl0.first
    rw[ho'] at he;cases he
    exact absurd hd' (hd vs)
   ·obtain⟨u,hu⟩:=hB ea hb (.inr ⟨o,q⟩)
    rw[fl.2.1] at hu;cases hu
 have inv:∀ g,B.StaysIn g->s'.heap.UpToSlots g->Inv X pins σ H' { s' with heap:=g }:=fun g k up =>
  I.call' (ch:=[]) os (Un.fly un fl0.1 fl0.2.2.1 hB k up) (HOk.fly hok hf1 fl0.1 hB k) bare (fun _ z=>nomatch z)
 have invx:∀ g,B.StaysIn g->s'.heap.UpToSlots g->ExD ea C dc g->Inv X pins σ (upd H' ea (.ext (ExD ea C dc))) { s' with heap:=g }:=fun g k up p =>
  I.call' (ch:=[]) os (Un.ext (Un.fly un fl0.1 fl0.2.2.1 hB k up) hne hnew) (HOk.ext (HOk.fly hok hf1 fl0.1 hB k) hne p (let ⟨o,_,e,_⟩:=p;⟨o,e⟩) zlU) bare (fun _ z=>nomatch z)
 refine zns hA hstk.2 fl hdc fun h4 held4 up4 dc4=>?_
 refine znt held4 dc4 fun h5 fl5 up5 dc5=>?_
 have I5:Inv (DL.hand X ea) pins σ H' { s' with heap:=h5 }:=Inv.hand (inv h5 fl5.1 (up4.trans up5))
 refine wpAny_handleBy_cons (codeAny_handlers_test ?_) (by intro q;cases q)
 refine zdw I5 hg hm ?_ hdb
 obtain⟨ob,hob,hoc⟩:=fl5.there
 have LT:W.Looks (model X.prog X.w) h5 (typeOf (.ref ea)) (.ref C):=hoc▸(W.Looks.ld hob).andThen .now
 refine(W.exm_one I5.kIn LT (hx C ox H' hE)).here ?_
 refine codeAny_handlers_suite_as ?_
 refine znu fl5 dc5 fun h6 fl6 up6 dc6=>?_
 obtain⟨oe,vs,he,hc,hd,_⟩:=fl6.first
 have I6:Inv (DL.hand X ea) pins σ (upd H' ea (.ext (ExD ea C dc))) { s' with heap:=h6 }:=Inv.hand (invx h6 fl6.1 ((up4.trans up5).trans up6) ⟨oe,vs,he,hc,hd,(by obtain⟨o6,e6,d6⟩:=dc6;rw[he] at e6;cases e6;exact d6)⟩)
 refine zdQ (X:=DL.hand X ea) (v:=.ref ea) I6 hN hi (.inl hlo) rfl (fun s7 I7=>?_) (.inr hlo)
 refine wpAny_mono (hs ea C dc ox H' s7 hE hox hne I7) (fun f s8 h8=>?_) fun _ _ z=>z.elim
 have hcls:(X.env.scope.kind==.class||(X.env.scope.kind==.module&&X.env.locals != X.env.globals))=false:=by rw[I.ok.kind];rfl
 have fin:∀ {σ':L2.St}{H2:Hp}{Q:Unit->Shared->Prop},Inv (DL.hand X ea) pins σ' H2 s8->(∀ s9,Inv X pins (σ'.set ni none) H2 s9->Q () s9) ->
   wpAny (model X.prog X.w) X.A (do bindName X.env n .none;unbindBehindTheSuite X.env n hpos) Q X.xe s8:=fun {σ' H2 Q} J q=>by
  have J':=Inv.unhand I.ok J
  obtain⟨m,hn,hl⟩:=id J'.loc
  exact wpAny_nameGoes_keeps hlo hn hcls fun h' v hn' hs'=>q _ (Inv.gone J' hN hi hl hn' hs')
 cases f with
 | next=>obtain⟨σ',H2,J,q⟩:=h8;exact fin J fun s9 J9=>⟨_,H2,J9,q⟩
 | brk=>obtain⟨σ',H2,J,q⟩:=h8;exact fin J fun s9 J9=>⟨_,H2,J9,q⟩
 | cont=>obtain⟨σ',H2,J,q⟩:=h8;exact fin J fun s9 J9=>⟨_,H2,J9,q⟩
 | ret u=>obtain⟨v,σ',H2,J,r,q⟩:=h8;exact fin J fun s9 J9=>⟨v,_,H2,J9,r,q⟩
end
theorem PA.nox {X:Cx}{es:List Expr}{t:TA}(h:PA X.nox es t):PA X es t:=fun pos pins s σ H Q I hw =>
 wpAny_mono (h pos pins s σ H Q (I.wish _) hw) (fun _ _ ⟨v,H',I',r,q⟩=>⟨v,H',I'.unwish,r,q⟩) fun _ _ z=>False.elim z
section
variable {X:Cx}{pins:List (Addr×Obj)}{σ:L2.St}{H:Hp}{s:Shared}{CX:CXT}{k:Nat}{f:Addr}{fd:FuncData}{ps:List Str}{sp:Sp}{Ex:XK}{x:Str}{p pos:Pos}{e:Expr}{es:List Expr}{t:TA}
theorem zpu {Q:VK}{XE:Value->Shared->Prop}(F:FnOk X.prog X.w X.K X.mg X.base CX k f fd ps sp)(hr:zel k X.A)(hg:Gl X x)(hm:X.mg x=some (.ref f))(hk:W.keepIn X.K (.ref f)=true)(hb:zbE X.K fd ps [])(ha:PA X.nox (e::es) t)
  (I:Inv X pins σ H s)(h:t σ H fun vs H1=>sp vs H1 Q Ex)(hx:∀ H1 s1 e s',Inv X pins σ H1 s1->CX X.stack H1 s1 Ex e s'->XE e s')
  (hdb:(x==("__debug__" : Str))=false:=by decide)(he:starEach (e::es) X.env=(false,eval e X.env)::starEach es X.env:=by exact zaw rfl)(hpl:(backTo pos (starEach es X.env)).any (·.1)=false:=by exact zaY rfl) :
  wpAny (model X.prog X.w) X.A (eval (.Call (.Name x p) (e::es) [] pos) X.env) (EP X pins σ Q) XE s:=by
 refine wpAny_Call_Name_kw (zdw I hg hm ?_ hdb)
 have ha':PA (X.wish XE) (e::es) t:=PA.nox (X:=X.wish XE) ha
 refine W.callWith_K (h₀:=X.base) I.ok.mod.kin hk (thn (ha' pos pins s σ H _ (I.wish XE) h) fun us s1 ⟨vs,H1,I1,r,q⟩=>⟨I1.unwish.kIn,?_⟩) he hpl
 have I1:=I1.unwish
 have hl:us.length=ps.length:=by rw[← r.length];exact F.len _ _ _ _ q
 have hb1:=hb s1 us I1.kIn (by simpa using hl)
 rw[List.append_nil] at hb1
 refine wpAny_call (codeAny_mono (F.run X.A X.stack s1 H1 ⟨us,[]⟩ us vs Q Ex hr I1.env0 hb1 r q) fun r s' hq=>?_)
 cases r with
 | error e=>exact hx H1 s1 e s' I1 hq
 | ok fl =>
  cases fl with
  | ret u=>exact I1.after hq
  | next=>exact False.elim hq
  | brk=>exact False.elim hq
  | cont=>exact False.elim hq
end
def znO (K:W.Frag)(He H0e H₀:Hp)(r:Res Fl)(D:zhy):Prop:=match r with
 | .exn _=>True
 | r=>zb6 K E0 He H0e H₀ r D
def zti (K:W.Frag)(He H0e H₀:Hp)(σ:L2.St)(ρ:Ev)(r:Res Fl):XK:=fun C ox H'=>∃ x H₀',r=.exn x/\zaG H₀ H₀'/\SRx K He H0e H₀' σ H' ρ/\ExR K H₀' x C ox
structure TB (X:Cx) (st:Stmt) (g:Ev->Res Fl):Prop where
 o:∀ (pins:List (Addr×Obj)) (s:Shared) (σ:L2.St) (H He H0e H₀:Hp) (ρ:Ev) (D:zhy) (XE:Value->Shared->Prop),Inv X pins σ H s->SRx X.K He H0e H₀ σ H ρ->znO X.K He H0e H₀ (g ρ) D ->
  (∀ H1 s1 e s',Inv X pins σ H1 s1->CXE X.prog X.w X.stack H1 s1 (zti X.K He H0e H₀ σ ρ (g ρ)) e s'->XE e s')->wpAny (model X.prog X.w) X.A (exec st X.env) (SP X pins D) XE s
def zmR (i:Nat)(fa:Ev->Res (List D))(m:List D->Res D):Ev->Res Fl:=fun ρ=>match fa ρ with
 | .ok ds=>(m ds).bind fun d=>.ok (.nx (ρ.set i (.sh d)))
 | _=>.stuck
section
variable {X:Cx}{E:XK}{e:Expr}{es:List Expr}{fa:Ev->Res (List D)}{pos:Pos}
theorem zpW {i:Nat}{y:Str}{pos':Pos}{k n:Nat}{fn:Addr}{fd:FuncData}{ps:List Str}{m:List D->Res D}{x:Str}{p cpos:Pos}(hN:X.N.Nodup)(hi:X.N[i]?=some y)(hy:Loc X.env.scope y)
  (F:FnOk X.prog X.w X.K X.mg X.base (CXE X.prog X.w) k fn fd ps (spD X.K n m))(hr:zel k X.A)(hg:Gl X x)(hm:X.mg x=some (.ref fn))
  (hk:W.keepIn X.K (.ref fn)=true)(hb:zbE X.K fd ps [])(ha:DA X.nox E0 (e::es) fa)(hn:(e::es).length=n:=by rfl)(hl:∀ ρ ds,fa ρ=.ok ds->ds.length=(e::es).length)
  (hdb:(x==("__debug__" : Str))=false:=by decide)(he:starEach (e::es) X.env=(false,eval e X.env)::starEach es X.env:=by exact zaw rfl)(hpl:(backTo cpos (starEach es X.env)).any (·.1)=false:=by exact zaY rfl)
  (hs:swapsWith (.Call (.Name x p) (e::es) [] cpos) (some (.Name y pos')) pos.line X.env=pure false:=by rfl)
  (hf:X.fn y=true∨X.env.scope.names.lookup y=some .local := by first | exact .inl rfl | exact .inr rfl | assumption):TB X (.Assign [.Name y pos'] (.Call (.Name x p) (e::es) [] cpos) pos) (zmR i fa m):=by
 refine⟨fun pins s σ H He H0e H₀ ρ D XE I h q hx=>?_⟩
 refine wpAny_Assign_Name (thn (zpu (Q:=fun v H1=>D.nx (σ.set i (some v)) H1) F hr hg hm hk hb ha.o I ?_ hx hdb he hpl) fun v s1 ⟨y,H1,I1,r1,q1⟩=>?_) hs
 ·refine⟨H₀,ρ,h.g.sub,h.rd,?_⟩
  unfold zmR at q ⊢
  cases e1:fa ρ with
  | stuck=>rw[e1] at q;exact q
  | exn x=>rw[e1] at q;exact q.elim
  | ok ds =>
   rw[e1] at q
   intro vs H1 H01 g1 r1
   refine⟨?_,H01,ds,g1.sub,r1,?_⟩
   ·have:=r1.length
    have:=hl ρ ds e1
    omega
   ·show post _ _ _ _ (m ds) _
    cases e2:m ds with
    | stuck=>simp only[e2] at q;exact q
    | exn x=>exact fun C ox H' H₀' g ex=>⟨x,H₀',by simp only[e2];rfl,g1.z.trans g.z,h.grow (g1.trans g),ex⟩
    | ok d =>
     simp only[e2] at q
     exact fun v H' H₀' g rp=>q _ H' H₀' (g1.z.trans g.z) ((h.grow (g1.trans g)).put rp)
 ·exact zdQ I1 hN hi hy r1 (fun s2 I2=>⟨_,H1,I2,q1⟩) hf
theorem SRx.drop {K:W.Frag}{He H0e H₀ H:Hp}{σ:L2.St}{ρ:Ev}(h:SRx K He H0e H₀ σ H ρ){i:Nat}:SRx K He H0e H₀ (σ.set i none) H (ρ.set i .no):=by
 have key:∀ (j:Nat) (s:Sl),(ρ.set i .no)[j]?=some s->s≠.no->j≠i/\ρ[j]?=some s:=fun j s e hs=>by
  by_cases hj:i=j
  ·subst hj
   rw[List.getElem?_set_self'] at e
   cases q:ρ[i]? with
   | none=>rw[q] at e;cases e
   | some s'=>rw[q] at e;cases e;exact absurd rfl hs
  ·rw[List.getElem?_set_ne hj] at e
   exact⟨fun z=>hj z.symm,e⟩
 refine⟨h.g,fun j d' e=>?_,fun j d' e=>?_,fun j k d1 d2 hn e1 e2=>?_,by simp [h.ln],h.ex.upd (fun j s e=>?_) (zaG.refl _) (fun a vs _ e=>e) fun p us _ h0 hp _=>⟨hp,h0⟩⟩
 rotate_left 3
 ·by_cases hs:s=.no
  ·exact .inr (.inr (.inl hs))
  ·obtain⟨hj,e'⟩:=key j s e hs
   exact .inl ⟨e',by rw[List.getElem?_set_ne (Ne.symm hj)]⟩
 ·obtain⟨hj,e'⟩:=key j _ e (by simp)
  obtain⟨v',h1,h2⟩:=h.rd j d' e'
  exact⟨v',by rw[List.getElem?_set_ne (Ne.symm hj)];exact h1,h2⟩
 ·obtain⟨hj,e'⟩:=key j _ e (by simp)
  obtain⟨a,h1,h2⟩:=h.ow j d' e'
  exact⟨a,by rw[List.getElem?_set_ne (Ne.symm hj)];exact h1,h2⟩
 ·obtain⟨hj,e1'⟩:=key j _ e1 (by simp)
  obtain⟨hk,e2'⟩:=key k _ e2 (by simp)
  rw[List.getElem?_set_ne (Ne.symm hj),List.getElem?_set_ne (Ne.symm hk)]
  exact h.ap j k d1 d2 hn e1' e2'
def zqB (ni:Nat)(r:Fl):Res Fl:=match r with
 | .nx ρ=>.ok (.nx (ρ.set ni .no))
 | .rt d=>.ok (.rt d)
 | .bk ρ=>.ok (.bk (ρ.set ni .no))
 | .ct ρ=>.ok (.ct (ρ.set ni .no))
def zmA (x:Exn):D:=match x.flds with
 | []=>.exc x.cls
 | f::fs=>if((f::fs).map (·.1)).Nodup then .ob (.exf x.cls ((f::fs).map (·.1))) ((f::fs).map (·.2)) else .exc x.cls
theorem zid {β:Type}:∀ {l:List (Str×β)}{f:Str}{d:β},(l.map (·.1)).Nodup->(f,d)∈l->l.lookup f=some d
 | (g,e)::l,f,d,nd,h=>by
  rw[List.map_cons,List.nodup_cons] at nd
  rcases List.mem_cons.mp h with h | h
  ·cases h;rw[List.lookup_cons,beq_self_eq_true]
  ·have:f≠g:=fun z=>nd.1 (z▸List.mem_map.mpr ⟨(f,d),h,rfl⟩)
   rw[List.lookup_cons,beq_eq_false_iff_ne.mpr this]
   exact zid nd.2 h
theorem zjG {K:W.Frag}{H:Hp}{fs:List (Str×V)}:∀ (l:List (Str×D)),(∀ n d,(n,d)∈l->∃ v,fs.lookup n=some v/\Rep K H d v)->∃ vs,Reps K H (l.map (·.2)) vs/\l.length=vs.length/\∀ (i:Nat) (f:Str) (v:V),(l.map (·.1))[i]?=some f->vs[i]?=some v->fs.lookup f=some v
 | [],_=>⟨[],Reps.nil_iff.mpr rfl,rfl,fun i f v e=>by simp at e⟩
 | (n,d)::l,h=>by
  obtain⟨v,h1,h2⟩:=h n d List.mem_cons_self
  obtain⟨vs,h3,h4,h5⟩:=zjG l fun n d hm=>h n d (List.mem_cons_of_mem _ hm)
  refine⟨v::vs,Reps.cons_iff.mpr ⟨v,vs,rfl,h2,h3⟩,by simp [h4],fun i f w e1 e2=>?_⟩
  cases i with
  | zero=>simp at e1 e2;rw[← e1,← e2];exact h1
  | succ i=>exact h5 i f w (by simpa using e1) (by simpa using e2)
theorem znv {K:W.Frag}{H:Hp}{x:Exn}{C ea:Addr}{ox dc:Option Addr}(xc:XC K x.cls C)(ex:ExR K H x (.ref C) ox)(hox:ox=none∨ox=dc)(hne:H ea=none):Rep K (upd H ea (.ext (ExD ea C dc))) (zmA x) (.ref ea):=by
 have plain:Rep K (upd H ea (.ext (ExD ea C dc))) (.exc x.cls) (.ref ea):=Rep.exc_iff.mpr ⟨ea,C,dc,rfl,xc,.inl zap⟩
 have sm:zaG H (upd H ea (.ext (ExD ea C dc))):=fun b o q=>by rw[zao (zaD q hne)];exact q
 obtain⟨cls,flds⟩:=x
 unfold zmA
 cases flds with
 | nil=>exact plain
 | cons f fs =>
  show Rep _ _ (if((f::fs).map (·.1)).Nodup then D.ob (.exf cls ((f::fs).map (·.1))) ((f::fs).map (·.2)) else .exc cls) _
  by_cases nd:((f::fs).map (·.1)).Nodup
  ·rw[if_pos nd]
   obtain⟨_,hm⟩:=ex
   cases ox with
   | none=>cases hm
   | some a =>
    obtain⟨gs,h1,h2⟩:=hm
    have hdc:dc=some a:=by
     rcases hox with z | z
     ·cases z
     ·exact z.symm
    obtain⟨vs,k1,k2,k3⟩:=zjG (K:=K) (H:=H) (fs:=gs) (f::fs) fun n d hmm=>h2 n d (zid nd hmm)
    exact Rep.ob_iff.mpr ⟨ea,vs,rfl,⟨C,a,gs,xc,hdc▸.inl zap,sm _ _ h1,by rw[List.length_map];exact k2,k3⟩,k1.mono sm⟩
  ·rw[if_neg nd];exact plain
def zpF (g:Ev->Res Fl)(hit:Str->Bool)(ni:Nat)(sh:Ev->Res Fl):Ev->Res Fl:=fun ρ=>match g ρ with
 | .exn x=>if hit x.cls=true then(sh (ρ.set ni (.sh (zmA x)))).bind (zqB ni) else .stuck
 | r=>r
theorem zrb {He H0e:Hp}{st b₀:Stmt}{suite:List Stmt}{g sh:Ev->Res Fl}{hit:Str->Bool}{ni:Nat}{c n:Str}{np hpos:Pos}{cv:Value}(hstk:X.stack=X.env::X.outer/\X.env.frame=some X.env.locals)(hb:TB X st g)
  (hg:Gl X c)(hm:X.mg c=some cv)(hhit:∀ x C,hit x=true->XC X.K x C->W.exmOne X.K (.ref C) cv=some true)(hN:X.N.Nodup)(hi:X.N[ni]?=some n)(hlo:X.env.scope.names.lookup n=some .local)
  (hh:∀ ea,DSs (DL.hand X ea) E He H0e (b₀::suite) sh)(hdb:(c==("__debug__" : Str))=false:=by decide) :
  DS X E He H0e (.Try [st] [.ExceptHandler (some (.Name c np)) (some n) (b₀::suite) hpos] [] [] pos) (zpF g hit ni sh):=by
 refine⟨?_⟩
 intro pins s σ H D I ⟨H₀,ρ,h,q⟩
 have hq:znO X.K He H0e H₀ (g ρ) D:=by
  unfold zpF at q
  cases e1:g ρ with
  | exn x=>trivial
  | stuck=>rw[e1] at q;exact q
  | ok r=>rw[e1] at q;cases r<;>exact q
 refine wpAny_Try_except (wpAny_execs_cons (thn (hb.o pins s σ H He H0e H₀ ρ D _ I h hq fun H1 s1 e s' I1 hc=>?_) fun f s1 hf=>?_))
 ·have hit1:∀ x,g ρ=.exn x->hit x.cls=true:=fun x e1=>by
   unfold zpF at q
   rw[e1] at q
   by_cases z:hit x.cls=true
   ·exact z
   ·simp only[if_neg z] at q;exact q.elim
  refine zrl hstk I1 hc hg hm (fun C ox H' ⟨x,H₀',e1,_,_,⟨⟨c',ec,xc⟩,_⟩⟩=>?_) hN hi hlo (fun ea C dc ox H' s2 ⟨x,H₀',e1,sm,srx,⟨⟨c',ec,xc⟩,hm2⟩⟩ hox hne I2=>?_) hdb
  ·cases ec;exact hhit _ _ (hit1 x e1) xc
  ·cases ec
   refine(hh ea).o pins s2 _ _ _ I2 ⟨upd H₀' ea (.ext (ExD ea C dc)),ρ.set ni (.sh (zmA x)),(srx.grow (zbh.alloc srx.g.sub hne)).put (znv xc ⟨⟨C,rfl,xc⟩,hm2⟩ hox (srx.g.sub.free hne)),?_⟩
   have sm2:zaG H₀ (upd H₀' ea (.ext (ExD ea C dc))):=sm.trans (zbh.alloc srx.g.sub hne).z
   unfold zpF at q
   rw[e1] at q
   simp only[if_pos (hit1 x e1)] at q
   cases e2:sh (ρ.set ni (.sh (zmA x))) with
   | stuck=>rw[e2] at q;exact q
   | exn z=>rw[e2] at q;exact q
   | ok r =>
    rw[e2] at q
    cases r with
    | nx ρ'=>exact fun σ' H2 H02 s2 h2=>q _ H2 H02 (sm2.trans s2) (SRx.drop h2)
    | rt d=>exact q
    | bk ρ'=>exact fun σ' H2 H02 s2 h2=>q _ H2 H02 (sm2.trans s2) (SRx.drop h2)
    | ct ρ'=>exact fun σ' H2 H02 s2 h2=>q _ H2 H02 (sm2.trans s2) (SRx.drop h2)
 ·cases f with
  | next=>exact wpAny_execs_nil (wpAny_execs_nil hf)
  | brk=>exact hf
  | cont=>exact hf
  | ret u=>exact hf
end
structure zeM (k:Nat) (A:Around):Prop where
 dp:A.depth+3*k+5 < recursionLimit
 un:A.units+16*k+200 < cLine
theorem zel.h {k:Nat}{A:Around}(r:zel k A):zeM k A:=⟨r.dp,r.un⟩
theorem zeM.mono {j k:Nat}{A:Around}(r:zeM k A)(h:j<=k):zeM j A:=⟨by have:=r.dp;omega,by have:=r.un;omega⟩
theorem zeM.deeper {k:Nat}{A:Around}(r:zeM (k+1) A)(env:PySem.Env):zeM k (A.deeper env) :=
 ⟨by have:=r.dp;show A.depth+1+3*k+5 < _;omega,by have:=r.un;show A.units+3+16*k+200 < _;omega⟩
theorem zeM.hand {k:Nat}{X:Cx}{e:Addr}(r:zel k X.A):zeM k (DL.hand X e).A:=⟨r.dp,r.un⟩
structure FnH (P:Program) (w:World) (K:W.Frag) (mg:Str->Option Value) (base:Heap) (k:Nat) (f:Addr) (fd:FuncData) (ps:List Str) (sp:Sp):Prop where
 len:∀ vs H Q E,sp vs H Q E->vs.length=ps.length
 run:∀ (A:Around) (outer:List PySem.Env) (s:Shared) (H:Hp) (args:Args) (us:List Value) (vs:List V) (Q:VK) (E:XK),zeM k A->zmC P w K mg base A outer s H->BindsTo s fd args (ps.zip us)->zbG vs us->sp vs H Q E ->
  codeAny (model P w) A (.call (.ref f) args) (CR CX0 outer P w H s Q E) s
theorem FnH.mono {P:Program}{w:World}{K:W.Frag}{mg:Str->Option Value}{base:Heap}{j k:Nat}{f:Addr}{fd:FuncData}{ps:List Str}{sp:Sp}(F:FnH P w K mg base j f fd ps sp)(h:j<=k):FnH P w K mg base k f fd ps sp :=
 ⟨F.len,fun A outer s H args us vs Q E hr=>F.run A outer s H args us vs Q E (hr.mono h)⟩
theorem FnH.ok {P:Program}{w:World}{K:W.Frag}{mg:Str->Option Value}{base:Heap}{k:Nat}{f:Addr}{fd:FuncData}{ps:List Str}{sp:Sp}(F:FnH P w K mg base k f fd ps sp):FnOk P w K mg base CX0 k f fd ps sp :=
 ⟨F.len,fun A outer s H args us vs Q E hr=>F.run A outer s H args us vs Q E (zel.h hr)⟩
def zmc (P:Program)(w:World)(K:W.Frag)(mg:Str->Option Value)(base:Heap)(N:List Str)(qual:Str)(scope:Scope)(f:Addr)(cd:Value)(A:Around)(outer:List PySem.Env)(s:Shared)(H:Hp):Cx :=
 { zdX CX0 P w K mg base N qual scope f cd A outer s H E0 with calm:=false,xe:=fun _ _=>False }
theorem zkt {P:Program}{w:World}{K:W.Frag}{mg:Str->Option Value}{base:Heap}{N ps:List Str}{qual:Str}{scope:Scope}{f:Addr}{cd:Value}{A:Around}{outer:List PySem.Env}{s s1:Shared}{H:Hp}{us:List Value}{vs:List V}
  (S:zaC N ps scope)(e0:zmC P w K mg base A outer s H)(hl:vs.length=ps.length)(r:zbG vs us)
  (x:InCallC s s.heap.objs.size (bindL (envOfC qual scope s.heap.objs.size f cd).kindOf (ps.zip us) fun _=>none) (cellsFrom (s.heap.objs.size+1) scope.names []) (bindC (envOfC qual scope s.heap.objs.size f cd).kindOf (ps.zip us) fun _=>none) s1) :
  Inv (zmc P w K mg base N qual scope f cd A outer s H) [] (start N vs) H s1:=by
 have e1:zmC P w K mg base { A with handled:=none } outer s H:=⟨e0.frames,e0.mod,e0.bs,e0.bsz,e0.funs,e0.frf,e0.hok,e0.bare⟩
 have I:Inv (zdX CX0 P w K mg base N qual scope f cd { A with handled:=none } outer s H E0) [] (start N vs) H s1:=zij S rfl e1 hl r x
 have ok:=I.ok
 exact⟨⟨ok.mod,ok.kind,ok.glob,ok.blt,ok.above,ok.inj,ok.has,ok.cab,fun z=>Bool.noConfusion z,Around.frames_deeper e0.frames,ok.stk,ok.exf,ok.bs,ok.bsz,ok.noex,ok.exfs,ok.funs,ok.frf⟩,I.os,I.bare,I.base,I.loc,I.cell,I.free,I.freeC,I.pin,I.hok,I.len⟩
theorem zq7 {P:Program}{w:World}{K:W.Frag}{mg:Str->Option Value}{base:Heap}{k:Nat}{f:Addr}{name qual:Str}{params:Arguments}{body:List Stmt}{scope:Scope}{dV kV doc pm cdv ct oc:Value}{an od:Option Addr}
  {osl:Array (Option Value)}{N ps:List Str}{sp:Sp}(lk:K.lookup f=some ⟨oc,od,.func (W.fnOf name qual params body scope dV kV doc pm an cdv ct),osl⟩) (hcd:W.codeIn K cdv qual=true) (S:zaC N ps scope)
  (len:∀ vs H Q E,sp vs H Q E->vs.length=ps.length)
  (hbody:∀ (A:Around) (outer:List PySem.Env) (s:Shared) (H:Hp) (vs:List V) (Q:VK) (E:XK),zeM k (A.deeper (envOfC qual scope s.heap.objs.size f cdv))->sp vs H Q E ->
   ∃ t,PSs (zmc P w K mg base N qual scope f cdv A outer s H) body t/\t { nx:=fun _ H'=>Q .non H',rt:=Q } (start N vs) H) :
  FnH P w K mg base (k+1) f (W.fnOf name qual params body scope dV kV doc pm an cdv ct) ps sp:=by
 refine⟨len,fun A outer s H args us vs Q E hr e0 hb r hsp=>?_⟩
 have hl:=len _ _ _ _ hsp
 have KX:K.In s.heap:=e0.mod.kin.keeps fun b o e=>(e0.bs b o e).1
 have lim:s.heap.NoLimit:=e0.mod.nolimit.keeps fun b o e=>(e0.bs b o e).1
 have hkind:∀ y∈ps.zip us,scope.names.lookup y.1=some .local ∨ (scope.names.lookup y.1=some .cell/\((cellsFrom (s.heap.objs.size+1) scope.names []).lookup y.1).isSome=true):=fun⟨n,v⟩ hy=>by
  rcases S.par n (List.of_mem_zip hy).1 with q | q
  ·exact .inl q
  ·exact .inr ⟨q,W.cellsFrom_some _ _ _ (.inl q)⟩
 refine codeAny_call_function (by have:=hr.dp;omega) (KX _ _ lk) rfl S.co S.gen rfl (W.codeRec_of KX hcd) (hb _ _ _ _ ?_)
 refine wpAny_newFunctionEnv_cells S.kind hkind fun env he s1 x=>?_
 subst he
 refine⟨lim.keeps x.toInCall.keep,codeAny_func ?_⟩
 obtain⟨t,ht,hq⟩:=hbody A outer s H vs Q E (hr.deeper _) hsp
 have I:Inv (zmc P w K mg base N qual scope f cdv A outer s H) [] (start N vs) H s1:=zkt S e0 hl r x
 refine wpAny_mono (ht [] s1 (start N vs) H _ I hq) (fun fl s' hs=>?_) fun e s' hs=>False.elim hs
 have fin:∀ {σ':L2.St}{H':Hp}{v:V}{u:Value},Inv (zmc P w K mg base N qual scope f cdv A outer s H) [] σ' H' s'->zbB v u->Q v H'->CE outer P w H s Q u s' :=
  fun {σ' H' v u} J rv q=>⟨v,H',J.os,J.bare,J.base,J.hok,rv,q⟩
 cases fl with
 | ret u =>
  obtain⟨v,σ',H',J,rv,q⟩:=hs
  exact fin J rv q
 | next =>
  obtain⟨σ',H',J,q⟩:=hs
  exact fin (v:=V.non) (u:=Value.none) J rfl q
 | brk =>
  obtain⟨_,_,_,q⟩:=hs
  exact False.elim q
 | cont =>
  obtain⟨_,_,_,q⟩:=hs
  exact False.elim q
theorem zkw {P:Program}{w:World}{K:W.Frag}{mg:Str->Option Value}{base:Heap}{x qual:Str}{st:Stmt}{f:Addr}{fd:FuncData}{N ps:List Str}{k:Nat}{s:Ev->Res Fl}(F:Fun K x qual st f fd)(S:zaC N ps (defScope st))
  (hbody:∀ (cdv:Value) (A:Around) (outer:List PySem.Env) (s0:Shared) (H H₀:Hp) (E:XK),zeM k (A.deeper (envOfC qual (defScope st) s0.heap.objs.size f cdv)) ->
   DSs (zmc P w K mg base N qual (defScope st) f cdv A outer s0 H) E H H₀ (defBody st) s):FnH P w K mg base (k+1) f fd ps (spD K ps.length (zdm N.length s)):=by
 have hpl:ps.length<=N.length:=by have:=congrArg List.length S.pre;rw[List.length_take] at this;omega
 obtain⟨oc,od,kV,doc,pm,an,cdv,ct,osl,rfl,lk,hcd⟩:=F.ex
 refine zq7 lk hcd S (fun vs H Q E h=>h.1) fun A outer s0 H vs Q E hr h=>?_
 obtain⟨hn,H₀,ds,hs,hv,q⟩:=h
 refine⟨_,(hbody cdv A outer s0 H H₀ E hr).o,H₀,ds.map Sl.sh++List.replicate (N.length-ds.length) .no,?_,?_⟩
 ·refine⟨zbh.refl hs,zee hv,fun i d e=>?_,fun i j d d' hij e=>?_,?_,OX.none zfC⟩
  ·by_cases hi:i < ds.length
   ·rw[List.getElem?_append_left (by simpa using hi),List.getElem?_map] at e
    cases q:ds[i]? with
    | none=>rw[q] at e;cases e
    | some d'=>rw[q] at e;cases e
   ·rw[List.getElem?_append_right (by simpa using hi),List.getElem?_replicate] at e
    split at e<;>cases e
  ·by_cases hi:i < ds.length
   ·rw[List.getElem?_append_left (by simpa using hi),List.getElem?_map] at e
    cases q:ds[i]? with
    | none=>rw[q] at e;cases e
    | some d'=>rw[q] at e;cases e
   ·rw[List.getElem?_append_right (by simpa using hi),List.getElem?_replicate] at e
    split at e<;>cases e
  ·unfold L2.start
   have:=hv.length
   simp only[List.length_append,List.length_map,List.length_replicate]
   omega
 ·unfold zdm at q
  cases e1:s (ds.map Sl.sh++List.replicate (N.length-ds.length) .no) with
  | stuck=>rw[e1] at q;exact q
  | exn x=>rw[e1] at q;exact q
  | ok r =>
   rw[e1] at q
   cases r with
   | nx ρ'=>exact fun σ' H' H₀' _ h'=>q .non H' H₀' h'.g (Rep.non_iff.mpr rfl)
   | rt d=>exact fun v H' H₀' g rp=>q v H' H₀' g rp
   | bk ρ'=>exact q.elim
   | ct ρ'=>exact q.elim
section
variable {X:Cx}{E:XK}{e a:Expr}{es:List Expr}{f:Ev->Res D}{fa:Ev->Res (List D)}{pos:Pos}
theorem znF {k n:Nat}{fn:Addr}{fd:FuncData}{ps:List Str}{m:List D->Res D}{x:Str}{p:Pos}(F:FnH X.prog X.w X.K X.mg X.base k fn fd ps (spD X.K n m))(hr:zeM k X.A)(hg:Gl X x)(hm:X.mg x=some (.ref fn))
  (hk:W.keepIn X.K (.ref fn)=true)(hb:zbE X.K fd ps [])(ha:DA X E (e::es) fa)(hn:(e::es).length=n:=by rfl)(hl:∀ ρ ds,fa ρ=.ok ds->ds.length=(e::es).length)
  (hdb:(x==("__debug__" : Str))=false:=by decide)(he:starEach (e::es) X.env=(false,eval e X.env)::starEach es X.env:=by exact zaw rfl)(hpl:(backTo pos (starEach es X.env)).any (·.1)=false:=by exact zaY rfl) :
  DE X E (.Call (.Name x p) (e::es) [] pos) (zak fa m):=by
 refine⟨?_⟩
 intro pins s σ H Q I ⟨H₀,ρ,hs,hrd,q⟩
 refine wpAny_Call_Name_kw (zdw I hg hm ?_ hdb)
 have h2:tDA X.K E fa σ H (fun vs H1=>spD X.K n m vs H1 Q E):=by
  refine⟨H₀,ρ,hs,hrd,?_⟩
  unfold zak at q
  cases e1:fa ρ with
  | stuck=>rw[e1] at q;exact q
  | exn x=>rw[e1] at q;exact q
  | ok ds =>
   rw[e1] at q
   intro v H1 H01 g1 r1
   refine⟨?_,H01,ds,g1.sub,r1,post.grow (r:=m ds) q g1⟩
   have:=r1.length
   have:=hl ρ ds e1
   omega
 refine W.callWith_K (h₀:=X.base) I.ok.mod.kin hk (thn (ha.o pos pins s σ H _ I h2) fun us s1 ⟨vs,H1,I1,r,q⟩=>⟨I1.kIn,?_⟩) he hpl
 have hl2:us.length=ps.length:=by rw[← r.length];exact F.len _ _ _ _ q
 have hb1:=hb s1 us I1.kIn (by simpa using hl2)
 rw[List.append_nil] at hb1
 refine wpAny_call (codeAny_mono (F.run X.A X.stack s1 H1 ⟨us,[]⟩ us vs Q E hr I1.env0 hb1 r q) fun r s' hq=>?_)
 cases r with
 | error e=>exact False.elim hq
 | ok fl =>
  cases fl with
  | ret u=>exact I1.after hq
  | next=>exact False.elim hq
  | brk=>exact False.elim hq
  | cont=>exact False.elim hq
end
def zma (tab:Str->Option Bool)(x:D):Res D:=match x with
 | .exc c=>(match tab c with
  | some b=>.ok (.bl b)
  | none=>.stuck)
 | .ob (.exf c _) _=>(match tab c with
  | some b=>.ok (.bl b)
  | none=>.stuck)
 | _=>.stuck
def zkJ (K:W.Frag)(tab:Str->Option Bool)(cv:Value):Prop:=∀ c C b,tab c=some b->XC K c C->W.kitOne K (.ref C) cv=some b
section
variable {X:Cx}{E:XK}{e a:Expr}{es:List Expr}{f:Ev->Res D}{pos:Pos}{tab:Str->Option Bool}
theorem zo7 {cV:V}{cv:Value}(hrel:∀ u,zbB cV u->u=cv)(ht:zkJ X.K tab cv):zfs X (.builtin "isinstance") (fun vs H Q=>∃ c v b,vs=[v,cV]/\Rep X.K H (.exc c) v/\tab c=some b/\Q (.bl b) H):=by
 intro pins s σ H xs us Q I r h
 obtain⟨c,v,b,rfl,h1,h2,q⟩:=h
 cases r with
 | cons r1 r2 =>
  cases r2 with
  | cons r3 r4 =>
   cases r4
   rename_i u1 u2
   obtain rfl:=hrel _ r3
   obtain⟨ad,C,dc,rfl,hc,hr⟩:=Rep.exc_iff.mp h1
   cases (show u1=Value.ref ad from r1)
   obtain⟨p,_,_⟩:=hr.ok I.hok
   exact W.kia_one (zha hc.ek hc.ek.isCls) I.kIn p (ht c C b h2 hc) (fun z=>nomatch z) fun tk=>⟨.bl b,H,I.tok _,rfl,q⟩
theorem zni {cV:V}{σ:L2.St}{H:Hp}{Q:VK}(h:tD X.K E (zbr f (zma tab)) σ H Q):tD X.K E f σ H fun v H1=>∃ c v' b,[v,cV]=[v',cV]/\Rep X.K H1 (.exc c) v'/\tab c=some b/\Q (.bl b) H1:=by
 obtain⟨H₀,ρ,hs,hr,q⟩:=h
 refine⟨H₀,ρ,hs,hr,?_⟩
 unfold zbr at q
 cases e1:f ρ with
 | stuck=>rw[e1] at q;exact q
 | exn x=>rw[e1] at q;exact q
 | ok d =>
  rw[e1] at q
  intro v H1 H01 g1 r1
  have q:post X.K E H H₀ (zma tab d) Q:=q
  cases d with
  | exc c =>
   unfold zma at q
   cases e2:tab c with
   | none=>simp only[e2] at q;exact q.elim
   | some b=>simp only[e2] at q;exact⟨c,v,b,rfl,r1.mono g1.sub,e2,q _ H1 H01 g1 (rb _)⟩
  | ob k ds =>
   cases k with
   | exf c ks =>
    replace r1:=r1.exf_exc
    unfold zma at q
    cases e2:tab c with
    | none=>simp only[e2] at q;exact q.elim
    | some b=>simp only[e2] at q;exact⟨c,v,b,rfl,r1.mono g1.sub,e2,q _ H1 H01 g1 (rb _)⟩
   | _=>exact q.elim
  | _=>exact q.elim
theorem zoc {x:Str}{p1 p2:Pos}{cV:V}{cv:Value}(hrel:∀ u,zbB cV u->u=cv)(ht:zkJ X.K tab cv)(hc:PE X (.Name x p2) (tC cV))(hgi:Gl X "isinstance")(hmi:X.mg "isinstance"=none)(ha:DE X E a f)
  (he:starEach [a,.Name x p2] X.env=(false,eval a X.env)::starEach [.Name x p2] X.env:=by exact zaw rfl)(he2:starEach [.Name x p2] X.env=(false,eval (.Name x p2) X.env)::starEach [] X.env:=by exact zaw rfl)(hpl:(backTo pos (starEach [.Name x p2] X.env)).any (·.1)=false:=by exact zaY rfl) :
  DE X E (.Call (.Name "isinstance" p1) [a,.Name x p2] [] pos) (zbr f (zma tab)):=by
 refine⟨?_⟩
 exact zaP (zg1 (zo7 hrel ht) hgi hmi PyProof.Rows.Boot.«isinstance» (zc0 ha.o (zc0 hc zfJ he2) he) (by decide) (by decide) he hpl) fun σ H Q h=>zni h
theorem zl6 {x:Str}{p1 p2:Pos}{C:Addr}(hg:Gl X x)(hm:X.mg x=some (.ref C))(ht:zkJ X.K tab (.ref C))(hgi:Gl X "isinstance")(hmi:X.mg "isinstance"=none)(ha:DE X E a f)(hdb:(x==("__debug__" : Str))=false:=by decide)
  (he:starEach [a,.Name x p2] X.env=(false,eval a X.env)::starEach [.Name x p2] X.env:=by exact zaw rfl):DE X E (.Call (.Name "isinstance" p1) [a,.Name x p2] [] pos) (zbr f (zma tab)) :=
 zoc (cV:=.ref C) (fun u h=>h) ht (zln hg hm rfl hdb) hgi hmi ha he
theorem zl7 {x:Str}{p1 p2:Pos}{T:String}(hg:Gl X x)(hm:X.mg x=none)(hv:bootBuiltins x=some (.type T))(ht:zkJ X.K tab (.type T))(hgi:Gl X "isinstance")(hmi:X.mg "isinstance"=none)(ha:DE X E a f)(hn:x≠"__name__":=by decide)(hdb:(x==("__debug__" : Str))=false:=by decide)
  (he:starEach [a,.Name x p2] X.env=(false,eval a X.env)::starEach [.Name x p2] X.env:=by exact zaw rfl):DE X E (.Call (.Name "isinstance" p1) [a,.Name x p2] [] pos) (zbr f (zma tab)) :=
 zoc (cV:=.ty T) (fun u h=>h) ht (zlp hg hm hv rfl hn hdb) hgi hmi ha he
end
end DL
namespace DL
open PySem PySem.Spec PyProof.Rows L2 PySem.W
structure zkL (K:Frag) (x:Str) (C:Addr):Prop where
 ns:nsIn K mainGlobals x=some (some (.ref C))
 ty:typeIn K (.ref C)=some (.type "type")
 ob:mroIn K C (.type "object")=some true
 be:subIn K (.ref C) (.type "BaseException")=some true
theorem zkL.isCls {K:Frag}{x:Str}{C:Addr}(Z:zkL K x C):(clsIn K C).isSome=true:=by
 obtain⟨cd,a,b⟩:=Option.bind_eq_some_iff.mp Z.ob
 rw[a];rfl
theorem zkL.kitCls {K:Frag}{x:Str}{C:Addr}(Z:zkL K x C){t:Value}:W.kitCls K t (.ref C)=subIn K t (.ref C):=by
 show(if((clsIn K C).isSome&&typeIn K (.ref C)==some (.type "type"))=true then subIn K t (.ref C) else none)=_
 rw[Z.isCls,Z.ty];rfl
theorem zkL.exm {K:Frag}{x:Str}{C:Addr}(Z:zkL K x C){t:Value}{b:Bool}(h:subIn K t (.ref C)=some b):exmOne K t (.ref C)=some b:=by
 unfold exmOne
 rw[Z.be,if_pos (by decide),Z.kitCls,h]
theorem zkL.kit {K:Frag}{x:Str}{C R:Addr}(Z:zkL K x C){b:Bool}(hR:subIn K (.ref R) (.ref R)=some true)(h:subIn K (.ref R) (.ref C)=some b):kitOne K (.ref R) (.ref C)=some b:=by
 unfold kitOne
 by_cases e:(Value.ref R==Value.ref C)=true
 ·rw[if_pos e]
  cases (Value.ref.inj (beq_iff_eq.mp e))
  rw[← hR,h]
 ·rw[if_neg e,Z.kitCls,h]
theorem zjB {K:Frag}{C:Addr}{T:String}{b:Bool}(hm:kitMeta T=true)(h:subIn K (.ref C) (.type T)=some b):kitOne K (.ref C) (.type T)=some b:=by
 unfold kitOne
 rw[if_neg (by intro z;cases beq_iff_eq.mp z)]
 show(if kitMeta T=true then subIn K (.ref C) (.type T) else none)=_
 rw[if_pos hm,h]
theorem zfP:∀ T∈zdl,kitMeta T=true:=by decide +kernel
theorem zgv:kitMeta "ValueError"=true:=by decide +kernel
structure zpA (K:Frag) (x:Str) (C:Addr):Prop where
 i:zkL K x C
 cls:findIn K (.ref C) "__class__"=some (some (.builtin "object.__class__"))
 ga:findIn K (.ref C) "__getattribute__"=some (some (.builtin "BaseException.__getattribute__"))
 gt:findIn K (.ref C) "__getattr__"=some none
 t1:subIn K (.ref C) (.type "NoneType")=some false
 t2:subIn K (.ref C) (.type "bool")=some false
 t3:subIn K (.ref C) (.type "int")=some false
 t4:subIn K (.ref C) (.type "str")=some false
 t5:subIn K (.ref C) (.type "tuple")=some false
 t6:subIn K (.ref C) (.type "list")=some false
 t7:subIn K (.ref C) (.type "dict")=some false
 ve:subIn K (.ref C) (.type "ValueError")=some true
 self:subIn K (.ref C) (.ref C)=some true
 ex:excIn K C [.type "ValueError",.type "Exception",.type "BaseException",.type "object"] "ValueError.__new__"=true
theorem zpA.xcls {K:Frag}{x:Str}{C:Addr}(Z:zpA K x C):zrI K x C where
 xc:=⟨Z.i.ns,⟨Z.cls,Z.ga,Z.gt,Z.i.ob,Z.i.be⟩,fun T hT=>by
  refine zjB (zfP T hT) ?_
  simp only[zdl,List.mem_cons,List.not_mem_nil,or_false] at hT
  rcases hT with rfl | rfl | rfl | rfl | rfl | rfl | rfl
  ·exact Z.t1
  ·exact Z.t2
  ·exact Z.t3
  ·exact Z.t4
  ·exact Z.t5
  ·exact Z.t6
  ·exact Z.t7⟩
 ex:=Z.ex
theorem XC.inj {K:Frag}{x:Str}{C C':Addr}(a:XC K x C)(b:XC K x C'):C=C':=by
 have:=a.ns.symm.trans b.ns
 simpa using this
def ziS:List (Str×Bool)->Str->Option Bool
 | [],_=>none
 | (x,b)::r,c=>if x=c then some b else ziS r c
theorem zdn {K:Frag}{p:Str->Addr->Bool->Prop}:∀ {l:List (Str×Bool)},(∀ q∈l,∃ C,XC K q.1 C/\p q.1 C q.2)->∀ c C b,ziS l c=some b->XC K c C->p c C b
 | [],_,c,C,b,h,_=>by cases h
 | (x,v)::r,H,c,C,b,h,xc=>by
  unfold ziS at h
  by_cases e:x=c
  ·subst e
   rw[if_pos rfl] at h;cases h
   obtain⟨C',xc',q⟩:=H _ List.mem_cons_self
   obtain rfl:=XC.inj xc xc'
   exact q
  ·rw[if_neg e] at h
   exact zdn (fun q hq=>H q (List.mem_cons_of_mem _ hq)) c C b h xc
def zku (l:List (Str×Bool))(c:Str):Bool:=ziS l c==some true
theorem znl {K:Frag}{l:List (Str×Bool)}{cv:Value}(H:∀ q∈l,∃ C,XC K q.1 C/\exmOne K (.ref C) cv=some q.2):∀ x C,zku l x=true->XC K x C->exmOne K (.ref C) cv=some true:=fun x C h xc =>
 zdn (p:=fun _ C b=>exmOne K (.ref C) cv=some b) H x C true (by unfold zku at h;exact beq_iff_eq.mp h) xc
end DL
namespace DL
open PySem PySem.Spec PyProof.Rows L2
section
variable {X:Cx}{E:XK}{tg a b c:Expr}{f g:Ev->Res D}
end
section
variable {X:Cx}{pins:List (Addr×Obj)}{σ:L2.St}{H:Hp}{s:Shared}{h':Heap}
end
section
variable {X:Cx}{E:XK}{elts:List Expr}{k:Nat}{tp:Pos}{e a b:Expr}{f g:Ev->Res D}
def numbered (n:Nat):List D->List D
 | []=>[]
 | d::ds=>.tup [.int n,d]::numbered (n+1) ds
def ztw (f:Ev->Res D):Ev->Res (List D):=fun ρ=>(f ρ).bind fun d=>match d with
 | .lst ds=>.ok (numbered 0 ds)
 | _=>.stuck
end
section
variable {X:Cx}{E:XK}{elts:List Expr}{k:Nat}{tp:Pos}{e a b:Expr}{f g:Ev->Res D}
end
def ziJ (f:Str):List Str->List D->Option D
 | k::ks,d::ds=>if f=k then some d else ziJ f ks ds
 | _,_=>none
theorem zlP {K:W.Frag}{H:Hp}{f:Str}:∀ {ks:List Str}{ds:List D}{vs:List V}{d:D},ks.length=vs.length->Reps K H ds vs->ziJ f ks ds=some d->∃ v,(ks.zip vs).lookup f=some v/\Rep K H d v/\f∈ks
 | [],ds,vs,d,_,_,h=>by unfold ziJ at h;cases h
 | k::ks,[],vs,d,_,_,h=>by unfold ziJ at h;cases h
 | k::ks,x::ds,vs,d,hl,r,h=>by
  obtain⟨v,r',rfl,r1,r2⟩:=Reps.cons_iff.mp r
  unfold ziJ at h
  by_cases c:f=k
  ·rw[if_pos c] at h
   cases h
   exact⟨v,by rw[List.zip_cons_cons,List.lookup_cons,beq_iff_eq.mpr c],r1,by rw[c];exact List.mem_cons_self⟩
  ·rw[if_neg c] at h
   obtain⟨u,h1,h2,h3⟩:=zlP (by simpa using hl) r2 h
   exact⟨u,by rw[List.zip_cons_cons,List.lookup_cons,beq_eq_false_iff_ne.mpr c];exact h1,h2,List.mem_cons_of_mem _ h3⟩
def ztP (f:Str)(x:D):Res D:=match x with
 | .ob (.ins c ks) ds=>match ziJ f ks ds with
  | some d=>.ok d
  | none=>.stuck
 | _=>.stuck
section
variable {X:Cx}{E:XK}{e a b o:Expr}{es:List Expr}{fe fo:Ev->Res D}{fa:Ev->Res (List D)}{pos:Pos}
def putAll:List Str->List V->List (Str×V)->List (Str×V)
 | f::fs,v::vs,l=>putAll fs vs (zkg f v l)
 | _,_,l=>l
theorem zjw {f:Str}{v:V}:∀ {l:List (Str×V)},f∉l.map (·.1)->zkg f v l=l++[(f,v)]
 | [],_=>rfl
 | (k,x)::l,h=>by
  simp only[List.map_cons,List.mem_cons,not_or] at h
  unfold zkg
  rw[if_neg (fun z=>h.1 z.symm),zjw h.2]
  rfl
theorem zgo:∀ {fs:List Str}{vs:List V}{l:List (Str×V)},fs.Nodup->(∀ f∈fs,f∉l.map (·.1))->fs.length=vs.length->putAll fs vs l=l++fs.zip vs
 | [],[],l,_,_,_=>by simp [putAll]
 | [],v::vs,l,_,_,h=>by simp at h
 | f::fs,[],l,_,_,h=>by simp at h
 | f::fs,v::vs,l,nd,hn,h=>by
  rw[List.nodup_cons] at nd
  unfold putAll
  rw[zjw (hn f List.mem_cons_self),zgo nd.2 (fun g hg=>?_) (by simpa using h),List.zip_cons_cons,List.append_assoc]
  ·rfl
  ·simp only[List.map_append,List.map_cons,List.map_nil,List.mem_append,List.mem_singleton,not_or]
   exact⟨hn g (List.mem_cons_of_mem _ hg),fun z=>nd.1 (z▸hg)⟩
theorem zjq {H:Hp}{a:Addr}{o:HO}(h:H a=some o):upd H a o=H:=by
 funext b
 by_cases hb:b=a
 ·subst hb;rw[zap,h]
 ·rw[zao hb]
theorem zhX {H:Hp}{a:Addr}{o u:HO}:upd (upd H a o) a u=upd H a u:=by
 funext b
 by_cases hb:b=a
 ·subst hb;rw[zap,zap]
 ·rw[zao hb,zao hb,zao hb]
def ztF (c:Str)(ks:List Str)(ds:List D):Res D:=if ds.length=ks.length then .ok (.ob (.ins c ks) ds) else .stuck
def ztK (x:D)(ds:List D):Option Nat:=ds.findIdx? fun d=>eqD d x
def zmb (x y:D):Res D:=match x with
 | .lst ds=>if zbb 40 y=true/\ds.all (zbb 40)=true then match ztK y ds with
   | some j=>.ok (.int j)
   | none=>.stuck
  else .stuck
 | _=>.stuck
def zps (fo:Ev->Res D)(fe:Ev->Res D):Ev->Res D:=fun ρ=>(fo ρ).bind fun x=>match x with
 | .lst ds=>(fe ρ).bind fun y=>zmb (.lst ds) y
 | _=>.stuck
end
theorem zoZ {K:W.Frag}{C:Addr}:∀ f∈([]:List Str),zeN K C f:=fun _ h=>nomatch h
theorem znd {K:W.Frag}{C:Addr}{f:Str}{ks:List Str}(h:W.findIn K (.ref C) f=some none)(r:∀ f∈ks,zeN K C f):∀ g∈f::ks,zeN K C g:=fun g hg=>by
 rcases List.mem_cons.mp hg with rfl | hg
 ·exact h
 ·exact r g hg
section
variable {X:Cx}{E:XK}{He H0e:Hp}{e:Expr}{es:List Expr}{f:Ev->Res D}{fa:Ev->Res (List D)}{pos:Pos}
def aFr (f:Ev->Res D)(fa:Ev->Res (List D)):Ev->Res (List D):=fun ρ=>(f ρ).bind fun x=>match x with
 | .lst ds=>(fa ρ).bind fun xs=>.ok (.lst ds::xs)
 | _=>.stuck
def ztH:Sl->Bool
 | .ox _ _=>true
 | _=>false
def ztD (i:Nat)(ρ:Ev):Bool:=(ρ.set i .no).all fun s=>!(ztH s)
def zs5 (i j:Nat)(ρ:Ev)(ds:List D):Res Fl:=match ds[j]? with
 | some (.lst _)=>if ds.length<=line/\ztD i ρ=true then .ok (.nx (ρ.set i (.ox j ds))) else .stuck
 | _=>.stuck
def zr6 (i j:Nat)(fa:Ev->Res (List D)):Ev->Res Fl:=fun ρ=>(fa ρ).bind (zs5 i j ρ)
def zpt (i j:Nat)(ρ:Ev)(s:Option Sl):Res Fl:=match s with
 | some (.ox j' ds)=>if j'=j then .ok (.nx (ρ.set i (.ox j (ds.set j (.lst []))))) else .stuck
 | _=>.stuck
def zqa (i j:Nat):Ev->Res Fl:=fun ρ=>zpt i j ρ ρ[i]?
end
section
variable {X:Cx}{E:XK}{He H0e:Hp}{st:Stmt}{rest:List Stmt}{e:Expr}{es:List Expr}{f:Ev->Res D}{fa:Ev->Res (List D)}{s t:Ev->Res Fl}{pos:Pos}
end
section
variable {X:Cx}{E:XK}{He H0e:Hp}{e:Expr}{es:List Expr}{f:Ev->Res D}{fa:Ev->Res (List D)}{pos:Pos}
end
section
variable {X:Cx}{E:XK}{He H0e:Hp}{e a b:Expr}{es:List Expr}{f g:Ev->Res D}{fa:Ev->Res (List D)}{pos:Pos}
end
section
variable {X:Cx}{c e:Expr}{es:List Expr}{fc:Ev->Res D}{fa:Ev->Res (List D)}{ga gb:Ev->Res Fl}{sa sb:Stmt}{pos:Pos}
end
section
variable {X:Cx}{E:XK}{e a b o:Expr}{es:List Expr}{fe fo:Ev->Res D}{fa:Ev->Res (List D)}{pos:Pos}
end
section
variable {prog:Program}{w:World}{A:Around}{E:Value->Shared->Prop}{h:Heap}{g:Array GenState}{d:Drawn}{t:Nat}{os:OsState}
variable {nm q:Str}{C N:Addr}{bs bm bmB:List Value}{hdct:Bool}{sn:List Str}{sub:List Value}{ab:Bool}{col:Option Bool}{dd:Option Addr}{k0 k1 k2 k3 k5:Option Value}{B newId initId:String}{mN:Str->Option Value}{rest:List Value}{fI:Addr}{oI:Obj}
theorem zol {Q:Fin->Shared->Prop}(F:ExcBaseFacts B newId initId bmB)(T:OwnTail h bmB bm)(hC:h.get? C=some (excClassObj nm q C N bs bm hdct sn sub ab col dd k0 k1 k2 k3 k5 newId))(hn:h.Ns N mN)(hi:mN "__init__"=some (.ref fI))(hfI:h.get? fI=some oI)(hfc:oI.cls=.type "function")(hrest:rest.length<=sizeLine)
  (hq:∀ h' e,Heap.MadeExcOf h h' e (.ref C) rest->wpAny (model prog w) A (call (.ref fI) (.ref e::rest)) (fun r s'=>r=.none/\Q (.done (.ret (.ref e))) s') E ⟨h',g,d,t,os⟩):wpAny (model prog w) A (Builtin.«type.__call__» ⟨.ref C::rest,[]⟩) Q E ⟨h,g,d,t,os⟩:=by
 repeat (first | with_reducible refine wpAny_loadPart_at hC ?_ | with_reducible refine wpAny_madeBy_exc hC ?_ | wp_step)
 refine codeAny_call_builtin_code (Code.quiet_builtin _ F.quiet) (wpAny_check_new_subT F T hC (codeAny_exc_new_subT F T hC ?_ hrest))
 generalize hT0:({ cls:=.type "tuple",data:=.seq rest.toArray }:Obj)=o0
 generalize hX0:({ cls:=.ref C,data:=.fields #[.ref h.objs.size,.none,.none,.none,.bool false,.none] }:Obj)=o1
 have kp:∀ b o,h.get? b=some o->((h.push o0).push o1).get? b=some o:=fun b o hb=>Heap.get?_push_of_some o1 (Heap.get?_push_of_some o0 hb)
 have hget:((h.push o0).push o1).get? (h.objs.size+1)=some o1:=by subst hX0 hT0;heap_get
 have hc1:o1.cls=.ref C:=by subst hX0;rfl
 have hcC:(Value.ref C::bm).contains (.ref C)=true:=by simp
 show wpAny _ _ _ _ _ _
 unfold isInstance
 repeat (first | (with_reducible refine wpAny_loadPart_at hget ?_;try rw[hc1]) | (with_reducible refine wpAny_isSubtype_exc (kp _ _ hC) ?_;rw[hcC]) | wp_step)
 show wpAny _ _ (typeLookup (.ref C) _) _ _ _
 refine wpAny_typeLookup_tail (kp _ _ hC) (hn.keeps kp) (T.keeps kp) F.mroIs F.init.lookup ?_
 rw[hi]
 refine wpAny_holding (wpAny_bind (show wpAny _ _ (bindSpecial _ _) _ _ _ from ?_))
 unfold bindSpecial
 refine wpAny_bind (wpAny_typeOf (T:="function") ⟨_,kp _ _ hfI,hfc⟩ ?_);rw[if_pos (by decide)]
 refine wpAny_pure (wpAny_bind (wpAny_mono (hq _ (h.objs.size+1) ⟨kp,Heap.get?_none_of_le (Nat.le_succ _),h.objs.size,by rw[hX0];exact hget,Heap.get?_none_of_le (Nat.le_refl _),?_⟩) (fun r s' hr=>?_) fun _ _ x=>x))
 ·subst hT0;exact Heap.get?_push_of_some _ (Heap.get?_push_at rfl rfl)
 ·obtain⟨rfl,hQ⟩:=hr
  wp_walk
  exact hQ
theorem zoo {Q:Value->Shared->Prop}(F:ExcBaseFacts B newId initId bmB)(T:OwnTail h bmB bm)(hC:h.get? C=some (excClassObj nm q C N bs bm hdct sn sub ab col dd k0 k1 k2 k3 k5 newId))(hn:h.Ns N mN)(hi:mN "__init__"=some (.ref fI))(hfI:h.get? fI=some oI)(hfc:oI.cls=.type "function")(hrest:rest.length<=sizeLine)
  (hq:∀ h' e,Heap.MadeExcOf h h' e (.ref C) rest->wpAny (model prog w) (A.under (.builtin "type.__call__" ⟨.ref C::rest,[]⟩)) (call (.ref fI) (.ref e::rest)) (fun r s'=>r=.none/\Q (.ref e) s') E ⟨h',g,d,t,os⟩):wpAny (model prog w) A (call (.ref C) rest) Q E ⟨h,g,d,t,os⟩:=by
 have f1:=tc_lookup;have f2:=tc_bind (.ref C)
 have hT:(⟨h,g,d,t,os⟩:Shared).TypeIs (.ref C) "type":=⟨_,hC,rfl⟩
 refine wpAny_call (codeAny_of_tree (show wpAny _ _ (callAny (.ref C) _) _ _ _ from ?_))
 repeat (any_goals (first | assumption | with_reducible refine wpAny_loadPart_at hC ?_ | wp_step))
 exact⟨rfl,codeAny_call_builtin_at (Code.quiet_builtin _ (by decide +kernel)) entry_typeCall (wpAny_check_type_call_sub hC (zol F T hC hn hi hfI hfc hrest fun h' e hm=>hq h' e hm))⟩
end
section
variable {M:Model}{A:Around}{E:Value->Shared->Prop}{env:PySem.Env}
variable {nm q:Str}{C N:Addr}{bs bm:List Value}{hdct:Bool}{sn:List Str}{sub:List Value}{ab:Bool}{col:Option Bool}{dd:Option Addr}{k0 k1 k2 k3 k5:Option Value}{newId:String}
theorem zmD {s:Shared}{x:Sem Value}{Q:Flow->Shared->Prop}(hbase:bm.contains (.type "BaseException")=true)(hh:A.handled=none)
  (h:wpAny M A x (fun v s₁=>∃ e dc t,v=.ref e/\s₁.heap.get? C=some (excClassObj nm q C N bs bm hdct sn sub ab col dd k0 k1 k2 k3 k5 newId)/\s₁.heap.get? e=some ⟨.ref C,dc,.fields #[.ref t,.none,.none,.none,.bool false,.none],#[]⟩/\E (.ref e) s₁) E s):wpAny M A (raiseStmt env (some x) none) Q E s:=by
 have hcB:(Value.ref C::bm).contains (.type "BaseException")=true:=by rw[List.contains_cons,hbase,Bool.or_true]
 unfold raiseStmt
 refine wpAny_bind (wpAny_mono h (fun v s₁ ⟨e,dc,t,hv,hC,he,hE⟩=>?_) fun _ _ x=>x)
 subst hv
 obtain⟨hp,g,d,tk,os⟩:=s₁
 repeat (first | with_reducible refine wpAny_loadPart_at he ?_ | with_reducible refine wpAny_loadPart_at hC ?_ | (with_reducible refine wpAny_isSubtype_exc hC ?_;rw[hcB]) | wp_step)
 exact wpAny_raiseNew_none hh hE
end
def ze7:List Value->Bool
 | .ref _::r=>ze7 r
 | l=>l==[.type "ValueError",.type "Exception",.type "BaseException",.type "object"]
theorem zh2 (self:Value):∀ {l:List Value},ze7 l=true->refuseLoop self "__setattr__" l=pure ()
 | [],e=>by cases e
 | x::r,e=>by
  cases x with
  | ref c=>rw[refuseLoop_ref];exact zh2 self (l:=r) (by unfold ze7 at e;exact e)
  | _=>unfold ze7 at e;rw[beq_iff_eq.mp e];exact PySem.F.store_ValueError.passes self
theorem znN:∀ {l:List Value},ze7 l=true->l.contains (.type "object")=true
 | [],e=>by cases e
 | x::r,e=>by
  cases x with
  | ref c=>rw[List.contains_cons,znN (l:=r) (by unfold ze7 at e;exact e),Bool.or_true]
  | _=>unfold ze7 at e;rw[beq_iff_eq.mp e];decide
structure XSt (K:W.Frag) (C:Addr) (ks:List Str):Prop where
 sa:W.findIn K (.ref C) "__setattr__"=some (some (.builtin "object.__setattr__"))
 hd:W.hasDictIn K C=true
 mr:(W.clsIn K C).any (fun cd=>ze7 cd.mro)=true
 no:∀ f∈ks,zeN K C f
section
variable {prog:Program}{w:World}{A:Around}{K:W.Frag}{C x:Addr}{s:Shared}{R:Result->Shared->Prop}
theorem zon {ox:Obj}{od:Option Obj}{name:Str}{tk:Tok}{v:Value}{ks:List Str}(X:K.In s.heap)(I:W.InstAt s.heap x ox C od)(c:XSt K C ks)(hf:name∈ks)
  (h:∀ b,wpAny (model prog w) A.in1 (Builtin.ObjectAttr.storeInOwnDict (.ref x) (.ref C) (.str name tk) name v b) (fun fin s'=>match fin with | .done f=>R (.ok f) s' | .again c'=>c'.quiet=true/\codeAny (model prog w) A c' R s') (fun e s'=>R (.error e) s') s) :
  codeAny (model prog w) A (.call (.builtin "object.__setattr__") ⟨[.ref x,.str name tk,v],[]⟩) R s:=by
 have SF:=PySem.F.store_object
 obtain⟨cd,hc,ho⟩:=W.any_some c.mr
 have ne:cd.mro.isEmpty=false:=by cases q:cd.mro with | nil=>rw[q] at ho;cases ho | cons _ _=>rfl
 have sub:W.Looks (model prog w) s.heap (isInstance (.ref x) (.type "object")) true:=I.type.andThen (W.looks_mroIn X (by unfold W.mroIn;rw[hc,Option.bind_some,if_neg (by rw[ne];decide),znN ho]))
 refine codeAny_call_builtin SF.slot.plain SF.entry (@W.check_slot (model prog w) _ _ s "object.__setattr__" "object" "__setattr__" (.ref x) [.str name tk,v] [] _ SF.kind SF.split sub (SF.args (.ref x) (.str name tk) v) ?_)
 have hm:W.Looks (model prog w) s.heap (mroOf (.ref C)) cd.mro:=(W.looks_clsIn X hc).andThen .now
 rw[W.osa_eq,refuse_eq]
 refine wpAny_bind (wpAny_bind (I.type.here (wpAny_bind (hm.here ?_))));rw[zh2 _ ho];refine wpAny_pure ?_
 have L3:W.Looks (model prog w) s.heap (Builtin.ObjectAttr.storeTaker? none) none:=.now
 have L2:W.Looks (model prog w) s.heap (typeLookup (.ref C) name) none:=W.looks_findIn X (c.no name hf)
 refine wpAny_bind (I.type.here (wpAny_bind (L2.here (wpAny_bind (L3.here ?_)))))
 exact h _
theorem zom {E:Value->Shared->Prop}{Q:Unit->Shared->Prop}{name:Str}{v:Value}{ks:List Str}{fs:Array Value}(X:K.In s.heap)(hx:s.heap.get? x=some ⟨.ref C,none,.fields fs,#[]⟩)(c:XSt K C ks)(hf:name∈ks)
  (h:∀ h',h'.get? x=some ⟨.ref C,some s.heap.objs.size,.fields fs,#[]⟩->h'.Ns1 s.heap.objs.size (fun y=>if y=name then some v else none)->(∀ b o,b≠x->s.heap.get? b=some o->h'.get? b=some o)->Q () { s with heap:=h',toks:=s.toks+2 }) :
  wpAny (model prog w) A (setAttr (.ref x) name v) Q E s:=by
 have J:W.InstAt s.heap x ⟨.ref C,none,.fields fs,#[]⟩ C none:=⟨hx,rfl,rfl,trivial⟩
 refine W.set_plain X J c.sa (zon (s:={ s with toks:=s.toks+1 }) X J c hf fun b=>?_)
 obtain⟨cd,hc,hd'⟩:=W.any_some c.hd
 refine wpAny_bind (wpAny_pure (wpAny_bind (wpAny_bind (wpAny_loadPart hx (wpAny_bind (W.Looks.here (s:={ s with toks:=s.toks+1 }) (W.looks_clsIn X hc) ?_))))))
 rw[hd']
 have hx₁:(s.heap.push W.emptyDict).get? x=some ⟨.ref C,none,.fields fs,#[]⟩:=Heap.get?_push_of_some _ hx
 have hxs:x≠s.heap.objs.size:=Nat.ne_of_lt (Heap.lt_size hx)
 have hgd:((s.heap.push W.emptyDict).update x fun o=>{ o with dict:=some s.heap.objs.size }).get? s.heap.objs.size=some W.emptyDict:=(Heap.get?_update_ne _ _ _ _ hxs.symm).trans (Heap.get?_push_at rfl rfl)
 have hnd:((s.heap.push W.emptyDict).update x fun o=>{ o with dict:=some s.heap.objs.size }).Ns s.heap.objs.size (fun _=>none):=⟨_,#[],_,hgd,rfl,fun e he=>absurd he (by simp),fun _=>rfl⟩
 have hx2:((s.heap.push W.emptyDict).update x fun o=>{ o with dict:=some s.heap.objs.size }).get? x=some ⟨.ref C,some s.heap.objs.size,.fields fs,#[]⟩:=Heap.get?_update_self _ hx₁ rfl
 refine wpAny_bind (wpAny_alloc' (wpAny_bind (wpAny_update' hx₁ (wpAny_pure ?_))))
 refine wpAny_bind (wpAny_pure (wpAny_bind (wpAny_nsSet1 (Heap.Ns1.of_empty hnd) fun h' hn' hs=>?_)))
 obtain⟨oD,esD,epD,hoD,hdD,hcD⟩:=hn'.count (PySem.Within.cons name v PySem.Within.nil)
 refine wpAny_bind (wpAny_lookBehind hoD (by rw[hdD];exact pastItsLine_dict (Nat.le_trans hcD (by rw[List.length_cons,List.length_nil,sizeLine_eq];omega))) (wpAny_pure (h h' ?_ hn' fun b o hb e=>?_)))
 ·exact(hs.2 x hxs).trans hx2
 ·exact(hs.2 b (Nat.ne_of_lt (Heap.lt_size e))).trans ((Heap.get?_update_ne _ _ _ _ hb).trans (Heap.get?_push_of_some _ e))
end
def ExN (a C:Addr)(dc:Option Addr)(h:Heap):Prop:=∃ t,h.get? a=some ⟨.ref C,dc,.fields #[.ref t,.none,.none,.none,.bool false,.none],#[]⟩
def XDs (a:Addr)(fs:List (Str×V))(h:Heap):Prop:=∃ mA,h.Ns1 a mA/\(∀ f,zok (fs.lookup f) (mA f))/\PySem.Within mA (fs.map (·.1))
theorem zhg {a C:Addr}{dc:Option Addr}:∀ h1 h2:Heap,ExN a C dc h1->(∀ o,h1.get? a=some o->h2.get? a=some o)->ExN a C dc h2:=fun _ _ ⟨t,e⟩ k=>⟨t,k _ e⟩
theorem zmG {a:Addr}{fs:List (Str×V)}:∀ h1 h2:Heap,XDs a fs h1->(∀ o,h1.get? a=some o->h2.get? a=some o)->XDs a fs h2:=fun _ _ ⟨m,n,r⟩ k=>⟨m,n.at k,r⟩
theorem zkP {a:Addr}{fs:List (Str×V)}{h:Heap}(x:XDs a fs h):∃ o,h.get? a=some o:=let ⟨_,⟨o,_,_,e,_⟩,_⟩:=x;⟨o,e⟩
theorem zoq {a:Addr}{fs:List (Str×V)}{h:Heap}{mA:Str->Option Value}{f:Str}{y:V}{u:Value}(ry:zbB y u)(r:∀ f,zok (fs.lookup f) (mA f))(wi:PySem.Within mA (fs.map (·.1)))(n:h.Ns1 a (fun z=>if z=f then some u else mA z)):XDs a (zkg f y fs) h:=by
 refine⟨_,n,fun g=>?_,fun g hg=>?_⟩
 ·rw[zfM]
  by_cases q:g=f
  ·rw[if_pos q];simp only[if_pos q];exact ry
  ·rw[if_neg q];simp only[if_neg q];exact r g
 ·by_cases q:g=f
  ·rw[q];exact(zfQ f y fs).1
  ·exact(zfQ f y fs).2 g (wi g fun z=>hg (by simp only[if_neg q];exact z))
section
variable {X:Cx}{o value:Expr}{f:Str}{pos pos':Pos}{ta tv:TE}
def sX1 (K:W.Frag)(ta tv:TE)(f:Str):TS:=fun D σ H=>tv σ H fun y H1=>ta σ H1 fun x H2=>∃ a C ks,x=.ref a/\H2 a=some (.ext (ExN a C none))/\XSt K C ks/\f∈ks/\∀ dx,H2 dx=none->D.nx σ (upd (upd H2 a (.ext (ExN a C (some dx)))) dx (.ext (XDs dx [(f,y)])))
theorem zsf (ha:PE X o ta)(hv:PE X value tv)(hs:swapsWith value (some (.Attribute o f pos')) pos.line X.env=pure false):PS X (.Assign [.Attribute o f pos'] value pos) (sX1 X.K ta tv f):=by
 intro pins s σ H D I h
 refine plainObj_wpAny_Assign_Attribute (thn (hv pins s σ H _ I h) fun u s1 ⟨y,H1,I1,ry,q⟩=>thn (ha pins s1 σ H1 _ I1 q) fun ov s2 ⟨x,H2,I2,rx,a,C,ks,ex,ea,c,hf,q2⟩=>?_) hs
 subst ex
 obtain rfl:ov=Value.ref a:=rx
 obtain⟨⟨t,hx⟩,_,_⟩:=(show zbU X.prog X.w H2 s2.heap a (.ext _) from I2.hok a _ ea)
 have fr:H2 s2.heap.objs.size=none:=I2.hok.fresh (Nat.le_refl _)
 have hne:s2.heap.objs.size≠a:=fun z=>Nat.lt_irrefl _ (z▸Heap.lt_size hx)
 refine zom I2.kIn hx c hf fun h' e' n' k'=>⟨σ,_,?_,q2 s2.heap.objs.size fr⟩
 have p:XDs s2.heap.objs.size [(f,y)] h':=zoq (fs:=[]) (mA:=fun _=>none) ry (fun _=>True.intro) (fun _ z=>absurd rfl z) n'
 have mu:Mut (H2 a):=by rw[ea];exact True.intro
 have fr':(upd H2 a (.ext (ExN a C (some s2.heap.objs.size)))) s2.heap.objs.size=none:=by rw[zao hne];exact fr
 exact I2.un (Un.ext (Un.write mu (.inl rfl) (fun b q hb z=>k' b q hb z) ⟨_,e'⟩) fr' (Heap.get?_none_of_le (Nat.le_refl _))) (HOk.ext (I2.hok.write (o':=.ext (ExN a C (some s2.heap.objs.size))) mu (.inl rfl) (fun b q hb z=>k' b q hb z) ⟨_,e'⟩ ⟨⟨t,e'⟩,⟨_,e'⟩,zhg⟩) fr' p (zkP p) zmG)
end
def zrQ (is:List Nat):TA:=fun σ H Q=>∃ vs,is.map (fun i=>σ[i]?)=vs.map (fun v=>some (some v))/\Q vs H
structure PV (X:Cx) (es:List Expr) (is:List Nat):Prop where
 o:PA X es (zrQ is)
section
variable {X:Cx}
theorem zqh:PV X [] []:=⟨fun pos pins s σ H Q I ⟨vs,e,h⟩=>by
 cases vs with
 | nil=>exact zfJ pos pins s σ H Q I h
 | cons v vs=>simp at e⟩
theorem zlc {es:List Expr}{is:List Nat}{i:Nat}{y:Str}{p:Pos}(hN:X.N[i]?=some y)(hv:Vis X.env.scope y)(h:PV X es is)(hd:(y==("__debug__" : Str))=false:=by decide)(hcd:(y==("__classdict__" : Str))=false:=by decide):PV X (.Name y p::es) (i::is) :=
 ⟨fun pos pins s σ H Q I ⟨vs,e,q⟩=>by
  cases vs with
  | nil=>simp at e
  | cons v vs =>
   simp only[List.map_cons,List.cons.injEq] at e
   exact zc0 (zh8 hN hv hd hcd) h.o (zaw rfl) pos pins s σ H Q I ⟨v,e.1,vs,e.2,q⟩⟩
structure zpB (K:W.Frag) (CE:Addr):Prop where
 rd:W.readsIn K CE (.type "type")=true
 fc:W.findCls K (.ref CE) (.type "type") "__init__"=some (.val (.builtin "ValueError.__init__"))
 sp:W.specialIn K (.ref CE) "__getattribute__"=some (some (.builtin "type.__getattribute__"))
structure XIn (K:W.Frag) (C fn:Addr):Prop where
 ex:∃ CE nm q N bs hdct sn sub ab col dd k0 k1 k2 k3 k5,K.lookup C=some (excClassObj nm q C N bs [.ref CE,.type "ValueError",.type "Exception",.type "BaseException",.type "object"] hdct sn sub ab col dd k0 k1 k2 k3 k5 "ValueError.__new__")/\W.nsOkIn K N=true/\W.nsIn K N "__init__"=some (some (.ref fn)) /\
  W.excIn K CE [.type "ValueError",.type "Exception",.type "BaseException",.type "object"] "ValueError.__new__"=true
theorem zoY {K:W.Frag}{h:Heap}{N:Addr}{mg:Str->Option Value}{n:Str}{v:Value}(X:K.In h)(G:h.Ns N mg)(e:W.nsIn K N n=some (some v)):mg n=some v:=by
 obtain⟨o,es,ep,ho,hd,_,hf⟩:=G
 unfold W.nsIn at e
 split at e
 ·rename_i c d es' n' sl q
  have:=X _ _ q
  rw[ho] at this;cases this
  cases hd
  split at e
  ·rename_i en he
   rw[← hf];unfold nsFind findBy
   rw[← Array.find?_toList,he]
   simpa using e
  ·split at e<;>cases e
 ·cases e
structure ztR (h:Heap) (C fn:Addr):Prop where
 ex:∃ bm N nm q bs hdct sn sub ab col dd k0 k1 k2 k3 k5 mN,h.get? C=some (excClassObj nm q C N bs bm hdct sn sub ab col dd k0 k1 k2 k3 k5 "ValueError.__new__")/\h.Ns N mN/\mN "__init__"=some (.ref fn)/\OwnTail h [.type "ValueError",.type "Exception",.type "BaseException",.type "object"] bm
theorem zmI {K:W.Frag}{CE:Addr}{h:Heap}(X:K.In h)(q:W.excIn K CE [.type "ValueError",.type "Exception",.type "BaseException",.type "object"] "ValueError.__new__"=true):OwnTail h [.type "ValueError",.type "Exception",.type "BaseException",.type "object"] [.ref CE,.type "ValueError",.type "Exception",.type "BaseException",.type "object"]:=by
 unfold W.excIn at q
 split at q
 ·rename_i dd cd sl ho
  split at q
  ·simp only[Bool.and_eq_true,beq_iff_eq,Bool.not_eq_true'] at q
   obtain⟨⟨⟨⟨_,_⟩,_⟩,hok⟩,hni⟩:=q
   exact .own (X _ _ ho) (.of_isNs (W.isNs_of_in X hok)) (W.nsMap_none_of_in X hok hni) .base
  ·cases q
 ·cases q
theorem zkO {K:W.Frag}{C fn:Addr}{h:Heap}(X:K.In h)(q:XIn K C fn):ztR h C fn:=by
 obtain⟨CE,nm,qn,N,bs,hdct,sn,sub,ab,col,dd,k0,k1,k2,k3,k5,ho,hok,hi,he⟩:=q.ex
 exact⟨_,N,nm,qn,bs,hdct,sn,sub,ab,col,dd,k0,k1,k2,k3,k5,_,X _ _ ho,.of_isNs (W.isNs_of_in X hok),zoY X (.of_isNs (W.isNs_of_in X hok)) hi,zmI X he⟩
def sXI (K:W.Frag)(t:TA):TE:=fun σ H Q=>t σ H fun vs H1=>∃ a C rest fn,vs=.ref a::rest/\rest.length<=line/\H1 a=some (.ext (ExN a C none))/\XIn K C fn/\Q .non (upd H1 a (.ext (ExN a C none)))
theorem zsi {ce:Str}{CE:Addr}{np apos cpos:Pos}{e:Expr}{es:List Expr}{t:TA}{pl:Sem Bool}(b:zpB X.K CE)(hg:Gl X ce)(hm:X.mg ce=some (.ref CE))(ha:PA X (e::es) t)(hdb:(ce==("__debug__" : Str))=false:=by decide)
  (he:starEach (e::es) X.env=(false,eval e X.env)::starEach es X.env:=by exact zaw rfl)(hpl:(backTo cpos (starEach es X.env)).any (·.1)=false:=by exact zaY rfl)
  (ht:eval (.Call (.Attribute (.Name ce np) "__init__" apos) (e::es) [] cpos) X.env=(do
   let ov ← eval (.Name ce np) X.env
   standAt apos.atName
   let (f,first) ← holding [ov] (getMethod ov "__init__" pl)
   callWith cpos f first (backTo cpos (starEach (e::es) X.env)) (backToKw cpos (keywordEach [] X.env))):=by rfl) :
  PE X (.Call (.Attribute (.Name ce np) "__init__" apos) (e::es) [] cpos) (sXI X.K t):=by
 intro pins s σ H Q I h
 refine W.methodCall_KW (pl:=pl) (zdw I hg hm (W.method_cls I.kIn b.sp (W.cls_value I.kIn b.rd b.fc rfl ?_)) hdb) ht
 have I0:=I.tok (s.toks+1)
 have hA:=ha cpos pins _ σ H _ I0 h
 rw[he] at hA ⊢
 refine Calls.callWith_builtin (by show(false||(backTo cpos (starEach es X.env)).any (·.1))=false;rw[hpl];rfl) (Calls.evalArgs_plain (thn hA fun us s1 ⟨vs,H1,I1,r,a,C,rest,fn,ev,hl,ea,hx,q⟩=>?_))
 subst ev
 obtain⟨_,us',rfl,ra,r'⟩:∃ u us',us=u::us'/\zbB (.ref a) u/\zbG rest us':=by cases r with | cons r1 r2=>exact⟨_,_,rfl,r1,r2⟩
 obtain rfl:_=Value.ref a:=ra
 obtain⟨bm,N,nm,qn,bs,hdct,sn,sub,ab,col,dd,k0,k1,k2,k3,k5,mN,hC,hn,hi,T⟩:=(zkO I1.kIn hx).ex
 obtain⟨⟨t0,hae⟩,_,_⟩:=(show zbU X.prog X.w H1 s1.heap a (.ext _) from I1.hok a _ ea)
 have F:=PySem.F.excBase_ValueError
 have hz:us'.length<=sizeLine:=by rw[← r'.length];exact zcq hl
 obtain⟨hp,g,d,tk,os⟩:=s1
 refine wpAny_call (codeAny_call_builtin F.init.plain F.initEntry (wpAny_check_init_subT F T hC hae rfl ?_))
 wp_walk
 have mu:Mut (H1 a):=by rw[ea];exact True.intro
 have hne:a≠hp.objs.size:=Nat.ne_of_lt (Heap.lt_size hae)
 refine⟨.non,upd H1 a (.ext (ExN a C none)),I1.write (o:=.ext (ExN a C none)) (x:=a) (e:=a) mu (.inl rfl) (fun b u hb e=>(Heap.get?_update_other _ _ (Ne.symm hb)).trans (Heap.get?_push_of_some _ e)) ⟨_,Heap.get?_update_self _ (Heap.get?_push_of_some _ hae) rfl⟩ ⟨⟨hp.objs.size,?_⟩,⟨_,Heap.get?_update_self _ (Heap.get?_push_of_some _ hae) rfl⟩,zhg⟩,rfl,q⟩
 rw[Heap.get?_update_self _ (Heap.get?_push_of_some _ hae) rfl];rfl
end
section
variable {X:Cx}
def tXR (K:W.Frag)(fs:List Str)(is:List Nat):TS:=fun D σ H=>∃ a C dx l ks vs,σ[0]?=some (some (V.ref a))/\H a=some (.ext (ExN a C (some dx)))/\H dx=some (.ext (XDs dx l))/\dx≠a/\XSt K C ks/\(∀ f∈fs,f∈ks)/\l.length+fs.length < 1000/\fs.length=vs.length /\
 is.map (fun i=>σ[i]?)=vs.map (fun v=>some (some v))/\D.nx σ (upd H dx (.ext (XDs dx (putAll fs vs l))))
structure XR (X:Cx) (sts:List Stmt) (fs:List Str) (is:List Nat):Prop where
 o:PSs X sts (tXR X.K fs is)
theorem zpL:XR X [] [] []:=⟨zfu zld fun D σ H ⟨a,C,dx,l,ks,vs,h1,h2,h3,h4,h5,h6,h7,h8,h9,q⟩=>by
 cases vs with
 | nil=>unfold putAll at q;rw[zjq h3] at q;exact q
 | cons v vs=>simp at h8⟩
def tXB (K:W.Frag)(ks:List Str)(is:List Nat):TS:=fun D σ H=>∃ a C fn vs,σ[0]?=some (some (V.ref a))/\H a=some (.ext (ExN a C none))/\XSt K C ks/\XIn K C fn/\ks.length=vs.length/\ks.length<=60 /\
 is.map (fun i=>σ[i]?)=vs.map (fun v=>some (some v))/\∀ dx,H dx=none->D.nx σ (upd (upd H a (.ext (ExN a C (some dx)))) dx (.ext (XDs dx (putAll ks vs []))))
structure XB (X:Cx) (sts:List Stmt) (ks:List Str) (is:List Nat):Prop where
 o:PSs X sts (tXB X.K ks is)
theorem zrN {sts:List Stmt}{fs:List Str}{is:List Nat}{f:Str}{i:Nat}{x y ce:Str}{CE:Addr}{p1 p2 p3 pos np apos cpos spos sp0:Pos}{es:List Expr}{pl:Sem Bool}(b:zpB X.K CE)(hg:Gl X ce)(hm:X.mg ce=some (.ref CE))(hpv:PV X es (i::is))(hN:X.N[i]?=some y)(hN0:X.N[0]?=some x)(hv:Vis X.env.scope y)(hv0:Vis X.env.scope x)(h:XR X sts fs is)
  (hd:(y==("__debug__" : Str))=false:=by decide)(hcd:(y==("__classdict__" : Str))=false:=by decide)(hd0:(x==("__debug__" : Str))=false:=by decide)(hcd0:(x==("__classdict__" : Str))=false:=by decide)(hdb:(ce==("__debug__" : Str))=false:=by decide)
  (hs:swapsWith (.Name y p3) (some (.Attribute (.Name x p1) f p2)) pos.line X.env=pure false:=by rfl)(hs0:swapsWith (.Call (.Attribute (.Name ce np) "__init__" apos) (.Name x sp0::es) [] cpos) none spos.line X.env=pure false:=by rfl)(hpl:(backTo cpos (starEach es X.env)).any (·.1)=false:=by exact zaY rfl)
  (ht:eval (.Call (.Attribute (.Name ce np) "__init__" apos) (.Name x sp0::es) [] cpos) X.env=(do
   let ov ← eval (.Name ce np) X.env
   standAt apos.atName
   let (f,first) ← holding [ov] (getMethod ov "__init__" pl)
   callWith cpos f first (backTo cpos (starEach (.Name x sp0::es) X.env)) (backToKw cpos (keywordEach [] X.env))):=by rfl) :
  XB X (.Expr (.Call (.Attribute (.Name ce np) "__init__" apos) (.Name x sp0::es) [] cpos) spos::.Assign [.Attribute (.Name x p1) f p2] (.Name y p3) pos::sts) (f::fs) (i::is):=by
 refine⟨zfu (zg0 (zle (zsi b hg hm (zlc (p:=sp0) hN0 hv0 hpv hd0 hcd0).o hdb (zaw rfl) hpl ht) hs0) (zg0 (zsf (zh8 hN0 hv0 hd0 hcd0) (zh8 hN hv hd hcd) hs) h.o)) fun D σ H ⟨a,C,fn,vs,h1,h2,h3,h4,h5,h6,h7,q⟩=>?_⟩
 refine⟨.ref a::vs,(show σ[0]?::(i::is).map (fun i=>σ[i]?)=some (some (V.ref a))::vs.map (fun v=>some (some v)) by rw[h1,h7]),a,C,vs,fn,rfl,?_,h2,h4,?_⟩
 ·have:vs.length<=60:=by omega
  exact Nat.le_trans this (by decide)
 ·cases vs with
  | nil=>simp at h5
  | cons v vs =>
   simp only[List.map_cons,List.cons.injEq] at h7
   simp only[List.length_cons] at h5 h6
   rw[zjq h2]
   refine⟨v,h7.1,.ref a,h1,a,C,f::fs,rfl,h2,h3,List.mem_cons_self,fun dx hdx=>?_⟩
   have hne:dx≠a:=fun z=>by subst z;rw[h2] at hdx;cases hdx
   refine⟨a,C,dx,[(f,v)],f::fs,vs,h1,?_,zap,hne,h3,fun g hg=>List.mem_cons_of_mem _ hg,?_,by omega,h7.2,?_⟩
   ·rw[zao hne.symm,zap]
   ·simp only[List.length_cons,List.length_nil];omega
   ·rw[zhX]
    have:=q dx hdx
    unfold putAll at this
    exact this
end
def zry (K:W.Frag)(ks:List Str):Sp:=fun vs H Q _=>∃ a C fn args,vs=.ref a::args/\args.length=ks.length/\H a=some (.ext (ExN a C none))/\XSt K C ks/\XIn K C fn/\∀ dx,H dx=none->Q .non (upd (upd H a (.ext (ExN a C (some dx)))) dx (.ext (XDs dx (putAll ks args []))))
theorem zsB {P:Program}{w:World}{K:W.Frag}{mg:Str->Option Value}{base:Heap}{x qual:Str}{st:Stmt}{f:Addr}{fd:FuncData}{ps:List Str}{ks:List Str}(F:Fun K x qual st f fd)(S:zaC ps ps (defScope st))(hps:ps.length=ks.length+1)(hf:ks.length<=60)
  (hbody:∀ (cdv:Value) (A:Around) (outer:List PySem.Env) (s0:Shared) (H:Hp) (E:XK),XB (zdX CX0 P w K mg base ps qual (defScope st) f cdv A outer s0 H E).nox (defBody st) ks ((List.range ks.length).map (· + 1))):FnOk P w K mg base CX0 1 f fd ps (zry K ks):=by
 refine F.ok S (fun vs H Q E h=>?_) fun cdv A outer s0 H vs Q E hr h=>?_
 ·obtain⟨a,C,fn,args,rfl,hl,_⟩:=h
  simp [hl,hps]
 ·obtain⟨a,C,fn,args,rfl,hl,hH,hC,hn,q⟩:=h
  refine⟨_,(hbody cdv A outer s0 H E).o,a,C,fn,args,?_,hH,hC,hn,hl.symm,hf,?_,q⟩
  ·unfold L2.start;simp
  ·unfold L2.start
   apply List.ext_getElem?
   intro i
   simp only[List.getElem?_map,List.map_map]
   by_cases hi:i < ks.length
   ·have hia:i < args.length:=by omega
    simp [hi,hia,List.getElem?_append_left,List.getElem?_cons_succ]
   ·have hia:¬ i < args.length:=by omega
    simp [hi,hia]
section
variable {prog:Program}{w:World}{A:Around}{E:Value->Shared->Prop}{s:Shared}{env:PySem.Env}
variable {nm q:Str}{C N:Addr}{bs bm bmB:List Value}{hdct:Bool}{sn:List Str}{sub:List Value}{ab:Bool}{col:Option Bool}{dd:Option Addr}{k0 k1 k2 k3 k5:Option Value}{B newId initId:String}{mN:Str->Option Value}{fI:Addr}{oI:Obj}
theorem zmE (F:ExcBaseFacts B newId initId bmB){x:Str}{np cpos pos:Pos}{args:List Expr}{Q:Flow->Shared->Prop}(hbase:bm.contains (.type "BaseException")=true)(hh:A.handled=none)(hplain:(backTo cpos (starEach args env)).any (·.1)=false)(hi:mN "__init__"=some (.ref fI))
  (h:wpAny (model prog w) A (eval (.Name x np) env) (fun f s₁=>f=.ref C/\wpAny (model prog w) A (evalArgs (.ref C) true (backTo cpos (starEach args env)) []) (fun a s₂=>a.kw=[]/\a.pos.length<=sizeLine/\s₂.heap.get? C=some (excClassObj nm q C N bs bm hdct sn sub ab col dd k0 k1 k2 k3 k5 newId)/\s₂.heap.Ns N mN/\OwnTail s₂.heap bmB bm/\s₂.heap.get? fI=some oI/\oI.cls=.type "function" /\
    ∀ h' e,Heap.MadeExcOf s₂.heap h' e (.ref C) a.pos->wpAny (model prog w) (A.under (.builtin "type.__call__" ⟨.ref C::a.pos,[]⟩)) (call (.ref fI) (.ref e::a.pos)) (fun r s'=>r=.none/\s'.heap.get? C=some (excClassObj nm q C N bs bm hdct sn sub ab col dd k0 k1 k2 k3 k5 newId)/\(∃ dc t,s'.heap.get? e=some ⟨.ref C,dc,.fields #[.ref t,.none,.none,.none,.bool false,.none],#[]⟩)/\E (.ref e) s') E { s₂ with heap:=h' }) E s₁) E s) :
  wpAny (model prog w) A (exec (.Raise (some (.Call (.Name x np) args [] cpos)) none pos) env) Q E s:=by
 rw[arm_exec_Raise]
 refine wpAny_bind (wpAny_standAt (zmD (C:=C) (nm:=nm) (q:=q) (N:=N) (bs:=bs) (bm:=bm) (hdct:=hdct) (sn:=sn) (sub:=sub) (ab:=ab) (col:=col) (dd:=dd) (k0:=k0) (k1:=k1) (k2:=k2) (k3:=k3) (k5:=k5) (newId:=newId) hbase hh (wpAny_bind (wpAny_mono (wpAny_Call_ofName (wpAny_mono h (fun f s₁ h₁=>?_) fun _ _ x=>x)) (fun v s₃ h₃=>wpAny_bind (wpAny_standAt (wpAny_pure h₃))) fun _ _ x=>x))))
 obtain⟨rfl,h₁⟩:=h₁
 unfold callWith
 refine wpAny_bind (wpAny_holding (wpAny_mono h₁ (fun⟨apos,akw⟩ s₂ ⟨hkw,hlen,hC,hn,T,hf,hfc,h₂⟩=>wpAny_bind (wpAny_standAt ?_)) fun _ _ x=>x))
 obtain rfl:akw=[]:=hkw
 obtain⟨hp,g,d,tk,os⟩:=s₂
 simp only[hplain]
 refine wpAny_bind (wpAny_keeperOf_exc hC (wpAny_bind (zoo F T hC hn hi hf hfc hlen fun h' e hm=>wpAny_mono (h₂ h' e hm) (fun r s' hr=>?_) fun _ _ z=>z)))
 obtain⟨rfl,hC',⟨dc,t,he⟩,hE⟩:=hr
 exact⟨rfl,wpAny_bind (wpAny_holding (wpAny_point (wpAny_pure ⟨e,dc,t,rfl,hC',he,hE⟩)))⟩
end
structure zpz (K:W.Frag) (x:Str) (C:Addr):Prop where
 i:zkL K x C
 cls:W.findIn K (.ref C) "__class__"=some (some (.builtin "object.__class__"))
 ga:W.findIn K (.ref C) "__getattribute__"=some (some (.builtin "BaseException.__getattribute__"))
 gt:W.findIn K (.ref C) "__getattr__"=some none
 t1:W.subIn K (.ref C) (.type "NoneType")=some false
 t2:W.subIn K (.ref C) (.type "bool")=some false
 t3:W.subIn K (.ref C) (.type "int")=some false
 t4:W.subIn K (.ref C) (.type "str")=some false
 t5:W.subIn K (.ref C) (.type "tuple")=some false
 t6:W.subIn K (.ref C) (.type "list")=some false
 t7:W.subIn K (.ref C) (.type "dict")=some false
 ve:W.subIn K (.ref C) (.type "ValueError")=some true
 self:W.subIn K (.ref C) (.ref C)=some true
theorem zpz.xc {K:W.Frag}{x:Str}{C:Addr}(Z:zpz K x C):XC K x C :=
 ⟨Z.i.ns,⟨Z.cls,Z.ga,Z.gt,Z.i.ob,Z.i.be⟩,fun T hT=>by
  refine zjB (zfP T hT) ?_
  simp only[zdl,List.mem_cons,List.not_mem_nil,or_false] at hT
  rcases hT with rfl | rfl | rfl | rfl | rfl | rfl | rfl
  all_goals first | exact Z.t1 | exact Z.t2 | exact Z.t3 | exact Z.t4 | exact Z.t5 | exact Z.t6 | exact Z.t7⟩
theorem zpK {K:W.Frag}{C fn:Addr}{ks:List Str}(z:XIn K C fn)(sa:W.findIn K (.ref C) "__setattr__"=some (some (.builtin "object.__setattr__")))(hd:W.hasDictIn K C=true)(no:∀ f∈ks,zeN K C f):XSt K C ks:=by
 obtain⟨CE,nm,qn,N,bs,hdct,sn,sub,ab,col,dd,k0,k1,k2,k3,k5,ho,_⟩:=z.ex
 refine⟨sa,hd,?_,no⟩
 unfold W.clsIn;rw[ho];rfl
section
variable {P:Program}{w:World}{K:W.Frag}{mg:Str->Option Value}{base:Heap}{N:List Str}{qual:Str}{scope:Scope}{f:Addr}{cd:Value}{A:Around}{outer:List PySem.Env}{s0:Shared}{H0:Hp}{E:XK}{He H0e:Hp}
theorem znk {H:Hp}{h:Heap}{e dx:Addr}{o1 o2:HO}(ok:HOk P w (upd (upd H e o1) dx o2) h)(he:H e=none)(hd:H dx=none)(n1:∀ b,o1≠.own b)(n2:∀ b,o2≠.own b)(m1:∀ b,o1≠.tup b)(m2:∀ b,o2≠.tup b):HOk P w H h:=fun a o q=>by
 have a1:a≠e:=fun z=>by subst z;rw[he] at q;cases q
 have a2:a≠dx:=fun z=>by subst z;rw[hd] at q;cases q
 refine(ok a o (by rw[zao a2,zao a1];exact q)).stay (fun b u _ z=>z) (fun b z=>?_) fun b xs z=>?_
 ·by_cases b2:b=dx
  ·subst b2;rw[zap] at z;exact absurd (Option.some.inj z) (n2 _)
  ·rw[zao b2] at z
   by_cases b1:b=e
   ·subst b1;rw[zap] at z;exact absurd (Option.some.inj z) (n1 _)
   ·rw[zao b1] at z;exact z
 ·by_cases b2:b=dx
  ·subst b2;rw[zap] at z;exact absurd (Option.some.inj z) (m2 _)
  ·rw[zao b2] at z
   by_cases b1:b=e
   ·subst b1;rw[zap] at z;exact absurd (Option.some.inj z) (m1 _)
   ·rw[zao b1] at z;exact z
theorem Un.forget {fs:List Addr}{H H2:Hp}{h h2:Heap}(u:Un fs [] H H2 h h2):Un fs [] H H h h2:=⟨u.keep,u.slot,fun _ _ _ n _=>n,u.there,fun _ _ q=>q,fun _ _ _ q=>q,fun _ ps q=>⟨#[],by rw[q];simp⟩⟩
end
def zqM (e:DictEntry):Bool:=match e.key with
 | .str _ _=>true
 | _=>false
theorem znM {K:W.Frag}{C CE fn N:Addr}{nm q:Str}{bs sub:List Value}{hdct ab:Bool}{sn:List Str}{col:Option Bool}{dd dn:Option Addr}{k0 k1 k2 k3 k5:Option Value}{cn:Value}{es:Array DictEntry}{ep:Nat}{st:Array (Option Value)}
  (xl:K.lookup C=some (excClassObj nm q C N bs [.ref CE,.type "ValueError",.type "Exception",.type "BaseException",.type "object"] hdct sn sub ab col dd k0 k1 k2 k3 k5 "ValueError.__new__"))(xn:K.lookup N=some ⟨cn,dn,.dict es ep,st⟩)(xk:es.toList.all zqM=true)(xv:W.nsIn K N "__init__"=some (some (.ref fn)))
  (xb:W.excIn K CE [.type "ValueError",.type "Exception",.type "BaseException",.type "object"] "ValueError.__new__"=true):XIn K C fn:=by
 refine⟨CE,nm,q,N,bs,hdct,sn,sub,ab,col,dd,k0,k1,k2,k3,k5,xl,?_,xv,xb⟩
 unfold W.nsOkIn;rw[xn]
 rw[Array.all_toList] at xk
 exact xk
section
variable {X:Cx}{E:XK}{e a st:Expr}{f:Ev->Res D}{te:TE}{pos p2:Pos}
end
section
variable {X:Cx}{E:XK}{a:Expr}{f:Ev->Res D}{pos p2:Pos}
end
section
variable {X:Cx}{E:XK}{a b o:Expr}{f g fo:Ev->Res D}{pos:Pos}
end
def zfG (x:Str)(ks:List Str)(fa:Ev->Res (List D)):Ev->Res Fl:=fun ρ=>(fa (shr ρ)).bind fun ds=>if ds.length=ks.length then .exn ⟨x,ks.zip ds⟩ else .stuck
theorem zjo {K:W.Frag}{H:Hp}:∀ {ks:List Str}{ds:List D}{vs:List V}{n:Str}{d:D},Reps K H ds vs->(ks.zip ds).lookup n=some d->∃ v,(ks.zip vs).lookup n=some v/\Rep K H d v
 | [],ds,vs,n,d,r,h=>by rw[List.zip_nil_left] at h;cases h
 | k::ks,[],vs,n,d,r,h=>by rw[List.zip_nil_right] at h;cases h
 | k::ks,e::ds,vs,n,d,r,h=>by
  obtain⟨v,vs',rfl,r1,r2⟩:=Reps.cons_iff.mp r
  rw[List.zip_cons_cons,List.lookup_cons] at h
  rw[List.zip_cons_cons]
  cases q:n==k with
  | true=>rw[q] at h;cases h;exact⟨v,by rw[List.lookup_cons,q],r1⟩
  | false =>
   rw[q] at h
   obtain⟨u,h1,h2⟩:=zjo r2 h
   exact⟨u,by rw[List.lookup_cons,q];exact h1,h2⟩
theorem HOk.xd {P:Program}{w:World}{H:Hp}{g:Heap}(ok:HOk P w H g){a:Addr}{fs:List (Str×V)}(hn:H a=none)(p:XDs a fs g):HOk P w (upd H a (.xd fs)) g:=fun b u e=>by
 by_cases hb:b=a
 ·subst hb;rw[zap] at e;cases e;obtain⟨m,n,r,_⟩:=p;exact⟨m,n,r⟩
 ·rw[zao hb] at e
  exact(ok b u e).stay (fun c v _ q=>q) (fun c q=>by rw[zao (zaD q hn)];exact q) fun c xs q=>by rw[zao (zaD q hn)];exact q
section
variable {P:Program}{w:World}{K:W.Frag}{mg:Str->Option Value}{base:Heap}{N:List Str}{qual:Str}{scope:Scope}{f:Addr}{cd:Value}{A:Around}{outer:List PySem.Env}{s0:Shared}{H0:Hp}{E:XK}{He H0e:Hp}
theorem ziu {x:Str}{C fn:Addr}{np cpos pos:Pos}{e:Expr}{es:List Expr}{fa:Ev->Res (List D)}{k:Nat}{fd:FuncData}{ps ks:List Str}(xc:XC K x C)(z:XIn K C fn)(st:XSt K C ks)(hfn:W.isFn K (.ref fn)=true)(F:FnOk P w K mg base CX0 k fn fd ps (zry K ks))(hb:zbE K fd ps [])(hks:ks.length<=60)(hnd:ks.Nodup)(hr:zel (k+1) (zdX (CXE P w) P w K mg base N qual scope f cd A outer s0 H0 E).A)(hm:mg x=some (.ref C))(hh:A.handled=none)
  (hg:Gl (zdX (CXE P w) P w K mg base N qual scope f cd A outer s0 H0 E) x)(ha:DA (zdX (CXE P w) P w K mg base N qual scope f cd A outer s0 H0 E) E (e::es) fa)
  (hdb:(x==("__debug__" : Str))=false:=by decide)(he:starEach (e::es) (zdX (CXE P w) P w K mg base N qual scope f cd A outer s0 H0 E).env=(false,eval e (zdX (CXE P w) P w K mg base N qual scope f cd A outer s0 H0 E).env)::starEach es (zdX (CXE P w) P w K mg base N qual scope f cd A outer s0 H0 E).env:=by exact zaw rfl)
  (hpl:(backTo cpos (starEach es (zdX (CXE P w) P w K mg base N qual scope f cd A outer s0 H0 E).env)).any (·.1)=false:=by exact zaY rfl) :
  DS (zdX (CXE P w) P w K mg base N qual scope f cd A outer s0 H0 E) E He H0e (.Raise (some (.Call (.Name x np) (e::es) [] cpos)) none pos) (zfG x ks fa):=by
 refine⟨?_⟩
 intro pins s σ H D I ⟨H₀,ρ,hr',q⟩
 obtain⟨bm,Nn,nm,qn,bs,hdct,sn,sub,ab,col,dd,k0,k1,k2,k3,k5,mN,hC,hN,hi,T⟩:=(zkO I.ok.mod.kin z).ex
 obtain⟨oI,hoI,hoc⟩:∃ oI,base.get? fn=some oI/\oI.cls=.type "function":=by
  have:=beq_iff_eq.mp hfn
  obtain⟨o,ho,hc⟩:=Option.map_eq_some_iff.mp this
  exact⟨o,I.ok.mod.kin _ _ ho,hc⟩
 refine zmE (C:=C) (nm:=nm) (q:=qn) (N:=Nn) (bs:=bs) (bm:=bm) (hdct:=hdct) (sn:=sn) (sub:=sub) (ab:=ab) (col:=col) (dd:=dd) (k0:=k0) (k1:=k1) (k2:=k2) (k3:=k3) (k5:=k5)
  PySem.F.excBase_ValueError (mN:=mN) (oI:=oI) (T.hasType PySem.F.excBase_ValueError.hasBase) hh (by rw[he];show(false||(backTo cpos (starEach es (zdX (CXE P w) P w K mg base N qual scope f cd A outer s0 H0 E).env)).any (·.1))=false;rw[hpl];rfl) hi (zdw I hg hm ⟨rfl,?_⟩ hdb)
 have hq:ziX K E H (frz He H₀ H) (fa (shr ρ)) (fun vs H1=>vs.length=ks.length/\∀ dx,H1 dx=none->E (.ref C) (some dx) (upd H1 dx (.xd (ks.zip vs)))):=by
  unfold zfG at q
  cases e1:fa (shr ρ) with
  | stuck=>rw[e1] at q;exact q
  | exn z=>rw[e1] at q;exact fun C ox H' H₀' g ex=>q C ox H' H₀' (hr'.frz_grow.trans g) ex
  | ok ds =>
   rw[e1] at q
   intro vs H1 H01 g rp
   have q:zb6 K E He H0e H₀ (if ds.length=ks.length then Res.exn ⟨x,ks.zip ds⟩ else .stuck) D:=q
   by_cases hl:ds.length=ks.length
   ·rw[if_pos hl] at q
    refine⟨by rw[← rp.length];exact hl,fun dx hdx=>?_⟩
    have ga:=zbh.alloc (o:=.xd (ks.zip vs)) g.sub hdx
    refine q (.ref C) (some dx) _ _ (hr'.frz_grow.trans (g.trans ga)) ⟨⟨C,rfl,xc⟩,ks.zip vs,zap,fun n d hn=>?_⟩
    obtain⟨v,k1,k2⟩:=zjo rp hn
    exact⟨v,k1,k2.mono ga.z⟩
   ·rw[if_neg hl] at q;exact q.elim
 have h1:=ha.o cpos pins s σ H _ I ⟨frz He H₀ H,shr ρ,hr'.frz_le,hr'.looks,hq⟩
 rw[he] at h1 ⊢
 refine Calls.evalArgs_plain (wpAny_mono h1 (fun us s2 h2=>?_) fun _ _ y=>y)
 obtain⟨vs,H1,I1,rv,hl,hE⟩:=h2
 have hz:us.length<=sizeLine:=by rw[← rv.length,hl,sizeLine_eq];omega
 refine⟨rfl,hz,I1.bk _ _ hC,hN.keeps I1.bk,T.keeps I1.bk,I1.bk _ _ hoI,hoc,fun h' ee hx=>?_⟩
 have hn:H1 ee=none:=by
  cases q:H1 ee with
  | none=>rfl
  | some o=>obtain⟨u,hu⟩:=zbU.there (I1.hok ee o q);rw[hx.new] at hu;cases hu
 obtain⟨t,ht,_,_⟩:=hx.there
 have hxn:ExN ee C none h':=⟨t,ht⟩
 have un1:Un (frs (zdX (CXE P w) P w K mg base N qual scope f cd A outer s0 H0 E).stack) [] H1 (upd H1 ee (.ext (ExN ee C none))) s2.heap h':=Un.ext (Un.kept hx.keeps) hn hx.new
 have I2:Inv (zdX (CXE P w) P w K mg base N qual scope f cd A outer s0 H0 E) pins σ (upd H1 ee (.ext (ExN ee C none))) { s2 with heap:=h' } :=
  I1.call' (ch:=[]) rfl un1 (HOk.ext (I1.hok.kept hx.keeps) hn hxn ⟨_,ht⟩ zhg) I1.bare (fun _ z=>nomatch z)
 have rv2:zbG (V.ref ee::vs) (Value.ref ee::us):=.cons rfl rv
 have hsp:zry K ks (V.ref ee::vs) (upd H1 ee (.ext (ExN ee C none))) (fun v H2=>v=.non/\∃ dx,H1 dx=none/\dx≠ee/\H2=upd (upd (upd H1 ee (.ext (ExN ee C none))) ee (.ext (ExN ee C (some dx)))) dx (.ext (XDs dx (putAll ks vs [])))) E :=
  ⟨ee,C,fn,vs,rfl,hl,zap,st,z,fun dx hdx=>by
   have c:dx≠ee:=fun c=>by rw[c,zap] at hdx;cases hdx
   rw[zao c] at hdx
   exact⟨rfl,dx,hdx,c,rfl⟩⟩
 have hl2:(Value.ref ee::us).length=ps.length:=by rw[← rv2.length];exact F.len _ _ _ _ hsp
 have hbb:=hb { s2 with heap:=h' } (Value.ref ee::us) I2.kIn (by simpa using hl2)
 rw[List.append_nil] at hbb
 refine wpAny_call (codeAny_mono (F.run _ _ { s2 with heap:=h' } _ ⟨Value.ref ee::us,[]⟩ (Value.ref ee::us) _ _ E (hr.make C us []) (I2.env0.make C us []) hbb rv2 hsp) fun r s3 hq3=>?_)
 cases r with
 | error e=>exact False.elim hq3
 | ok fl =>
  cases fl with
  | next=>exact False.elim hq3
  | brk=>exact False.elim hq3
  | cont=>exact False.elim hq3
  | ret u =>
   obtain⟨v,H2,os3,bare3,un3,hok3,rel3,rfl,dx,hdx,hdne,rfl⟩:=hq3
   obtain rfl:u=Value.none:=rel3
   rw[zhX] at hok3 un3
   have un4:=Un.forget (un1.trans un3)
   have hok4:HOk P w H1 s3.heap:=znk hok3 hn hdx (fun _ z=>by cases z) (fun _ z=>by cases z) (fun _ z=>by cases z) (fun _ z=>by cases z)
   obtain⟨⟨t3,ht3⟩,_,_⟩:=(show zbU P w _ s3.heap ee (.ext (ExN ee C (some dx))) from hok3 ee _ (by rw[zao hdne.symm,zap]))
   have I3:=I1.call' (ch:=[]) os3 un4 hok4 bare3 (fun _ z=>nomatch z)
   refine⟨rfl,I3.bk _ _ hC,⟨_,t3,ht3⟩,?_⟩
   have hin:=zlL (l:=envOfC qual scope s0.heap.objs.size f cd::outer)
   have hfr:s3.heap.FunFrames (W.hideAll s3.heap (ee::frs (envOfC qual scope s0.heap.objs.size f cd::outer))) (envOfC qual scope s0.heap.objs.size f cd::outer):=W.funFrames_hide I3.stack fun env he a hf=>List.mem_cons_of_mem _ (hin env he a hf)
   have hst:(W.hideAll s3.heap (ee::frs (envOfC qual scope s0.heap.objs.size f cd::outer))).StaysIn s3.heap:=fun b o q=>W.of_hideAll _ q
   have hen:(W.hideAll s3.heap (ee::frs (envOfC qual scope s0.heap.objs.size f cd::outer))).get? ee=none:=W.hideAll_none _ (.head _)
   obtain⟨pX,_,_⟩:=(show zbU P w _ s3.heap dx (.ext (XDs dx (putAll ks vs []))) from hok3 dx _ zap)
   rw[zgo hnd (fun _ _ z=>by simp at z) hl.symm,List.nil_append] at pX
   have hok5:=HOk.xd hok4 hdx pX
   have dfresh:s2.heap.get? dx=none:=by
    cases qd:s2.heap.get? dx with
    | none=>rfl
    | some o =>
     have:=un3.free dx o (hx.keeps dx o qd) (by rw[zao hdne];exact hdx) (by simp)
     rw[zap] at this;cases this
   have un5:=Un.ext (o:=.xd (ks.zip vs)) un4 hdx dfresh
   refine zky (a0:=.ref t3) I3.ok.frames hfr rfl ht3 hst hen rfl rfl rfl fun h4 fl4 up4 dc4=>?_
   refine zpf rfl I1 (s1:=s3) (H1:=upd H1 dx (.xd (ks.zip vs))) os3 bare3 un5 hok5 (by rw[zao hdne.symm];exact hn) hst hfr (fun b hb hy=>?_) fl4 up4 ⟨some dx,⟨some dx,dc4,.inr rfl⟩,hE dx hdx⟩
   have hbe:b≠ee:=fun c=>by
    subst c
    rcases hy with hy | ⟨o,hy⟩
    ·exact hy (by rw[zao hdne.symm];exact hn)
    ·rw[hx.new] at hy;cases hy
   have hth:∃ o,s3.heap.get? b=some o:=by
    rcases hy with hy | ⟨o,hy⟩
    ·cases q:(upd H1 dx (.xd (ks.zip vs))) b with
     | none=>exact absurd q hy
     | some o=>exact zbU.there (hok5 b o q)
    ·exact un4.there b o hy (by simp)
   obtain⟨o,q⟩:=hth
   exact⟨o,W.hideAll_get _ q (List.not_mem_cons_of_ne_of_not_mem hbe hb)⟩
end
end DL
namespace DL
open PySem PySem.Spec PySem.Calls PySem.W PyProof.Rows Builtin Builtin.ObjectAttr Builtin.Getset_descriptor
section
variable {prog:Program}{w:World}{A:Around}{E:Value->Shared->Prop}{h:Heap}{g:Array GenState}{d:Drawn}{t:Nat}{os:OsState}{a C:Addr}{o:Obj}{od:Option Obj}{K:Frag}{name:Str}{v:Value}
theorem zmF {tk:Tok}{Q:Fin->Shared->Prop}(X:K.In h)(J:InstAt h a o C od)(hf:findObj K C od name=some (.value v))(hq:Q (.done (.ret v)) ⟨h,g,d,t,os⟩) :
  wpAny (model prog w) A (Builtin.«object.__getattribute__» ⟨[.ref a,.str name tk],[]⟩) Q E ⟨h,g,d,t,os⟩:=by
 have L0:=J.type (M:=model prog w)
 have L1:=looks_find (M:=model prog w) X J hf
 unfold Builtin.«object.__getattribute__»
 repeat (any_goals (first | assumption | (with_reducible refine L0.at ?_) | (with_reducible refine L1.at ?_) | wp_step))
theorem zop {tk:Tok}{R:Result->Shared->Prop}(X:K.In h)(Z:zjX K C)(J:InstAt h a o C od)(hx:h.get? a=some o)(hc:o.cls=.ref C)(hf:findObj K C od name=some (.value v))(hq:R (.ok (.ret v)) ⟨h,g,d,t,os⟩) :
  codeAny (model prog w) A (.call (.builtin "BaseException.__getattribute__") ⟨[.ref a,.str name tk],[]⟩) R ⟨h,g,d,t,os⟩ :=
 codeAny_call_builtin F.attr_ValueError.ga.plain F.entry_bexc_ga (zjp X Z hx hc (zmF X J hf hq))
theorem zrL {tk:Tok}{b ex:Bool}{Q:Value->Shared->Prop}(X:K.In h)(Z:zjX K C)(J:InstAt h a o C od)(hx:h.get? a=some o)(hc:o.cls=.ref C)(hf:findObj K C od name=some (.value v))(hh:handedIn v=true)(hq:Q v ⟨h,g,d,t,os⟩) :
  wpAny (model prog w) A (getAttrBy (.ref a) (.str name tk) b ex) Q E ⟨h,g,d,t,os⟩:=by
 have f3:=F.attr_ValueError.ga.bind (.ref a)
 have hx2:(Value.builtin "BaseException.__getattribute__"==Value.builtin "object.__getattribute__")=false:=by decide +kernel
 have hx1:(onTheHeap (Value.ref C)&&Value.builtin "BaseException.__getattribute__"==Value.builtin "object.__getattribute__")=false:=by rw[hx2];rfl
 have L1:Looks (model prog w) h (typeLookup (.ref C) "__getattribute__") (some (.builtin "BaseException.__getattribute__")):=looks_findIn X Z.ga
 have L2:Looks (model prog w) h (typeLookup (.ref C) "__getattr__") none:=looks_findIn X Z.gt
 have hho:=handedOut_of hh
 repeat (any_goals (first | assumption | (with_reducible refine wpAny_loadPart_at hx ?_;rw[hc]) | (with_reducible refine L1.at ?_) | (with_reducible refine L2.at ?_) | wp_step))
 rw[if_neg (by cases ex<;>decide)]
 repeat (any_goals (first | assumption | wp_step))
 refine zop X Z J hx hc hf ?_
 repeat (any_goals (first | assumption | wp_step))
theorem zpM {ex:Bool}{Q:Value->Shared->Prop}(X:K.In h)(Z:zjX K C)(J:InstAt h a o C od)(hx:h.get? a=some o)(hc:o.cls=.ref C)(hf:findObj K C od name=some (.value v))(hh:handedIn v=true)(hq:Q v ⟨h,g,d,t+1,os⟩) :
  wpAny (model prog w) A (getAttr (.ref a) name ex) Q E ⟨h,g,d,t,os⟩:=by
 unfold getAttr
 repeat (any_goals (first | assumption | with_reducible apply zrL X Z J hx hc hf hh | wp_step))
end
end DL
namespace DL
open PySem PySem.Spec PyProof.Rows L2
def zrv (K:W.Frag)(tab:Str->Option Bool)(f:Str):Prop:=∀ c C b,tab c=some b->XC K c C->W.hasDictIn K C=true/\zeN K C f
def ziB (tab:Str->Option Bool)(f:Str)(x:D):Res D:=match x with
 | .ob (.exf c ks) ds=>(match tab c,ziJ f ks ds with
  | some _,some d=>.ok d
  | _,_=>.stuck)
 | _=>.stuck
theorem znL:∀ {ks:List Str}{vs:List V}{f:Str}{u:V},(ks.zip vs).lookup f=some u->∃ i:Nat,ks[i]?=some f/\vs[i]?=some u
 | [],vs,f,u,h=>by rw[List.zip_nil_left] at h;cases h
 | k::ks,[],f,u,h=>by rw[List.zip_nil_right] at h;cases h
 | k::ks,v::vs,f,u,h=>by
  rw[List.zip_cons_cons,List.lookup_cons] at h
  cases q:f==k with
  | true=>rw[q] at h;cases h;exact⟨0,by rw[beq_iff_eq.mp q];rfl,rfl⟩
  | false =>
   rw[q] at h
   obtain⟨i,h1,h2⟩:=znL h
   exact⟨i+1,h1,h2⟩
section
variable {X:Cx}{E:XK}{e:Expr}{fe:Ev->Res D}{pos:Pos}{f:Str}{ta:TE}{tab:Str->Option Bool}
def zrU (K:W.Frag)(ta:TE)(f:Str):TE:=fun σ H Q=>ta σ H fun x H1=>∃ a C dx fs v,x=.ref a/\Rd H1 a (.ext (ExD a C (some dx)))/\H1 dx=some (.xd fs)/\zjX K C/\W.hasDictIn K C=true/\zeN K C f/\fs.lookup f=some v/\Q v H1
theorem zoM (he:PE X e ta)(hb:attributeBase e f X.env (eval e X.env)=eval e X.env):PE X (.Attribute e f pos) (zrU X.K ta f):=by
 intro pins s σ H Q I h
 refine zpy hb (thn (he pins s σ H _ I h) fun u s1 ⟨x,H1,I1,rx,a,C,dx,fs,v,ex,ea,ed,Z,hd,n,l,q⟩=>?_)
 subst ex
 obtain rfl:u=Value.ref a:=rx
 obtain⟨⟨o,vs,ho,hcl,hda,hdi⟩,_,_⟩:=ea.ok I1.hok
 obtain⟨mA,hn,r⟩:=(show zbU X.prog X.w H1 s1.heap dx (.xd fs) from I1.hok dx _ ed)
 obtain⟨u',hu,ru⟩:=zok.some_of (v:=v) (o:=mA f) (by rw[← l];exact r f)
 obtain⟨od,hod,hl⟩:=zie hn
 have J:W.InstAt s1.heap a o C (some od):=⟨ho,hcl,by unfold W.notCls;rw[hda],by rw[hdi];exact hod⟩
 have I2:=I1.tok (s1.toks+1)
 have K1:=I1.kIn
 obtain⟨hh,g,d,t,os⟩:=s1
 exact zpM K1 Z J ho hcl (W.findObj_own hd n rfl (by show W.lookIn f od=_;rw[hl,hu])) (zlK ru) ⟨v,H1,I2,ru,q⟩
theorem zl8 (ht:zrv X.K tab f)(he:DE X E e fe)(hb:attributeBase e f X.env (eval e X.env)=eval e X.env:=by rfl):DE X E (.Attribute e f pos) (zbr fe (ziB tab f)):=by
 refine⟨zaP (zoM he.o hb) fun σ H Q ⟨H₀,ρ,hs,hr,q⟩=>⟨H₀,ρ,hs,hr,?_⟩⟩
 unfold zbr at q
 cases e1:fe ρ with
 | stuck=>rw[e1] at q;exact q
 | exn x=>rw[e1] at q;exact q
 | ok d =>
  rw[e1] at q
  intro v H1 H01 g1 r1
  replace q:post X.K E H H₀ (ziB tab f d) Q:=q
  unfold ziB at q
  cases d with
  | ob k ds =>
   cases k with
   | exf c ks =>
    replace q:post X.K E H H₀ (match tab c,ziJ f ks ds with | some _,some d=>Res.ok d | _,_=>.stuck) Q:=q
    cases e2:tab c with
    | none=>rw[e2] at q;exact q.elim
    | some b =>
     cases e3:ziJ f ks ds with
     | none=>rw[e2,e3] at q;exact q.elim
     | some d =>
      rw[e2,e3] at q
      obtain⟨p,vs,rfl,⟨C,dx,fs,h1,h2,h3,h4,h5⟩,h6⟩:=Rep.ob_iff.mp r1
      obtain⟨u,k1,k2,k3⟩:=zlP h4 h6 e3
      obtain⟨i,i1,i2⟩:=znL k1
      obtain⟨m1,m2⟩:=ht c C b e2 h1
      exact⟨p,C,dx,fs,u,rfl,zaG.rd g1.sub h2,g1.sub _ _ h3,h1.ek,m1,m2,h5 i f u i1 i2,q u H1 H01 g1 k2⟩
   | _=>exact q.elim
  | _=>exact q.elim
end
theorem ln1 {α:Type}{us:List α}(h:us.length=1):∃ a,us=[a]:=List.length_eq_one_iff.mp h
theorem ln2 {α:Type}{us:List α}(h:us.length=2):∃ a b,us=[a,b]:=by
 cases us with
 | nil=>cases h
 | cons a us=>obtain⟨b,rfl⟩:=ln1 (Nat.succ.inj h);exact⟨a,b,rfl⟩
theorem ln3 {α:Type}{us:List α}(h:us.length=3):∃ a b c,us=[a,b,c]:=by
 cases us with
 | nil=>cases h
 | cons a us=>obtain⟨b,c,rfl⟩:=ln2 (Nat.succ.inj h);exact⟨a,b,c,rfl⟩
theorem ln4 {α:Type}{us:List α}(h:us.length=4):∃ a b c d,us=[a,b,c,d]:=by
 cases us with
 | nil=>cases h
 | cons a us=>obtain⟨b,c,d,rfl⟩:=ln3 (Nat.succ.inj h);exact⟨a,b,c,d,rfl⟩
section
variable {X:Cx}{E:XK}{e o:Expr}{fe fo:Ev->Res D}{pos:Pos}
def zeF (x:D):Res D:=match x with
 | .int i=>if i.natAbs.log2 < 1920 then .ok (.str (toString i)) else .stuck
 | _=>.stuck
theorem zgL:zgk X E (fun xs H Q=>∃ i,xs=[.int i]/\i.natAbs.log2 < 1920/\Q (.str (toString i)) H) (m1 zeF):=zmp fun x v H H₀ Q hs r q=>by
 unfold zeF at q
 cases x with
 | int i =>
  by_cases c:i.natAbs.log2 < 1920
  ·simp only[if_pos c] at q
   exact⟨i,by rw[Rep.int_iff.mp r],c,zaU hs q (Rep.str_iff.mpr rfl)⟩
  ·simp only[if_neg c] at q;exact q.elim
 | _=>exact q.elim
def zbT (x:D):Res D:=match x with
 | .str z=>if z.length<=640 then(match PySem.intText? z with
  | some n=>.ok (.int n)
  | none=>.stuck) else .stuck
 | .int i=>.ok (.int i)
 | .bl b=>.ok (.int (if b then 1 else 0))
 | _=>.stuck
theorem zcu:zfs X (.type "int") (fun xs H Q=>((∃ i,xs=[.int i]/\Q (.int i) H)∨∃ k,xs=[.bl k]/\Q (.int (if k then 1 else 0)) H)∨∃ z n,xs=[.str z]/\PySem.intText? z=some n/\z.length<=640/\Q (.int n) H):=by
 intro pins s σ H xs us Q I r h
 rcases h with h | ⟨z,n,rfl,h1,h2,q⟩
 ·exact zmo pins s σ H xs us Q I r h
 ·obtain⟨u,rfl,t,rfl⟩:=r.one
  exact W.KIN.call_text h1 h2 ⟨.int n,H,I.tok _,⟨_,rfl⟩,q⟩
theorem zei:zgk X E (fun xs H Q=>((∃ i,xs=[.int i]/\Q (.int i) H)∨∃ k,xs=[.bl k]/\Q (.int (if k then 1 else 0)) H)∨∃ z n,xs=[.str z]/\PySem.intText? z=some n/\z.length<=640/\Q (.int n) H) (m1 zbT):=zmp fun x v H H₀ Q hs r q=>by
 unfold zbT at q
 cases x with
 | int i=>exact .inl (.inl ⟨i,by rw[Rep.int_iff.mp r],zaU hs q (ri _)⟩)
 | bl k=>exact .inl (.inr ⟨k,by rw[Rep.bl_iff.mp r],zaU hs q (ri _)⟩)
 | str z =>
  by_cases c:z.length<=640
  ·simp only[if_pos c] at q
   cases hn:PySem.intText? z with
   | none=>simp only[hn] at q;exact q.elim
   | some n=>simp only[hn] at q;exact .inr ⟨z,n,by rw[Rep.str_iff.mp r],hn,c,zaU hs q (ri _)⟩
  ·simp only[if_neg c] at q;exact q.elim
 | _=>exact q.elim
def dSM (m:Str->Str->Res D)(fo fe:Ev->Res D):Ev->Res D:=fun ρ=>(fo ρ).bind fun x=>match x with
 | .str z=>(fe ρ).bind fun y=>match y with
  | .str w=>m z w
  | _=>.stuck
 | _=>.stuck
theorem zpo {name:Str}{id:String}{r:V->List V->Hp->VK->Prop}{m:Str->Str->Res D}{apos cpos:Pos}(slot:Slot "str" name id)(hty:typeOf (.builtin id)=pure (.type "method_descriptor"))(hm:MtR X id r)
  (hr:∀ z w H H₀ Q,zaG H₀ H->post X.K E H H₀ (m z w) Q->r (.str z) [.str w] H Q)(ho:DE X E o fo)(he:DE X E e fe)
  (hbase:attributeBase o name X.env (eval o X.env)=eval o X.env:=by rfl)
  (hfew:((backTo cpos (starEach [e] X.env)).all (fun x=>!x.1)&&(backToKw cpos (keywordEach [] X.env)).all (fun x=>x.1.isSome)
  &&decide ([e].length+([]:List Keyword).length+(if([]:List Keyword).isEmpty then 0 else 1) < 30))=true:=by exact zeC rfl)
  (hline:(apos.endLine==cpos.line)=true:=by rfl) (hs:starEach [e] X.env=(false,eval e X.env)::starEach [] X.env:=by exact zaw rfl) (hplain:(backTo cpos (starEach [] X.env)).any (·.1)=false:=by exact zaY rfl) :
  DE X E (.Call (.Attribute o name apos) [e] [] cpos) (dSM m fo fe):=by
 refine⟨zaP (zqx PySem.F.plainAttrs_str slot hty hm ho.o (zc0 he.o zfJ hs) hbase hfew hline hs hplain) fun σ H Q ⟨H₀,ρ,hs,hrd,q⟩=>⟨H₀,ρ,hs,hrd,?_⟩⟩
 unfold dSM at q
 cases e1:fo ρ with
 | stuck=>rw[e1] at q;exact q
 | exn x=>rw[e1] at q;exact q
 | ok x =>
  rw[e1] at q
  intro v H1 H01 g1 r1
  cases x with
  | str z =>
   replace q:post X.K E H H₀ ((fe ρ).bind fun y=>match y with | .str w=>m z w | _=>.stuck) Q:=q
   replace q:=q.grow g1
   have ev:=Rep.str_iff.mp r1
   subst ev
   refine⟨(rfl:("str" : String)="str"),H01,ρ,g1.sub,hrd.mono g1.z,?_⟩
   cases e2:fe ρ with
   | stuck=>rw[e2] at q;exact q
   | exn x=>rw[e2] at q;exact q
   | ok y =>
    rw[e2] at q
    intro u H2 H02 g2 r2
    cases y with
    | str w =>
     replace q:=post.grow (r:=m z w) q g2
     have eu:=Rep.str_iff.mp r2
     subst eu
     exact hr z w H2 H02 Q g2.sub q
    | _=>exact q.elim
  | _=>exact q.elim
def zeU (z w:Str):Res D:=.ok (.bl (Txt.startswith z w))
def zoB:V->List V->Hp->VK->Prop:=fun x vs H Q=>∃ z w,x=.str z/\vs=[.str w]/\Q (.bl (Txt.startswith z w)) H
theorem zlw:MtR X "str.startswith" zoB:=by
 intro pins s σ H x vs v us Q I rx rv h
 obtain⟨z,w,rfl,rfl,q⟩:=h
 obtain⟨u,rfl,t',rfl⟩:=rv.one
 obtain⟨t,rfl⟩:=rx
 exact SC.startswith ⟨.bl (Txt.startswith z w),H,I,rfl,q⟩
theorem zl4 {apos cpos:Pos}(ho:DE X E o fo)(he:DE X E e fe)(hbase:attributeBase o "startswith" X.env (eval o X.env)=eval o X.env:=by rfl)(hline:(apos.endLine==cpos.line)=true:=by rfl)
  (hs:starEach [e] X.env=(false,eval e X.env)::starEach [] X.env:=by exact zaw rfl)
  (hfew:((backTo cpos (starEach [e] X.env)).all (fun x=>!x.1)&&(backToKw cpos (keywordEach [] X.env)).all (fun x=>x.1.isSome)
  &&decide ([e].length+([]:List Keyword).length+(if([]:List Keyword).isEmpty then 0 else 1) < 30))=true:=by exact zeC rfl) (hplain:(backTo cpos (starEach [] X.env)).any (·.1)=false:=by exact zaY rfl):DE X E (.Call (.Attribute o "startswith" apos) [e] [] cpos) (dSM zeU fo fe) :=
 zpo PySem.F.slot_str_startswith PySem.F.type_str_startswith zlw (fun z w H H₀ Q hs q=>⟨z,w,rfl,rfl,zaU hs q (rb _)⟩) ho he hbase hfew hline hs hplain
end
end DL
namespace DL
open PySem PySem.Spec PyProof.Rows L2 PySem.Builtin PySem.Builtin.Str
section
variable {prog:Program}{w:World}{A:Around}{E:Value->Shared->Prop}{s:Shared}{x y:Str}{t u:Tok}{Q:Value->Shared->Prop}
theorem zkZ (hy:(y.length==0)=false)(hx:x.length+2<=sizeLine)
  (h:∀ (l:List (Str×Tok)) (k:Nat),l.map (·.1)=Txt.split x y->Q (.ref s.heap.objs.size) { s with heap:=s.heap.push { cls:=.type "list",data:=.seq (strValues l).toArray },toks:=k }) :
  wpAny (model prog w) A (call (.builtin "str.split") [.str x t,.str y u]) Q E s:=by
 have hn:(partsBetween x (occurrences x y 0 x.length (x.length+1)) y.length).length<=sizeLine:=by
  have:=StrLaws.occ_length_le x y 0 x.length (x.length+1)
  rw[length_partsBetween];omega
 cases h1:(decide (x.length < y.length)||decide (strKind x < strKind y)) with
 | true=>exact call_meets F.slot_str_split (typeIs_str _ _ _) F.entry_str_split (F.args_str_split_2 _ _) (meets_str_split_cannot_occur x y t u h1) (h [(x,t)] s.toks (if_pos h1).symm)
 | false =>
  cases hf:(occurrences x y 0 x.length (x.length+1)).isEmpty with
  | true=>exact call_meets F.slot_str_split (typeIs_str _ _ _) F.entry_str_split (F.args_str_split_2 _ _) (meets_str_split_not_found x y t u h1 hy hf) (h [(x,t)] s.toks ((if_neg (ne_true_of_eq_false h1)).trans (if_pos hf)).symm)
  | false =>
   refine call_meets F.slot_str_split (typeIs_str _ _ _) F.entry_str_split (F.args_str_split_2 _ _) (meets_str_split_sep x y t u h1 hy hf (by omega) hn) ?_
   have:=h (PySem.numbered s.toks _) (s.toks+(partsBetween x (occurrences x y 0 x.length (x.length+1)) y.length).length) ((numbered_texts s.toks _).trans ((if_neg (ne_true_of_eq_false h1)).trans (if_neg (ne_true_of_eq_false hf))).symm)
   rw[← strsFrom_eq] at this
   exact this
theorem split_len:(Txt.split x y).length<=x.length+2:=by
 unfold Txt.split
 split
 ·simp
 ·split
  ·simp
  ·have:=StrLaws.occ_length_le x y 0 x.length (x.length+1)
   rw[length_partsBetween];omega
theorem zm5 (hy:(y.length==0)=false)(hx:x.length<=sizeLine)
  (h:∀ (a b c:Tok) (k:Nat),Q (.ref s.heap.objs.size) { s with heap:=s.heap.push { cls:=.type "tuple",data:=.seq [.str (Txt.partition x y).1 a,.str (Txt.partition x y).2.1 b,.str (Txt.partition x y).2.2 c].toArray },toks:=k }) :
  wpAny (model prog w) A (call (.builtin "str.partition") [.str x t,.str y u]) Q E s:=by
 refine call_meets F.slot_str_partition (typeIs_str _ _ _) F.entry_str_partition (F.args_str_partition_2 _ _) (meets_str_partition x y t u hy hx) ?_
 unfold Txt.partition at h
 cases q:occurrences x y 0 x.length 1 with
 | nil=>rw[q] at h;exact h _ _ _ _
 | cons i r=>rw[q] at h;exact h _ _ _ _
end
section
variable {X:Cx}{E:XK}{e o:Expr}{fe fo:Ev->Res D}{pos:Pos}
def zdi (z w:Str):Res D:=if(w.length==0)=false/\z.length<=1000000 then .ok (.lst ((Txt.split z w).map D.str)) else .stuck
def zqd:V->List V->Hp->VK->Prop:=fun x vs H Q=>∃ z w,x=.str z/\vs=[.str w]/\(w.length==0)=false/\z.length<=1000000/\∀ p,H p=none->Q (.ref p) (upd H p (.lst ((Txt.split z w).map V.str)))
theorem zhV:∀ (l:List (Str×Tok)),zbG ((l.map (·.1)).map V.str) (strValues l)
 | []=>.nil
 | (z,t)::l=>.cons ⟨t,rfl⟩ (zhV l)
theorem zfH {K:W.Frag}{H:Hp}:∀ (zs:List Str),Reps K H (zs.map D.str) (zs.map V.str)
 | []=>Reps.nil_iff.mpr rfl
 | z::zs=>Reps.cons_iff.mpr ⟨_,_,rfl,Rep.str_iff.mpr rfl,zfH zs⟩
theorem zne:MtR X "str.split" zqd:=by
 intro pins s σ H x vs v us Q I rx rv h
 obtain⟨z,w,rfl,rfl,hy,hz,q⟩:=h
 obtain⟨u,rfl,t',rfl⟩:=rv.one
 obtain⟨t,rfl⟩:=rx
 refine zkZ hy (by rw[sizeLine_eq];omega) fun l k hl=>?_
 have hn:H s.heap.objs.size=none:=I.hok.fresh (Nat.le_refl _)
 refine⟨.ref s.heap.objs.size,_,?_,rfl,q _ hn⟩
 rw[← hl]
 refine I.laid (fun b o e=>Heap.get?_push_of_some _ e) (Nat.le_refl _) ⟨?_,strValues l,0,zhV l,Heap.get?_push_size s.heap rfl⟩
 rw[List.length_map,hl,sizeLine_eq]
 have:=split_len (x:=z) (y:=w)
 omega
def zkq (z w:Str):Res D:=if(w.length==0)=false/\z.length<=1000000 then .ok (.tup [.str (Txt.partition z w).1,.str (Txt.partition z w).2.1,.str (Txt.partition z w).2.2]) else .stuck
def zsb:V->List V->Hp->VK->Prop:=fun x vs H Q=>∃ z w,x=.str z/\vs=[.str w]/\(w.length==0)=false/\z.length<=1000000/\∀ p,H p=none->Q (.ref p) (upd H p (.tup [.str (Txt.partition z w).1,.str (Txt.partition z w).2.1,.str (Txt.partition z w).2.2]))
theorem zo0:MtR X "str.partition" zsb:=by
 intro pins s σ H x vs v us Q I rx rv h
 obtain⟨z,w,rfl,rfl,hy,hz,q⟩:=h
 obtain⟨u,rfl,t',rfl⟩:=rv.one
 obtain⟨t,rfl⟩:=rx
 refine zm5 hy (by rw[sizeLine_eq];omega) fun a b c k=>?_
 have hn:H s.heap.objs.size=none:=I.hok.fresh (Nat.le_refl _)
 refine⟨.ref s.heap.objs.size,_,?_,rfl,q _ hn⟩
 refine I.laid (fun b o e=>Heap.get?_push_of_some _ e) (Nat.le_refl _) ⟨by simp only[List.length_cons,List.length_nil];rw[sizeLine_eq];decide,_,.cons ⟨a,rfl⟩ (.cons ⟨b,rfl⟩ (.cons ⟨c,rfl⟩ .nil)),?_⟩
 exact⟨_,Heap.get?_push_size s.heap rfl,rfl,0,rfl⟩
theorem znC {apos cpos:Pos}(ho:DE X E o fo)(he:DE X E e fe)(hbase:attributeBase o "split" X.env (eval o X.env)=eval o X.env:=by rfl)(hline:(apos.endLine==cpos.line)=true:=by rfl)
  (hs:starEach [e] X.env=(false,eval e X.env)::starEach [] X.env:=by exact zaw rfl)
  (hfew:((backTo cpos (starEach [e] X.env)).all (fun x=>!x.1)&&(backToKw cpos (keywordEach [] X.env)).all (fun x=>x.1.isSome)
  &&decide ([e].length+([]:List Keyword).length+(if([]:List Keyword).isEmpty then 0 else 1) < 30))=true:=by exact zeC rfl) (hplain:(backTo cpos (starEach [] X.env)).any (·.1)=false:=by exact zaY rfl):DE X E (.Call (.Attribute o "split" apos) [e] [] cpos) (dSM zdi fo fe) :=
 zpo PySem.F.slot_str_split PySem.F.type_str_split zne (fun z w H H₀ Q hs q=>by
  unfold zdi at q
  by_cases c:(w.length==0)=false/\z.length<=1000000
  ·rw[if_pos c] at q
   refine⟨z,w,rfl,rfl,c.1,c.2,fun p hp=>?_⟩
   exact q _ _ _ (zbh.alloc hs hp) (Rep.lst_iff.mpr ⟨p,_,rfl,.inl (.inl zap),zfH _⟩)
  ·rw[if_neg c] at q;exact q.elim) ho he hbase hfew hline hs hplain
theorem zpp {apos cpos:Pos}(ho:DE X E o fo)(he:DE X E e fe)(hbase:attributeBase o "partition" X.env (eval o X.env)=eval o X.env:=by rfl)(hline:(apos.endLine==cpos.line)=true:=by rfl)
  (hs:starEach [e] X.env=(false,eval e X.env)::starEach [] X.env:=by exact zaw rfl)
  (hfew:((backTo cpos (starEach [e] X.env)).all (fun x=>!x.1)&&(backToKw cpos (keywordEach [] X.env)).all (fun x=>x.1.isSome)
  &&decide ([e].length+([]:List Keyword).length+(if([]:List Keyword).isEmpty then 0 else 1) < 30))=true:=by exact zeC rfl) (hplain:(backTo cpos (starEach [] X.env)).any (·.1)=false:=by exact zaY rfl):DE X E (.Call (.Attribute o "partition" apos) [e] [] cpos) (dSM zkq fo fe) :=
 zpo PySem.F.slot_str_partition PySem.F.type_str_partition zo0 (fun z w H H₀ Q hs q=>by
  unfold zkq at q
  by_cases c:(w.length==0)=false/\z.length<=1000000
  ·rw[if_pos c] at q
   refine⟨z,w,rfl,rfl,c.1,c.2,fun p hp=>?_⟩
   exact q _ _ _ (zbh.alloc hs hp) (Rep.tup_iff.mpr ⟨p,_,rfl,.inl (.inl zap),zfH [(Txt.partition z w).1,(Txt.partition z w).2.1,(Txt.partition z w).2.2]⟩)
  ·rw[if_neg c] at q;exact q.elim) ho he hbase hfew hline hs hplain
end
end DL
namespace DL
open PySem PySem.Spec PyProof.Rows L2
def zju (z:Str)(n:Int):Str:=⟨(List.replicate n.toNat z.cps).foldl (·++·) #[]⟩
theorem ziq {α:Type}:∀ (k:Nat) (a b:Array α),((List.replicate k a).foldl (·++·) b).size=b.size+k*a.size
 | 0,a,b=>by simp
 | k+1,a,b=>by rw[List.replicate_succ,List.foldl_cons,ziq k a (b++a),Array.size_append,Nat.succ_mul];omega
theorem zgY {z:Str}{n:Int}:(zju z n).length=n.toNat*z.length:=by
 show((List.replicate n.toNat z.cps).foldl (·++·) #[]).size=_
 rw[ziq];show 0+_=_;rw[Nat.zero_add];rfl
section
variable {X:Cx}{E:XK}{a b:Expr}{f g:Ev->Res D}{pos:Pos}
theorem zoQ:OpR X (binaryOp .Mult) (fun x y H Q=>∃ z n,x=.str z/\y=.int n/\2<=n/\n<=100000/\1<=z.length/\n.toNat*z.length<=1000000/\Q (.str (zju z n)) H):=by
 intro pins s σ H x y v u Q I rx ry h
 obtain⟨z,n,rfl,rfl,h2,h3,h4,h5,q⟩:=h
 obtain⟨t,rfl⟩:=rx
 obtain⟨t',rfl⟩:=ry
 have e0:(n==1||z.length==0)=false:=by
  have a1:(n==1)=false:=by rw[beq_eq_false_iff_ne];omega
  have a2:(z.length==0)=false:=by rw[beq_eq_false_iff_ne];omega
  rw[a1,a2];rfl
 have e5:z.length<=1000000:=by
  have:1*z.length<=n.toNat*z.length:=Nat.mul_le_mul_right _ (by omega)
  omega
 refine P.mul_str ?_ (fun _ _=>?_) (fun _ _=>?_) ?_
 ·rw[decide_eq_false (by omega),decide_eq_false (by omega)];rfl
 ·have:(100000:Int)*10<=(2 ^ 63-1) / n:=by
   refine Int.le_ediv_of_mul_le (by omega) ?_
   have:(1000000:Int)*n<=1000000*100000:=Int.mul_le_mul_of_nonneg_left h3 (by decide)
   omega
  omega
 ·rw[Nat.mul_comm];exact short24 (by omega)
 ·rw[if_neg (by omega),if_neg (by rw[e0];decide)]
  exact⟨by show(zju z n).length<=_;rw[zgY,sizeLine_eq];omega,⟨.str (zju z n),H,I.tok _,⟨_,rfl⟩,q⟩⟩
def ziA (x y:D):Res D:=match x,y with
 | .str z,.int n=>if 2<=n/\n<=100000/\1<=z.length/\n.toNat*z.length<=1000000 then .ok (.str (zju z n)) else .stuck
 | _,_=>.stuck
theorem zl5 (ha:DE X E a f)(hb:DE X E b g):DE X E (.BinOp a .Mult b pos) (zac f g ziA):=zi9 zoQ (by
 intro x y v u H H₀ Q hs r1 r2 q
 unfold ziA at q
 cases x with
 | str z =>
  cases y with
  | int n =>
   by_cases h:2<=n/\n<=100000/\1<=z.length/\n.toNat*z.length<=1000000
   ·simp only[if_pos h] at q
    exact⟨z,n,Rep.str_iff.mp r1,Rep.int_iff.mp r2,h.1,h.2.1,h.2.2.1,h.2.2.2,zaU hs q (Rep.str_iff.mpr rfl)⟩
   ·simp only[if_neg h] at q;exact q.elim
  | _=>exact q.elim
 | _=>exact q.elim) ha hb
end
end DL
namespace Com
open PySem L2 DL
def zca:Ev->Res Fl :=
 (zar (zbo 2 (zak (zad (zaf 0) (zad (zac (zbr (dC (.int 1)) zpJ) (zaf 0) zpI) zaH)) (m2 zsK)))
 (zar (zbo 3 (zaf 2))
 (zar (zrB 4 (zak zaH zg9))
 (zar (zk4 (zak (zad (zaf 1) zaH) (m1 zjd)) (zgC 5)
 (zar (sIf (zhk (zac (zaf 2) (zac (dC (.int 10)) (dC (.int 18)) zjQ) dGe) (zac (zaf 3) (dC (.int 0)) dGt))
 (zar (zdq 4 (zac (zaf 3) (zac (zaf 1) (zaf 5) dIx) zd2))
 (zar (zbo 3 (zac (zaf 3) (zac (zaf 1) (zaf 5) dIx) zje))
 zaj))
 (zar (zbo 6 (zac (zac (zac (zac (zac (zac (zaf 2) (dC (.int 2147483647)) zd2) (zac (zac (dC (.int 1009)) (zaf 5) zbA) (zaf 5) zbA) zcx) (zac (dC (.int 31)) (zaf 5) zbA) zcx) (dC (.int 7)) zcx) (dC (.int 48271)) zbA) (dC (.int 2147483629)) zd2))
 (zar (zbo 6 (zac (zac (zac (zac (zac (zaf 6) (zaf 6) zbA) (dC (.int 2147483647)) zd2) (zaf 5) zcx) (dC (.int 39373)) zbA) (dC (.int 2147483587)) zd2))
 (zar (zdq 4 (zac (zac (zaf 6) (dC (.int 8)) zje) (zac (zaf 1) (zaf 5) dIx) zd2))
 zaj))))
 zaj))
 (zar (zci (zaf 4))
 zaj)))))
def zba:List D->Res D:=zdm 7 zca
def za7:Ev->Res Fl :=
 (zar (zh1 (zhf 1) (zac (zaf 1) (dC (.int 0)) dNe)
 (zar (znT 0 1 (zad (zaf 1) (zad (zac (zaf 0) (zaf 1) zd2) zaH)))
 zaj))
 (zar (zci (zak (zad (zaf 0) zaH) (m1 zrG)))
 zaj))
def za6:List D->Res D:=zdm 2 za7
def zbg:Ev->Res Fl :=
 (zar (zbo 2 (zak (zad (zaf 0) (zad (zaf 1) zaH)) za6))
 (zar (zci (zak (zad (zac (zaf 0) (zaf 2) zje) (zad (zac (zaf 1) (zaf 2) zje) zaH)) zkp))
 zaj))
def zbd:List D->Res D:=zdm 3 zbg
def zb9:Ev->Res Fl :=
 (zar (zci (zhk (zbr (zaf 0) (zbV "int")) (zem (zbr (zaf 0) (zbV "bool")))))
 zaj)
def za3:List D->Res D:=zdm 1 zb9
def zco:Ev->Res Fl :=
 (zar (zci (zhk (zbr (zaf 0) (zbV "int")) (zem (zbr (zaf 0) (zbV "bool")))))
 zaj)
def za1:List D->Res D:=zdm 1 zco
def zaS:Ev->Res Fl :=
 (zar (zbo 2 (zak (zad (zaf 0) zaH) (m1 zrG)))
 (zar (zbo 3 (zak (zad (zaf 1) zaH) (m1 zrG)))
 (zar (zh1 (zhf 3) (zac (zaf 3) (dC (.int 0)) dNe)
 (zar (zbo 4 (zac (zaf 2) (zaf 3) zd2))
 (zar (zbo 2 (zaf 3))
 (zar (zbo 3 (zaf 4))
 zaj))))
 (zar (zci (zaf 2))
 zaj))))
def zaJ:List D->Res D:=zdm 5 zaS
def zf5:Ev->Res Fl :=
 (zar (sIf (dOr (zem (zak (zad (zaf 0) zaH) za1)) (zem (zak (zad (zaf 1) zaH) za1)))
 (zar znS
 zaj)
 zaj)
 (zar (sIf (zac (zaf 1) (dC (.int 0)) dEq)
 (zar znS
 zaj)
 zaj)
 (zar (zbo 2 (zak (zad (zaf 0) (zad (zaf 1) zaH)) zaJ))
 (zar (sIf (zac (zaf 1) (dC (.int 0)) dLt)
 (zar (zbo 2 (zbr (zaf 2) zpJ))
 zaj)
 zaj)
 (zar (zci (zak (zad (zac (zaf 0) (zaf 2) zje) (zad (zac (zaf 1) (zaf 2) zje) zaH)) zkp))
 zaj)))))
def zfL:List D->Res D:=zdm 3 zf5
def zrm:Ev->Res Fl :=
 (zar (zci (zak (zad (zac (zac (zac (zaf 0) (dC (.int 0)) dIx) (zac (zaf 1) (dC (.int 1)) dIx) zbA) (zac (zac (zaf 1) (dC (.int 0)) dIx) (zac (zaf 0) (dC (.int 1)) dIx) zbA) zcx) (zad (zac (zac (zaf 0) (dC (.int 1)) dIx) (zac (zaf 1) (dC (.int 1)) dIx) zbA) zaH)) zfL))
 zaj)
def zqR:List D->Res D:=zdm 2 zrm
def znK:Ev->Res Fl :=
 (zar (zbo 1 (dC (.tup [(.int 0),(.int 1)])))
 (zar (znU (zaf 0) (zgC 2)
 (zar (zbo 1 (zak (zad (zaf 1) (zad (zaf 2) zaH)) zqR))
 zaj))
 (zar (zci (zaf 1))
 zaj)))
def zrE:List D->Res D:=zdm 3 znK
theorem bok {α β:Type}{a:α}{f:α->Res β}:(Res.ok a).bind f=f a:=rfl
theorem zcS {s t:Ev->Res Fl}{ρ ρ':Ev}(h:s ρ=.ok (.nx ρ')):zar s t ρ=t ρ':=by unfold zar;rw[h];rfl
theorem zjs {s t:Ev->Res Fl}{ρ:Ev}{d:D}(h:s ρ=.ok (.rt d)):zar s t ρ=.ok (.rt d):=by unfold zar;rw[h];rfl
theorem zeq {s:Ev->Res Fl}{ρ ρ':Ev}(h:s ρ=.ok (.nx ρ')):zar s zaj ρ=.ok (.nx ρ'):=by unfold zar;rw[h];rfl
theorem zh0 {i:Nat}{f:Ev->Res D}{ρ:Ev}{d:D}(h:f ρ=.ok d):zbo i f ρ=.ok (.nx (ρ.set i (.sh d))):=by unfold zbo;rw[h];rfl
theorem zjt {f:Ev->Res D}{ρ:Ev}{d:D}(h:f (shr ρ)=.ok d):zci f ρ=.ok (.rt d):=by unfold zci;rw[h];rfl
theorem ztI {c:Ev->Res D}{s t:Ev->Res Fl}{ρ:Ev}(h:c (shr ρ)=.ok (.bl true)):sIf c s t ρ=s ρ:=by unfold sIf;rw[h];rfl
theorem ztJ {c:Ev->Res D}{s t:Ev->Res Fl}{ρ:Ev}(h:c (shr ρ)=.ok (.bl false)):sIf c s t ρ=t ρ:=by unfold sIf;rw[h];rfl
theorem ne_int {i j:Int}:dNe (.int i) (.int j)=.ok (.bl (!(i==j))):=by unfold dNe;rw[if_pos ⟨rfl,rfl⟩,eqD]
theorem eq_int {i j:Int}:dEq (.int i) (.int j)=.ok (.bl (i==j)):=by unfold dEq;rw[if_pos ⟨rfl,rfl⟩,eqD]
theorem zqb {n:Nat}{s:Ev->Res Fl}{ds:List D}{d:D}(h:s (ds.map Sl.sh++List.replicate (n-ds.length) .no)=.ok (.rt d)):zdm n s ds=.ok d:=by unfold zdm;rw[h];rfl
theorem zfA {f:Ev->Res D}{fa:Ev->Res (List D)}{ρ:Ev}{x:D}{xs:List D}(h:f ρ=.ok x)(h':fa ρ=.ok xs):zad f fa ρ=.ok (x::xs):=by unfold zad;rw[h,bok,h'];rfl
theorem zaA {f g:Ev->Res D}{op:D->D->Res D}{ρ:Ev}{x y:D}(h:f ρ=.ok x)(h':g ρ=.ok y):zac f g op ρ=op x y:=by unfold zac;rw[h,bok,h'];rfl
theorem zjV {fa:Ev->Res (List D)}{m:List D->Res D}{ρ:Ev}{xs:List D}(h:fa ρ=.ok xs):zak fa m ρ=m xs:=by unfold zak;rw[h];rfl
theorem zd7 {a b:Int}(h:b≠0):zd2 (.int a) (.int b)=.ok (.int (a.fmod b)):=by
 show(if decide (b≠0)=true then Res.ok (D.int (a.fmod b)) else .stuck)=_
 rw[if_pos (decide_eq_true h)]
theorem zjO {a b:Int}(h:zd1 a b=true):zje (.int a) (.int b)=.ok (.int (a.fdiv b)):=by
 show(if zd1 a b=true then Res.ok (D.int (a.fdiv b)) else .stuck)=_
 rw[if_pos h]
theorem zgq {a b:Int}(h:zew a b=true):zbA (.int a) (.int b)=.ok (.int (a*b)):=by
 show(if zew a b=true then Res.ok (D.int (a*b)) else .stuck)=_
 rw[if_pos h]
theorem zjF (a b:Int):Int.gcd b (a.fmod b)=Int.gcd a b:=by
 rw[Int.fmod_def,Int.gcd_sub_mul_left_right,Int.gcd_comm]
theorem zlO {a b:Int}(h:b≠0):(a.fmod b).natAbs < b.natAbs:=by
 rcases Int.lt_or_gt_of_ne h with hb | hb
 ·have h1:=Int.fmod_lt_of_pos (-a) (show 0 < -b by omega)
  have h2:=Int.fmod_nonneg_of_pos (-a) (show 0 < -b by omega)
  rw[Int.neg_fmod_neg] at h1 h2
  omega
 ·have h1:=Int.fmod_lt_of_pos a hb
  have h2:=Int.fmod_nonneg_of_pos a hb
  omega
theorem zfg:∀ (n:Nat) (a b:Int),b.natAbs < n->∃ g:Int,g.natAbs=Int.gcd a b /\
  zcz (zac (zaf 1) (dC (.int 0)) dNe) (zar (znT 0 1 (zad (zaf 1) (zad (zac (zaf 0) (zaf 1) zd2) zaH))) zaj) n [.sh (.int a),.sh (.int b)]=.ok (.nx [.sh (.int g),.sh (.int 0)])
 | 0,a,b,h=>absurd h (Nat.not_lt_zero _)
 | n+1,a,b,h=>by
  unfold zcz
  have c:(zac (zaf 1) (dC (.int 0)) dNe) (shr [.sh (.int a),.sh (.int b)])=.ok (.bl (!(b==0))):=ne_int
  rw[c]
  by_cases hb:b=0
  ·subst hb
   exact⟨a,by simp,rfl⟩
  ·have e:(!(b==0))=true:=by simp [hb]
   obtain⟨g,h1,h2⟩:=zfg n b (a.fmod b) (by have:=zlO (a:=a) hb;omega)
   refine⟨g,by rw[h1,zjF],?_⟩
   rw[← h2]
   rw[e]
   have st:(zar (znT 0 1 (zad (zaf 1) (zad (zac (zaf 0) (zaf 1) zd2) zaH))) zaj) [.sh (.int a),.sh (.int b)]=.ok (.nx [.sh (.int b),.sh (.int (a.fmod b))]):=by
    refine zeq ?_
    unfold znT
    have:(zad (zaf 1) (zad (zac (zaf 0) (zaf 1) zd2) zaH)) [.sh (.int a),.sh (.int b)]=.ok [.int b,.int (a.fmod b)]:=by
     exact zfA rfl (zfA (zd7 hb) rfl)
    rw[this]
    rfl
   show(Res.bind _ _)=_
   rw[st]
   rfl
theorem zgE (a b:Int):za6 [.int a,.int b]=.ok (.int (Int.gcd a b)):=by
 obtain⟨g,h1,h2⟩:=zfg (b.natAbs+1) a b (Nat.lt_succ_self _)
 have w:zh1 (zhf 1) (zac (zaf 1) (dC (.int 0)) dNe) (zar (znT 0 1 (zad (zaf 1) (zad (zac (zaf 0) (zaf 1) zd2) zaH))) zaj) [.sh (.int a),.sh (.int b)]=.ok (.nx [.sh (.int g),.sh (.int 0)]):=h2
 have r:za7 [.sh (.int a),.sh (.int b)]=.ok (.rt (.int (if g < 0 then -g else g))):=by
  unfold za7
  rw[zcS w]
  exact zjs (zjt rfl)
 show(za7 [.sh (.int a),.sh (.int b)]).bind _=_
 rw[r]
 show Res.ok (D.int (if g < 0 then -g else g))=_
 congr 2
 rw[← h1]
 split<;>omega
theorem zfZ:∀ (n:Nat) (x y:D) (a b:Int) (r:Sl),0<=a->0<=b->b.natAbs < n->∃ r',
  zcz (zac (zaf 3) (dC (.int 0)) dNe) (zar (zbo 4 (zac (zaf 2) (zaf 3) zd2)) (zar (zbo 2 (zaf 3)) (zar (zbo 3 (zaf 4)) zaj))) n [.sh x,.sh y,.sh (.int a),.sh (.int b),r]=.ok (.nx [.sh x,.sh y,.sh (.int (Int.gcd a b)),.sh (.int 0),r'])
 | 0,_,_,a,b,_,_,_,h=>absurd h (Nat.not_lt_zero _)
 | n+1,x,y,a,b,r,ha,hb0,h=>by
  unfold zcz
  have c:∀ r,(zac (zaf 3) (dC (.int 0)) dNe) (shr [.sh x,.sh y,.sh (.int a),.sh (.int b),r])=.ok (.bl (!(b==0))):=fun r=>ne_int
  rw[c]
  by_cases hb:b=0
  ·subst hb
   refine⟨r,?_⟩
   have e:((Int.gcd a 0:Nat):Int)=a:=by simp;omega
   rw[e]
   rfl
  ·have e:(!(b==0))=true:=by simp [hb]
   have hp:0 < b:=by omega
   obtain⟨r',h2⟩:=zfZ n x y b (a.fmod b) (.sh (.int (a.fmod b))) hb0 (Int.fmod_nonneg_of_pos a hp) (by have:=zlO (a:=a) hb;omega)
   refine⟨r',?_⟩
   rw[zjF] at h2
   rw[← h2,e]
   have st:(zar (zbo 4 (zac (zaf 2) (zaf 3) zd2)) (zar (zbo 2 (zaf 3)) (zar (zbo 3 (zaf 4)) zaj))) [.sh x,.sh y,.sh (.int a),.sh (.int b),r]=.ok (.nx [.sh x,.sh y,.sh (.int b),.sh (.int (a.fmod b)),.sh (.int (a.fmod b))]):=by
    have m:(zac (zaf 2) (zaf 3) zd2) [.sh x,.sh y,.sh (.int a),.sh (.int b),r]=.ok (.int (a.fmod b)):=by
     exact zd7 hb
    rw[zcS (zh0 m)]
    rfl
   show(Res.bind _ _)=_
   rw[st]
   rfl
theorem zeI (a b:Int):zaJ [.int a,.int b]=.ok (.int (Int.gcd a b)):=by
 have e:∀ i:Int,(if i < 0 then -i else i)=(i.natAbs:Int):=fun i=>by split<;>omega
 obtain⟨r',h⟩:=zfZ ((b.natAbs:Int).natAbs+1) (.int a) (.int b) a.natAbs b.natAbs .no (Int.natCast_nonneg _) (Int.natCast_nonneg _) (Nat.lt_succ_self _)
 have hg:Int.gcd (a.natAbs:Int) (b.natAbs:Int)=Int.gcd a b:=by simp [Int.gcd]
 rw[hg] at h
 have r:zaS [.sh (.int a),.sh (.int b),.no,.no,.no]=.ok (.rt (.int (Int.gcd a b))):=by
  unfold zaS
  rw[zcS (ρ':=[.sh (.int a),.sh (.int b),.sh (.int (a.natAbs:Int)),.no,.no]) (by rw[← e a];rfl)]
  rw[zcS (ρ':=[.sh (.int a),.sh (.int b),.sh (.int (a.natAbs:Int)),.sh (.int (b.natAbs:Int)),.no]) (by rw[← e b];rfl)]
  have w:zh1 (zhf 3) (zac (zaf 3) (dC (.int 0)) dNe) (zar (zbo 4 (zac (zaf 2) (zaf 3) zd2)) (zar (zbo 2 (zaf 3)) (zar (zbo 3 (zaf 4)) zaj))) [.sh (.int a),.sh (.int b),.sh (.int (a.natAbs:Int)),.sh (.int (b.natAbs:Int)),.no]=.ok (.nx [.sh (.int a),.sh (.int b),.sh (.int (Int.gcd a b)),.sh (.int 0),r']):=h
  rw[zcS w]
  exact zjs (zjt rfl)
 show(zaS [.sh (.int a),.sh (.int b),.no,.no,.no]).bind _=_
 rw[r]
 rfl
theorem zro {f g:Ev->Res D}{ρ:Ev}{b c:Bool}(h:f ρ=.ok (.bl b))(h':g ρ=.ok (.bl c)):zhk f g ρ=.ok (.bl (b&&c)):=by
 unfold zhk;rw[h,bok];cases b
 ·rfl
 ·exact h'
theorem zkh:(2:Nat) ^ 64<=B60:=by rw[zmw];exact Nat.pow_le_pow_right (by decide) (by decide)
theorem zta {i:Int}(h:i.natAbs < 18446744073709551616):i.natAbs < B60:=Nat.lt_of_lt_of_le h zkh
theorem zdS {i j:Int}(h:i.natAbs < 18446744073709551616)(h':j.natAbs < 18446744073709551616):zew i j=true:=by
 unfold zew
 rw[Bool.and_eq_true]
 exact⟨decide_eq_true (zta h),decide_eq_true (zta h')⟩
theorem zqQ {i j:Int}(h:i.natAbs < B60)(h':j.natAbs < B60):zew i j=true:=by
 unfold zew
 rw[Bool.and_eq_true]
 exact⟨decide_eq_true h,decide_eq_true h'⟩
theorem zre {i j:Int}(h0:j≠0)(h:j.natAbs < B9):zd1 i j=true:=by
 unfold zd1
 rw[Bool.and_eq_true,Bool.or_eq_true]
 exact⟨decide_eq_true h0,.inl (decide_eq_true h)⟩
theorem zgF {i j:Int}(h0:j≠0)(h:i.natAbs < B13):zd1 i j=true:=by
 unfold zd1
 rw[Bool.and_eq_true,Bool.or_eq_true]
 exact⟨decide_eq_true h0,.inr (decide_eq_true h)⟩
theorem zlf:(2:Nat) ^ 64<=B9:=by rw[zpD];exact Nat.pow_le_pow_right (by decide) (by decide)
theorem lt9 {i:Int}(h:i.natAbs < 18446744073709551616):i.natAbs < B9:=Nat.lt_of_lt_of_le h zlf
theorem zlF {ds:List D}{k:Nat}{d:D}(h:ds[k]?=some d):dIx (.lst ds) (.int (k:Int))=.ok d:=by
 unfold dIx
 simp only[zaX h]
def zc5:Ev->Res Fl :=
 (zar (sIf (zhk (zac (zaf 2) (zac (dC (.int 10)) (dC (.int 18)) zjQ) dGe) (zac (zaf 3) (dC (.int 0)) dGt))
 (zar (zdq 4 (zac (zaf 3) (zac (zaf 1) (zaf 5) dIx) zd2))
 (zar (zbo 3 (zac (zaf 3) (zac (zaf 1) (zaf 5) dIx) zje))
 zaj))
 (zar (zbo 6 (zac (zac (zac (zac (zac (zac (zaf 2) (dC (.int 2147483647)) zd2) (zac (zac (dC (.int 1009)) (zaf 5) zbA) (zaf 5) zbA) zcx) (zac (dC (.int 31)) (zaf 5) zbA) zcx) (dC (.int 7)) zcx) (dC (.int 48271)) zbA) (dC (.int 2147483629)) zd2))
 (zar (zbo 6 (zac (zac (zac (zac (zac (zaf 6) (zaf 6) zbA) (dC (.int 2147483647)) zd2) (zaf 5) zcx) (dC (.int 39373)) zbA) (dC (.int 2147483587)) zd2))
 (zar (zdq 4 (zac (zac (zaf 6) (dC (.int 8)) zje) (zac (zaf 1) (zaf 5) dIx) zd2))
 zaj))))
 zaj)
theorem zoi {i:Nat}{f:Ev->Res D}{ρ:Ev}{d:D}{ds:List D}(hi:ρ[i]?=some (.ow (.lst ds)))(h:f ρ=.ok d)(hl:ds.length < line):zdq i f ρ=.ok (.nx (ρ.set i (.ow (.lst (ds++[d]))))):=by
 unfold zdq zi0
 rw[hi]
 show(f ρ).bind _=_
 rw[h,bok,if_pos hl]
theorem zkx {a b:Int}(hb:0 < b):0<=a.fmod b/\a.fmod b < b:=⟨Int.fmod_nonneg_of_pos a hb,Int.fmod_lt_of_pos a hb⟩
theorem zkA {c:D}{sz:List Int}{num left:Int}{F:List D}{k:Nat}{one:Sl}{s:Int}(hk:sz[k]?=some s)(hs:0 < s)(h9:s.natAbs < B9)(hk2:k < 1000)(hl:F.length < line)(h0:0<=left) :
  ∃ v left' one',0<=v/\v < s/\0<=left'/\zc5 [.sh c,.sh (.lst (sz.map D.int)),.sh (.int num),.sh (.int left),.ow (.lst F),.sh (.int (k:Int)),one] =
   .ok (.nx [.sh c,.sh (.lst (sz.map D.int)),.sh (.int num),.sh (.int left'),.ow (.lst (F++[.int v])),.sh (.int (k:Int)),one']):=by
 have hix:dIx (.lst (sz.map D.int)) (.int (k:Int))=.ok (.int s):=zlF (by rw[List.getElem?_map,hk];rfl)
 have hc:(zhk (zac (zaf 2) (zac (dC (.int 10)) (dC (.int 18)) zjQ) dGe) (zac (zaf 3) (dC (.int 0)) dGt)) (shr [.sh c,.sh (.lst (sz.map D.int)),.sh (.int num),.sh (.int left),.ow (.lst F),.sh (.int (k:Int)),one])=.ok (.bl (decide ((10:Int) ^ (18:Int).toNat<=num)&&decide (0 < left))):=by
  refine zro ?_ ?_
  ·exact(zaA (x:=.int num) (y:=.int ((10:Int) ^ (18:Int).toNat)) rfl rfl).trans rfl
  ·exact(zaA (x:=.int left) (y:=.int 0) rfl rfl).trans rfl
 have hm:=zkx (a:=left) hs
 unfold zc5
 cases hb:(decide ((10:Int) ^ (18:Int).toNat<=num)&&decide (0 < left)) with
 | true =>
  rw[hb] at hc
  refine⟨left.fmod s,left.fdiv s,one,hm.1,hm.2,Int.fdiv_nonneg h0 (by omega),?_⟩
  refine zeq ?_
  rw[ztI hc]
  rw[zcS (zoi (ds:=F) (d:=.int (left.fmod s)) rfl ((zaA (x:=.int left) (y:=.int s) rfl ((zaA (x:=.lst (sz.map D.int)) (y:=.int (k:Int)) rfl rfl).trans hix)).trans (zd7 (by omega))) hl)]
  exact zeq (zh0 (d:=.int (left.fdiv s)) ((zaA (x:=.int left) (y:=.int s) rfl ((zaA (x:=.lst (sz.map D.int)) (y:=.int (k:Int)) rfl rfl).trans hix)).trans (zjO (zre (by omega) h9))))
 | false =>
  rw[hb] at hc
  have hkk:(k:Int)*(k:Int) < 1000000:=by
   have:k*k < 1000*1000:=Nat.mul_lt_mul'' hk2 hk2
   omega
  have hkn:(0:Int)<=(k:Int)*(k:Int):=Int.mul_nonneg (by omega) (by omega)
  have a1:=zkx (a:=num) (b:=2147483647) (by decide)
  have hone1:((num.fmod 2147483647+1009*(k:Int)*(k:Int)+31*(k:Int)+7)*48271).fmod 2147483629=((num.fmod 2147483647+1009*(k:Int)*(k:Int)+31*(k:Int)+7)*48271).fmod 2147483629:=rfl
  generalize ho:((num.fmod 2147483647+1009*(k:Int)*(k:Int)+31*(k:Int)+7)*48271).fmod 2147483629=o1
  have a2:0<=o1/\o1 < 2147483629:=by rw[← ho];exact zkx (by decide)
  have hoo:o1*o1 < 4611686018427387904:=by
   have h1:o1*o1<=2147483628*2147483628:=Int.mul_le_mul (by omega) (by omega) a2.1 (by decide)
   omega
  have hoo0:0<=o1*o1:=Int.mul_nonneg a2.1 a2.1
  generalize ho2:(((o1*o1).fmod 2147483647+(k:Int))*39373).fmod 2147483587=o2
  have a3:0<=o2/\o2 < 2147483587:=by rw[← ho2];exact zkx (by decide)
  have hm2:=zkx (a:=o2.fdiv 8) hs
  refine⟨(o2.fdiv 8).fmod s,left,.sh (.int o2),hm2.1,hm2.2,h0,?_⟩
  refine zeq ?_
  rw[ztJ hc]
  have ea:(1009:Int)*(k:Int)*(k:Int)=1009*((k:Int)*(k:Int)):=Int.mul_assoc _ _ _
  have e1:(zac (zac (zac (zac (zac (zac (zaf 2) (dC (.int 2147483647)) zd2) (zac (zac (dC (.int 1009)) (zaf 5) zbA) (zaf 5) zbA) zcx) (zac (dC (.int 31)) (zaf 5) zbA) zcx) (dC (.int 7)) zcx) (dC (.int 48271)) zbA) (dC (.int 2147483629)) zd2)
    [.sh c,.sh (.lst (sz.map D.int)),.sh (.int num),.sh (.int left),.ow (.lst F),.sh (.int (k:Int)),one]=.ok (.int o1):=by
   rw[← ho]
   refine(zaA (x:=.int ((num.fmod 2147483647+1009*(k:Int)*(k:Int)+31*(k:Int)+7)*48271)) (y:=.int 2147483629) ?_ rfl).trans (zd7 (by decide))
   refine(zaA (x:=.int (num.fmod 2147483647+1009*(k:Int)*(k:Int)+31*(k:Int)+7)) (y:=.int 48271) ?_ rfl).trans (zgq (zdS (by omega) (by decide)))
   refine(zaA (x:=.int (num.fmod 2147483647+1009*(k:Int)*(k:Int)+31*(k:Int))) (y:=.int 7) ?_ rfl).trans rfl
   refine(zaA (x:=.int (num.fmod 2147483647+1009*(k:Int)*(k:Int))) (y:=.int (31*(k:Int))) ?_ ?_).trans rfl
   ·refine(zaA (x:=.int (num.fmod 2147483647)) (y:=.int (1009*(k:Int)*(k:Int))) ?_ ?_).trans rfl
    ·exact(zaA (x:=.int num) (y:=.int 2147483647) rfl rfl).trans (zd7 (by decide))
    ·refine(zaA (x:=.int (1009*(k:Int))) (y:=.int (k:Int)) ?_ rfl).trans (zgq (zdS (by omega) (by omega)))
     exact(zaA (x:=.int 1009) (y:=.int (k:Int)) rfl rfl).trans (zgq (zdS (by decide) (by omega)))
   ·exact(zaA (x:=.int 31) (y:=.int (k:Int)) rfl rfl).trans (zgq (zdS (by decide) (by omega)))
  rw[zcS (zh0 e1)]
  have a4:=zkx (a:=o1*o1) (b:=2147483647) (by decide)
  have e2:(zac (zac (zac (zac (zac (zaf 6) (zaf 6) zbA) (dC (.int 2147483647)) zd2) (zaf 5) zcx) (dC (.int 39373)) zbA) (dC (.int 2147483587)) zd2)
    [.sh c,.sh (.lst (sz.map D.int)),.sh (.int num),.sh (.int left),.ow (.lst F),.sh (.int (k:Int)),.sh (.int o1)]=.ok (.int o2):=by
   rw[← ho2]
   refine(zaA (x:=.int (((o1*o1).fmod 2147483647+(k:Int))*39373)) (y:=.int 2147483587) ?_ rfl).trans (zd7 (by decide))
   refine(zaA (x:=.int ((o1*o1).fmod 2147483647+(k:Int))) (y:=.int 39373) ?_ rfl).trans (zgq (zdS (by omega) (by decide)))
   refine(zaA (x:=.int ((o1*o1).fmod 2147483647)) (y:=.int (k:Int)) ?_ rfl).trans rfl
   refine(zaA (x:=.int (o1*o1)) (y:=.int 2147483647) ?_ rfl).trans (zd7 (by decide))
   exact(zaA (x:=.int o1) (y:=.int o1) rfl rfl).trans (zgq (zdS (by omega) (by omega)))
  refine(zcS (zh0 e2)).trans ?_
  refine zeq (zoi (ds:=F) (d:=.int ((o2.fdiv 8).fmod s)) rfl ?_ hl)
  refine(zaA (x:=.int (o2.fdiv 8)) (y:=.int s) ?_ ((zaA (x:=.lst (sz.map D.int)) (y:=.int (k:Int)) rfl rfl).trans hix)).trans (zd7 (by omega))
  exact(zaA (x:=.int o2) (y:=.int 8) rfl rfl).trans (zjO (zre (by decide) (lt9 (by decide))))
theorem zlG {n k:Nat}(h:k < n):(DL.intsFrom 0 n).drop k=.int (k:Int)::(DL.intsFrom 0 n).drop (k+1):=by
 have hl:(DL.intsFrom 0 n).length=n:=by unfold DL.intsFrom;simp
 rw[List.drop_eq_getElem_cons (by rw[hl];exact h)]
 congr 1
 unfold DL.intsFrom
 simp
theorem znj {n:Nat}:(DL.intsFrom 0 n).drop n=[]:=by
 have hl:(DL.intsFrom 0 n).length=n:=by unfold DL.intsFrom;simp
 exact List.drop_eq_nil_of_le (by omega)
theorem zlN {tg:Ev->D->Res Ev}{s:Ev->Res Fl}{d:D}{r:List D}{ρ ρ1 ρ2:Ev}(h1:tg ρ d=.ok ρ1)(h2:s ρ1=.ok (.nx ρ2)):zfv tg s (d::r) ρ=zfv tg s r ρ2:=by
 rw[zfv,h1,bok,h2,bok]
theorem zfX {c:D}{sz:List Int}{num:Int}(hz:∀ s∈sz,0 < s/\s.natAbs < B9)(hn:sz.length<=1000):∀ (j k:Nat),k+j=sz.length->∀ (left:Int) (F:List Int) (x one:Sl),0<=left->F.length=k->(∀ (i:Nat) (v s:Int),F[i]?=some v->sz[i]?=some s->0<=v/\v < s) ->
  ∃ (left':Int) (F':List Int) (x' one':Sl),F'.length=sz.length/\(∀ (i:Nat) (v s:Int),F'[i]?=some v->sz[i]?=some s->0<=v/\v < s) /\
   zfv (zgC 5) zc5 ((DL.intsFrom 0 sz.length).drop k) [.sh c,.sh (.lst (sz.map D.int)),.sh (.int num),.sh (.int left),.ow (.lst (F.map D.int)),x,one] =
    .ok (.nx [.sh c,.sh (.lst (sz.map D.int)),.sh (.int num),.sh (.int left'),.ow (.lst (F'.map D.int)),x',one'])
 | 0,k,hk,left,F,x,one,h0,hF,hb=>by
  refine⟨left,F,x,one,by omega,hb,?_⟩
  have:k=sz.length:=by omega
  rw[this,znj]
  rfl
 | j+1,k,hk,left,F,x,one,h0,hF,hb=>by
  have hlt:k < sz.length:=by omega
  have hs:=hz _ (List.getElem_mem hlt)
  obtain⟨v,left',one',v0,v1,l0,e⟩:=zkA (c:=c) (num:=num) (F:=F.map D.int) (one:=one) (List.getElem?_eq_getElem hlt) hs.1 hs.2 (by omega) (by rw[List.length_map,hF];exact Nat.lt_of_lt_of_le hlt (Nat.le_trans hn (by decide))) h0
  have hb':∀ (i:Nat) (v' s:Int),(F++[v])[i]?=some v'->sz[i]?=some s->0<=v'/\v' < s:=by
   intro i v' s h1 h2
   by_cases hi:i < F.length
   ·rw[List.getElem?_append_left hi] at h1
    exact hb i v' s h1 h2
   ·rw[List.getElem?_append_right (by omega)] at h1
    have hi2:i-F.length=0:=by
     cases hq:i-F.length with
     | zero=>rfl
     | succ m=>rw[hq] at h1;simp at h1
    rw[hi2] at h1
    have hik:i=k:=by omega
    subst hik
    rw[List.getElem?_eq_getElem hlt] at h2
    cases h1;cases h2
    exact⟨v0,v1⟩
  obtain⟨left2,F2,x2,one2,p1,p2,p3⟩:=zfX hz hn j (k+1) (by omega) left' (F++[v]) (.sh (.int (k:Int))) one' l0 (by simp [hF]) hb'
  refine⟨left2,F2,x2,one2,p1,p2,?_⟩
  rw[zlG hlt,zlN (ρ1:=[.sh c,.sh (.lst (sz.map D.int)),.sh (.int num),.sh (.int left),.ow (.lst (F.map D.int)),.sh (.int (k:Int)),one]) rfl e]
  rw[← p3,List.map_append]
  rfl
theorem znA (c:Int)(sz:List Int)(hz:∀ s∈sz,0 < s/\s.natAbs < B9)(hn:sz.length<=1000) :
  ∃ vs:List Int,vs.length=sz.length/\(∀ (i:Nat) (v s:Int),vs[i]?=some v->sz[i]?=some s->0<=v/\v < s)/\zba [.int c,.lst (sz.map D.int)]=.ok (.lst (vs.map D.int)):=by
 generalize hnum:(if -1-c > c then -1-c else c)=num
 have hn0:0<=num:=by rw[← hnum];split<;>omega
 obtain⟨left',F',x',one',p1,p2,p3⟩:=zfX (c:=.int c) (num:=num) hz hn sz.length 0 (by omega) num [] .no .no hn0 rfl (fun i v s h=>by simp at h)
 refine⟨F',p1,p2,?_⟩
 have r:zca [.sh (.int c),.sh (.lst (sz.map D.int)),.no,.no,.no,.no,.no]=.ok (.rt (.lst (F'.map D.int))):=by
  unfold zca
  rw[zcS (ρ':=[.sh (.int c),.sh (.lst (sz.map D.int)),.sh (.int num),.no,.no,.no,.no]) (by rw[← hnum];rfl)]
  rw[zcS (ρ':=[.sh (.int c),.sh (.lst (sz.map D.int)),.sh (.int num),.sh (.int num),.no,.no,.no]) rfl]
  rw[zcS (ρ':=[.sh (.int c),.sh (.lst (sz.map D.int)),.sh (.int num),.sh (.int num),.ow (.lst []),.no,.no]) rfl]
  have w:(zk4 (zak (zad (zaf 1) zaH) (m1 zjd)) (zgC 5) zc5) [.sh (.int c),.sh (.lst (sz.map D.int)),.sh (.int num),.sh (.int num),.ow (.lst []),.no,.no] =
    .ok (.nx [.sh (.int c),.sh (.lst (sz.map D.int)),.sh (.int num),.sh (.int left'),.ow (.lst (F'.map D.int)),x',one']):=by
   unfold zk4
   have hlen:(zak (zad (zaf 1) zaH) (m1 zjd)) (shr [.sh (.int c),.sh (.lst (sz.map D.int)),.sh (.int num),.sh (.int num),.ow (.lst []),.no,.no])=.ok (.int (sz.length:Int)):=by
    show Res.ok (D.int ((sz.map D.int).length:Int))=_
    rw[List.length_map]
   rw[hlen,bok]
   show(if _ then _ else _)=_
   rw[if_pos (by omega)]
   rw[← p3]
   rfl
  exact(zcS w).trans (zjs (zjt rfl))
 exact zqb (n:=7) (ds:=[.int c,.lst (sz.map D.int)]) r
def isI:D->Bool
 | .int _=>true
 | _=>false
theorem zb0 (d:D):za1 [d]=.ok (.bl (isI d)):=by cases d<;>first | rfl | (rename_i k _;cases k<;>rfl)
theorem zfy {a g:Int}(hg:0 < g):a.fdiv g=a / g:=Int.fdiv_eq_ediv_of_nonneg a (by omega)
theorem zi6 {a b:Int}(h:b≠0):0 < (Int.gcd a b:Int):=by
 have:=Int.gcd_pos_of_ne_zero_right a h
 omega
theorem zic {a b:Int}(hb:0 < b)(h1:a.natAbs < B13)(h2:b.natAbs < B13):zbd [.int a,.int b]=.ok (.tup [.int (a / Int.gcd a b),.int (b / Int.gcd a b)]):=by
 have hg:=zi6 (a:=a) (b:=b) (by omega)
 have r:zbg [.sh (.int a),.sh (.int b),.no]=.ok (.rt (.tup [.int (a / Int.gcd a b),.int (b / Int.gcd a b)])):=by
  unfold zbg
  rw[zcS (ρ':=[.sh (.int a),.sh (.int b),.sh (.int (Int.gcd a b))]) (zh0 ((zjV (xs:=[.int a,.int b]) rfl).trans (zgE a b)))]
  refine zjs (zjt ?_)
  refine(zjV (xs:=[.int (a / Int.gcd a b),.int (b / Int.gcd a b)]) (zfA ?_ (zfA ?_ rfl))).trans rfl
  ·rw[← zfy hg]
   exact(zaA (x:=.int a) (y:=.int (Int.gcd a b)) rfl rfl).trans (zjO (zgF (by omega) h1))
  ·rw[← zfy hg]
   exact(zaA (x:=.int b) (y:=.int (Int.gcd a b)) rfl rfl).trans (zjO (zgF (by omega) h2))
 show(zbg [.sh (.int a),.sh (.int b),.no]).bind _=_
 rw[r]
 rfl
def zrF (p q:Int):D:=.tup [.int p,.int q]
abbrev Fra:=Int×Int
def fr (x:Fra):D:=zrF x.1 x.2
def N60:Nat:=1000000000000000000000000000000000000000000000000000000000000
theorem zmy:B13<=B60:=by rw[zmx,zmw];exact Nat.pow_le_pow_right (by decide) (by decide)
def low (a b:Int):Fra:=(a / Int.gcd a b,b / Int.gcd a b)
theorem zk2 {n:Nat}(x:Fra):zbb (n+1) (fr x)=true:=by
 cases n<;>rfl
theorem zsE {x y:Fra}:eqD (fr x) (fr y)=(x.1==y.1&&x.2==y.2):=by
 unfold fr zrF
 simp [eqD,eqDs]
theorem zkz {x:Fra}:eqD (fr x) (fr x)=true:=by rw[zsE];simp
theorem ztb {f:Ev->Res D}{tg:Ev->D->Res Ev}{s:Ev->Res Fl}{ρ:Ev}{ds:List D}(h:f ρ=.ok (.lst ds)):znU f tg s ρ=zfv tg s ds ρ:=by unfold znU;rw[h];rfl
theorem zi8 {tg:Ev->D->Res Ev}{body:Ev->Res Fl}(P:Ev->Prop):∀ {ds:List D},(∀ d∈ds,∀ ρ,P ρ->∃ ρ1 ρ2,tg ρ d=.ok ρ1/\body ρ1=.ok (.nx ρ2)/\P ρ2)->∀ ρ,P ρ->∃ ρ',zfv tg body ds ρ=.ok (.nx ρ')/\P ρ'
 | [],_,ρ,h=>⟨ρ,rfl,h⟩
 | d::r,hs,ρ,h=>by
  obtain⟨ρ1,ρ2,h1,h2,h3⟩:=hs d List.mem_cons_self ρ h
  obtain⟨ρ',h4,h5⟩:=zi8 P (fun e he=>hs e (List.mem_cons_of_mem _ he)) ρ2 h3
  exact⟨ρ',by rw[zlN h1 h2];exact h4,h5⟩
theorem zaq {α:Type}{a b:α}(h:a=b):a=b:=h
def zp8 (t:Ev->Res Fl)(r:Fl):Res Fl:=match r with
 | .nx ρ'=>t ρ'
 | r=>.ok r
def zrz (i:Nat)(ρ:Ev)(d:D):Res Fl:=.ok (.nx (ρ.set i (.sh d)))
def zsV (d:D):Res Fl:=.ok (.rt d)
def zpl (ρ:Ev)(_:D):Res Fl:=.ok (.nx ρ)
def ifK (s t:Ev->Res Fl)(ρ:Ev)(x:D):Res Fl:=match x with
 | .bl b=>if b=true then s ρ else t ρ
 | _=>.stuck
def zs6 (i:Nat)(ρ:Ev)(d:D):Res Fl:=match d with
 | .lst ds=>.ok (.nx (ρ.set i (.ow (.lst ds))))
 | _=>.stuck
def zqA (s:Option Sl)(k:List D->Res Fl):Res Fl:=match s with
 | some (.ow (.lst ds))=>k ds
 | _=>.stuck
def ztd (i:Nat)(ρ:Ev)(ds:List D)(d:D):Res Fl:=if ds.length < line then .ok (.nx (ρ.set i (.ow (.lst (ds++[d]))))) else .stuck
def zrn (i:Nat)(ρ:Ev)(ds:List D)(d:D):Res Fl:=if zn0 d=true/\ds.length < line then .ok (.nx (ρ.set i (.ow (.lst (ds++[d]))))) else .stuck
def zse (i:Nat)(ρ:Ev)(k:Ev->Res D)(ds:List D)(d:D):Res Fl:=(k ρ).bind (DL.putAt ρ i ds d)
def znV (i:Nat)(ρ:Ev)(ds:List D)(d j:D):Res Fl:=if zn0 d=true then DL.putAt ρ i ds d j else .stuck
def zqi (i:Nat)(ρ:Ev)(k:Ev->Res D)(ds:List D)(d:D):Res Fl:=(k (shr ρ)).bind (znV i ρ ds d)
def zpS (is:List Nat)(ρ:Ev)(d:D):Res Fl:=match zcZ is.length d with
 | some ds=>.ok (.nx (zch ρ is ds))
 | none=>.stuck
def zs4 (i j:Nat)(ρ:Ev)(ds:List D):Res Fl:=match ds with
 | [x,y]=>.ok (.nx ((ρ.set i (.sh x)).set j (.sh y)))
 | _=>.stuck
def k2 (g:Ev->Res D)(op:D->D->Res D)(ρ:Ev)(x:D):Res D:=(g ρ).bind (op x)
def zmg (x:D)(xs:List D):Res (List D):=.ok (x::xs)
def zrj (fa:Ev->Res (List D))(ρ:Ev)(x:D):Res (List D):=(fa ρ).bind (zmg x)
def zsP (g:Ev->Res D)(ρ:Ev)(x:D):Res D:=match x with
 | .bl true=>g ρ
 | .bl false=>.ok (.bl false)
 | _=>.stuck
def orK (g:Ev->Res D)(ρ:Ev)(x:D):Res D:=match x with
 | .bl true=>.ok (.bl true)
 | .bl false=>g ρ
 | _=>.stuck
def zs8 (x:D):Res D:=match x with
 | .bl b=>.ok (.bl (!b))
 | _=>.stuck
def zsu (f g:Ev->Res D)(ρ:Ev)(x:D):Res D:=match x with
 | .bl true=>f ρ
 | .bl false=>g ρ
 | _=>.stuck
def zsS (s:Option Sl):Res D:=match s with
 | some (.sh d)=>.ok d
 | _=>.stuck
def zp5 (s:Sl):Sl:=match s with
 | .ow d=>.sh d
 | .ox _ ds=>.sh (.tup ds)
 | x=>x
def zr9 (r:Fl):Res D:=match r with
 | .nx _=>.ok .non
 | .rt d=>.ok d
 | _=>.stuck
def osK (x:D):Res (Option Int):=match x with
 | .int i=>.ok (some i)
 | _=>.stuck
def zmz (x:D)(l:Option Int)(h:Option Int):Res D:=zfD x l h
def slK (hi:Ev->Res (Option Int))(ρ:Ev)(x:D)(l:Option Int):Res D:=(hi ρ).bind (zmz x l)
def zsU (lo hi:Ev->Res (Option Int))(ρ:Ev)(x:D):Res D:=(lo ρ).bind (slK hi ρ x)
def ztc (tg:Ev->D->Res Ev)(s:Ev->Res Fl)(ρ:Ev)(d:D):Res Fl:=match d with
 | .lst ds=>zfv tg s ds ρ
 | _=>.stuck
def zrH (op':D->D->Res D)(h:Ev->Res D)(ρ:Ev)(y z:D):Res D:=match z with
 | .bl true=>(h ρ).bind (op' y)
 | .bl false=>.ok (.bl false)
 | _=>.stuck
def zsM (op op':D->D->Res D)(h:Ev->Res D)(ρ:Ev)(x y:D):Res D:=(op x y).bind (zrH op' h ρ y)
def chK (op op':D->D->Res D)(g h:Ev->Res D)(ρ:Ev)(x:D):Res D:=(g ρ).bind (zsM op op' h ρ x)
section
variable {s t:Ev->Res Fl}{f g h:Ev->Res D}{fa:Ev->Res (List D)}{ρ r:Ev}{i j:Nat}{d x y:D}{ds xs:List D}{op op':D->D->Res D}{a b:Int}
theorem ev_ok {α β:Type}{a:α}{k:α->Res β}:(Res.ok a).bind k=k a:=zaq rfl
theorem ev_seq:zar s t ρ=(s ρ).bind (zp8 t):=zaq rfl
theorem ev_seq1:zp8 t (.nx ρ)=t ρ:=zaq rfl
theorem ev_seq2:zp8 t (.rt d)=.ok (.rt d):=zaq rfl
theorem ev_seq3:zp8 t (.bk ρ)=.ok (.bk ρ):=zaq rfl
theorem ev_seq4:zp8 t (.ct ρ)=.ok (.ct ρ):=zaq rfl
theorem ev_next:zaj ρ=.ok (.nx ρ):=zaq rfl
theorem ev_set:zbo i f ρ=(f ρ).bind (zrz i ρ):=zaq rfl
theorem ev_set1:zrz i ρ d=.ok (.nx (ρ.set i (.sh d))):=zaq rfl
theorem ev_ret:zci f ρ=(f (shr ρ)).bind zsV:=zaq rfl
theorem ev_ret1:zsV d=.ok (.rt d):=zaq rfl
theorem ev_retN:zr4 ρ=.ok (.rt .non):=zaq rfl
theorem ev_drop:zr8 f ρ=(f (shr ρ)).bind (zpl ρ):=zaq rfl
theorem ev_drop1:zpl ρ d=.ok (.nx ρ):=zaq rfl
theorem ev_if:sIf f s t ρ=(f (shr ρ)).bind (ifK s t ρ):=zaq rfl
theorem ev_if1:ifK s t ρ (.bl true)=s ρ:=zaq rfl
theorem ev_if2:ifK s t ρ (.bl false)=t ρ:=zaq rfl
theorem ev_own:zrB i f ρ=(f ρ).bind (zs6 i ρ):=zaq rfl
theorem ev_own1:zs6 i ρ (.lst ds)=.ok (.nx (ρ.set i (.ow (.lst ds)))):=zaq rfl
theorem ev_app:zdq i f ρ=zqA ρ[i]? fun ds=>(f ρ).bind (ztd i ρ ds):=zaq rfl
theorem ev_ownS {k:List D->Res Fl}:zqA (some (.ow (.lst ds))) k=k ds:=zaq rfl
theorem ev_app1 (h:decide (ds.length<=999)=true):ztd i ρ ds d=.ok (.nx (ρ.set i (.ow (.lst (ds++[d]))))):=if_pos (Nat.lt_of_le_of_lt (of_decide_eq_true h) (by decide))
theorem ev_appL:zmS i f ρ=zqA ρ[i]? fun ds=>(f (shr ρ)).bind (zrn i ρ ds):=zaq rfl
theorem ev_appL1 (hf:zn0 d=true)(h:decide (ds.length<=999)=true):zrn i ρ ds d=.ok (.nx (ρ.set i (.ow (.lst (ds++[d]))))):=if_pos ⟨hf,Nat.lt_of_le_of_lt (of_decide_eq_true h) (by decide)⟩
theorem ev_put:ztx i f g ρ=zqA ρ[i]? fun ds=>(f ρ).bind (zse i ρ g ds):=zaq rfl
theorem ev_put1:zse i ρ g ds d=(g ρ).bind (DL.putAt ρ i ds d):=zaq rfl
theorem ev_putL:zr5 i f g ρ=zqA ρ[i]? fun ds=>(f (shr ρ)).bind (zqi i ρ g ds):=zaq rfl
theorem ev_putL1:zqi i ρ g ds d=(g (shr ρ)).bind (znV i ρ ds d):=zaq rfl
theorem ev_frz:zty i s ρ=s (unown i ρ):=zaq rfl
theorem ev_unp {is:List Nat}:zrA is f ρ=(f ρ).bind (zpS is ρ):=zaq rfl
theorem ev_par:znT i j fa ρ=(fa ρ).bind (zs4 i j ρ):=zaq rfl
theorem ev_par1:zs4 i j ρ [x,y]=.ok (.nx ((ρ.set i (.sh x)).set j (.sh y))):=zaq rfl
theorem ev_b1 {o:D->Res D}:zbr f o ρ=(f ρ).bind o:=zaq rfl
theorem ev_b2:zac f g op ρ=(f ρ).bind (k2 g op ρ):=zaq rfl
theorem ev_b21:k2 g op ρ x=(g ρ).bind (op x):=zaq rfl
theorem ev_bA {m:List D->Res D}:zak fa m ρ=(fa ρ).bind m:=zaq rfl
theorem ev_nil:zaH ρ=.ok []:=zaq rfl
theorem ev_cons:zad f fa ρ=(f ρ).bind (zrj fa ρ):=zaq rfl
theorem ev_cons1:zrj fa ρ x=(fa ρ).bind (zmg x):=zaq rfl
theorem ev_cons2:zmg x xs=.ok (x::xs):=zaq rfl
theorem ev_and:zhk f g ρ=(f ρ).bind (zsP g ρ):=zaq rfl
theorem ev_and1:zsP g ρ (.bl true)=g ρ:=zaq rfl
theorem ev_and2:zsP g ρ (.bl false)=.ok (.bl false):=zaq rfl
theorem ev_or:dOr f g ρ=(f ρ).bind (orK g ρ):=zaq rfl
theorem ev_or1:orK g ρ (.bl true)=.ok (.bl true):=zaq rfl
theorem ev_or2:orK g ρ (.bl false)=g ρ:=zaq rfl
theorem ev_not:zem f ρ=(f ρ).bind zs8:=zaq rfl
theorem ev_not1 {c:Bool}:zs8 (.bl c)=.ok (.bl (!c)):=zaq rfl
theorem ev_ifx:dIf h f g ρ=(h ρ).bind (zsu f g ρ):=zaq rfl
theorem ev_ifx1:zsu f g ρ (.bl true)=f ρ:=zaq rfl
theorem ev_ifx2:zsu f g ρ (.bl false)=g ρ:=zaq rfl
theorem ev_var:zaf i ρ=zsS ρ[i]?:=zaq rfl
theorem ev_var1:zsS (some (.sh d))=.ok d:=zaq rfl
theorem ev_C:dC d ρ=.ok d:=zaq rfl
theorem ev_shr0:shr []=[]:=zaq rfl
theorem ev_shr {c:Sl}:shr (c::r)=zp5 c::shr r:=zaq rfl
theorem ev_shr1:zp5 (.ow d)=.sh d:=zaq rfl
theorem ev_shr4:zp5 (.ox j ds)=.sh (.tup ds):=zaq rfl
theorem ev_shr2:zp5 (.sh d)=.sh d:=zaq rfl
theorem ev_shr3:zp5 .no=.no:=zaq rfl
theorem ev_run {n:Nat}:zdm n s ds=(s (ds.map Sl.sh++List.replicate (n-ds.length) .no)).bind zr9:=zaq rfl
theorem ev_run1:zr9 (.rt d)=.ok d:=zaq rfl
theorem ev_run2:zr9 (.nx ρ)=.ok .non:=zaq rfl
theorem ev_os:zdv f ρ=(f ρ).bind osK:=zaq rfl
theorem ev_os1:osK (.int a)=.ok (some a):=zaq rfl
theorem ev_on:zd0 ρ=.ok none:=zaq rfl
theorem ev_sl {lo hi:Ev->Res (Option Int)}:ziL f lo hi ρ=(f ρ).bind (zsU lo hi ρ):=zaq rfl
theorem ev_sl0 {lo hi:Ev->Res (Option Int)}:zsU lo hi ρ x=(lo ρ).bind (slK hi ρ x):=zaq rfl
theorem ev_sl1 {hi:Ev->Res (Option Int)}{l:Option Int}:slK hi ρ x l=(hi ρ).bind (zmz x l):=zaq rfl
theorem ev_sl2 {l l':Option Int}:zmz (.lst ds) l l'=.ok (.lst (zmf ds l l')):=zaq rfl
theorem ev_for {tg:Ev->D->Res Ev}:znU f tg s ρ=(f ρ).bind (ztc tg s ρ):=zaq rfl
theorem ev_for1 {tg:Ev->D->Res Ev}:ztc tg s ρ (.lst ds)=zfv tg s ds ρ:=zaq rfl
theorem ev_chain:zeG op op' f g h ρ=(f ρ).bind (chK op op' g h ρ):=zaq rfl
theorem ev_ch:chK op op' g h ρ x=(g ρ).bind (zsM op op' h ρ x):=zaq rfl
theorem ev_ch1:zsM op op' h ρ x y=(op x y).bind (zrH op' h ρ y):=zaq rfl
theorem ev_ch2:zrH op' h ρ y (.bl true)=(h ρ).bind (op' y):=zaq rfl
theorem ev_ch3:zrH op' h ρ y (.bl false)=.ok (.bl false):=zaq rfl
theorem ev_iop {o:Int->Int->D}:iop (fun _ _=>true) o (.int a) (.int b)=.ok (o a b):=zaq rfl
theorem ev_add:zcx (.int a) (.int b)=.ok (.int (a+b)):=zaq rfl
theorem ev_addL {es:List D}(h:decide (ds.length+es.length<=1000)=true):zcx (.lst ds) (.lst es)=.ok (.lst (ds++es)):=if_pos (Nat.le_trans (of_decide_eq_true h) (by decide))
theorem ev_neg:zpJ (.int a)=.ok (.int (-a)):=zaq rfl
theorem ev_m1 {m:D->Res D}:m1 m [x]=m x:=zaq rfl
theorem ev_m2 {m:D->D->Res D}:m2 m [x,y]=m x y:=zaq rfl
theorem ev_lenL:zjd (.lst ds)=.ok (.int ds.length):=zaq rfl
theorem ev_lenT:zjd (.tup ds)=.ok (.int ds.length):=zaq rfl
theorem ev_tup (h:decide (ds.length<=1000)=true):zkp ds=.ok (.tup ds):=if_pos (Nat.le_trans (of_decide_eq_true h) (by decide))
theorem ev_lst (h:decide (ds.length<=1000)=true):zg9 ds=.ok (.lst ds):=if_pos (Nat.le_trans (of_decide_eq_true h) (by decide))
theorem ev_is_bool_non:zbV "bool" (.non)=.ok (.bl false):=zaq rfl
theorem ev_is_bool_bl {c:Bool}:zbV "bool" (.bl c)=.ok (.bl true):=zaq rfl
theorem ev_is_bool_int:zbV "bool" (.int a)=.ok (.bl false):=zaq rfl
theorem ev_is_bool_str {z:Str}:zbV "bool" (.str z)=.ok (.bl false):=zaq rfl
theorem ev_is_bool_tup:zbV "bool" (.tup ds)=.ok (.bl false):=zaq rfl
theorem ev_is_bool_lst:zbV "bool" (.lst ds)=.ok (.bl false):=zaq rfl
theorem ev_is_bool_dic {ks:List Str}:zbV "bool" (.dic ks ds)=.ok (.bl false):=zaq rfl
theorem ev_is_int_non:zbV "int" (.non)=.ok (.bl false):=zaq rfl
theorem ev_is_int_bl {c:Bool}:zbV "int" (.bl c)=.ok (.bl true):=zaq rfl
theorem ev_is_int_int:zbV "int" (.int a)=.ok (.bl true):=zaq rfl
theorem ev_is_int_str {z:Str}:zbV "int" (.str z)=.ok (.bl false):=zaq rfl
theorem ev_is_int_tup:zbV "int" (.tup ds)=.ok (.bl false):=zaq rfl
theorem ev_is_int_lst:zbV "int" (.lst ds)=.ok (.bl false):=zaq rfl
theorem ev_is_int_dic {ks:List Str}:zbV "int" (.dic ks ds)=.ok (.bl false):=zaq rfl
theorem ev_is_str_non:zbV "str" (.non)=.ok (.bl false):=zaq rfl
theorem ev_is_str_bl {c:Bool}:zbV "str" (.bl c)=.ok (.bl false):=zaq rfl
theorem ev_is_str_int:zbV "str" (.int a)=.ok (.bl false):=zaq rfl
theorem ev_is_str_str {z:Str}:zbV "str" (.str z)=.ok (.bl true):=zaq rfl
theorem ev_is_str_tup:zbV "str" (.tup ds)=.ok (.bl false):=zaq rfl
theorem ev_is_str_lst:zbV "str" (.lst ds)=.ok (.bl false):=zaq rfl
theorem ev_is_str_dic {ks:List Str}:zbV "str" (.dic ks ds)=.ok (.bl false):=zaq rfl
theorem ev_is_tuple_non:zbV "tuple" (.non)=.ok (.bl false):=zaq rfl
theorem ev_is_tuple_bl {c:Bool}:zbV "tuple" (.bl c)=.ok (.bl false):=zaq rfl
theorem ev_is_tuple_int:zbV "tuple" (.int a)=.ok (.bl false):=zaq rfl
theorem ev_is_tuple_str {z:Str}:zbV "tuple" (.str z)=.ok (.bl false):=zaq rfl
theorem ev_is_tuple_tup:zbV "tuple" (.tup ds)=.ok (.bl true):=zaq rfl
theorem ev_is_tuple_lst:zbV "tuple" (.lst ds)=.ok (.bl false):=zaq rfl
theorem ev_is_tuple_dic {ks:List Str}:zbV "tuple" (.dic ks ds)=.ok (.bl false):=zaq rfl
theorem ev_is_list_non:zbV "list" (.non)=.ok (.bl false):=zaq rfl
theorem ev_is_list_bl {c:Bool}:zbV "list" (.bl c)=.ok (.bl false):=zaq rfl
theorem ev_is_list_int:zbV "list" (.int a)=.ok (.bl false):=zaq rfl
theorem ev_is_list_str {z:Str}:zbV "list" (.str z)=.ok (.bl false):=zaq rfl
theorem ev_is_list_tup:zbV "list" (.tup ds)=.ok (.bl false):=zaq rfl
theorem ev_is_list_lst:zbV "list" (.lst ds)=.ok (.bl true):=zaq rfl
theorem ev_is_list_dic {ks:List Str}:zbV "list" (.dic ks ds)=.ok (.bl false):=zaq rfl
theorem ev_is_dict_non:zbV "dict" (.non)=.ok (.bl false):=zaq rfl
theorem ev_is_dict_bl {c:Bool}:zbV "dict" (.bl c)=.ok (.bl false):=zaq rfl
theorem ev_is_dict_int:zbV "dict" (.int a)=.ok (.bl false):=zaq rfl
theorem ev_is_dict_str {z:Str}:zbV "dict" (.str z)=.ok (.bl false):=zaq rfl
theorem ev_is_dict_tup:zbV "dict" (.tup ds)=.ok (.bl false):=zaq rfl
theorem ev_is_dict_lst:zbV "dict" (.lst ds)=.ok (.bl false):=zaq rfl
theorem ev_is_dict_dic {ks:List Str}:zbV "dict" (.dic ks ds)=.ok (.bl true):=zaq rfl
theorem ev_isN_non:zmB (.non) .non=.ok (.bl true):=zaq rfl
theorem ev_notN_non:zjc (.non) .non=.ok (.bl false):=zaq rfl
theorem ev_isN_bl {c:Bool}:zmB (.bl c) .non=.ok (.bl false):=zaq rfl
theorem ev_notN_bl {c:Bool}:zjc (.bl c) .non=.ok (.bl true):=zaq rfl
theorem ev_isN_int:zmB (.int a) .non=.ok (.bl false):=zaq rfl
theorem ev_notN_int:zjc (.int a) .non=.ok (.bl true):=zaq rfl
theorem ev_isN_str {z:Str}:zmB (.str z) .non=.ok (.bl false):=zaq rfl
theorem ev_notN_str {z:Str}:zjc (.str z) .non=.ok (.bl true):=zaq rfl
theorem ev_isN_tup:zmB (.tup ds) .non=.ok (.bl false):=zaq rfl
theorem ev_notN_tup:zjc (.tup ds) .non=.ok (.bl true):=zaq rfl
theorem ev_isN_lst:zmB (.lst ds) .non=.ok (.bl false):=zaq rfl
theorem ev_notN_lst:zjc (.lst ds) .non=.ok (.bl true):=zaq rfl
theorem ev_isN_dic {ks:List Str}:zmB (.dic ks ds) .non=.ok (.bl false):=zaq rfl
theorem ev_notN_dic {ks:List Str}:zjc (.dic ks ds) .non=.ok (.bl true):=zaq rfl
theorem zjK (h:zew a b=true):zbA (.int a) (.int b)=.ok (.int (a*b)):=if_pos h
theorem ev_mod (h:(b==0)=false):zd2 (.int a) (.int b)=.ok (.int (a.fmod b)):=zd7 (fun z=>by rw[z] at h;cases h)
theorem zjL (h:zd1 a b=true):zje (.int a) (.int b)=.ok (.int (a.fdiv b)):=if_pos h
theorem ev_unpL {is:List Nat}(h:(ds.length==is.length)=true):zpS is ρ (.lst ds)=.ok (.nx (zch ρ is ds)):=by
 unfold zpS zcZ
 simp only[if_pos (eq_of_beq h)]
theorem ev_unpT {is:List Nat}(h:(ds.length==is.length)=true):zpS is ρ (.tup ds)=.ok (.nx (zch ρ is ds)):=by
 unfold zpS zcZ
 simp only[if_pos (eq_of_beq h)]
theorem ev_sa {is:List Nat}:zch ρ (i::is) (d::ds)=zch (ρ.set i (.sh d)) is ds:=zaq rfl
theorem ev_sa0:zch ρ [] ds=ρ:=zaq rfl
def unK (i:Nat)(ρ:Ev)(s:Option Sl):Ev:=match s with
 | some (.ow d)=>ρ.set i (.sh d)
 | _=>ρ
theorem ev_un:unown i ρ=unK i ρ ρ[i]?:=zaq rfl
theorem ev_un1:unK i ρ (some (.ow d))=ρ.set i (.sh d):=zaq rfl
theorem ev_un2:unK i ρ (some (.sh d))=ρ:=zaq rfl
theorem ev_un3:unK i ρ (some .no)=ρ:=zaq rfl
theorem zeE {n:Nat}{j:Int}(h:ixN ds.length j=some n):DL.putAt ρ i ds d (.int j)=.ok (.nx (ρ.set i (.ow (.lst (ds.set n d))))):=by
 unfold DL.putAt
 simp only[h]
theorem ev_ixL0 {x0:D}:dIx (.lst (x0::xs)) (.int 0)=.ok x0:=by
 unfold dIx
 simp only[show atI (x0::xs) 0=some x0 from zaX (j:=0) rfl]
theorem ev_ixT0 {x0:D}:dIx (.tup (x0::xs)) (.int 0)=.ok x0:=by
 unfold dIx
 simp only[show atI (x0::xs) 0=some x0 from zaX (j:=0) rfl]
theorem ev_ixL1 {x0 x1:D}:dIx (.lst (x0::x1::xs)) (.int 1)=.ok x1:=by
 unfold dIx
 simp only[show atI (x0::x1::xs) 1=some x1 from zaX (j:=1) rfl]
theorem ev_ixT1 {x0 x1:D}:dIx (.tup (x0::x1::xs)) (.int 1)=.ok x1:=by
 unfold dIx
 simp only[show atI (x0::x1::xs) 1=some x1 from zaX (j:=1) rfl]
theorem ev_ixL2 {x0 x1 x2:D}:dIx (.lst (x0::x1::x2::xs)) (.int 2)=.ok x2:=by
 unfold dIx
 simp only[show atI (x0::x1::x2::xs) 2=some x2 from zaX (j:=2) rfl]
theorem ev_ixT2 {x0 x1 x2:D}:dIx (.tup (x0::x1::x2::xs)) (.int 2)=.ok x2:=by
 unfold dIx
 simp only[show atI (x0::x1::x2::xs) 2=some x2 from zaX (j:=2) rfl]
theorem ev_ixL3 {x0 x1 x2 x3:D}:dIx (.lst (x0::x1::x2::x3::xs)) (.int 3)=.ok x3:=by
 unfold dIx
 simp only[show atI (x0::x1::x2::x3::xs) 3=some x3 from zaX (j:=3) rfl]
theorem ev_ixT3 {x0 x1 x2 x3:D}:dIx (.tup (x0::x1::x2::x3::xs)) (.int 3)=.ok x3:=by
 unfold dIx
 simp only[show atI (x0::x1::x2::x3::xs) 3=some x3 from zaX (j:=3) rfl]
theorem ev_ixL4 {x0 x1 x2 x3 x4:D}:dIx (.lst (x0::x1::x2::x3::x4::xs)) (.int 4)=.ok x4:=by
 unfold dIx
 simp only[show atI (x0::x1::x2::x3::x4::xs) 4=some x4 from zaX (j:=4) rfl]
theorem ev_ixT4 {x0 x1 x2 x3 x4:D}:dIx (.tup (x0::x1::x2::x3::x4::xs)) (.int 4)=.ok x4:=by
 unfold dIx
 simp only[show atI (x0::x1::x2::x3::x4::xs) 4=some x4 from zaX (j:=4) rfl]
theorem ev_ixL5 {x0 x1 x2 x3 x4 x5:D}:dIx (.lst (x0::x1::x2::x3::x4::x5::xs)) (.int 5)=.ok x5:=by
 unfold dIx
 simp only[show atI (x0::x1::x2::x3::x4::x5::xs) 5=some x5 from zaX (j:=5) rfl]
theorem ev_ixT5 {x0 x1 x2 x3 x4 x5:D}:dIx (.tup (x0::x1::x2::x3::x4::x5::xs)) (.int 5)=.ok x5:=by
 unfold dIx
 simp only[show atI (x0::x1::x2::x3::x4::x5::xs) 5=some x5 from zaX (j:=5) rfl]
theorem ev_ixL6 {x0 x1 x2 x3 x4 x5 x6:D}:dIx (.lst (x0::x1::x2::x3::x4::x5::x6::xs)) (.int 6)=.ok x6:=by
 unfold dIx
 simp only[show atI (x0::x1::x2::x3::x4::x5::x6::xs) 6=some x6 from zaX (j:=6) rfl]
theorem ev_ixL7 {x0 x1 x2 x3 x4 x5 x6 x7:D}:dIx (.lst (x0::x1::x2::x3::x4::x5::x6::x7::xs)) (.int 7)=.ok x7:=by
 unfold dIx
 simp only[show atI (x0::x1::x2::x3::x4::x5::x6::x7::xs) 7=some x7 from zaX (j:=7) rfl]
theorem ev_ixL8 {x0 x1 x2 x3 x4 x5 x6 x7 x8:D}:dIx (.lst (x0::x1::x2::x3::x4::x5::x6::x7::x8::xs)) (.int 8)=.ok x8:=by
 unfold dIx
 simp only[show atI (x0::x1::x2::x3::x4::x5::x6::x7::x8::xs) 8=some x8 from zaX (j:=8) rfl]
theorem ev_ixL9 {x0 x1 x2 x3 x4 x5 x6 x7 x8 x9:D}:dIx (.lst (x0::x1::x2::x3::x4::x5::x6::x7::x8::x9::xs)) (.int 9)=.ok x9:=by
 unfold dIx
 simp only[show atI (x0::x1::x2::x3::x4::x5::x6::x7::x8::x9::xs) 9=some x9 from zaX (j:=9) rfl]
theorem ev_ixL10 {x0 x1 x2 x3 x4 x5 x6 x7 x8 x9 x10:D}:dIx (.lst (x0::x1::x2::x3::x4::x5::x6::x7::x8::x9::x10::xs)) (.int 10)=.ok x10:=by
 unfold dIx
 simp only[show atI (x0::x1::x2::x3::x4::x5::x6::x7::x8::x9::x10::xs) 10=some x10 from zaX (j:=10) rfl]
theorem ev_ixL11 {x0 x1 x2 x3 x4 x5 x6 x7 x8 x9 x10 x11:D}:dIx (.lst (x0::x1::x2::x3::x4::x5::x6::x7::x8::x9::x10::x11::xs)) (.int 11)=.ok x11:=by
 unfold dIx
 simp only[show atI (x0::x1::x2::x3::x4::x5::x6::x7::x8::x9::x10::x11::xs) 11=some x11 from zaX (j:=11) rfl]
theorem ev_ixL12 {x0 x1 x2 x3 x4 x5 x6 x7 x8 x9 x10 x11 x12:D}:dIx (.lst (x0::x1::x2::x3::x4::x5::x6::x7::x8::x9::x10::x11::x12::xs)) (.int 12)=.ok x12:=by
 unfold dIx
 simp only[show atI (x0::x1::x2::x3::x4::x5::x6::x7::x8::x9::x10::x11::x12::xs) 12=some x12 from zaX (j:=12) rfl]
theorem ev_ixL13 {x0 x1 x2 x3 x4 x5 x6 x7 x8 x9 x10 x11 x12 x13:D}:dIx (.lst (x0::x1::x2::x3::x4::x5::x6::x7::x8::x9::x10::x11::x12::x13::xs)) (.int 13)=.ok x13:=by
 unfold dIx
 simp only[show atI (x0::x1::x2::x3::x4::x5::x6::x7::x8::x9::x10::x11::x12::x13::xs) 13=some x13 from zaX (j:=13) rfl]
theorem ev_c0:((0:Nat):Int)=0:=zaq rfl
theorem ev_c1:((1:Nat):Int)=1:=zaq rfl
theorem ev_c2:((2:Nat):Int)=2:=zaq rfl
theorem ev_c3:((3:Nat):Int)=3:=zaq rfl
theorem ev_c4:((4:Nat):Int)=4:=zaq rfl
theorem ev_c5:((5:Nat):Int)=5:=zaq rfl
theorem ev_c6:((6:Nat):Int)=6:=zaq rfl
theorem ev_c7:((7:Nat):Int)=7:=zaq rfl
theorem ev_c8:((8:Nat):Int)=8:=zaq rfl
theorem ev_c9:((9:Nat):Int)=9:=zaq rfl
theorem ev_c10:((10:Nat):Int)=10:=zaq rfl
theorem ev_c11:((11:Nat):Int)=11:=zaq rfl
theorem ev_pt0 {x0:D}:DL.putAt ρ i (x0::xs) d (.int 0)=.ok (.nx (ρ.set i (.ow (.lst (d::xs))))):=by
 refine(zeE (n:=0) ?_).trans rfl
 unfold ixN
 rw[if_pos (by decide),if_pos (by simp only[List.length_cons];omega)]
 rfl
theorem ev_pt1 {x0 x1:D}:DL.putAt ρ i (x0::x1::xs) d (.int 1)=.ok (.nx (ρ.set i (.ow (.lst (x0::d::xs))))):=by
 refine(zeE (n:=1) ?_).trans rfl
 unfold ixN
 rw[if_pos (by decide),if_pos (by simp only[List.length_cons];omega)]
 rfl
theorem ev_pt2 {x0 x1 x2:D}:DL.putAt ρ i (x0::x1::x2::xs) d (.int 2)=.ok (.nx (ρ.set i (.ow (.lst (x0::x1::d::xs))))):=by
 refine(zeE (n:=2) ?_).trans rfl
 unfold ixN
 rw[if_pos (by decide),if_pos (by simp only[List.length_cons];omega)]
 rfl
theorem ev_pt3 {x0 x1 x2 x3:D}:DL.putAt ρ i (x0::x1::x2::x3::xs) d (.int 3)=.ok (.nx (ρ.set i (.ow (.lst (x0::x1::x2::d::xs))))):=by
 refine(zeE (n:=3) ?_).trans rfl
 unfold ixN
 rw[if_pos (by decide),if_pos (by simp only[List.length_cons];omega)]
 rfl
theorem ev_pt4 {x0 x1 x2 x3 x4:D}:DL.putAt ρ i (x0::x1::x2::x3::x4::xs) d (.int 4)=.ok (.nx (ρ.set i (.ow (.lst (x0::x1::x2::x3::d::xs))))):=by
 refine(zeE (n:=4) ?_).trans rfl
 unfold ixN
 rw[if_pos (by decide),if_pos (by simp only[List.length_cons];omega)]
 rfl
theorem ev_p60:zjQ (.int 10) (.int 60)=.ok (.int (N60:Int)):=by
 have e:(10:Int) ^ (60:Int).toNat=(N60:Int):=by decide
 rw[← e]
 rfl
end
def zq0 (fa:Ev->Res (List D))(ρ:Ev)(x:D):Res D:=match x with
 | .str z=>(fa ρ).bind (zo4 z)
 | _=>.stuck
theorem ev_join {f:Ev->Res D}{fa:Ev->Res (List D)}{ρ:Ev}:zsL f fa ρ=(f ρ).bind (zq0 fa ρ):=zaq rfl
theorem ev_join1 {fa:Ev->Res (List D)}{ρ:Ev}{z:Str}:zq0 fa ρ (.str z)=(fa ρ).bind (zo4 z):=zaq rfl
def zsW (g:Ev->Res D)(ρ:Ev)(x:D):Res D:=match x with
 | .lst ds=>(g ρ).bind (zrh (.lst ds))
 | _=>.stuck
theorem ev_rep {f g:Ev->Res D}{ρ:Ev}:ztz f g ρ=(f ρ).bind (zsW g ρ):=zaq rfl
theorem ev_rep1 {g:Ev->Res D}{ρ:Ev}{ds:List D}:zsW g ρ (.lst ds)=(g ρ).bind (zrh (.lst ds)):=zaq rfl
theorem zjH {α:Type}{x:α}:∀ {n:Nat},(List.replicate n [x]).flatten=List.replicate n x
 | 0=>rfl
 | n+1=>by rw[List.replicate_succ,List.flatten_cons,zjH,List.replicate_succ];rfl
theorem ev_rep2 {x:D}{k:Int}(h:(decide (0<=k)&&decide (k<=1000))=true):zrh (.lst [x]) (.int k)=.ok (.lst (List.replicate k.toNat x)):=by
 simp only[Bool.and_eq_true,decide_eq_true_eq] at h
 unfold zrh
 have:([x]:List D).length*k.toNat<=line/\-9223372036854775808<=k/\k < 9223372036854775808:=⟨by
  have h2:k.toNat<=1000:=by omega
  show 1*k.toNat<=line
  have:(1000:Nat)<=line:=by decide
  omega,by omega,by omega⟩
 simp only[if_pos this,zjH]
def zbm:Ev->Res Fl :=
 (zar (sIf (dOr (zem (zbr (zaf 0) (zbV "tuple"))) (zac (zak (zad (zaf 0) zaH) (m1 zjd)) (dC (.int 2)) dNe))
 (zar (zci (dC (.bl false)))
 zaj)
 zaj)
 (zar (sIf (dOr (zem (zak (zad (zac (zaf 0) (dC (.int 0)) dIx) zaH) za1)) (zem (zak (zad (zac (zaf 0) (dC (.int 1)) dIx) zaH) za1)))
 (zar (zci (dC (.bl false)))
 zaj)
 zaj)
 (zar (zci (zhk (zac (zac (zaf 0) (dC (.int 1)) dIx) (dC (.int 1)) dGe) (zac (zak (zad (zac (zaf 0) (dC (.int 0)) dIx) (zad (zac (zaf 0) (dC (.int 1)) dIx) zaH)) zaJ) (dC (.int 1)) dEq)))
 zaj)))
def zcU:List D->Res D:=zdm 1 zbm
theorem ziC {b:Ev}{tg:Ev->D->Res Ev}{tt fe:Ev->Res D}{F:D->D}:∀ {ds:List D},(∀ d∈ds,∃ ρ1,tg b d=.ok ρ1/\tt ρ1=.ok (.bl true)/\fe ρ1=.ok (F d))->zbn b tg tt fe ds=.ok (ds.map F)
 | [],_=>rfl
 | d::r,h=>by
  obtain⟨ρ1,h1,h2,h3⟩:=h d List.mem_cons_self
  rw[zdG h1 h2 h3,ziC (fun e he=>h e (List.mem_cons_of_mem _ he))]
  rfl
theorem zej {α:Type}(F:α->Bool):∀ (cs:List α),zce (cs.map fun c=>D.bl (F c))=some (cs.map F)
 | []=>rfl
 | c::r=>by
  show(zce (r.map fun c=>D.bl (F c))).map (F c::·)=_
  rw[zej F r];rfl
def zfI:D->Bool
 | .tup [.int p,.int q]=>decide (1<=q)&&(Int.gcd p q==1)
 | _=>false
theorem zra {g:Nat}:((g:Int)==1)=(g==1):=by
 cases h:(g==1) with
 | true=>rw[eq_of_beq h];rfl
 | false =>
  have:g≠1:=fun z=>by rw[z] at h;cases h
  exact beq_eq_false_iff_ne.mpr (by omega)
theorem zpV {xs:List D}:(∃ x y,xs=[x,y])∨xs.length≠2:=by
 match xs with
 | []=>exact .inr (by decide)
 | [x]=>exact .inr (by simp)
 | [x,y]=>exact .inl ⟨x,y,rfl⟩
 | x::y::z::r=>exact .inr (by simp)
theorem zmW:∀ {xs:List D},xs.length≠2->zfI (.tup xs)=false
 | [],_=>rfl
 | [x],_=>by cases x<;>rfl
 | [x,y],h=>absurd rfl h
 | x::y::z::r,_=>by cases x<;>cases y<;>rfl
theorem zkf {x y:D}:zfI (.tup [x,y])=(isI x&&(isI y&&zfI (.tup [x,y]))):=by
 cases x<;>cases y<;>rfl
theorem zfd (d:D):zcU [d]=.ok (.bl (zfI d)):=by
 cases d with
 | tup xs =>
  rcases zpV (xs:=xs) with⟨x,y,rfl⟩ | h
  ·rw[zkf]
   show zdm 1 zbm _=_
   cases hx:isI x with
   | false=>simp only[zbm,ev_ok,ev_seq,ev_seq1,ev_seq2,ev_seq3,ev_seq4,ev_next,ev_set,ev_set1,ev_ret,ev_ret1,ev_retN,ev_drop,ev_drop1,ev_if,ev_if1,ev_if2,ev_own,ev_own1,ev_app,ev_ownS,ev_appL,ev_put,ev_put1,ev_putL,ev_putL1,ev_frz,ev_unp,ev_par,ev_par1,ev_b1,ev_b2,ev_b21,ev_bA,ev_nil,ev_cons,ev_cons1,ev_cons2,ev_and,ev_and1,ev_and2,ev_or,ev_or1,ev_or2,ev_not,ev_not1,ev_ifx,ev_ifx1,ev_ifx2,ev_var,ev_var1,ev_C,ev_shr0,ev_shr,ev_shr1,ev_shr2,ev_shr3,ev_run,ev_run1,ev_run2,ev_os,ev_os1,ev_on,ev_sl,ev_sl0,ev_sl1,ev_sl2,ev_for,ev_for1,ev_chain,ev_ch,ev_ch1,ev_ch2,ev_ch3,ev_iop,ev_add,ev_neg,ev_m1,ev_m2,ev_lenL,ev_lenT,ev_p60,eq_int,ne_int,List.map_cons,List.map_nil,List.length_cons,List.length_nil,List.replicate_succ,List.replicate_zero,List.nil_append,List.cons_append,List.getElem?_cons_zero,List.getElem?_cons_succ,List.set_cons_zero,List.set_cons_succ,Nat.sub_zero,Nat.reduceSub,Nat.reduceAdd,Nat.add_zero,Nat.zero_add,Bool.not_true,Bool.not_false,ev_tup,ev_lst,ev_addL,ev_app1,ev_appL1,ev_mod,ev_unpL,ev_unpT,ev_sa,ev_sa0,ev_un,ev_un1,ev_un2,ev_un3,ev_ixL0,ev_ixL1,ev_ixL2,ev_ixL3,ev_ixL4,ev_ixL5,ev_ixL6,ev_ixL7,ev_ixL8,ev_ixL9,ev_ixL10,ev_ixL11,ev_ixL12,ev_ixL13,ev_ixT0,ev_ixT1,ev_ixT2,ev_ixT3,ev_ixT4,ev_ixT5,decide_true,decide_false,Nat.reduceLeDiff,Nat.reduceBEq,Int.reduceBEq,beq_self_eq_true,dOne,mYes,ev_is_bool_non,ev_is_bool_bl,ev_is_bool_int,ev_is_bool_str,ev_is_bool_tup,ev_is_bool_lst,ev_is_bool_dic,ev_is_int_non,ev_is_int_bl,ev_is_int_int,ev_is_int_str,ev_is_int_tup,ev_is_int_lst,ev_is_int_dic,ev_is_str_non,ev_is_str_bl,ev_is_str_int,ev_is_str_str,ev_is_str_tup,ev_is_str_lst,ev_is_str_dic,ev_is_tuple_non,ev_is_tuple_bl,ev_is_tuple_int,ev_is_tuple_str,ev_is_tuple_tup,ev_is_tuple_lst,ev_is_tuple_dic,ev_is_list_non,ev_is_list_bl,ev_is_list_int,ev_is_list_str,ev_is_list_tup,ev_is_list_lst,ev_is_list_dic,ev_is_dict_non,ev_is_dict_bl,ev_is_dict_int,ev_is_dict_str,ev_is_dict_tup,ev_is_dict_lst,ev_is_dict_dic,ev_isN_non,ev_notN_non,ev_isN_bl,ev_notN_bl,ev_isN_int,ev_notN_int,ev_isN_str,ev_notN_str,ev_isN_tup,ev_notN_tup,ev_isN_lst,ev_notN_lst,ev_isN_dic,ev_notN_dic,ev_c0,ev_c1,ev_c2,ev_c3,ev_c4,ev_c5,ev_c6,ev_c7,ev_c8,ev_c9,ev_c10,ev_c11,Int.reduceLT,Int.reduceLE,Int.reduceSub,Int.reduceAdd,Int.reduceMul,Int.reduceNeg,ev_join,ev_join1,ev_pt0,ev_pt1,ev_pt2,ev_pt3,ev_pt4,ev_rep,ev_rep1,ev_rep2,Int.reduceToNat,Bool.and_self,zb0,hx,Bool.false_and]
   | true =>
    cases hy:isI y with
    | false=>simp only[zbm,ev_ok,ev_seq,ev_seq1,ev_seq2,ev_seq3,ev_seq4,ev_next,ev_set,ev_set1,ev_ret,ev_ret1,ev_retN,ev_drop,ev_drop1,ev_if,ev_if1,ev_if2,ev_own,ev_own1,ev_app,ev_ownS,ev_appL,ev_put,ev_put1,ev_putL,ev_putL1,ev_frz,ev_unp,ev_par,ev_par1,ev_b1,ev_b2,ev_b21,ev_bA,ev_nil,ev_cons,ev_cons1,ev_cons2,ev_and,ev_and1,ev_and2,ev_or,ev_or1,ev_or2,ev_not,ev_not1,ev_ifx,ev_ifx1,ev_ifx2,ev_var,ev_var1,ev_C,ev_shr0,ev_shr,ev_shr1,ev_shr2,ev_shr3,ev_run,ev_run1,ev_run2,ev_os,ev_os1,ev_on,ev_sl,ev_sl0,ev_sl1,ev_sl2,ev_for,ev_for1,ev_chain,ev_ch,ev_ch1,ev_ch2,ev_ch3,ev_iop,ev_add,ev_neg,ev_m1,ev_m2,ev_lenL,ev_lenT,ev_p60,eq_int,ne_int,List.map_cons,List.map_nil,List.length_cons,List.length_nil,List.replicate_succ,List.replicate_zero,List.nil_append,List.cons_append,List.getElem?_cons_zero,List.getElem?_cons_succ,List.set_cons_zero,List.set_cons_succ,Nat.sub_zero,Nat.reduceSub,Nat.reduceAdd,Nat.add_zero,Nat.zero_add,Bool.not_true,Bool.not_false,ev_tup,ev_lst,ev_addL,ev_app1,ev_appL1,ev_mod,ev_unpL,ev_unpT,ev_sa,ev_sa0,ev_un,ev_un1,ev_un2,ev_un3,ev_ixL0,ev_ixL1,ev_ixL2,ev_ixL3,ev_ixL4,ev_ixL5,ev_ixL6,ev_ixL7,ev_ixL8,ev_ixL9,ev_ixL10,ev_ixL11,ev_ixL12,ev_ixL13,ev_ixT0,ev_ixT1,ev_ixT2,ev_ixT3,ev_ixT4,ev_ixT5,decide_true,decide_false,Nat.reduceLeDiff,Nat.reduceBEq,Int.reduceBEq,beq_self_eq_true,dOne,mYes,ev_is_bool_non,ev_is_bool_bl,ev_is_bool_int,ev_is_bool_str,ev_is_bool_tup,ev_is_bool_lst,ev_is_bool_dic,ev_is_int_non,ev_is_int_bl,ev_is_int_int,ev_is_int_str,ev_is_int_tup,ev_is_int_lst,ev_is_int_dic,ev_is_str_non,ev_is_str_bl,ev_is_str_int,ev_is_str_str,ev_is_str_tup,ev_is_str_lst,ev_is_str_dic,ev_is_tuple_non,ev_is_tuple_bl,ev_is_tuple_int,ev_is_tuple_str,ev_is_tuple_tup,ev_is_tuple_lst,ev_is_tuple_dic,ev_is_list_non,ev_is_list_bl,ev_is_list_int,ev_is_list_str,ev_is_list_tup,ev_is_list_lst,ev_is_list_dic,ev_is_dict_non,ev_is_dict_bl,ev_is_dict_int,ev_is_dict_str,ev_is_dict_tup,ev_is_dict_lst,ev_is_dict_dic,ev_isN_non,ev_notN_non,ev_isN_bl,ev_notN_bl,ev_isN_int,ev_notN_int,ev_isN_str,ev_notN_str,ev_isN_tup,ev_notN_tup,ev_isN_lst,ev_notN_lst,ev_isN_dic,ev_notN_dic,ev_c0,ev_c1,ev_c2,ev_c3,ev_c4,ev_c5,ev_c6,ev_c7,ev_c8,ev_c9,ev_c10,ev_c11,Int.reduceLT,Int.reduceLE,Int.reduceSub,Int.reduceAdd,Int.reduceMul,Int.reduceNeg,ev_join,ev_join1,ev_pt0,ev_pt1,ev_pt2,ev_pt3,ev_pt4,ev_rep,ev_rep1,ev_rep2,Int.reduceToNat,Bool.and_self,zb0,hx,hy,Bool.false_and,Bool.true_and]
    | true =>
     cases x<;>first | (cases hx;done) | skip
     cases y<;>first | (cases hy;done) | skip
     rename_i p q
     show _=Res.ok (D.bl (decide (1<=q)&&(Int.gcd p q==1)))
     by_cases hq:1<=q
     ·simp only[zbm,ev_ok,ev_seq,ev_seq1,ev_seq2,ev_seq3,ev_seq4,ev_next,ev_set,ev_set1,ev_ret,ev_ret1,ev_retN,ev_drop,ev_drop1,ev_if,ev_if1,ev_if2,ev_own,ev_own1,ev_app,ev_ownS,ev_appL,ev_put,ev_put1,ev_putL,ev_putL1,ev_frz,ev_unp,ev_par,ev_par1,ev_b1,ev_b2,ev_b21,ev_bA,ev_nil,ev_cons,ev_cons1,ev_cons2,ev_and,ev_and1,ev_and2,ev_or,ev_or1,ev_or2,ev_not,ev_not1,ev_ifx,ev_ifx1,ev_ifx2,ev_var,ev_var1,ev_C,ev_shr0,ev_shr,ev_shr1,ev_shr2,ev_shr3,ev_run,ev_run1,ev_run2,ev_os,ev_os1,ev_on,ev_sl,ev_sl0,ev_sl1,ev_sl2,ev_for,ev_for1,ev_chain,ev_ch,ev_ch1,ev_ch2,ev_ch3,ev_iop,ev_add,ev_neg,ev_m1,ev_m2,ev_lenL,ev_lenT,ev_p60,eq_int,ne_int,List.map_cons,List.map_nil,List.length_cons,List.length_nil,List.replicate_succ,List.replicate_zero,List.nil_append,List.cons_append,List.getElem?_cons_zero,List.getElem?_cons_succ,List.set_cons_zero,List.set_cons_succ,Nat.sub_zero,Nat.reduceSub,Nat.reduceAdd,Nat.add_zero,Nat.zero_add,Bool.not_true,Bool.not_false,ev_tup,ev_lst,ev_addL,ev_app1,ev_appL1,ev_mod,ev_unpL,ev_unpT,ev_sa,ev_sa0,ev_un,ev_un1,ev_un2,ev_un3,ev_ixL0,ev_ixL1,ev_ixL2,ev_ixL3,ev_ixL4,ev_ixL5,ev_ixL6,ev_ixL7,ev_ixL8,ev_ixL9,ev_ixL10,ev_ixL11,ev_ixL12,ev_ixL13,ev_ixT0,ev_ixT1,ev_ixT2,ev_ixT3,ev_ixT4,ev_ixT5,decide_true,decide_false,Nat.reduceLeDiff,Nat.reduceBEq,Int.reduceBEq,beq_self_eq_true,dOne,mYes,ev_is_bool_non,ev_is_bool_bl,ev_is_bool_int,ev_is_bool_str,ev_is_bool_tup,ev_is_bool_lst,ev_is_bool_dic,ev_is_int_non,ev_is_int_bl,ev_is_int_int,ev_is_int_str,ev_is_int_tup,ev_is_int_lst,ev_is_int_dic,ev_is_str_non,ev_is_str_bl,ev_is_str_int,ev_is_str_str,ev_is_str_tup,ev_is_str_lst,ev_is_str_dic,ev_is_tuple_non,ev_is_tuple_bl,ev_is_tuple_int,ev_is_tuple_str,ev_is_tuple_tup,ev_is_tuple_lst,ev_is_tuple_dic,ev_is_list_non,ev_is_list_bl,ev_is_list_int,ev_is_list_str,ev_is_list_tup,ev_is_list_lst,ev_is_list_dic,ev_is_dict_non,ev_is_dict_bl,ev_is_dict_int,ev_is_dict_str,ev_is_dict_tup,ev_is_dict_lst,ev_is_dict_dic,ev_isN_non,ev_notN_non,ev_isN_bl,ev_notN_bl,ev_isN_int,ev_notN_int,ev_isN_str,ev_notN_str,ev_isN_tup,ev_notN_tup,ev_isN_lst,ev_notN_lst,ev_isN_dic,ev_notN_dic,ev_c0,ev_c1,ev_c2,ev_c3,ev_c4,ev_c5,ev_c6,ev_c7,ev_c8,ev_c9,ev_c10,ev_c11,Int.reduceLT,Int.reduceLE,Int.reduceSub,Int.reduceAdd,Int.reduceMul,Int.reduceNeg,ev_join,ev_join1,ev_pt0,ev_pt1,ev_pt2,ev_pt3,ev_pt4,ev_rep,ev_rep1,ev_rep2,Int.reduceToNat,Bool.and_self,zb0,hx,hy,zeI,Bool.true_and,decide_eq_true hq,zra]
     ·simp only[zbm,ev_ok,ev_seq,ev_seq1,ev_seq2,ev_seq3,ev_seq4,ev_next,ev_set,ev_set1,ev_ret,ev_ret1,ev_retN,ev_drop,ev_drop1,ev_if,ev_if1,ev_if2,ev_own,ev_own1,ev_app,ev_ownS,ev_appL,ev_put,ev_put1,ev_putL,ev_putL1,ev_frz,ev_unp,ev_par,ev_par1,ev_b1,ev_b2,ev_b21,ev_bA,ev_nil,ev_cons,ev_cons1,ev_cons2,ev_and,ev_and1,ev_and2,ev_or,ev_or1,ev_or2,ev_not,ev_not1,ev_ifx,ev_ifx1,ev_ifx2,ev_var,ev_var1,ev_C,ev_shr0,ev_shr,ev_shr1,ev_shr2,ev_shr3,ev_run,ev_run1,ev_run2,ev_os,ev_os1,ev_on,ev_sl,ev_sl0,ev_sl1,ev_sl2,ev_for,ev_for1,ev_chain,ev_ch,ev_ch1,ev_ch2,ev_ch3,ev_iop,ev_add,ev_neg,ev_m1,ev_m2,ev_lenL,ev_lenT,ev_p60,eq_int,ne_int,List.map_cons,List.map_nil,List.length_cons,List.length_nil,List.replicate_succ,List.replicate_zero,List.nil_append,List.cons_append,List.getElem?_cons_zero,List.getElem?_cons_succ,List.set_cons_zero,List.set_cons_succ,Nat.sub_zero,Nat.reduceSub,Nat.reduceAdd,Nat.add_zero,Nat.zero_add,Bool.not_true,Bool.not_false,ev_tup,ev_lst,ev_addL,ev_app1,ev_appL1,ev_mod,ev_unpL,ev_unpT,ev_sa,ev_sa0,ev_un,ev_un1,ev_un2,ev_un3,ev_ixL0,ev_ixL1,ev_ixL2,ev_ixL3,ev_ixL4,ev_ixL5,ev_ixL6,ev_ixL7,ev_ixL8,ev_ixL9,ev_ixL10,ev_ixL11,ev_ixL12,ev_ixL13,ev_ixT0,ev_ixT1,ev_ixT2,ev_ixT3,ev_ixT4,ev_ixT5,decide_true,decide_false,Nat.reduceLeDiff,Nat.reduceBEq,Int.reduceBEq,beq_self_eq_true,dOne,mYes,ev_is_bool_non,ev_is_bool_bl,ev_is_bool_int,ev_is_bool_str,ev_is_bool_tup,ev_is_bool_lst,ev_is_bool_dic,ev_is_int_non,ev_is_int_bl,ev_is_int_int,ev_is_int_str,ev_is_int_tup,ev_is_int_lst,ev_is_int_dic,ev_is_str_non,ev_is_str_bl,ev_is_str_int,ev_is_str_str,ev_is_str_tup,ev_is_str_lst,ev_is_str_dic,ev_is_tuple_non,ev_is_tuple_bl,ev_is_tuple_int,ev_is_tuple_str,ev_is_tuple_tup,ev_is_tuple_lst,ev_is_tuple_dic,ev_is_list_non,ev_is_list_bl,ev_is_list_int,ev_is_list_str,ev_is_list_tup,ev_is_list_lst,ev_is_list_dic,ev_is_dict_non,ev_is_dict_bl,ev_is_dict_int,ev_is_dict_str,ev_is_dict_tup,ev_is_dict_lst,ev_is_dict_dic,ev_isN_non,ev_notN_non,ev_isN_bl,ev_notN_bl,ev_isN_int,ev_notN_int,ev_isN_str,ev_notN_str,ev_isN_tup,ev_notN_tup,ev_isN_lst,ev_notN_lst,ev_isN_dic,ev_notN_dic,ev_c0,ev_c1,ev_c2,ev_c3,ev_c4,ev_c5,ev_c6,ev_c7,ev_c8,ev_c9,ev_c10,ev_c11,Int.reduceLT,Int.reduceLE,Int.reduceSub,Int.reduceAdd,Int.reduceMul,Int.reduceNeg,ev_join,ev_join1,ev_pt0,ev_pt1,ev_pt2,ev_pt3,ev_pt4,ev_rep,ev_rep1,ev_rep2,Int.reduceToNat,Bool.and_self,zb0,hx,hy,zeI,Bool.true_and,decide_eq_false hq,Bool.false_and]
  ·have e2:((xs.length:Int)==2)=false:=beq_eq_false_iff_ne.mpr (by omega)
   rw[zmW h]
   show zdm 1 zbm _=_
   simp only[zbm,ev_ok,ev_seq,ev_seq1,ev_seq2,ev_seq3,ev_seq4,ev_next,ev_set,ev_set1,ev_ret,ev_ret1,ev_retN,ev_drop,ev_drop1,ev_if,ev_if1,ev_if2,ev_own,ev_own1,ev_app,ev_ownS,ev_appL,ev_put,ev_put1,ev_putL,ev_putL1,ev_frz,ev_unp,ev_par,ev_par1,ev_b1,ev_b2,ev_b21,ev_bA,ev_nil,ev_cons,ev_cons1,ev_cons2,ev_and,ev_and1,ev_and2,ev_or,ev_or1,ev_or2,ev_not,ev_not1,ev_ifx,ev_ifx1,ev_ifx2,ev_var,ev_var1,ev_C,ev_shr0,ev_shr,ev_shr1,ev_shr2,ev_shr3,ev_run,ev_run1,ev_run2,ev_os,ev_os1,ev_on,ev_sl,ev_sl0,ev_sl1,ev_sl2,ev_for,ev_for1,ev_chain,ev_ch,ev_ch1,ev_ch2,ev_ch3,ev_iop,ev_add,ev_neg,ev_m1,ev_m2,ev_lenL,ev_lenT,ev_p60,eq_int,ne_int,List.map_cons,List.map_nil,List.length_cons,List.length_nil,List.replicate_succ,List.replicate_zero,List.nil_append,List.cons_append,List.getElem?_cons_zero,List.getElem?_cons_succ,List.set_cons_zero,List.set_cons_succ,Nat.sub_zero,Nat.reduceSub,Nat.reduceAdd,Nat.add_zero,Nat.zero_add,Bool.not_true,Bool.not_false,ev_tup,ev_lst,ev_addL,ev_app1,ev_appL1,ev_mod,ev_unpL,ev_unpT,ev_sa,ev_sa0,ev_un,ev_un1,ev_un2,ev_un3,ev_ixL0,ev_ixL1,ev_ixL2,ev_ixL3,ev_ixL4,ev_ixL5,ev_ixL6,ev_ixL7,ev_ixL8,ev_ixL9,ev_ixL10,ev_ixL11,ev_ixL12,ev_ixL13,ev_ixT0,ev_ixT1,ev_ixT2,ev_ixT3,ev_ixT4,ev_ixT5,decide_true,decide_false,Nat.reduceLeDiff,Nat.reduceBEq,Int.reduceBEq,beq_self_eq_true,dOne,mYes,ev_is_bool_non,ev_is_bool_bl,ev_is_bool_int,ev_is_bool_str,ev_is_bool_tup,ev_is_bool_lst,ev_is_bool_dic,ev_is_int_non,ev_is_int_bl,ev_is_int_int,ev_is_int_str,ev_is_int_tup,ev_is_int_lst,ev_is_int_dic,ev_is_str_non,ev_is_str_bl,ev_is_str_int,ev_is_str_str,ev_is_str_tup,ev_is_str_lst,ev_is_str_dic,ev_is_tuple_non,ev_is_tuple_bl,ev_is_tuple_int,ev_is_tuple_str,ev_is_tuple_tup,ev_is_tuple_lst,ev_is_tuple_dic,ev_is_list_non,ev_is_list_bl,ev_is_list_int,ev_is_list_str,ev_is_list_tup,ev_is_list_lst,ev_is_list_dic,ev_is_dict_non,ev_is_dict_bl,ev_is_dict_int,ev_is_dict_str,ev_is_dict_tup,ev_is_dict_lst,ev_is_dict_dic,ev_isN_non,ev_notN_non,ev_isN_bl,ev_notN_bl,ev_isN_int,ev_notN_int,ev_isN_str,ev_notN_str,ev_isN_tup,ev_notN_tup,ev_isN_lst,ev_notN_lst,ev_isN_dic,ev_notN_dic,ev_c0,ev_c1,ev_c2,ev_c3,ev_c4,ev_c5,ev_c6,ev_c7,ev_c8,ev_c9,ev_c10,ev_c11,Int.reduceLT,Int.reduceLE,Int.reduceSub,Int.reduceAdd,Int.reduceMul,Int.reduceNeg,ev_join,ev_join1,ev_pt0,ev_pt1,ev_pt2,ev_pt3,ev_pt4,ev_rep,ev_rep1,ev_rep2,Int.reduceToNat,Bool.and_self,e2]
 | ob k _=>cases k<;>rfl
 | _=>rfl
theorem zr0 {sz:List Int}(h:(sz.all fun s=>decide (0 < s)&&decide (s<=(N60:Int)))=true):∀ s∈sz,0 < s/\s.natAbs < B9:=fun s hs=>by
 have:=List.all_eq_true.mp h s hs
 simp only[Bool.and_eq_true,decide_eq_true_eq] at this
 refine⟨this.1,Nat.lt_of_le_of_lt (show s.natAbs<=N60 by omega) ?_⟩
 exact Nat.lt_of_lt_of_le (show N60 < 2 ^ 200 by decide) (by rw[zpD];exact Nat.pow_le_pow_right (by decide) (by decide))
theorem zmd {α:Type}{F:α->D}{xs:List α}{lo hi:Option Int}:zmf (xs.map F) lo hi=((xs.drop (HT.sIx xs.length 0 lo)).take (HT.sIx xs.length xs.length hi-HT.sIx xs.length 0 lo)).map F:=by
 unfold zmf
 rw[List.length_map,← List.map_drop,← List.map_take]
section
variable {α β:Type}
theorem zff {x:Exn}{f:α->Res β}:(Res.exn x:Res α).bind f=.exn x:=zaq rfl
end
def zrw (hit:Str->Bool)(ni:Nat)(sh:Ev->Res Fl)(ρ:Ev)(r:Res Fl):Res Fl:=match r with
 | .exn x=>if hit x.cls=true then(sh (ρ.set ni (.sh (zmA x)))).bind (zqB ni) else .stuck
 | r=>r
theorem zn3 {g:Ev->Res Fl}{hit:Str->Bool}{ni:Nat}{sh:Ev->Res Fl}{ρ:Ev}:zpF g hit ni sh ρ=zrw hit ni sh ρ (g ρ):=zaq rfl
theorem zph {hit:Str->Bool}{ni:Nat}{sh:Ev->Res Fl}{ρ:Ev}{r:Fl}:zrw hit ni sh ρ (.ok r)=.ok r:=zaq rfl
theorem zq9 {ni:Nat}{ρ:Ev}:zqB ni (.nx ρ)=.ok (.nx (ρ.set ni .no)):=zaq rfl
def zp7 (i:Nat)(m:List D->Res D)(ρ:Ev)(r:Res (List D)):Res Fl:=match r with
 | .ok ds=>(m ds).bind (zrz i ρ)
 | _=>.stuck
theorem zlV {i:Nat}{fa:Ev->Res (List D)}{m:List D->Res D}{ρ:Ev}:zmR i fa m ρ=zp7 i m ρ (fa ρ):=zaq rfl
theorem zjJ {i:Nat}{m:List D->Res D}{ρ:Ev}{ds:List D}:zp7 i m ρ (.ok ds)=(m ds).bind (zrz i ρ):=zaq rfl
def zhv:Ev->Res Fl :=
 (zar (sIf (dOr (zem (zak (zad (zaf 0) zaH) za1)) (zem (zak (zad (zaf 1) zaH) za1)))
 (zar (zgn "NoNumber" (zad (dC (.str "a fraction is made of two whole numbers")) zaH))
 zaj)
 zaj)
 (zar (sIf (zac (zaf 1) (dC (.int 0)) dEq)
 (zar (zgn "NoNumber" (zad (dC (.str "a fraction's second number is not 0")) zaH))
 zaj)
 zaj)
 (zar (zbo 2 (zak (zad (zaf 0) (zad (zaf 1) zaH)) zaJ))
 (zar (sIf (zac (zaf 1) (dC (.int 0)) dLt)
 (zar (zbo 2 (zbr (zaf 2) zpJ))
 zaj)
 zaj)
 (zar (zci (zak (zad (zac (zaf 0) (zaf 2) zje) (zad (zac (zaf 1) (zaf 2) zje) zaH)) zkp))
 zaj)))))
def m_ratioX:List D->Res D:=zdm 3 zhv
def zqS (a b:Int):Fra:=if b < 0 then low (-a) (-b) else low a b
theorem zir {a g:Int}(hg:0 < g)(hd:g∣a):a.fdiv (-g)=(-a) / g:=by
 obtain⟨k,rfl⟩:=hd
 have e1:(g*k).fdiv (-g)=-k:=by
  rw[show g*k=(-g)*(-k) by rw[Int.neg_mul_neg]]
  exact Int.mul_fdiv_cancel_left (-k) (by omega)
 have e2:(-(g*k)) / g=-k:=by
  rw[show -(g*k)=g*(-k) by rw[Int.mul_neg]]
  exact Int.mul_ediv_cancel_left (-k) (by omega)
 rw[e1,e2]
theorem zk7 {a b:Int}(hb:b≠0)(h1:a.natAbs < B13)(h2:b.natAbs < B13):m_ratioX [.int a,.int b]=.ok (fr (zqS a b)):=by
 have hg:=zi6 (a:=a) (b:=b) hb
 have hz:(b==0)=false:=beq_eq_false_iff_ne.mpr hb
 have d1:zd1 a (Int.gcd a b:Int)=true:=zgF (by omega) h1
 have d2:zd1 b (Int.gcd a b:Int)=true:=zgF (by omega) h2
 have d3:zd1 a (-(Int.gcd a b:Int))=true:=zgF (by omega) h1
 have d4:zd1 b (-(Int.gcd a b:Int))=true:=zgF (by omega) h2
 by_cases hn:b < 0
 ·simp only[m_ratioX,zhv,ev_ok,ev_seq,ev_seq1,ev_seq2,ev_seq3,ev_seq4,ev_next,ev_set,ev_set1,ev_ret,ev_ret1,ev_retN,ev_drop,ev_drop1,ev_if,ev_if1,ev_if2,ev_own,ev_own1,ev_app,ev_ownS,ev_appL,ev_put,ev_put1,ev_putL,ev_putL1,ev_frz,ev_unp,ev_par,ev_par1,ev_b1,ev_b2,ev_b21,ev_bA,ev_nil,ev_cons,ev_cons1,ev_cons2,ev_and,ev_and1,ev_and2,ev_or,ev_or1,ev_or2,ev_not,ev_not1,ev_ifx,ev_ifx1,ev_ifx2,ev_var,ev_var1,ev_C,ev_shr0,ev_shr,ev_shr1,ev_shr2,ev_shr3,ev_run,ev_run1,ev_run2,ev_os,ev_os1,ev_on,ev_sl,ev_sl0,ev_sl1,ev_sl2,ev_for,ev_for1,ev_chain,ev_ch,ev_ch1,ev_ch2,ev_ch3,ev_iop,ev_add,ev_neg,ev_m1,ev_m2,ev_lenL,ev_lenT,ev_p60,eq_int,ne_int,List.map_cons,List.map_nil,List.length_cons,List.length_nil,List.replicate_succ,List.replicate_zero,List.nil_append,List.cons_append,List.getElem?_cons_zero,List.getElem?_cons_succ,List.set_cons_zero,List.set_cons_succ,Nat.sub_zero,Nat.reduceSub,Nat.reduceAdd,Nat.add_zero,Nat.zero_add,Bool.not_true,Bool.not_false,ev_tup,ev_lst,ev_addL,ev_app1,ev_appL1,ev_mod,ev_unpL,ev_unpT,ev_sa,ev_sa0,ev_un,ev_un1,ev_un2,ev_un3,ev_ixL0,ev_ixL1,ev_ixL2,ev_ixL3,ev_ixL4,ev_ixL5,ev_ixL6,ev_ixL7,ev_ixL8,ev_ixL9,ev_ixL10,ev_ixL11,ev_ixL12,ev_ixL13,ev_ixT0,ev_ixT1,ev_ixT2,ev_ixT3,ev_ixT4,ev_ixT5,decide_true,decide_false,Nat.reduceLeDiff,Nat.reduceBEq,Int.reduceBEq,beq_self_eq_true,dOne,mYes,ev_is_bool_non,ev_is_bool_bl,ev_is_bool_int,ev_is_bool_str,ev_is_bool_tup,ev_is_bool_lst,ev_is_bool_dic,ev_is_int_non,ev_is_int_bl,ev_is_int_int,ev_is_int_str,ev_is_int_tup,ev_is_int_lst,ev_is_int_dic,ev_is_str_non,ev_is_str_bl,ev_is_str_int,ev_is_str_str,ev_is_str_tup,ev_is_str_lst,ev_is_str_dic,ev_is_tuple_non,ev_is_tuple_bl,ev_is_tuple_int,ev_is_tuple_str,ev_is_tuple_tup,ev_is_tuple_lst,ev_is_tuple_dic,ev_is_list_non,ev_is_list_bl,ev_is_list_int,ev_is_list_str,ev_is_list_tup,ev_is_list_lst,ev_is_list_dic,ev_is_dict_non,ev_is_dict_bl,ev_is_dict_int,ev_is_dict_str,ev_is_dict_tup,ev_is_dict_lst,ev_is_dict_dic,ev_isN_non,ev_notN_non,ev_isN_bl,ev_notN_bl,ev_isN_int,ev_notN_int,ev_isN_str,ev_notN_str,ev_isN_tup,ev_notN_tup,ev_isN_lst,ev_notN_lst,ev_isN_dic,ev_notN_dic,ev_c0,ev_c1,ev_c2,ev_c3,ev_c4,ev_c5,ev_c6,ev_c7,ev_c8,ev_c9,ev_c10,ev_c11,Int.reduceLT,Int.reduceLE,Int.reduceSub,Int.reduceAdd,Int.reduceMul,Int.reduceNeg,ev_join,ev_join1,ev_pt0,ev_pt1,ev_pt2,ev_pt3,ev_pt4,ev_rep,ev_rep1,ev_rep2,Int.reduceToNat,Bool.and_self,zb0,isI,hz,zeI,decide_eq_true hn,zjL d3,zjL d4]
  rw[zir hg (Int.gcd_dvd_left a b),zir hg (Int.gcd_dvd_right a b)]
  unfold zqS low fr zrF
  rw[if_pos hn,Int.gcd_neg,Int.neg_gcd]
 ·simp only[m_ratioX,zhv,ev_ok,ev_seq,ev_seq1,ev_seq2,ev_seq3,ev_seq4,ev_next,ev_set,ev_set1,ev_ret,ev_ret1,ev_retN,ev_drop,ev_drop1,ev_if,ev_if1,ev_if2,ev_own,ev_own1,ev_app,ev_ownS,ev_appL,ev_put,ev_put1,ev_putL,ev_putL1,ev_frz,ev_unp,ev_par,ev_par1,ev_b1,ev_b2,ev_b21,ev_bA,ev_nil,ev_cons,ev_cons1,ev_cons2,ev_and,ev_and1,ev_and2,ev_or,ev_or1,ev_or2,ev_not,ev_not1,ev_ifx,ev_ifx1,ev_ifx2,ev_var,ev_var1,ev_C,ev_shr0,ev_shr,ev_shr1,ev_shr2,ev_shr3,ev_run,ev_run1,ev_run2,ev_os,ev_os1,ev_on,ev_sl,ev_sl0,ev_sl1,ev_sl2,ev_for,ev_for1,ev_chain,ev_ch,ev_ch1,ev_ch2,ev_ch3,ev_iop,ev_add,ev_neg,ev_m1,ev_m2,ev_lenL,ev_lenT,ev_p60,eq_int,ne_int,List.map_cons,List.map_nil,List.length_cons,List.length_nil,List.replicate_succ,List.replicate_zero,List.nil_append,List.cons_append,List.getElem?_cons_zero,List.getElem?_cons_succ,List.set_cons_zero,List.set_cons_succ,Nat.sub_zero,Nat.reduceSub,Nat.reduceAdd,Nat.add_zero,Nat.zero_add,Bool.not_true,Bool.not_false,ev_tup,ev_lst,ev_addL,ev_app1,ev_appL1,ev_mod,ev_unpL,ev_unpT,ev_sa,ev_sa0,ev_un,ev_un1,ev_un2,ev_un3,ev_ixL0,ev_ixL1,ev_ixL2,ev_ixL3,ev_ixL4,ev_ixL5,ev_ixL6,ev_ixL7,ev_ixL8,ev_ixL9,ev_ixL10,ev_ixL11,ev_ixL12,ev_ixL13,ev_ixT0,ev_ixT1,ev_ixT2,ev_ixT3,ev_ixT4,ev_ixT5,decide_true,decide_false,Nat.reduceLeDiff,Nat.reduceBEq,Int.reduceBEq,beq_self_eq_true,dOne,mYes,ev_is_bool_non,ev_is_bool_bl,ev_is_bool_int,ev_is_bool_str,ev_is_bool_tup,ev_is_bool_lst,ev_is_bool_dic,ev_is_int_non,ev_is_int_bl,ev_is_int_int,ev_is_int_str,ev_is_int_tup,ev_is_int_lst,ev_is_int_dic,ev_is_str_non,ev_is_str_bl,ev_is_str_int,ev_is_str_str,ev_is_str_tup,ev_is_str_lst,ev_is_str_dic,ev_is_tuple_non,ev_is_tuple_bl,ev_is_tuple_int,ev_is_tuple_str,ev_is_tuple_tup,ev_is_tuple_lst,ev_is_tuple_dic,ev_is_list_non,ev_is_list_bl,ev_is_list_int,ev_is_list_str,ev_is_list_tup,ev_is_list_lst,ev_is_list_dic,ev_is_dict_non,ev_is_dict_bl,ev_is_dict_int,ev_is_dict_str,ev_is_dict_tup,ev_is_dict_lst,ev_is_dict_dic,ev_isN_non,ev_notN_non,ev_isN_bl,ev_notN_bl,ev_isN_int,ev_notN_int,ev_isN_str,ev_notN_str,ev_isN_tup,ev_notN_tup,ev_isN_lst,ev_notN_lst,ev_isN_dic,ev_notN_dic,ev_c0,ev_c1,ev_c2,ev_c3,ev_c4,ev_c5,ev_c6,ev_c7,ev_c8,ev_c9,ev_c10,ev_c11,Int.reduceLT,Int.reduceLE,Int.reduceSub,Int.reduceAdd,Int.reduceMul,Int.reduceNeg,ev_join,ev_join1,ev_pt0,ev_pt1,ev_pt2,ev_pt3,ev_pt4,ev_rep,ev_rep1,ev_rep2,Int.reduceToNat,Bool.and_self,zb0,isI,hz,zeI,decide_eq_false hn,zjL d1,zjL d2]
  rw[zfy hg,zfy hg]
  unfold zqS low fr zrF
  rw[if_neg hn]
def zq6 (tg:Ev->D->Res Ev)(s:Ev->Res Fl)(ρ:Ev)(ds:List D):Res Fl:=zfv tg s ds ρ
def zp1 (d:D):Res (List D):=match d with
 | .lst ds=>.ok (numbered 0 ds)
 | _=>.stuck
def zp0 (d:D):Res (List D):=match d with
 | .lst ds=>.ok ds
 | _=>.stuck
def zpZ (d:D):Res (List D):=match d with
 | .tup ds=>.ok ds
 | _=>.stuck
def zjg (n:Nat)(fr:List Nat)(tg:Ev->D->Res Ev)(tt fe:Ev->Res D)(ρ:Ev)(ds:List D):Res D:=if ds.length<=line then match zbn (zcv n fr ρ) tg tt fe ds with
  | .ok es=>.ok (.lst es)
  | _=>.stuck
 else .stuck
def liK (fe:Ev->Res D)(ρ:Ev)(x:D):Res D:=match x with
 | .lst ds=>(fe ρ).bind (zmb (.lst ds))
 | _=>.stuck
def zmh (x:D)(xs:List D):Res (List D):=.ok (x::xs)
def frK (fa:Ev->Res (List D))(ρ:Ev)(x:D):Res (List D):=match x with
 | .lst ds=>(fa ρ).bind (zmh (.lst ds))
 | _=>.stuck
theorem ev_frc {x:D}{xs:List D}:zmh x xs=.ok (x::xs):=zaq rfl
def zsA (tg:Ev->D->Res Ev)(s:Ev->Res Fl)(ρ:Ev)(d:D):Res Fl:=match d with
 | .int j=>if -4611686018427387904<=j/\j < 4611686018427387904 then zfv tg s (intsFrom 0 j.toNat) ρ else .stuck
 | _=>.stuck
section
variable {s t:Ev->Res Fl}{f g h:Ev->Res D}{src:Ev->Res (List D)}{fa:Ev->Res (List D)}{ρ r:Ev}{i j n:Nat}{d x y:D}{ds es xs:List D}{a b:Int}{tg:Ev->D->Res Ev}{tt fe:Ev->Res D}{fr:List Nat}
theorem ev_forI:zr7 src tg s ρ=(src ρ).bind (zq6 tg s ρ):=zaq rfl
theorem ev_forI1:zq6 tg s ρ ds=zfv tg s ds ρ:=zaq rfl
theorem ev_srcE:ztw f ρ=(f ρ).bind zp1:=zaq rfl
theorem ev_srcE1:zp1 (.lst ds)=.ok (numbered 0 ds):=zaq rfl
theorem ev_srcL:zrx f ρ=(f ρ).bind zp0:=zaq rfl
theorem ev_srcL1:zp0 (.lst ds)=.ok ds:=zaq rfl
theorem ev_srcT:ztv f ρ=(f ρ).bind zpZ:=zaq rfl
theorem ev_srcT1:zpZ (.tup ds)=.ok ds:=zaq rfl
theorem ev_comp:zeH n fr src tg tt fe ρ=(src ρ).bind (zjg n fr tg tt fe ρ):=zaq rfl
theorem ev_fld {c f:Str}{ks:List Str}:ztP f (.ob (.ins c ks) ds)=(match ziJ f ks ds with | some d=>.ok d | none=>.stuck):=zaq rfl
theorem ev_fld0 {f k:Str}{ks:List Str}:ziJ f (k::ks) (d::ds)=if f=k then some d else ziJ f ks ds:=zaq rfl
theorem ev_fld1 {f:Str}:ziJ f (f::ks) (d::ds)=some d:=by unfold ziJ;rw[if_pos rfl]
theorem ev_fld2 {c:Str}{ks:List Str}(h:(ds.length==ks.length)=true):ztF c ks ds=.ok (.ob (.ins c ks) ds):=if_pos (eq_of_beq h)
theorem ev_lI:zps f g ρ=(f ρ).bind (liK g ρ):=zaq rfl
theorem ev_lI1:liK g ρ (.lst ds)=(g ρ).bind (zmb (.lst ds)):=zaq rfl
theorem ev_gU {is:List Nat}(h:(ds.length==is.length)=true):ztM is ρ (.tup ds)=.ok (zch ρ is ds):=by
 show(match (if ds.length=is.length then some ds else none) with | some ds=>Res.ok (zch ρ is ds) | none=>.stuck)=_
 rw[if_pos (eq_of_beq h)]
theorem ev_fr1:aFr f fa ρ=(f ρ).bind (frK fa ρ):=zaq (by unfold aFr;cases f ρ with | ok x=>cases x<;>rfl | _=>rfl)
theorem ev_fr2:frK fa ρ (.lst ds)=(fa ρ).bind (zmh (.lst ds)):=zaq rfl
theorem ev_ownT:zr6 i j fa ρ=(fa ρ).bind (zs5 i j ρ):=zaq rfl
theorem ev_clrAt:zqa i j ρ=zpt i j ρ ρ[i]?:=zaq rfl
theorem ev_clrAt1:zpt i j ρ (some (.ox j ds))=.ok (.nx (ρ.set i (.ox j (ds.set j (.lst []))))):=if_pos rfl
theorem ev_gS:zgC i ρ d=.ok (ρ.set i (.sh d)):=zaq rfl
theorem ev_forR:zk4 f tg s ρ=(f (shr ρ)).bind (zsA tg s ρ):=zaq rfl
theorem ev_slT {l h:Option Int}(c:(HT.sIx ds.length 0 l==0&&HT.sIx ds.length ds.length h==ds.length)=false):zmz (.tup ds) l h=.ok (.tup (zmf ds l h)):=by
 show(if _ then _ else _)=_
 rw[if_neg (fun z=>by rw[z.1,z.2] at c;simp at c)]
theorem ev_addT {x:D}(h:decide (ds.length+es.length<=1000)=true):zcx (.tup (x::ds)) (.tup es)=.ok (.tup (x::ds++es)):=by
 refine if_pos ⟨rfl,?_⟩
 have:=of_decide_eq_true h
 show ds.length+1+es.length<=line
 have:(1001:Nat)<=line:=by decide
 omega
theorem ev_addS {x y:Str}(h:decide (x.length+y.length<=1000)=true):zcx (.str x) (.str y)=.ok (.str (x++y)):=if_pos (Nat.le_trans (of_decide_eq_true h) (by decide))
theorem ev_lenS {z:Str}(h:decide (z.length<=1000)=true):zjd (.str z)=.ok (.int z.length):=if_pos (Nat.le_trans (of_decide_eq_true h) (by decide))
theorem ev_mx:zsK (.int a) (.int b)=.ok (.int (if b > a then b else a)):=zaq rfl
theorem ev_io:zod (.bl true)=.ok (.int 1):=zaq rfl
theorem ev_io1:zod (.bl false)=.ok (.int 0):=zaq rfl
theorem ev_li:zri (.lst ds)=.ok (.lst ds):=zaq rfl
theorem ev_li1:zri (.tup ds)=.ok (.lst ds):=zaq rfl
theorem ev_p18:zjQ (.int 10) (.int 18)=.ok (.int 1000000000000000000):=zaq rfl
theorem ev_p9:zjQ (.int 10) (.int 9)=.ok (.int 1000000000):=zaq rfl
theorem znH {F:D->D}(hl:ds.length<=1000000)(h:∀ d∈ds,∃ ρ1,tg (zcv n fr ρ) d=.ok ρ1/\tt ρ1=.ok (.bl true)/\fe ρ1=.ok (F d)):zjg n fr tg tt fe ρ ds=.ok (.lst (ds.map F)):=by
 unfold zjg
 rw[if_pos (show ds.length<=line from hl),ziC h]
theorem zf0 {B:Ev}{F:D->D}{p:D->Bool}:∀ {ds:List D},(∀ d∈ds,∃ ρ1,tg B d=.ok ρ1/\tt ρ1=.ok (.bl (p d))/\(p d=true->fe ρ1=.ok (F d)))->zbn B tg tt fe ds=.ok ((ds.filter p).map F)
 | [],_=>rfl
 | d::ds,h=>by
  obtain⟨ρ1,h1,h2,h3⟩:=h d List.mem_cons_self
  have ih:=zf0 (ds:=ds) fun d hd=>h d (List.mem_cons_of_mem _ hd)
  unfold zbn
  rw[h1,bok,h2,bok]
  cases hp:p d with
  | true =>
   show(fe ρ1).bind _=_
   rw[h3 hp,bok,ih,bok,List.filter_cons_of_pos hp]
   rfl
  | false =>
   show zbn B tg tt fe ds=_
   rw[ih,List.filter_cons_of_neg (by rw[hp];decide)]
theorem zjf {F:D->D}{p:D->Bool}(hl:ds.length<=1000000)(h:∀ d∈ds,∃ ρ1,tg (zcv n fr ρ) d=.ok ρ1/\tt ρ1=.ok (.bl (p d))/\(p d=true->fe ρ1=.ok (F d))):zjg n fr tg tt fe ρ ds=.ok (.lst ((ds.filter p).map F)):=by
 unfold zjg
 rw[if_pos (show ds.length<=line from hl),zf0 h]
end
end Com
local macro_rules | `(tactic| open_line with[$xs,*])=>`(tactic| simp only[Com.ev_ok,Com.ev_seq,Com.ev_seq1,Com.ev_seq2,Com.ev_seq3,Com.ev_seq4,Com.ev_next,Com.ev_set,Com.ev_set1,Com.ev_ret,Com.ev_ret1,Com.ev_retN,Com.ev_drop,Com.ev_drop1,Com.ev_if,Com.ev_if1,Com.ev_if2,Com.ev_own,Com.ev_own1,Com.ev_app,Com.ev_ownS,Com.ev_appL,Com.ev_put,Com.ev_put1,Com.ev_putL,Com.ev_putL1,Com.ev_frz,Com.ev_unp,Com.ev_par,Com.ev_par1,Com.ev_b1,Com.ev_b2,Com.ev_b21,Com.ev_bA,Com.ev_nil,Com.ev_cons,Com.ev_cons1,Com.ev_cons2,Com.ev_and,Com.ev_and1,Com.ev_and2,Com.ev_or,Com.ev_or1,Com.ev_or2,Com.ev_not,Com.ev_not1,Com.ev_ifx,Com.ev_ifx1,Com.ev_ifx2,Com.ev_var,Com.ev_var1,Com.ev_C,Com.ev_shr0,Com.ev_shr,Com.ev_shr1,Com.ev_shr2,Com.ev_shr3,Com.ev_shr4,Com.ev_fr1,Com.ev_fr2,Com.ev_frc,Com.ev_ownT,Com.ev_clrAt,Com.ev_clrAt1,Com.ev_run,Com.ev_run1,Com.ev_run2,Com.ev_os,Com.ev_os1,Com.ev_on,Com.ev_sl,Com.ev_sl0,Com.ev_sl1,Com.ev_sl2,Com.ev_for,Com.ev_for1,Com.ev_chain,Com.ev_ch,Com.ev_ch1,Com.ev_ch2,Com.ev_ch3,Com.ev_iop,Com.ev_add,Com.ev_neg,Com.ev_m1,Com.ev_m2,Com.ev_lenL,Com.ev_lenT,Com.ev_p60,Com.eq_int,Com.ne_int,List.map_cons,List.map_nil,List.length_cons,List.length_nil,List.replicate_succ,List.replicate_zero,List.nil_append,List.cons_append,List.getElem?_cons_zero,List.getElem?_cons_succ,List.set_cons_zero,List.set_cons_succ,Nat.sub_zero,Nat.reduceSub,Nat.reduceAdd,Nat.add_zero,Nat.zero_add,Bool.not_true,Bool.not_false,Com.ev_tup,Com.ev_lst,Com.ev_addL,Com.ev_app1,Com.ev_appL1,Com.ev_mod,Com.ev_unpL,Com.ev_unpT,Com.ev_sa,Com.ev_sa0,Com.ev_un,Com.ev_un1,Com.ev_un2,Com.ev_un3,Com.ev_ixL0,Com.ev_ixL1,Com.ev_ixL2,Com.ev_ixL3,Com.ev_ixL4,Com.ev_ixL5,Com.ev_ixL6,Com.ev_ixL7,Com.ev_ixL8,Com.ev_ixL9,Com.ev_ixL10,Com.ev_ixL11,Com.ev_ixL12,Com.ev_ixL13,Com.ev_ixT0,Com.ev_ixT1,Com.ev_ixT2,Com.ev_ixT3,Com.ev_ixT4,Com.ev_ixT5,decide_true,decide_false,Nat.reduceLeDiff,Nat.reduceBEq,Int.reduceBEq,beq_self_eq_true,DL.dOne,DL.mYes,Com.ev_is_bool_non,Com.ev_is_bool_bl,Com.ev_is_bool_int,Com.ev_is_bool_str,Com.ev_is_bool_tup,Com.ev_is_bool_lst,Com.ev_is_bool_dic,Com.ev_is_int_non,Com.ev_is_int_bl,Com.ev_is_int_int,Com.ev_is_int_str,Com.ev_is_int_tup,Com.ev_is_int_lst,Com.ev_is_int_dic,Com.ev_is_str_non,Com.ev_is_str_bl,Com.ev_is_str_int,Com.ev_is_str_str,Com.ev_is_str_tup,Com.ev_is_str_lst,Com.ev_is_str_dic,Com.ev_is_tuple_non,Com.ev_is_tuple_bl,Com.ev_is_tuple_int,Com.ev_is_tuple_str,Com.ev_is_tuple_tup,Com.ev_is_tuple_lst,Com.ev_is_tuple_dic,Com.ev_is_list_non,Com.ev_is_list_bl,Com.ev_is_list_int,Com.ev_is_list_str,Com.ev_is_list_tup,Com.ev_is_list_lst,Com.ev_is_list_dic,Com.ev_is_dict_non,Com.ev_is_dict_bl,Com.ev_is_dict_int,Com.ev_is_dict_str,Com.ev_is_dict_tup,Com.ev_is_dict_lst,Com.ev_is_dict_dic,Com.ev_isN_non,Com.ev_notN_non,Com.ev_isN_bl,Com.ev_notN_bl,Com.ev_isN_int,Com.ev_notN_int,Com.ev_isN_str,Com.ev_notN_str,Com.ev_isN_tup,Com.ev_notN_tup,Com.ev_isN_lst,Com.ev_notN_lst,Com.ev_isN_dic,Com.ev_notN_dic,Com.ev_c0,Com.ev_c1,Com.ev_c2,Com.ev_c3,Com.ev_c4,Com.ev_c5,Com.ev_c6,Com.ev_c7,Com.ev_c8,Com.ev_c9,Com.ev_c10,Com.ev_c11,Int.reduceLT,Int.reduceLE,Int.reduceSub,Int.reduceAdd,Int.reduceMul,Int.reduceNeg,Com.ev_join,Com.ev_join1,Com.ev_pt0,Com.ev_pt1,Com.ev_pt2,Com.ev_pt3,Com.ev_pt4,Com.ev_rep,Com.ev_rep1,Com.ev_rep2,Int.reduceToNat,Bool.and_self,Com.ev_forI,Com.ev_forI1,Com.ev_srcE,Com.ev_srcE1,Com.ev_srcL,Com.ev_srcL1,Com.ev_srcT,Com.ev_srcT1,Com.ev_comp,Com.ev_fld,Com.ev_fld0,Com.ev_fld1,Com.ev_fld2,Com.ev_lI,Com.ev_lI1,Com.ev_gU,Com.ev_forR,Com.ev_slT,Com.ev_addT,Com.ev_addS,Com.ev_lenS,Com.ev_mx,Com.ev_io,Com.ev_io1,Com.ev_li,Com.ev_li1,Com.ev_gS,Com.ev_p18,Com.ev_p9,$[$xs:term],*])
local macro_rules | `(tactic| open_line with[$xs,*] seeing $h)=>`(tactic| simp only[Com.ev_ok,Com.ev_seq,Com.ev_seq1,Com.ev_seq2,Com.ev_seq3,Com.ev_seq4,Com.ev_next,Com.ev_set,Com.ev_set1,Com.ev_ret,Com.ev_ret1,Com.ev_retN,Com.ev_drop,Com.ev_drop1,Com.ev_if,Com.ev_if1,Com.ev_if2,Com.ev_own,Com.ev_own1,Com.ev_app,Com.ev_ownS,Com.ev_appL,Com.ev_put,Com.ev_put1,Com.ev_putL,Com.ev_putL1,Com.ev_frz,Com.ev_unp,Com.ev_par,Com.ev_par1,Com.ev_b1,Com.ev_b2,Com.ev_b21,Com.ev_bA,Com.ev_nil,Com.ev_cons,Com.ev_cons1,Com.ev_cons2,Com.ev_and,Com.ev_and1,Com.ev_and2,Com.ev_or,Com.ev_or1,Com.ev_or2,Com.ev_not,Com.ev_not1,Com.ev_ifx,Com.ev_ifx1,Com.ev_ifx2,Com.ev_var,Com.ev_var1,Com.ev_C,Com.ev_shr0,Com.ev_shr,Com.ev_shr1,Com.ev_shr2,Com.ev_shr3,Com.ev_shr4,Com.ev_fr1,Com.ev_fr2,Com.ev_frc,Com.ev_ownT,Com.ev_clrAt,Com.ev_clrAt1,Com.ev_run,Com.ev_run1,Com.ev_run2,Com.ev_os,Com.ev_os1,Com.ev_on,Com.ev_sl,Com.ev_sl0,Com.ev_sl1,Com.ev_sl2,Com.ev_for,Com.ev_for1,Com.ev_chain,Com.ev_ch,Com.ev_ch1,Com.ev_ch2,Com.ev_ch3,Com.ev_iop,Com.ev_add,Com.ev_neg,Com.ev_m1,Com.ev_m2,Com.ev_lenL,Com.ev_lenT,Com.ev_p60,Com.eq_int,Com.ne_int,List.map_cons,List.map_nil,List.length_cons,List.length_nil,List.replicate_succ,List.replicate_zero,List.nil_append,List.cons_append,List.getElem?_cons_zero,List.getElem?_cons_succ,List.set_cons_zero,List.set_cons_succ,Nat.sub_zero,Nat.reduceSub,Nat.reduceAdd,Nat.add_zero,Nat.zero_add,Bool.not_true,Bool.not_false,Com.ev_tup,Com.ev_lst,Com.ev_addL,Com.ev_app1,Com.ev_appL1,Com.ev_mod,Com.ev_unpL,Com.ev_unpT,Com.ev_sa,Com.ev_sa0,Com.ev_un,Com.ev_un1,Com.ev_un2,Com.ev_un3,Com.ev_ixL0,Com.ev_ixL1,Com.ev_ixL2,Com.ev_ixL3,Com.ev_ixL4,Com.ev_ixL5,Com.ev_ixL6,Com.ev_ixL7,Com.ev_ixL8,Com.ev_ixL9,Com.ev_ixL10,Com.ev_ixL11,Com.ev_ixL12,Com.ev_ixL13,Com.ev_ixT0,Com.ev_ixT1,Com.ev_ixT2,Com.ev_ixT3,Com.ev_ixT4,Com.ev_ixT5,decide_true,decide_false,Nat.reduceLeDiff,Nat.reduceBEq,Int.reduceBEq,beq_self_eq_true,DL.dOne,DL.mYes,Com.ev_is_bool_non,Com.ev_is_bool_bl,Com.ev_is_bool_int,Com.ev_is_bool_str,Com.ev_is_bool_tup,Com.ev_is_bool_lst,Com.ev_is_bool_dic,Com.ev_is_int_non,Com.ev_is_int_bl,Com.ev_is_int_int,Com.ev_is_int_str,Com.ev_is_int_tup,Com.ev_is_int_lst,Com.ev_is_int_dic,Com.ev_is_str_non,Com.ev_is_str_bl,Com.ev_is_str_int,Com.ev_is_str_str,Com.ev_is_str_tup,Com.ev_is_str_lst,Com.ev_is_str_dic,Com.ev_is_tuple_non,Com.ev_is_tuple_bl,Com.ev_is_tuple_int,Com.ev_is_tuple_str,Com.ev_is_tuple_tup,Com.ev_is_tuple_lst,Com.ev_is_tuple_dic,Com.ev_is_list_non,Com.ev_is_list_bl,Com.ev_is_list_int,Com.ev_is_list_str,Com.ev_is_list_tup,Com.ev_is_list_lst,Com.ev_is_list_dic,Com.ev_is_dict_non,Com.ev_is_dict_bl,Com.ev_is_dict_int,Com.ev_is_dict_str,Com.ev_is_dict_tup,Com.ev_is_dict_lst,Com.ev_is_dict_dic,Com.ev_isN_non,Com.ev_notN_non,Com.ev_isN_bl,Com.ev_notN_bl,Com.ev_isN_int,Com.ev_notN_int,Com.ev_isN_str,Com.ev_notN_str,Com.ev_isN_tup,Com.ev_notN_tup,Com.ev_isN_lst,Com.ev_notN_lst,Com.ev_isN_dic,Com.ev_notN_dic,Com.ev_c0,Com.ev_c1,Com.ev_c2,Com.ev_c3,Com.ev_c4,Com.ev_c5,Com.ev_c6,Com.ev_c7,Com.ev_c8,Com.ev_c9,Com.ev_c10,Com.ev_c11,Int.reduceLT,Int.reduceLE,Int.reduceSub,Int.reduceAdd,Int.reduceMul,Int.reduceNeg,Com.ev_join,Com.ev_join1,Com.ev_pt0,Com.ev_pt1,Com.ev_pt2,Com.ev_pt3,Com.ev_pt4,Com.ev_rep,Com.ev_rep1,Com.ev_rep2,Int.reduceToNat,Bool.and_self,Com.ev_forI,Com.ev_forI1,Com.ev_srcE,Com.ev_srcE1,Com.ev_srcL,Com.ev_srcL1,Com.ev_srcT,Com.ev_srcT1,Com.ev_comp,Com.ev_fld,Com.ev_fld0,Com.ev_fld1,Com.ev_fld2,Com.ev_lI,Com.ev_lI1,Com.ev_gU,Com.ev_forR,Com.ev_slT,Com.ev_addT,Com.ev_addS,Com.ev_lenS,Com.ev_mx,Com.ev_io,Com.ev_io1,Com.ev_li,Com.ev_li1,Com.ev_gS,Com.ev_p18,Com.ev_p9,$[$xs:term],*] at $(⟨h⟩):ident)
namespace Com
open PySem L2 DL
structure Drawn (sz vs:List Int):Prop where
 len:vs.length=sz.length
 bnd:∀ (i:Nat) (v s:Int),vs[i]?=some v->sz[i]?=some s->0<=v/\v < s
theorem Drawn.at {sz vs:List Int}(W:Drawn sz vs)(i:Nat){s:Int}(h:sz[i]?=some s):∃ v,vs[i]?=some v/\(0<=v/\v < s)/\dIx (.lst (vs.map D.int)) (.int (i:Int))=.ok (.int v):=by
 have hi:i < vs.length:=by rw[W.len];exact(List.getElem?_eq_some_iff.mp h).1
 refine⟨vs[i],List.getElem?_eq_getElem hi,W.bnd i _ _ (List.getElem?_eq_getElem hi) h,zlF ?_⟩
 rw[List.getElem?_map,List.getElem?_eq_getElem hi];rfl
theorem Drawn.ix {sz vs:List Int}(W:Drawn sz vs)(k:Int)(i:Nat){s:Int}(hk:k=(i:Int))(h:sz[i]?=some s):∃ v,vs[i]?=some v/\(0<=v/\v < s)/\dIx (.lst (vs.map D.int)) (.int k)=.ok (.int v):=by
 subst hk;exact W.at i h
theorem znz (c:Int)(sz:List Int)(h:(sz.all fun s=>decide (0 < s)&&decide (s<=(N60:Int)))=true)(hn:sz.length<=1000):∃ vs,zba [.int c,.lst (sz.map D.int)]=.ok (.lst (vs.map D.int))/\Drawn sz vs:=by
 obtain⟨vs,h1,h2,h3⟩:=znA c sz (zr0 h) hn
 exact⟨vs,h3,h1,h2⟩
theorem zrP {α:Type}{vs:List α}{i:Nat}{a b c:α}(h0:vs[i]?=some a)(h1:vs[i+1]?=some b)(h2:vs[i+2]?=some c):(vs.drop i).take 3=[a,b,c]:=by
 apply List.ext_getElem?
 intro j
 rcases j with _ | _ | _ | j
 ·rw[List.getElem?_take_of_lt (by decide),List.getElem?_drop];simpa using h0
 ·rw[List.getElem?_take_of_lt (by decide),List.getElem?_drop];simpa using h1
 ·rw[List.getElem?_take_of_lt (by decide),List.getElem?_drop];simpa using h2
 ·rw[List.getElem?_eq_none (by simp;omega)];simp
def zp6 (i:Nat)(ρ:Ev)(d:D):Res Fl:=if zn0 d=true then .ok (.nx (ρ.set i (.sh d))) else .stuck
theorem zsD {i:Nat}{f:Ev->Res D}{ρ:Ev}:zr3 i f ρ=(f (shr ρ)).bind (zp6 i ρ):=rfl
theorem zr2 {i:Nat}{ρ:Ev}{x:Fra}:zp6 i ρ (fr x)=.ok (.nx (ρ.set i (.sh (fr x)))):=rfl
theorem zsr {x:Fra}:dNe (fr x) (fr x)=.ok (.bl false):=by
 unfold dNe
 rw[if_pos ⟨zk2 x,zk2 x⟩,zkz];rfl
theorem zsC {c f:Str}{d:D}:zmA ⟨c,[(f,d)]⟩=.ob (.exf c [f]) [d]:=by
 show(if([f]:List Str).Nodup then D.ob (.exf c [f]) [d] else .exc c)=_
 rw[if_pos (by simp)]
theorem zpg {hit:Str->Bool}{ni:Nat}{sh:Ev->Res Fl}{ρ:Ev}{x:Exn}(h:hit x.cls=true):zrw hit ni sh ρ (.exn x)=(sh (ρ.set ni (.sh (zmA x)))).bind (zqB ni):=if_pos h
theorem zlW {tab:Str->Option Bool}{c:Str}{ks:List Str}{ds:List D}{b:Bool}(h:tab c=some b):zma tab (.ob (.exf c ks) ds)=.ok (.bl b):=by unfold zma;simp only[h]
def zk8 (x:Str)(ks:List Str)(ds:List D):Res Fl:=if ds.length=ks.length then .exn ⟨x,ks.zip ds⟩ else .stuck
theorem zcr {x:Str}{ks:List Str}{fa:Ev->Res (List D)}{ρ:Ev}:zfG x ks fa ρ=(fa (shr ρ)).bind (zk8 x ks):=zaq rfl
theorem zb1 {x f:Str}{d:D}:zk8 x [f] [d]=.exn ⟨x,[(f,d)]⟩:=if_pos rfl
theorem znw {tab:Str->Option Bool}{c f:Str}{d:D}{b:Bool}(h:tab c=some b):ziB tab f (.ob (.exf c [f]) [d])=.ok d:=by
 unfold ziB
 simp only[h]
 rw[show ziJ f [f] [d]=some d by unfold ziJ;rw[if_pos rfl]]
end Com
namespace Tex
open PySem PySem.NumText L2 DL
structure zf7 (ds:List Nat):Prop where
 d:AllDigits ds
 n:ds≠[]
 z:∀ r,ds=48::r->r=[]
def dec (m:Nat):List Nat:=(Nat.toDigits 10 m).map Char.toNat
theorem zfh {m:Nat}(h:m < 10):dec m=[m+48]:=by
 unfold dec
 rw[Nat.toDigits_of_lt_base h]
 show[(Nat.digitChar m).toNat]=_
 have:=W.KIN.digit_back m h
 have k:∀ d:Nat,d < 10->(Nat.digitChar d).toNat=d+48:=by decide
 rw[k m h]
theorem zix {m:Nat}(h:10<=m):dec m=dec (m / 10)++[m % 10+48]:=by
 have hm:m % 10 < 10:=Nat.mod_lt m (by decide)
 have t:Nat.toDigits 10 (m / 10)++Nat.toDigits 10 (m % 10)=Nat.toDigits 10 (10*(m / 10)+m % 10):=Nat.toDigits_append_toDigits (by decide) (by omega) hm
 rw[Nat.div_add_mod] at t
 have e:=zfh hm
 unfold dec at e ⊢
 rw[← t,List.map_append,e]
theorem zeZ (m:Nat):AllDigits (dec m):=by
 induction m using Nat.strongRecOn with
 | _ m ih =>
  by_cases h:m < 10
  ·rw[zfh h]
   intro c hc
   rw[List.mem_singleton.mp hc]
   omega
  ·rw[zix (by omega)]
   intro c hc
   rcases List.mem_append.mp hc with hc | hc
   ·exact ih _ (by omega) c hc
   ·rw[List.mem_singleton.mp hc]
    have:=Nat.mod_lt m (show 0 < 10 by decide)
    omega
theorem zn8 (m:Nat):dec m≠[]:=by
 by_cases h:m < 10
 ·rw[zfh h];simp
 ·rw[zix (by omega)];simp
theorem znB {m:Nat}(h:0 < m):∀ r,dec m≠48::r:=by
 induction m using Nat.strongRecOn with
 | _ m ih =>
  intro r
  by_cases h10:m < 10
  ·rw[zfh h10]
   intro e
   injection e with e1 _
   omega
  ·rw[zix (by omega)]
   have k:=ih (m / 10) (by omega) (by omega)
   cases q:dec (m / 10) with
   | nil=>exact absurd q (zn8 _)
   | cons c cs =>
    intro e
    rw[List.cons_append] at e
    injection e with e1 e2
    exact k cs (by rw[q,e1])
theorem ziy (m:Nat):zf7 (dec m):=by
 refine⟨zeZ m,zn8 m,fun r e=>?_⟩
 by_cases h:m=0
 ·subst h
  rw[zfh (by decide)] at e
  injection e with _ e2
  exact e2.symm
 ·exact absurd e (znB (by omega) r)
theorem zgP {ds:List Nat}{c:Nat}:digitsVal (ds++[c])=digitsVal ds*10+(c-48):=by unfold digitsVal;rw[List.foldl_append];rfl
theorem zou:∀ {ds:List Nat},AllDigits ds->ds≠[]->(∀ r,ds≠48::r)->0 < digitsVal ds:=by
 have key:∀ (n:Nat) (ds:List Nat),ds.length=n->AllDigits ds->ds≠[]->(∀ r,ds≠48::r)->0 < digitsVal ds:=by
  intro n
  induction n with
  | zero=>intro ds hl _ hn _;exact absurd (List.length_eq_zero_iff.mp hl) hn
  | succ n ih =>
   intro ds hl hd hn hz
   rcases List.eq_nil_or_concat ds with rfl | ⟨es,c,rfl⟩
   ·exact absurd rfl hn
   ·rw[List.concat_eq_append] at *
    rw[zgP]
    cases es with
    | nil =>
     have:=hd c (by simp)
     have hc:c≠48:=fun e=>hz [] (by rw[e];rfl)
     omega
    | cons a es =>
     have:=ih (a::es) (by simpa using hl) (fun x hx=>hd x (List.mem_append_left _ hx)) (by simp) (fun r e=>hz (r++[c]) (by rw[e];rfl))
     omega
 intro ds hd hn hz
 exact key _ _ rfl hd hn hz
theorem ze3:∀ {ds:List Nat},zf7 ds->dec (digitsVal ds)=ds:=by
 have key:∀ (n:Nat) (ds:List Nat),ds.length=n->zf7 ds->dec (digitsVal ds)=ds:=by
  intro n
  induction n with
  | zero=>intro ds hl h;exact absurd (List.length_eq_zero_iff.mp hl) h.n
  | succ n ih =>
   intro ds hl h
   rcases List.eq_nil_or_concat ds with rfl | ⟨es,c,rfl⟩
   ·exact absurd rfl h.n
   ·rw[List.concat_eq_append] at *
    have hc:=h.d c (by simp)
    rw[zgP]
    cases es with
    | nil =>
     show dec (0*10+(c-48))=[c]
     rw[zfh (by omega)]
     congr 1
     omega
    | cons a es =>
     have hz:∀ r,a::es≠48::r:=fun r e=>by
      have:=h.z (r++[c]) (by rw[e];rfl)
      simp at this
     have hd:AllDigits (a::es):=fun x hx=>h.d x (List.mem_append_left _ hx)
     have hp:=zou hd (by simp) hz
     have:=ih (a::es) (by simpa using hl) ⟨hd,by simp,fun r e=>absurd e (hz r)⟩
     rw[zix (by omega)]
     have e1:(digitsVal (a::es)*10+(c-48)) / 10=digitsVal (a::es):=by omega
     have e2:(digitsVal (a::es)*10+(c-48)) % 10=c-48:=by omega
     rw[e1,e2,this]
     congr 2
     omega
 intro ds h
 exact key _ _ rfl h
def wr (n:Int):List Nat:=if n < 0 then 45::dec n.natAbs else dec n.natAbs
theorem zgR (n:Int):(Str.ofString (toString n)).cps.toList=wr n:=by
 unfold wr
 cases n with
 | ofNat m=>rw[if_neg (show ¬ (Int.ofNat m < 0) from Int.not_lt.mpr (Int.natCast_nonneg m))];exact W.KIN.signs_num m
 | negSucc m =>
  rw[if_pos (Int.negSucc_lt_zero m),PyProof.Rows.signs_ofString]
  show("-"++Nat.repr (m+1)).toList.map Char.toNat=_
  rw[String.toList_append,List.map_append,Nat.toList_repr]
  rfl
abbrev cl (z:Str):List Nat:=z.cps.toList
theorem zdH {a b:Str}(h:cl a=cl b):a=b:=by
 cases a;cases b
 congr 1
 exact Array.toList_inj.mp h
theorem zed (a b:Str):cl (a++b)=cl a++cl b:=by
 show(a.cps++b.cps).toList=_
 rw[Array.toList_append]
abbrev za8:Str:=⟨#[47]⟩
theorem zep:("/" : Str)=za8:=by decide
theorem zeA:∀ {a b c d:List Nat},a++47::b=c++47::d->47∉a->47∉c->a=c/\b=d
 | [],b,[],d,h,_,_=>⟨rfl,by simpa using h⟩
 | [],b,c::cs,d,h,_,hc=>by
  rw[List.nil_append,List.cons_append] at h
  injection h with h1 _
  exact absurd (h1▸List.mem_cons_self) hc
 | a::as,b,[],d,h,ha,_=>by
  rw[List.nil_append,List.cons_append] at h
  injection h with h1 _
  exact absurd (h1▸List.mem_cons_self) ha
 | a::as,b,c::cs,d,h,ha,hc=>by
  rw[List.cons_append,List.cons_append] at h
  injection h with h1 h2
  obtain⟨e1,e2⟩:=zeA h2 (fun z=>ha (List.mem_cons_of_mem _ z)) (fun z=>hc (List.mem_cons_of_mem _ z))
  exact⟨by rw[h1,e1],e2⟩
theorem zg2 (x:Str):(Txt.partition x za8=(x,Str.empty,Str.empty)/\47∉cl x)∨∃ p q,Txt.partition x za8=(p,za8,q)/\47∉cl p/\cl x=cl p++47::cl q:=by
 rcases PyProof.Rows.partition_whole x za8 with⟨h1,h2⟩ | ⟨i,h1,h2,h3⟩
 ·exact .inl ⟨h1,fun hm=>by obtain⟨i,hi⟩:=(PyProof.Rows.mem_iff_at x 47).mp hm;exact h2 i hi⟩
 ·refine .inr ⟨_,_,h1,StrLaws.part_free x 47 0 i (by have:=h2.1;omega) (fun k _ hk=>h3 k hk),?_⟩
  have:=StrLaws.partition_sum x za8
  rw[h1] at this
  have e:=congrArg cl this
  rw[zed,zed] at e
  rw[← e,List.append_assoc]
  rfl
theorem zst {y a:Str}:Str.join y [a]=a:=rfl
theorem zss {y a b:Str}:Str.join y [a,b]=a++y++b:=rfl
theorem zq1 {y a b:Str}{r:List Str}:Str.join y (a::b::r)=a++y++Str.join y (b::r):=rfl
theorem zmM (x:Str):(Txt.split x za8=[x]/\Txt.partition x za8=(x,Str.empty,Str.empty)/\47∉cl x) ∨
  (∃ p q,Txt.split x za8=[p,q]/\Txt.partition x za8=(p,za8,q)/\47∉cl p/\47∉cl q/\cl x=cl p++47::cl q) ∨
  (3<=(Txt.split x za8).length/\∃ p q,Txt.partition x za8=(p,za8,q)/\47∈cl q):=by
 have hj:=StrLaws.join_split x za8
 have hf:=StrLaws.split_free x 47
 match e:Txt.split x za8 with
 | [] =>
  rw[e] at hj
  have hx:cl x=[]:=by rw[← hj];rfl
  rcases zg2 x with⟨h1,h2⟩ | ⟨p,q,h1,h2,h3⟩
  ·exfalso
   have:=StrLaws.partsFrom_ne x 1 0 []
   unfold Txt.split at e
   split at e
   ·cases e
   ·split at e
    ·cases e
    ·rw[StrLaws.partsBetween_eq] at e
     obtain⟨a,r,q⟩:=StrLaws.partsFrom_ne x (za8:Str).length 0 (Builtin.Str.occurrences x za8 0 x.length (x.length+1))
     rw[q] at e;cases e
  ·rw[hx] at h3;simp at h3
 | [a] =>
  rw[e,zst] at hj
  subst hj
  have h0:47∉cl a:=hf a (by rw[e];exact List.mem_singleton_self a)
  rcases zg2 a with⟨h1,_⟩ | ⟨p,q,h1,h2,h3⟩
  ·exact .inl ⟨rfl,h1,h0⟩
  ·exact absurd (by rw[h3];simp) h0
 | [a,b] =>
  rw[e,zss] at hj
  have ha:47∉cl a:=hf a (by rw[e];simp)
  have hb:47∉cl b:=hf b (by rw[e];simp)
  have hx:cl x=cl a++47::cl b:=by
   rw[← hj,zed,zed,List.append_assoc];rfl
  rcases zg2 x with⟨_,h2⟩ | ⟨p,q,h1,h2,h3⟩
  ·exact absurd (by rw[hx];simp) h2
  ·obtain⟨e1,e2⟩:=zeA (hx.symm.trans h3) ha h2
   have e1:=zdH e1
   have e2:=zdH e2
   subst e1 e2
   exact .inr (.inl ⟨a,b,rfl,h1,ha,hb,hx⟩)
 | a::b::c::r =>
  rw[e,zq1] at hj
  have ha:47∉cl a:=hf a (by rw[e];simp)
  have hx:cl x=cl a++47::cl (Str.join za8 (b::c::r)):=by
   rw[← hj,zed,zed,List.append_assoc];rfl
  rcases zg2 x with⟨_,h2⟩ | ⟨p,q,h1,h2,h3⟩
  ·exact absurd (by rw[hx];simp) h2
  ·obtain⟨e1,e2⟩:=zeA (hx.symm.trans h3) ha h2
   refine .inr (.inr ⟨by simp,p,q,h1,?_⟩)
   rw[← e2,zq1,zed,zed]
   simp
end Tex
namespace K74
open PySem L2 DL
def zcV:List (Str×Bool):=[("NoNumber",true),("NoText",true)]
def zow:Str->Option Bool:=ziS [("NoNumber",false),("NoText",true)]
def zov:Str->Option Bool:=ziS [("NoNumber",true),("NoText",true)]
def zio:Str->Option Bool:=ziS [("NoText",true)]
abbrev zba:List D->Res D:=Com.zba
abbrev za6:List D->Res D:=Com.za6
abbrev zbd:List D->Res D:=Com.zbd
def zaW:Ev->Res Fl :=
 (zar (zrA [3,4,5] (zaf 0))
 (zar (sIf (zac (zaf 3) (dC (.int 1)) dEq)
 (zar (zbo 1 (zac (zaf 1) (dC (.int 31)) zd2))
 (zar (zbo 2 (zac (zaf 2) (dC (.int 12)) zd2))
 zaj))
 zaj)
 (zar (sIf (zac (zaf 5) (dC (.int 1)) dEq)
 (zar (zbo 2 (dC (.int 0)))
 zaj)
 zaj)
 (zar (zbo 6 (zak (zad (zaf 1) (zad (zac (dC (.int 1)) (zaf 2) zcx) zaH)) zbd))
 (zar (zci (zak (zad (zac (zac (zaf 6) (dC (.int 0)) dIx) (zac (zac (dC (.int 2)) (zaf 4) zbA) (zac (zaf 6) (dC (.int 0)) dIx) zbA) zpI) (zad (zac (zaf 6) (dC (.int 1)) dIx) zaH)) zkp))
 zaj)))))
def zaQ:List D->Res D:=zdm 7 zaW
def zbf:Ev->Res Fl :=
 (zar (sIf (zac (zac (zaf 0) (dC (.int 1)) dIx) (dC (.int 1)) dEq)
 (zar (zci (zak (zad (zac (zaf 0) (dC (.int 0)) dIx) zaH) (m1 zeF)))
 zaj)
 zaj)
 (zar (zci (zac (zac (zak (zad (zac (zaf 0) (dC (.int 0)) dIx) zaH) (m1 zeF)) (dC (.str "/")) zcx) (zak (zad (zac (zaf 0) (dC (.int 1)) dIx) zaH) (m1 zeF)) zcx))
 zaj))
def zaT:List D->Res D:=zdm 1 zbf
def zb5:Ev->Res Fl :=
 (zar (sIf (zac (zac (zaf 0) (dC (.int 1)) dIx) (dC (.int 1)) dEq)
 (zar (zci (zak (zad (zac (zaf 0) (dC (.int 0)) dIx) zaH) (m1 zeF)))
 zaj)
 zaj)
 (zar (zci (zac (zac (zak (zad (zac (zaf 0) (dC (.int 0)) dIx) zaH) (m1 zeF)) (dC (.str "/")) zcx) (zak (zad (zac (zaf 0) (dC (.int 1)) dIx) zaH) (m1 zeF)) zcx))
 zaj))
def za5:List D->Res D:=zdm 1 zb5
abbrev za1:List D->Res D:=Com.za1
abbrev zaJ:List D->Res D:=Com.zaJ
def zf5:Ev->Res Fl :=
 (zar (sIf (dOr (zem (zak (zad (zaf 0) zaH) za1)) (zem (zak (zad (zaf 1) zaH) za1)))
 (zar (zgn "NoNumber" (zad (dC (.str "a fraction is made of two whole numbers")) zaH))
 zaj)
 zaj)
 (zar (sIf (zac (zaf 1) (dC (.int 0)) dEq)
 (zar (zgn "NoNumber" (zad (dC (.str "a fraction's second number is not 0")) zaH))
 zaj)
 zaj)
 (zar (zbo 2 (zak (zad (zaf 0) (zad (zaf 1) zaH)) zaJ))
 (zar (sIf (zac (zaf 1) (dC (.int 0)) dLt)
 (zar (zbo 2 (zbr (zaf 2) zpJ))
 zaj)
 zaj)
 (zar (zci (zak (zad (zac (zaf 0) (zaf 2) zje) (zad (zac (zaf 1) (zaf 2) zje) zaH)) zkp))
 zaj)))))
def zfL:List D->Res D:=zdm 3 zf5
def zhu:Ev->Res Fl :=
 (zar (zci (zak (zad (zac (zac (zaf 0) (dC (.int 0)) dIx) (zac (zaf 1) (dC (.int 0)) dIx) zbA) (zad (zac (zac (zaf 0) (dC (.int 1)) dIx) (zac (zaf 1) (dC (.int 1)) dIx) zbA) zaH)) zfL))
 zaj)
def zg8:List D->Res D:=zdm 2 zhu
def zaO:Ev->Res Fl :=
 (zar (sIf (dOr (zac (zaf 0) (dC (.str "")) dEq) (dOr (zac (zak (zad (zaf 0) zaH) (m1 zjd)) (dC (.int 60)) dGt) (zhk (zac (zac (zaf 0) (dC (.int 0)) dIx) (dC (.str "0")) dEq) (zac (zaf 0) (dC (.str "0")) dNe))))
 (zar (zci (dC (.bl false)))
 zaj)
 zaj)
 (zar (zci (zac (zeH 1 [] (zpE (zaf 0)) (zgC 0) (zac (zaf 0) (dC (.str "0123456789")) zjR) (zaf 0)) (zak zaH zg9) dEq))
 zaj))
def zaN:List D->Res D:=zdm 1 zaO
def zat:Ev->Res Fl :=
 (zar (zrA [1,2,3] (dSM zkq (zaf 0) (dC (.str "/"))))
 (zar (zbo 4 (ziL (zaf 1) (zdv (zak (zad (zac (ziL (zaf 1) zd0 (zdv (dC (.int 1)))) (dC (.str "-")) dEq) zaH) (m1 zbT))) zd0))
 (zar (sIf (dOr (zem (zak (zad (zaf 4) zaH) zaN)) (zac (zaf 1) (dC (.str "-0")) dEq))
 (zar (zci (dC (.non)))
 zaj)
 zaj)
 (zar (zbo 5 (zak (zad (zaf 4) zaH) (m1 zbT)))
 (zar (sIf (zac (ziL (zaf 1) zd0 (zdv (dC (.int 1)))) (dC (.str "-")) dEq)
 (zar (zbo 5 (zac (dC (.int 0)) (zaf 5) zpI))
 zaj)
 zaj)
 (zar (sIf (zac (zaf 2) (dC (.str "")) dEq)
 (zar (zci (zak (zad (zaf 5) (zad (dC (.int 1)) zaH)) zkp))
 zaj)
 zaj)
 (zar (sIf (dOr (zem (zak (zad (zaf 3) zaH) zaN)) (dOr (zac (zak (zad (zaf 3) zaH) (m1 zbT)) (dC (.int 2)) dLt) (zac (zak (zad (zaf 5) (zad (zak (zad (zaf 3) zaH) (m1 zbT)) zaH)) za6) (dC (.int 1)) dNe)))
 (zar (zci (dC (.non)))
 zaj)
 zaj)
 (zar (zci (zak (zad (zaf 5) (zad (zak (zad (zaf 3) zaH) (m1 zbT)) zaH)) zkp))
 zaj))))))))
def zan:List D->Res D:=zdm 6 zat
def zbz:Ev->Res Fl :=
 (zar (zbo 1 (dIf (dSM zeU (zaf 0) (dC (.str "-"))) (ziL (zaf 0) (zdv (dC (.int 1))) zd0) (zaf 0)))
 (zar (zci (zhk (zeG dLe dLe (dC (.int 1)) (zak (zad (zaf 1) zaH) (m1 zjd)) (dC (.int 60))) (zak (zad (zeH 1 [] (zpE (zaf 1)) (zgC 0) mYes (zac (zaf 0) (dC (.str "0123456789")) dIn)) zaH) (m1 zoe))))
 zaj))
def zbc:List D->Res D:=zdm 2 zbz
abbrev zcU:List D->Res D:=Com.zcU
def zaL:Ev->Res Fl :=
 (zar (zbo 1 (dIf (zbr (zaf 0) (zbV "str")) (dSM zdi (zaf 0) (dC (.str "/"))) (zak zaH zg9)))
 (zar (sIf (dOr (zem (zeG dLe dLe (dC (.int 1)) (zak (zad (zaf 1) zaH) (m1 zjd)) (dC (.int 2)))) (zem (zak (zad (zeH 1 [] (zrx (zaf 1)) (zgC 0) mYes (zak (zad (zaf 0) zaH) zbc)) zaH) (m1 zoe))))
 (zar (zfG "NoText" ["row"] (zad (dC (.int 0)) zaH))
 zaj)
 zaj)
 (zar (zbo 2 (zak (zad (zak (zad (zac (zaf 1) (dC (.int 0)) dIx) zaH) (m1 zbT)) (zad (dIf (zac (zak (zad (zaf 1) zaH) (m1 zjd)) (dC (.int 2)) dEq) (zak (zad (zac (zaf 1) (dC (.int 1)) dIx) zaH) (m1 zbT)) (dC (.int 1))) zaH)) zkp))
 (zar (sIf (dOr (zem (zak (zad (zaf 2) zaH) zcU)) (zac (zak (zad (zaf 2) zaH) zaT) (zaf 0) dNe))
 (zar (zfG "NoText" ["row"] (zad (dC (.int 0)) zaH))
 zaj)
 zaj)
 (zar (zci (zaf 2))
 zaj)))))
def zas:List D->Res D:=zdm 3 zaL
abbrev za3:List D->Res D:=Com.za3
def zbP:Ev->Res Fl :=
 (zar (zbo 1 (dC (.non)))
 (zar (sIf (zbr (zaf 0) (zbV "str"))
 (zar (zbo 1 (zak (zad (zaf 0) zaH) zan))
 zaj)
 zaj)
 (zar (zbo 2 (dC (.non)))
 (zar (zbo 3 (dC (.bl true)))
 (zar (zbo 4 (dC (.bl false)))
 (zar (zpF (zmR 2 (zad (zaf 0) zaH) zas) (zku zcV) 5
 (zar (zbo 4 (dC (.bl true)))
 (zar (zbo 3 (zhk (zbr (zaf 5) (zma zow)) (zbr (zaf 5) (zma zov))))
 (zar (sIf (zaf 3)
 (zar (zbo 3 (zhk (zak (zad (zbr (zaf 5) (ziB zio "row")) zaH) za3) (zac (zbr (zaf 5) (ziB zio "row")) (dC (.int 0)) dEq)))
 zaj)
 zaj)
 zaj))))
 (zar (sIf (zac (zaf 1) (dC (.non)) zmB)
 (zar (zci (zhk (zaf 4) (zaf 3)))
 zaj)
 zaj)
 (zar (sIf (dOr (zaf 4) (dOr (zem (zbr (zaf 2) (zbV "tuple"))) (zac (zaf 2) (zaf 1) dNe)))
 (zar (zci (dC (.bl false)))
 zaj)
 zaj)
 (zar (zci (zhk (zak (zad (zac (zaf 2) (dC (.int 0)) dIx) zaH) za3) (zak (zad (zac (zaf 2) (dC (.int 1)) dIx) zaH) za3)))
 zaj)))))))))
def zaK:List D->Res D:=zdm 6 zbP
def zck:Ev->Res Fl :=
 (zar (zbo 2 (zak (zad (zaf 0) (zad (zaf 1) zaH)) (noX zg8)))
 (zar (zbo 3 (zak (zad (zac (zac (zaf 0) (dC (.int 0)) dIx) (zac (zaf 1) (dC (.int 0)) dIx) zbA) (zad (zac (zac (zaf 0) (dC (.int 1)) dIx) (zac (zaf 1) (dC (.int 1)) dIx) zbA) zaH)) zbd))
 (zar (zbo 4 (zak (zad (zaf 2) zaH) zaT))
 (zar (sIf (dOr (zac (zaf 2) (zaf 3) dNe) (dOr (zem (zbr (zaf 4) (zbV "str"))) (zac (zaf 4) (zak (zad (zaf 3) zaH) za5) dNe)))
 (zar (zci (dC (.bl false)))
 zaj)
 zaj)
 (zar (zci (zak (zad (zaf 4) zaH) zaK))
 zaj)))))
def zbR:List D->Res D:=zdm 5 zck
def zb3:Ev->Res Fl :=
 (zar (zbo 4 (zac (dC (.str "0123456789-/+. \n\ta_E")) (zaf 2) dIx))
 (zar (zbo 3 (zac (zaf 3) (zac (zak (zad (zaf 0) zaH) (m1 zjd)) (dC (.int 1)) zcx) zd2))
 (zar (sIf (zac (zaf 1) (dC (.int 0)) dEq)
 (zar (zci (zac (zac (ziL (zaf 0) zd0 (zdv (zaf 3))) (zaf 4) zcx) (ziL (zaf 0) (zdv (zaf 3)) zd0) zcx))
 zaj)
 zaj)
 (zar (sIf (zac (zaf 1) (dC (.int 1)) dEq)
 (zar (zci (zac (ziL (zaf 0) zd0 (zdv (zaf 3))) (ziL (zaf 0) (zdv (zac (zaf 3) (dC (.int 1)) zcx)) zd0) zcx))
 zaj)
 zaj)
 (zar (zci (zac (zac (ziL (zaf 0) zd0 (zdv (zaf 3))) (zaf 4) zcx) (ziL (zaf 0) (zdv (zac (zaf 3) (dC (.int 1)) zcx)) zd0) zcx))
 zaj)))))
def zbI:List D->Res D:=zdm 5 zb3
def zcB:Ev->Res Fl :=
 (zar (zbo 1 (zak (zad (dC (.str "")) (zad (dC (.str "-")) (zad (dC (.str "/")) (zad (dC (.str "-0")) (zad (dC (.str "00")) (zad (dC (.str "0/1")) (zad (dC (.str "0/2")) (zad (dC (.str "1/1")) zaH)))))))) zg9))
 (zar (zbo 1 (zac (zaf 1) (zak (zad (dC (.str "2/4")) (zad (dC (.str "1/0")) (zad (dC (.str "1/-2")) (zad (dC (.str "--1")) (zad (dC (.str "1//2")) (zad (dC (.str "1/2/3")) (zad (dC (.str " 1")) (zad (dC (.str "1 ")) zaH)))))))) zg9) zcx))
 (zar (zbo 1 (zac (zaf 1) (zak (zad (dC (.str "1/02")) (zad (dC (.str "-1/2")) (zad (dC (.str "+1")) (zad (dC (.non)) (zad (dC (.int 1)) (zad (zak (zad (dC (.int 1)) (zad (dC (.int 2)) zaH)) zkp) (zad (dC (.bl true)) (zad (zak (zad (dC (.str "1")) zaH) zg9) zaH)))))))) zg9) zcx))
 (zar (zbo 1 (zac (zaf 1) (zak (zad (zac (dC (.str "1")) (dC (.int 4400)) ziA) (zad (zac (dC (.str "7/")) (zac (dC (.str "3")) (dC (.int 4400)) ziA) zcx) zaH)) zg9) zcx))
 (zar (zci (zac (zaf 1) (zaf 0) dIx))
 zaj)))))
def zb8:List D->Res D:=zdm 2 zcB
def zpx:Ev->Res Fl :=
 (zar (zbo 1 (zak (zad (zac (zac (dC (.int 10)) (dC (.int 59)) zjQ) (dC (.int 1)) zcx) (zad (zac (dC (.int 10)) (dC (.int 59)) zjQ) zaH)) zkp))
 (zar (znU (zac (zak (zad (dC (.int 0)) zaH) zg9) (ziL (zaf 0) zd0 (zdv (dC (.int 63)))) zcx) (zgC 2)
 (zar (zbo 3 (zak (zad (zaf 2) (zad (zak (zad (dC (.int 4)) (zad (dC (.int 2)) (zad (dC (.int 2)) (zad (dC (.int 3)) (zad (dC (.int 20)) (zad (dC (.int 127)) (zad (dC (.int 26)) (zad (zac (dC (.int 10)) (dC (.int 60)) zjQ) (zad (zac (zac (dC (.int 10)) (dC (.int 60)) zjQ) (dC (.int 1)) zpI) zaH))))))))) zg9) zaH)) zba))
 (zar (zbo 4 (zak (zad (ziL (zaf 3) zd0 (zdv (dC (.int 3)))) (zad (zac (zaf 3) (dC (.int 7)) dIx) (zad (zac (zaf 3) (dC (.int 8)) dIx) zaH))) zaQ))
 (zar (zbo 5 (zak (zad (zaf 4) zaH) zaT))
 (zar (sIf (dOr (zem (zbr (zaf 5) (zbV "str"))) (zac (zaf 5) (zak (zad (zaf 4) zaH) za5) dNe))
 (zar (zci (dC (.bl false)))
 zaj)
 zaj)
 (zar (sIf (zem (zak (zad (zaf 4) (zad (zaf 1) zaH)) zbR))
 (zar (zci (dC (.bl false)))
 zaj)
 zaj)
 (zar (zbo 1 (zaf 4))
 (zar (zbo 6 (zak (zad (zaf 5) (zad (zac (zaf 3) (dC (.int 3)) dIx) (zad (zac (zaf 3) (dC (.int 4)) dIx) (zad (zac (zaf 3) (dC (.int 5)) dIx) zaH)))) zbI))
 (zar (znU (zak (zad (zaf 5) (zad (zaf 6) (zad (zak (zad (zac (zaf 3) (dC (.int 6)) dIx) zaH) zb8) zaH))) zg9) (zgC 7)
 (zar (sIf (zem (zak (zad (zaf 7) zaH) zaK))
 (zar (zci (dC (.bl false)))
 zaj)
 zaj)
 zaj))
 zaj)))))))))
 (zar (zci (dC (.bl true)))
 zaj)))
def zlx:List D->Res D:=zdm 8 zpx
end K74
namespace K74
open PySem PySem.NumText L2 DL Com Tex
def zi5 (c:Nat):Bool:=occ ⟨#[c]⟩ "0123456789"
theorem zjD {c:Nat}:zi5 c=true↔(48<=c/\c<=57):=by
 have key:zi5 c=true↔c∈cl "0123456789":=by
  rw[PyProof.Rows.mem_iff_at]
  unfold zi5 occ
  rcases StrLaws.occ_head ("0123456789" : Str) ⟨#[c]⟩ 1 (Nat.le_refl 1) with⟨h0,hn⟩ | ⟨i,r,h0,hi,_⟩
  ·rw[h0]
   exact⟨fun z=>(by cases z),fun⟨i,hi⟩=>absurd hi (hn i)⟩
  ·rw[h0]
   exact⟨fun _=>⟨i,hi⟩,fun _=>rfl⟩
 rw[key,show cl "0123456789"=[48,49,50,51,52,53,54,55,56,57] by decide]
 simp only[List.mem_cons,List.not_mem_nil,or_false]
 omega
theorem zrr {cs:List Nat}:cs.all zi5=true↔AllDigits cs:=by
 rw[List.all_eq_true]
 exact⟨fun h c hc=>zjD.mp (h c hc),fun h c hc=>zjD.mpr (h c hc)⟩
theorem zog {b:Ev}(hb:b=[.no]):∀ (cs:List Nat),zbn b (zgC 0) mYes (zac (zaf 0) (dC (.str "0123456789")) dIn) (cs.map fun c=>D.str ⟨#[c]⟩)=.ok (cs.map fun c=>D.bl (zi5 c))
 | []=>rfl
 | c::r=>by
  subst hb
  rw[List.map_cons,zdG (x:=.bl (zi5 c)) rfl rfl rfl,zog rfl r]
  rfl
theorem zmO (z:Str):zcQ z=(cl z).map fun c=>D.str ⟨#[c]⟩:=rfl
def neg (z:Str):Bool:=(cl z).head?==some 45
theorem zkX {z:Str}:Txt.startswith z "-"=neg z:=by
 have h:=StrLaws.subAt_one z 45 0
 have e:(("-" : Str))=⟨#[45]⟩:=by decide
 rw[e]
 have k:Txt.startswith z ⟨#[45]⟩=true↔neg z=true:=by
  unfold neg
  rw[beq_iff_eq,List.head?_eq_getElem?,← h]
  show(decide (0+1<=z.length)&&Builtin.Str.subAt z ⟨#[45]⟩ 0)=true↔_
  rw[Bool.and_eq_true,decide_eq_true_eq]
  exact Iff.rfl
 cases a:Txt.startswith z ⟨#[45]⟩<;>cases b:neg z<;>simp_all
theorem zjS {z:Str}{i:Nat}(h:i<=z.length):cl (Txt.slice z (some (i:Int)) none)=(cl z).drop i:=by
 have:=StrLaws.sliceText_from (x:=z) (i:=(i:Int)) ⟨by omega,by show(i:Int)<=(z.cps.toList.length:Int);rw[Array.length_toList];exact Int.ofNat_le.mpr h⟩
 have e:Txt.slice z (some (i:Int)) none=_:=this
 rw[e]
 show List.take (((cl z).length:Int)-(i:Int)).toNat (List.drop (i:Int).toNat (cl z))=_
 rw[List.take_of_length_le (by rw[List.length_drop];omega),Int.toNat_natCast]
theorem zme {z:Str}:cl (Txt.slice z none (some 1))=(cl z).take 1:=by
 by_cases h:1<=z.length
 ·have:=StrLaws.sliceText_to (x:=z) (j:=1) ⟨by omega,by show(1:Int)<=(z.cps.toList.length:Int);rw[Array.length_toList];exact Int.ofNat_le.mpr h⟩
  have e:Txt.slice z none (some 1)=_:=this
  rw[e]
  simp
 ·have hz:z=Str.empty:=zdH (by
   have:(cl z).length=0:=by show z.cps.toList.length=0;rw[Array.length_toList];have:z.length=z.cps.size:=rfl;omega
   rw[List.length_eq_zero_iff.mp this];rfl)
  subst hz
  rfl
theorem zoW {z:Str}:dEq (.str (Txt.slice z none (some 1))) (.str "-")=.ok (.bl (neg z)):=by
 have e:dEq (.str (Txt.slice z none (some 1))) (.str "-")=.ok (.bl (eqD (.str (Txt.slice z none (some 1))) (.str "-"))):=if_pos ⟨rfl,rfl⟩
 rw[e]
 congr 2
 have k:eqD (.str (Txt.slice z none (some 1))) (.str "-")=true↔neg z=true:=by
  rw[eqD]
  unfold neg
  rw[beq_iff_eq,beq_iff_eq]
  constructor
  ·intro h
   have:=congrArg cl h
   rw[zme] at this
   cases q:cl z with
   | nil=>rw[q] at this;exact absurd this (by decide)
   | cons c cs =>
    rw[q] at this
    have t:[c]=[45]:=this
    injection t with t _
    rw[t];rfl
  ·intro h
   apply zdH
   rw[zme]
   cases q:cl z with
   | nil=>rw[q] at h;cases h
   | cons c cs =>
    rw[q] at h
    have t:some c=some 45:=h
    injection t with t
    rw[t];rfl
 cases a:eqD (.str (Txt.slice z none (some 1))) (.str "-")<;>cases b:neg z<;>simp_all
theorem zcA {z:Str}:(cl z).length=z.length:=by show z.cps.toList.length=z.length;rw[Array.length_toList];rfl
theorem zhi {a b:Str}:dEq (.str a) (.str b)=.ok (.bl (decide (a=b))):=by
 have e:dEq (.str a) (.str b)=.ok (.bl (eqD (.str a) (.str b))):=if_pos ⟨rfl,rfl⟩
 rw[e,eqD]
 rfl
theorem zfW {a b:Str}:dNe (.str a) (.str b)=.ok (.bl (!(decide (a=b)))):=by
 have e:dNe (.str a) (.str b)=.ok (.bl (!(eqD (.str a) (.str b)))):=if_pos ⟨rfl,rfl⟩
 rw[e,eqD]
 rfl
theorem len_str {z:Str}(h:z.length<=100000):zjd (.str z)=.ok (.int (z.length:Int)):=if_pos (Nat.le_trans h (by decide))
def fig (z:Str):Str:=if neg z=true then Txt.slice z (some 1) none else z
theorem zn2 {z:Str}:cl (fig z)=if neg z=true then(cl z).drop 1 else cl z:=by
 unfold fig
 cases h:neg z with
 | true =>
  rw[if_pos rfl,if_pos rfl]
  have:1<=z.length:=by
   rw[← zcA]
   unfold neg at h
   cases q:cl z with
   | nil=>rw[q] at h;cases h
   | cons c cs=>simp
  exact zjS this
 | false=>rw[if_neg (by decide),if_neg (by decide)]
theorem zlR {z:Str}:(fig z).length<=z.length:=by
 rw[← zcA,← zcA,zn2]
 split
 ·rw[List.length_drop];omega
 ·exact Nat.le_refl _
def zd8 (z:Str):Bool:=decide (1<=(fig z).length)&&(decide ((fig z).length<=60)&&(cl (fig z)).all zi5)
theorem znI {f:Str}{A:Sl}(hf:f.length<=100000):zeH 1 [] (zpE (zaf 1)) (zgC 0) mYes (zac (zaf 0) (dC (.str "0123456789")) dIn) [A,.sh (.str f)]=.ok (.lst ((cl f).map fun c=>.bl (zi5 c))):=by
 have hl:(zcQ f).length<=line:=by rw[zdR];exact Nat.le_trans hf (by decide)
 unfold zeH
 show(if(zcQ f).length<=line then _ else _)=_
 rw[if_pos hl,zmO]
 have:=zog (b:=zcv 1 [] [A,.sh (.str f)]) rfl (cl f)
 rw[this]
theorem zrq {g:Nat->Bool}{cs:List Nat}:zoe (.lst (cs.map fun c=>.bl (g c)))=.ok (.bl (cs.all g)):=by
 have:zce (cs.map fun c=>D.bl (g c))=some (cs.map g):=zej g cs
 show(match zce (cs.map fun c=>D.bl (g c)) with | some bs=>Res.ok (D.bl (bs.all id)) | none=>.stuck)=_
 rw[this]
 simp [List.all_map,Function.comp_def]
theorem zq5 {z:Str}(hz:z.length<=100000):zbc [.str z]=.ok (.bl (zd8 z)):=by
 have hs:dSM zeU (zaf 0) (dC (.str "-")) [.sh (.str z),.no]=.ok (.bl (neg z)):=by
  show zeU z "-"=_
  unfold zeU;rw[zkX]
 have hf:=zlR (z:=z)
 have hl:=len_str (z:=fig z) (by omega)
 have hc:=znI (f:=fig z) (A:=.sh (.str z)) (by omega)
 have ha:=zrq (g:=zi5) (cs:=cl (fig z))
 have hset:(dIf (dSM zeU (zaf 0) (dC (.str "-"))) (ziL (zaf 0) (zdv (dC (.int 1))) zd0) (zaf 0)) [.sh (.str z),.no]=.ok (.str (fig z)):=by
  unfold fig
  cases h:neg z with
  | true =>
   rw[h] at hs
   have sl:zmz (.str z) (some 1) none=.ok (.str (Txt.slice z (some 1) none)):=by
    show zfD (.str z) (some 1) none=_
    exact if_pos (Nat.le_trans hz (by decide))
   open_line with[hs,sl,if_true]
  | false =>
   rw[h] at hs
   open_line with[hs,if_false,Bool.false_eq_true]
 rw[ev_ifx] at hset
 rw[ev_comp] at hc
 unfold zd8
 generalize fig z=F at *
 by_cases h1:1<=F.length
 ·by_cases h2:F.length<=60
  ·have e1:decide ((1:Int)<=(F.length:Int))=true:=decide_eq_true (by omega)
   have e2:decide ((F.length:Int)<=60)=true:=decide_eq_true (by omega)
   rw[decide_eq_true h1,decide_eq_true h2]
   open_line with[zbc,zbz,hset,hl,e1,e2,hc,ha,Bool.true_and]
  ·have e1:decide ((1:Int)<=(F.length:Int))=true:=decide_eq_true (by omega)
   have e2:decide ((F.length:Int)<=60)=false:=decide_eq_false (by omega)
   rw[decide_eq_true h1,decide_eq_false h2]
   open_line with[zbc,zbz,hset,hl,e1,e2,Bool.true_and,Bool.false_and]
 ·have e1:decide ((1:Int)<=(F.length:Int))=false:=decide_eq_false (by omega)
  rw[decide_eq_false h1]
  open_line with[zbc,zbz,hset,hl,e1,Bool.false_and]
def zqz:D->Bool
 | .str y=>!(occ y "0123456789")
 | _=>false
theorem znq {z:Str}(h:z.length<=100000):∃ bad:List D,zjg 1 [] (zgC 0) (zac (zaf 0) (dC (.str "0123456789")) zjR) (zaf 0) [.sh (.str z)] (zcQ z)=.ok (.lst bad)/\dEq (.lst bad) (.lst [])=.ok (.bl ((cl z).all zi5)):=by
 refine⟨((zcQ z).filter zqz).map id,?_,?_⟩
 ·refine zjf (by rw[zdR];have:z.length=z.cps.size:=rfl;omega) fun d hd=>?_
  rw[zmO] at hd
  obtain⟨c,_,rfl⟩:=List.mem_map.mp hd
  exact⟨[.sh (.str ⟨#[c]⟩)],rfl,rfl,fun _=>rfl⟩
 ·rw[List.map_id]
  have hs:zbb 40 (.lst ((zcQ z).filter zqz))=true:=List.all_eq_true.mpr fun d hd=>by
   have:=(List.mem_filter.mp hd).1
   rw[zmO] at this
   obtain⟨c,_,rfl⟩:=List.mem_map.mp this
   rfl
  have e:dEq (.lst ((zcQ z).filter zqz)) (.lst [])=.ok (.bl (eqD (.lst ((zcQ z).filter zqz)) (.lst []))):=if_pos ⟨hs,rfl⟩
  rw[e]
  congr 2
  have k:∀ (cs:List Nat),eqD (.lst ((cs.map fun c=>D.str ⟨#[c]⟩).filter zqz)) (.lst [])=cs.all zi5:=by
   intro cs
   induction cs with
   | nil=>rw[eqD];rfl
   | cons c r ih =>
    rw[List.map_cons,List.all_cons]
    cases q:zi5 c with
    | true=>rw[List.filter_cons_of_neg (by show ¬ (!(zi5 c))=true;rw[q];decide),ih];rfl
    | false =>
     rw[List.filter_cons_of_pos (by show(!(zi5 c))=true;rw[q];rfl),eqD]
     rfl
  rw[zmO]
  exact k _
def zfx (z:Str):Bool:=!(decide (z=""))&&(decide (z.length<=60)&&(!((cl z).head?==some 48&&!(decide (z="0")))&&(cl z).all zi5))
theorem zoy {z:Str}(h:z.length<=100000):zpE (zaf 0) [.sh (.str z)]=.ok (zcQ z):=rfl
theorem zlQ {z:Str}(h:z.length<=100000):zaN [.str z]=.ok (.bl (zfx z)):=by
 obtain⟨bad,hb,he⟩:=znq h
 have hsrc:=zoy h
 have h1:=zhi (a:=z) (b:="")
 have hl:=len_str h
 have h2:=zfW (a:=z) (b:="0")
 unfold zfx
 cases e1:decide (z=("" : Str)) with
 | true =>
  rw[e1] at h1
  open_line with[zaN,zaO,h1,Bool.false_and]
 | false =>
  rw[e1] at h1
  by_cases c:z.length<=60
  ·have e2:decide ((60:Int) < (z.length:Int))=false:=decide_eq_false (by omega)
   have g2:dGt (.int (z.length:Int)) (.int 60)=.ok (.bl false):=by
    show Res.ok (D.bl (decide ((z.length:Int) > 60)))=_
    rw[decide_eq_false (by omega)]
   cases q:cl z with
   | nil=>exact absurd (zdH (a:=z) (b:="") (by rw[q];rfl)) (of_decide_eq_false e1)
   | cons d ds =>
    have hix:dIx (.str z) (.int 0)=.ok (.str ⟨#[d]⟩):=by
     show(if z.length<=line then(match atI (cl z) 0 with | some c=>Res.ok (D.str ⟨#[c]⟩) | none=>.stuck) else .stuck)=_
     rw[if_pos (Nat.le_trans h (by decide)),q,show atI (d::ds) 0=some d from zaX (j:=0) rfl]
    have h3:=zhi (a:=(⟨#[d]⟩:Str)) (b:="0")
    have e3:decide ((⟨#[d]⟩:Str)="0")=((d::ds).head?==some 48):=by
     rw[Bool.eq_iff_iff,decide_eq_true_eq,beq_iff_eq]
     constructor
     ·intro z;have:=congrArg cl z;have t:[d]=[48]:=this;injection t with t _;rw[t];rfl
     ·intro z;have t:some d=some 48:=z;injection t with t;rw[t];decide
    rw[e3] at h3
    rw[q] at he
    rw[decide_eq_true c]
    cases e4:((d::ds).head?==some 48) with
    | false =>
     rw[e4] at h3
     open_line with[zaN,zaO,h1,hl,g2,hix,h3,hsrc,hb,he,Bool.true_and,Bool.false_and]
    | true =>
     rw[e4] at h3
     cases e5:decide (z=("0" : Str)) with
     | true =>
      rw[e5] at h2
      open_line with[zaN,zaO,h1,hl,g2,hix,h3,h2,hsrc,hb,he,Bool.true_and,Bool.false_and,Bool.and_false]
     | false =>
      rw[e5] at h2
      open_line with[zaN,zaO,h1,hl,g2,hix,h3,h2,Bool.true_and,Bool.false_and]
  ·have g2:dGt (.int (z.length:Int)) (.int 60)=.ok (.bl true):=by
    show Res.ok (D.bl (decide ((z.length:Int) > 60)))=_
    rw[decide_eq_true (by omega)]
   rw[decide_eq_false c]
   open_line with[zaN,zaO,h1,hl,g2,Bool.true_and,Bool.false_and]
theorem zeB {z:Str}:zfx z=true↔zf7 (cl z)/\z.length<=60:=by
 unfold zfx
 simp only[Bool.and_eq_true,Bool.not_eq_true',decide_eq_true_eq,decide_eq_false_iff_not,zrr,Bool.and_eq_false_iff,Bool.not_eq_false',beq_eq_false_iff_ne]
 constructor
 ·rintro⟨h1,h2,h3,h4⟩
  refine⟨⟨h4,fun e=>h1 (zdH (by rw[e];rfl)),fun r e=>?_⟩,h2⟩
  rcases h3 with h3 | h3
  ·exact absurd (by rw[e];rfl) h3
  ·rw[h3] at e
   have t:[48]=48::r:=e
   injection t with _ t
   exact t.symm
 ·rintro⟨h,h2⟩
  refine⟨fun e=>h.n (by rw[e];rfl),h2,?_,h.d⟩
  by_cases q:(cl z).head?=some 48
  ·refine .inr ?_
   cases w:cl z with
   | nil=>rw[w] at q;cases q
   | cons d r =>
    rw[w] at q
    have t:some d=some 48:=q
    injection t with t
    subst t
    have:=h.z r w
    subst this
    exact zdH w
  ·exact .inl q
def val (z:Str):Int:=((digitsVal (cl z):Nat):Int)
def zbF (z:Str):Int:=if neg z=true then -(val (fig z)) else val (fig z)
theorem zgy {z:Str}(hd:AllDigits (cl z))(hn:cl z≠[])(hl:z.length<=60):zbT (.str z)=.ok (.int (val z)):=by
 have h:=intText_digits hd hn (by omega)
 show(if z.length<=640 then(match PySem.intText? z with | some n=>Res.ok (D.int n) | none=>.stuck) else .stuck)=_
 rw[if_pos (by omega)]
 have h':PySem.intText? z=some (val z):=h
 rw[h']
theorem znZ {z:Str}(h:neg z=true):cl z=45::cl (fig z):=by
 rw[zn2,if_pos h]
 unfold neg at h
 cases q:cl z with
 | nil=>rw[q] at h;cases h
 | cons c cs =>
  rw[q] at h
  have t:some c=some 45:=beq_iff_eq.mp h
  injection t with t
  rw[t];rfl
theorem zeT {z:Str}(h:neg z=false):fig z=z:=by unfold fig;rw[h];rfl
theorem zey {z:Str}:zd8 z=true↔AllDigits (cl (fig z))/\cl (fig z)≠[]/\(fig z).length<=60:=by
 unfold zd8
 rw[Bool.and_eq_true,Bool.and_eq_true,decide_eq_true_eq,decide_eq_true_eq,zrr]
 constructor
 ·rintro⟨h1,h2,h3⟩
  exact⟨h3,fun e=>by rw[← zcA,e] at h1;simp at h1,h2⟩
 ·rintro⟨h1,h2,h3⟩
  refine⟨?_,h3,h1⟩
  rw[← zcA]
  cases q:cl (fig z) with
  | nil=>exact absurd q h2
  | cons c cs=>simp
theorem zi4 {z:Str}(h:zd8 z=true):zbT (.str z)=.ok (.int (zbF z)):=by
 obtain⟨h1,h2,h3⟩:=zey.mp h
 unfold zbF
 cases q:neg z with
 | false =>
  rw[zeT q] at h1 h2 h3 ⊢
  exact zgy h1 h2 h3
 | true =>
  have e:=znZ q
  have hl:z.length<=61:=by
   rw[← zcA,e,List.length_cons,zcA];omega
  have k:PySem.intText? z=some (-(val (fig z))):=intText_neg e h1 h2 (by omega)
  show(if z.length<=640 then(match PySem.intText? z with | some n=>Res.ok (D.int n) | none=>.stuck) else .stuck)=_
  rw[if_pos (by omega),k]
  rfl
theorem zpQ {z:Str}:0<=val z:=Int.natCast_nonneg _
theorem zpO {z:Str}:wr (val z)=dec (digitsVal (cl z)):=by
 unfold wr val
 rw[if_neg (by omega)]
 rfl
theorem ziQ {z:Str}(h:zd8 z=true):wr (zbF z)=cl z↔(zf7 (cl (fig z))/\z≠"-0"):=by
 obtain⟨h1,h2,h3⟩:=zey.mp h
 unfold zbF
 cases q:neg z with
 | false =>
  rw[zeT q] at *
  rw[if_neg (by decide),zpO]
  constructor
  ·intro e
   refine⟨?_,fun e2=>by rw[e2] at q;exact absurd q (by decide)⟩
   rw[← e];exact ziy _
  ·rintro⟨c,_⟩
   exact ze3 c
 | true =>
  have e:=znZ q
  rw[if_pos rfl,e]
  have z0:z="-0"↔cl (fig z)=[48]:=by
   constructor
   ·intro t
    have:cl z=[45,48]:=by rw[t];decide
    rw[e] at this
    injection this
   ·intro t
    exact zdH (by rw[e,t];decide)
  by_cases hp:digitsVal (cl (fig z))=0
  ·have hv:-(val (fig z))=0:=by unfold val;rw[hp];rfl
   rw[hv]
   constructor
   ·intro t
    have t2:[48]=45::cl (fig z):=by
     have:wr 0=[48]:=by decide
     rw[← this];exact t
    injection t2 with t3 _
    exact absurd t3 (by decide)
   ·rintro⟨c,nz⟩
    have:=ze3 c
    rw[hp] at this
    exact absurd (z0.mpr (by rw[← this];decide)) nz
  ·have hneg:-(val (fig z)) < 0:=by unfold val;omega
   have hab:(-(val (fig z))).natAbs=digitsVal (cl (fig z)):=by unfold val;omega
   have hw:wr (-(val (fig z)))=45::dec (digitsVal (cl (fig z))):=by unfold wr;rw[if_pos hneg,hab]
   rw[hw]
   constructor
   ·intro t
    injection t with _ t
    refine⟨by rw[← t];exact ziy _,fun t2=>?_⟩
    have:=z0.mp t2
    rw[this] at hp
    exact hp (by decide)
   ·rintro⟨c,_⟩
    rw[ze3 c]
theorem zpP {n:Int}:47∉wr n:=by
 unfold wr
 intro h
 split at h
 ·rcases List.mem_cons.mp h with h | h
  ·exact absurd h (by decide)
  ·have:=zeZ _ _ h;omega
 ·have:=zeZ _ _ h;omega
def wrD (p q:Int):Str:=if q=1 then Str.ofString (toString p) else Str.ofString (toString p)++("/" : Str)++Str.ofString (toString q)
theorem znQ {n:Int}(h:n.natAbs < 10 ^ 130):zeF (.int n)=.ok (.str (Str.ofString (toString n))):=by
 show(if n.natAbs.log2 < 1920 then Res.ok (D.str (toString n)) else .stuck)=_
 refine if_pos ?_
 by_cases h0:n.natAbs=0
 ·rw[h0];decide
 ·exact(Nat.log2_lt h0).mpr (Nat.lt_of_lt_of_le h (by decide))
theorem zl3:∀ (k m:Nat),m < 10 ^ k->(dec m).length<=k+1
 | 0,m,h=>by rw[zfh (by omega)];simp
 | k+1,m,h=>by
  by_cases c:m < 10
  ·rw[zfh c];simp
  ·rw[zix (by omega),List.length_append]
   have:=zl3 k (m / 10) (by rw[Nat.pow_succ] at h;omega)
   simp only[List.length_cons,List.length_nil]
   omega
theorem zgS {n:Int}{k:Nat}(h:n.natAbs < 10 ^ k):(Str.ofString (toString n)).length<=k+2:=by
 rw[← zcA]
 show(Str.ofString (toString n)).cps.toList.length<=_
 rw[zgR]
 unfold wr
 have:=zl3 k n.natAbs h
 split
 ·rw[List.length_cons];omega
 ·omega
theorem zft {p q:Int}(hp:p.natAbs < 10 ^ 130)(hq:q.natAbs < 10 ^ 130):zaT [.tup [.int p,.int q]]=.ok (.str (wrD p q)):=by
 have s1:=znQ hp
 have s2:=znQ hq
 have l1:=zgS hp
 have l2:=zgS hq
 unfold wrD
 by_cases c:q=1
 ·subst c
  rw[if_pos rfl]
  open_line with[zaT,zbf,s1]
 ·rw[if_neg c]
  have e:(q==1)=false:=beq_eq_false_iff_ne.mpr c
  have a1:zcx (.str (Str.ofString (toString p))) (.str "/")=.ok (.str (Str.ofString (toString p)++("/" : Str))):=ev_addS (decide_eq_true (by have:("/" : Str).length=1:=rfl;omega))
  have a2:zcx (.str (Str.ofString (toString p)++("/" : Str))) (.str (Str.ofString (toString q)))=.ok (.str (Str.ofString (toString p)++("/" : Str)++Str.ofString (toString q))):=ev_addS (decide_eq_true (by rw[Str.length_append];have:("/" : Str).length=1:=rfl;omega))
  generalize Str.ofString (toString p)=P at *
  generalize Str.ofString (toString q)=R at *
  open_line with[zaT,zbf,e,s1,s2,a1,a2]
theorem zgl {p q:Int}:za5 [.tup [.int p,.int q]]=zaT [.tup [.int p,.int q]]:=rfl
theorem zhU {p q:Int}:cl (wrD p q)=if q=1 then wr p else wr p++47::wr q:=by
 unfold wrD
 split
 ·exact zgR p
 ·rw[zed,zed,List.append_assoc]
  show cl (Str.ofString (toString p))++([47]++cl (Str.ofString (toString q)))=_
  rw[show cl (Str.ofString (toString p))=wr p from zgR p,show cl (Str.ofString (toString q))=wr q from zgR q]
  rfl
theorem znG {z:Str}:Txt.slice z (some 0) none=z:=zdH (zjS (i:=0) (Nat.zero_le _))
theorem zmN {z:Str}{l h:Option Int}(hz:z.length<=100000):zmz (.str z) l h=.ok (.str (Txt.slice z l h)):=by
 show zfD (.str z) l h=_
 exact if_pos (Nat.le_trans hz (by decide))
def zqU (a st b:Str):D:=if zfx (fig a)=false∨a="-0" then .non else if st="" then .tup [.int (zbF a),.int 1] else if zfx b=false∨val b < 2∨Int.gcd (zbF a) (val b)≠1 then .non else .tup [.int (zbF a),.int (val b)]
theorem zfw {z:Str}(h:zfx z=true):zbT (.str z)=.ok (.int (val z)):=by
 obtain⟨c,hl⟩:=zeB.mp h
 exact zgy c.d c.n hl
theorem zfK {z a st b:Str}(hz:z.length<=100000)(ha:a.length<=100000)(hb:b.length<=100000)(hp:Txt.partition z za8=(a,st,b)):zan [.str z]=.ok (zqU a st b):=by
 have h1:dSM zkq (zaf 0) (dC (.str "/")) [.sh (.str z),.no,.no,.no,.no,.no]=.ok (.tup [.str a,.str st,.str b]):=by
  show zkq z "/"=_
  unfold zkq
  rw[zep,if_pos ⟨rfl,by omega⟩,hp]
 have h3:=zlQ (z:=fig a) (Nat.le_trans zlR ha)
 have h4:=zhi (a:=a) (b:="-0")
 have h5:=zhi (a:=st) (b:="")
 have h6:=zlQ hb
 have s1:=zmN (l:=none) (h:=some 1) ha
 have hn:=zoW (z:=a)
 have iv:(if neg a=true then(0:Int)-val (fig a) else val (fig a))=zbF a:=by unfold zbF;split<;>omega
 have hg:∀ x:Int,za6 [.int x,.int (val b)]=.ok (.int (Int.gcd x (val b))):=fun x=>zgE x (val b)
 unfold zqU
 cases q:neg a with
 | true =>
  rw[q] at hn iv
  have i1:zbT (.bl true)=.ok (.int 1):=rfl
  rw[if_pos rfl] at iv
  have s2:zmz (.str a) (some 1) none=.ok (.str (fig a)):=by
   rw[zmN ha];unfold fig;rw[if_pos q]
  generalize fig a=FA at *
  rw[← iv]
  cases e1:zfx FA with
  | false =>
   rw[e1] at h3
   rw[if_pos (.inl rfl)]
   open_line with[zan,zat,h1,s1,hn,i1,s2,h3]
  | true =>
   rw[e1] at h3
   have h7:=zfw e1
   by_cases c1:a="-0"
   ·rw[decide_eq_true c1] at h4
    rw[if_pos (.inr c1)]
    open_line with[zan,zat,h1,s1,hn,i1,s2,h3,h4]
   ·rw[decide_eq_false c1] at h4
    rw[if_neg (by simp [c1])]
    by_cases c2:st=""
    ·rw[decide_eq_true c2] at h5
     rw[if_pos c2]
     open_line with[zan,zat,h1,s1,hn,i1,s2,h3,h4,h7,h5]
    ·rw[decide_eq_false c2] at h5
     rw[if_neg c2]
     cases e2:zfx b with
     | false =>
      rw[e2] at h6
      rw[if_pos (.inl rfl)]
      open_line with[zan,zat,h1,s1,hn,i1,s2,h3,h4,h7,h5,h6]
     | true =>
      rw[e2] at h6
      have h8:=zfw e2
      by_cases c3:val b < 2
      ·rw[if_pos (.inr (.inl c3))]
       have e3:decide (val b < 2)=true:=decide_eq_true c3
       open_line with[zan,zat,h1,s1,hn,i1,s2,h3,h4,h7,h5,h6,h8,e3]
      ·have e3:decide (val b < 2)=false:=decide_eq_false c3
       by_cases c4:Int.gcd (0-val FA) (val b)=1
       ·rw[if_neg (fun t=>t.elim (fun z=>by cases z) fun t=>t.elim c3 fun t=>t c4)]
        have e4:(((Int.gcd (0-val FA) (val b):Nat):Int)==1)=true:=by rw[c4];rfl
        open_line with[zan,zat,h1,s1,hn,i1,s2,h3,h4,h7,h5,h6,h8,e3,hg,e4]
       ·rw[if_pos (.inr (.inr c4))]
        have e4:(((Int.gcd (0-val FA) (val b):Nat):Int)==1)=false:=by rw[beq_eq_false_iff_ne];omega
        open_line with[zan,zat,h1,s1,hn,i1,s2,h3,h4,h7,h5,h6,h8,e3,hg,e4]
 | false =>
  rw[q] at hn iv
  have i1:zbT (.bl false)=.ok (.int 0):=rfl
  rw[if_neg (by decide)] at iv
  have s2:zmz (.str a) (some 0) none=.ok (.str (fig a)):=by
   rw[zmN ha,znG];unfold fig;rw[if_neg (by rw[q];decide)]
  generalize fig a=FA at *
  rw[← iv]
  cases e1:zfx FA with
  | false =>
   rw[e1] at h3
   rw[if_pos (.inl rfl)]
   open_line with[zan,zat,h1,s1,hn,i1,s2,h3]
  | true =>
   rw[e1] at h3
   have h7:=zfw e1
   by_cases c1:a="-0"
   ·rw[decide_eq_true c1] at h4
    rw[if_pos (.inr c1)]
    open_line with[zan,zat,h1,s1,hn,i1,s2,h3,h4]
   ·rw[decide_eq_false c1] at h4
    rw[if_neg (by simp [c1])]
    by_cases c2:st=""
    ·rw[decide_eq_true c2] at h5
     rw[if_pos c2]
     open_line with[zan,zat,h1,s1,hn,i1,s2,h3,h4,h7,h5]
    ·rw[decide_eq_false c2] at h5
     rw[if_neg c2]
     cases e2:zfx b with
     | false =>
      rw[e2] at h6
      rw[if_pos (.inl rfl)]
      open_line with[zan,zat,h1,s1,hn,i1,s2,h3,h4,h7,h5,h6]
     | true =>
      rw[e2] at h6
      have h8:=zfw e2
      by_cases c3:val b < 2
      ·rw[if_pos (.inr (.inl c3))]
       have e3:decide (val b < 2)=true:=decide_eq_true c3
       open_line with[zan,zat,h1,s1,hn,i1,s2,h3,h4,h7,h5,h6,h8,e3]
      ·have e3:decide (val b < 2)=false:=decide_eq_false c3
       by_cases c4:Int.gcd (val FA) (val b)=1
       ·rw[if_neg (fun t=>t.elim (fun z=>by cases z) fun t=>t.elim c3 fun t=>t c4)]
        have e4:(((Int.gcd (val FA) (val b):Nat):Int)==1)=true:=by rw[c4];rfl
        open_line with[zan,zat,h1,s1,hn,i1,s2,h3,h4,h7,h5,h6,h8,e3,hg,e4]
       ·rw[if_pos (.inr (.inr c4))]
        have e4:(((Int.gcd (val FA) (val b):Nat):Int)==1)=false:=by rw[beq_eq_false_iff_ne];omega
        open_line with[zan,zat,h1,s1,hn,i1,s2,h3,h4,h7,h5,h6,h8,e3,hg,e4]
abbrev NT:Exn:=⟨"NoText",[("row",.int 0)]⟩
theorem zrp {α:Type}{g:α->Bool}{cs:List α}:zoe (.lst (cs.map fun c=>.bl (g c)))=.ok (.bl (cs.all g)):=by
 have:zce (cs.map fun c=>D.bl (g c))=some (cs.map g):=zej g cs
 show(match zce (cs.map fun c=>D.bl (g c)) with | some bs=>Res.ok (D.bl (bs.all id)) | none=>.stuck)=_
 rw[this]
 simp [List.all_map,Function.comp_def]
theorem zhl {ps:List Str}{ρ:Ev}(hl:ps.length<=100000)(h:∀ y∈ps,y.length<=100000):zjg 1 [] (zgC 0) mYes (zak (zad (zaf 0) zaH) zbc) ρ (ps.map D.str)=.ok (.lst (ps.map fun y=>.bl (zd8 y))):=by
 rw[znH (F:=fun d=>match d with | .str y=>.bl (zd8 y) | d=>d) (by rw[List.length_map];omega)]
 ·rw[List.map_map];rfl
 ·intro d hd
  obtain⟨y,hy,rfl⟩:=List.mem_map.mp hd
  have:=zq5 (h y hy)
  refine⟨[.sh (.str y)],rfl,rfl,?_⟩
  open_line with[this]
theorem zpR:∀ {ds:List Nat},AllDigits ds->digitsVal ds < 10 ^ ds.length:=by
 have key:∀ (n:Nat) (ds:List Nat),ds.length=n->AllDigits ds->digitsVal ds < 10 ^ ds.length:=by
  intro n
  induction n with
  | zero=>intro ds hl _;rw[List.length_eq_zero_iff.mp hl];decide
  | succ n ih =>
   intro ds hl hd
   rcases List.eq_nil_or_concat ds with rfl | ⟨es,c,rfl⟩
   ·simp at hl
   ·rw[List.concat_eq_append] at *
    have hc:=hd c (by simp)
    have h1:=ih es (by simpa using hl) (fun x hx=>hd x (List.mem_append_left _ hx))
    rw[zgP,List.length_append]
    show _ < 10 ^ (es.length+1)
    rw[Nat.pow_succ]
    omega
 intro ds hd
 exact key _ _ rfl hd
theorem zi3 {z:Str}(h:zd8 z=true):(zbF z).natAbs < 10 ^ 130:=by
 obtain⟨h1,_,h3⟩:=zey.mp h
 have hv:=zpR h1
 rw[zcA] at hv
 have h60:10 ^ (fig z).length<=10 ^ 60:=Nat.pow_le_pow_right (by decide) h3
 have h130:(10:Nat) ^ 60 < 10 ^ 130:=by decide
 unfold zbF val
 split<;>omega
theorem ziW {z:Str}{ps:List Str}(hz:z.length<=100000)(hs:Txt.split z za8=ps)(hn:ps.length<=100000)(hp:∀ y∈ps,y.length<=100000)(h:ps.length=0∨3<=ps.length∨ps.all zd8=false):zas [.str z]=.exn NT:=by
 have h1:dSM zdi (zaf 0) (dC (.str "/")) [.sh (.str z),.no,.no]=.ok (.lst (ps.map D.str)):=by
  show zdi z "/"=_
  unfold zdi
  rw[zep,if_pos ⟨rfl,by omega⟩,hs]
 have hc:=zhl (ρ:=[.sh (.str z),.sh (.lst (ps.map D.str)),.no]) hn hp
 have ha:=zrp (g:=zd8) (cs:=ps)
 have hl:(ps.map D.str).length=ps.length:=List.length_map _
 generalize ps.map D.str=P at *
 generalize (ps.map fun y=>D.bl (zd8 y))=B at *
 by_cases c1:1<=ps.length
 ·have e1:decide ((1:Int)<=(P.length:Int))=true:=decide_eq_true (by omega)
  by_cases c2:ps.length<=2
  ·have e2:decide ((P.length:Int)<=2)=true:=decide_eq_true (by omega)
   have e3:ps.all zd8=false:=by rcases h with h | h | h<;>first | omega | exact h
   rw[e3] at ha
   open_line with[zas,zaL,h1,e1,e2,hc,ha,zcr,zb1,zff]
  ·have e2:decide ((P.length:Int)<=2)=false:=decide_eq_false (by omega)
   open_line with[zas,zaL,h1,e1,e2,zcr,zb1,zff]
 ·have e1:decide ((1:Int)<=(P.length:Int))=false:=decide_eq_false (by omega)
  open_line with[zas,zaL,h1,e1,zcr,zb1,zff]
theorem zmU {z:Str}(hz:z.length<=100000)(hs:Txt.split z za8=[z])(hh:zd8 z=true):zas [.str z]=if wrD (zbF z) 1=z then .ok (.tup [.int (zbF z),.int 1]) else .exn NT:=by
 have h1:dSM zdi (zaf 0) (dC (.str "/")) [.sh (.str z),.no,.no]=.ok (.lst [.str z]):=by
  show zdi z "/"=_
  unfold zdi
  rw[zep,if_pos ⟨rfl,by omega⟩,hs];rfl
 have hc:=zhl (ps:=[z]) (ρ:=[.sh (.str z),.sh (.lst [.str z]),.no]) (by simp) (fun y hy=>by rw[List.mem_singleton.mp hy];exact hz)
 rw[show([z].map D.str)=[.str z] from rfl,show([z].map fun y=>D.bl (zd8 y))=[.bl (zd8 z)] from rfl,hh] at hc
 have ha:zoe (.lst [.bl true])=.ok (.bl true):=rfl
 have hi:=zi4 hh
 have hr:=zfd (.tup [.int (zbF z),.int 1])
 rw[show zfI (.tup [.int (zbF z),.int 1])=true by show(decide ((1:Int)<=1)&&(Int.gcd (zbF z) 1==1))=true;rw[Int.gcd_one_right];rfl] at hr
 have hw:=zft (p:=zbF z) (q:=1) (zi3 hh) (by decide)
 have hne:=zfW (a:=wrD (zbF z) 1) (b:=z)
 generalize zbF z=p at *
 generalize wrD p 1=w at *
 by_cases c:w=z
 ·rw[decide_eq_true c] at hne
  rw[if_pos c]
  open_line with[zas,zaL,h1,hc,ha,hi,hr,hw,hne]
 ·rw[decide_eq_false c] at hne
  rw[if_neg c]
  open_line with[zas,zaL,h1,hc,ha,hi,hr,hw,hne,zcr,zb1,zff]
theorem zmT {z p q:Str}(hz:z.length<=100000)(hp:p.length<=100000)(hq:q.length<=100000)(hs:Txt.split z za8=[p,q])(h1p:zd8 p=true)(h1q:zd8 q=true):zas [.str z]=if(zfI (.tup [.int (zbF p),.int (zbF q)])=true)/\wrD (zbF p) (zbF q)=z then .ok (.tup [.int (zbF p),.int (zbF q)]) else .exn NT:=by
 have h1:dSM zdi (zaf 0) (dC (.str "/")) [.sh (.str z),.no,.no]=.ok (.lst [.str p,.str q]):=by
  show zdi z "/"=_
  unfold zdi
  rw[zep,if_pos ⟨rfl,by omega⟩,hs];rfl
 have hc:=zhl (ps:=[p,q]) (ρ:=[.sh (.str z),.sh (.lst [.str p,.str q]),.no]) (by simp) (fun y hy=>by
  rcases List.mem_cons.mp hy with rfl | hy
  ·exact hp
  ·rw[List.mem_singleton.mp hy];exact hq)
 rw[show([p,q].map D.str)=[.str p,.str q] from rfl,show([p,q].map fun y=>D.bl (zd8 y))=[.bl (zd8 p),.bl (zd8 q)] from rfl,h1p,h1q] at hc
 have ha:zoe (.lst [.bl true,.bl true])=.ok (.bl true):=rfl
 have hi:=zi4 h1p
 have hj:=zi4 h1q
 have hr:=zfd (.tup [.int (zbF p),.int (zbF q)])
 have hw:=zft (p:=zbF p) (q:=zbF q) (zi3 h1p) (zi3 h1q)
 have hne:=zfW (a:=wrD (zbF p) (zbF q)) (b:=z)
 generalize zfI (.tup [.int (zbF p),.int (zbF q)])=R at *
 generalize wrD (zbF p) (zbF q)=w at *
 generalize zbF p=P at *
 generalize zbF q=S at *
 cases R with
 | false =>
  rw[if_neg (fun t=>by cases t.1)]
  open_line with[zas,zaL,h1,hc,ha,hi,hj,hr,zcr,zb1,zff]
 | true =>
  by_cases c:w=z
  ·rw[decide_eq_true c] at hne
   rw[if_pos ⟨rfl,c⟩]
   open_line with[zas,zaL,h1,hc,ha,hi,hj,hr,hw,hne]
  ·rw[decide_eq_false c] at hne
   rw[if_neg (fun t=>c t.2)]
   open_line with[zas,zaL,h1,hc,ha,hi,hj,hr,hw,hne,zcr,zb1,zff]
theorem zmV {d:D}(h:zbV "str" d=.ok (.bl false)):zas [d]=.exn NT:=by
 open_line with[zas,zaL,h,zcr,zb1,zff]
theorem zc4 {z:Str}:zfx (fig z)=true↔(zd8 z=true/\zf7 (cl (fig z))):=by
 rw[zeB,zey]
 exact⟨fun⟨c,l⟩=>⟨⟨c.d,c.n,l⟩,c⟩,fun⟨⟨_,_,l⟩,c⟩=>⟨c,l⟩⟩
theorem zgG {z:Str}(h:AllDigits (cl z)):neg z=false:=by
 unfold neg
 cases q:cl z with
 | nil=>rfl
 | cons c cs =>
  rw[q] at h
  have:=h.head
  rw[beq_eq_false_iff_ne]
  intro t
  have t:some c=some 45:=t
  injection t with t
  omega
theorem ztE {z:Str}(hz:z.length<=90000):(∃ p q:Int,zan [.str z]=.ok (.tup [.int p,.int q])/\zas [.str z]=.ok (.tup [.int p,.int q]))∨(zan [.str z]=.ok .non/\zas [.str z]=.exn NT):=by
 have hzl:z.length<=100000:=by omega
 rcases zmM z with⟨hs,hp,hno⟩ | ⟨p,q,hs,hp,hpn,hqn,hx⟩ | ⟨h3,p,q,hp,hq⟩
 ·have hn:=zfK hzl hzl (by decide) hp
  unfold zqU at hn
  cases hh:zd8 z with
  | false =>
   have:zfx (fig z)=false:=by
    cases t:zfx (fig z) with
    | false=>rfl
    | true=>rw[(zc4.mp t).1] at hh;cases hh
   rw[if_pos (.inl this)] at hn
   exact .inr ⟨hn,ziW hzl hs (by simp) (fun y hy=>by rw[List.mem_singleton.mp hy];exact hzl) (.inr (.inr (by show(zd8 z&&true)=false;rw[hh];rfl)))⟩
  | true =>
   have hr:=zmU hzl hs hh
   have hw:(wrD (zbF z) 1=z)↔(zf7 (cl (fig z))/\z≠"-0"):=by
    rw[← ziQ hh]
    constructor
    ·intro t;have:=congrArg cl t;rw[zhU,if_pos rfl] at this;exact this
    ·intro t;exact zdH (by rw[zhU,if_pos rfl];exact t)
   by_cases c:zf7 (cl (fig z))/\z≠"-0"
   ·rw[if_pos (hw.mpr c)] at hr
    rw[if_neg (by rw[zc4.mpr ⟨hh,c.1⟩];exact fun t=>t.elim (fun t=>by cases t) c.2),if_pos (show(Str.empty:Str)="" by decide)] at hn
    exact .inl ⟨_,_,hn,hr⟩
   ·rw[if_neg (fun t=>c (hw.mp t))] at hr
    rw[if_pos (by
     by_cases c2:z="-0"
     ·exact .inr c2
     ·refine .inl ?_
      cases t:zfx (fig z) with
      | false=>rfl
      | true=>exact absurd ⟨(zc4.mp t).2,c2⟩ c)] at hn
    exact .inr ⟨hn,hr⟩
 ·have hpl:p.length<=100000:=by rw[← zcA];have:=congrArg List.length hx;rw[zcA,List.length_append] at this;omega
  have hql:q.length<=100000:=by rw[← zcA];have:=congrArg List.length hx;rw[zcA,List.length_append,List.length_cons] at this;omega
  have hn:=zfK hzl hpl hql hp
  unfold zqU at hn
  have st:¬ ((za8:Str)=""):=by decide
  by_cases hh:zd8 p=true/\zd8 q=true
  ·obtain⟨h1,h2⟩:=hh
   have hr:=zmT hzl hpl hql hs h1 h2
   have hw:(zbF q≠1->(wrD (zbF p) (zbF q)=z↔((zf7 (cl (fig p))/\p≠"-0")/\(zf7 (cl (fig q))/\q≠"-0")))):=fun n1=>by
    rw[← ziQ h1,← ziQ h2]
    constructor
    ·intro t
     have:=congrArg cl t
     rw[zhU,if_neg n1,hx] at this
     exact zeA this zpP hpn
    ·rintro⟨t1,t2⟩
     exact zdH (by rw[zhU,if_neg n1,hx,t1,t2])
   have hw1:zbF q=1->wrD (zbF p) (zbF q)≠z:=fun n1 t=>by
    have:=congrArg cl t
    rw[zhU,if_pos n1,hx] at this
    exact zpP (n:=zbF p) (by rw[this];simp)
   by_cases cA:zfx (fig p)=false∨p="-0"
   ·rw[if_pos cA] at hn
    refine .inr ⟨hn,?_⟩
    rw[hr,if_neg]
    rintro⟨_,t⟩
    by_cases n1:zbF q=1
    ·exact hw1 n1 t
    ·obtain⟨⟨k1,k2⟩,_⟩:=(hw n1).mp t
     rcases cA with cA | cA
     ·rw[zc4.mpr ⟨h1,k1⟩] at cA;cases cA
     ·exact k2 cA
   ·rw[if_neg cA,if_neg st] at hn
    have cp:zf7 (cl (fig p))/\p≠"-0":=by
     refine⟨?_,fun t=>cA (.inr t)⟩
     cases t:zfx (fig p) with
     | false=>exact absurd (.inl t) cA
     | true=>exact(zc4.mp t).2
    cases fq:zfx q with
    | false =>
     rw[if_pos (.inl fq)] at hn
     refine .inr ⟨hn,?_⟩
     rw[hr,if_neg]
     rintro⟨t0,t⟩
     have t1:1<=zbF q:=by
      have:(decide ((1:Int)<=zbF q)&&(Int.gcd (zbF p) (zbF q)==1))=true:=t0
      rw[Bool.and_eq_true,decide_eq_true_eq] at this
      exact this.1
     have ng:neg q=false:=by
      cases w:neg q with
      | false=>rfl
      | true=>unfold zbF at t1;rw[if_pos w] at t1;have:=zpQ (z:=fig q);omega
     by_cases n1:zbF q=1
     ·exact hw1 n1 t
     ·have:=((hw n1).mp t).2.1
      have g:=zc4.mpr ⟨h2,this⟩
      rw[zeT ng,fq] at g
      cases g
    | true =>
     obtain⟨cq,lq⟩:=zeB.mp fq
     have ng:=zgG cq.d
     have iq:zbF q=val q:=by unfold zbF;rw[ng,zeT ng];rfl
     rw[fq] at hn
     by_cases c3:val q < 2∨Int.gcd (zbF p) (val q)≠1
     ·rw[if_pos (.inr c3)] at hn
      refine .inr ⟨hn,?_⟩
      rw[hr,if_neg]
      rintro⟨t0,t⟩
      have:(decide ((1:Int)<=zbF q)&&(Int.gcd (zbF p) (zbF q)==1))=true:=t0
      rw[Bool.and_eq_true,decide_eq_true_eq,beq_iff_eq] at this
      by_cases n1:zbF q=1
      ·exact hw1 n1 t
      ·rcases c3 with c3 | c3
       ·omega
       ·exact c3 (by rw[← iq];exact this.2)
     ·have c4:¬ val q < 2:=fun t=>c3 (.inl t)
      have c5:Int.gcd (zbF p) (val q)=1:=Classical.byContradiction fun t=>c3 (.inr t)
      rw[if_neg (fun t=>t.elim (fun t=>by cases t) c3)] at hn
      refine .inl ⟨_,_,hn,?_⟩
      have n1:zbF q≠1:=by omega
      rw[hr,if_pos ⟨by show(decide ((1:Int)<=zbF q)&&(Int.gcd (zbF p) (zbF q)==1))=true;rw[iq,c5,decide_eq_true (by omega)];rfl,(hw n1).mpr ⟨cp,by rw[zeT ng];exact cq,fun t=>by rw[t] at ng;exact absurd ng (by decide)⟩⟩,iq]
  ·refine .inr ⟨?_,ziW hzl hs (by simp) (fun y hy=>?_) (.inr (.inr ?_))⟩
   ·rw[hn]
    by_cases cA:zfx (fig p)=false∨p="-0"
    ·rw[if_pos cA]
    ·rw[if_neg cA,if_neg st,if_pos]
     left
     cases fq:zfx q with
     | false=>rfl
     | true =>
      obtain⟨cq,lq⟩:=zeB.mp fq
      have ng:=zgG cq.d
      have h2:zd8 q=true:=zey.mpr (by rw[zeT ng];exact⟨cq.d,cq.n,lq⟩)
      have h1:zd8 p=true:=by
       cases t:zfx (fig p) with
       | false=>exact absurd (.inl t) cA
       | true=>exact(zc4.mp t).1
      exact absurd ⟨h1,h2⟩ hh
   ·rcases List.mem_cons.mp hy with rfl | hy
    ·exact hpl
    ·rw[List.mem_singleton.mp hy];exact hql
   ·show(zd8 p&&(zd8 q&&true))=false
    cases a:zd8 p with
    | false=>rfl
    | true=>cases b:zd8 q with
     | false=>rfl
     | true=>exact absurd ⟨a,b⟩ hh
 ·have hpl:p.length<=100000/\q.length<=100000:=by
   have:=StrLaws.partition_sum z za8
   rw[hp] at this
   have:=congrArg Str.length this
   rw[Str.length_append,Str.length_append] at this
   dsimp only at this
   omega
  have hn:=zfK hzl hpl.1 hpl.2 hp
  unfold zqU at hn
  have st:¬ ((za8:Str)=""):=by decide
  have fq:zfx q=false:=by
   cases t:zfx q with
   | false=>rfl
   | true=>have:=(zeB.mp t).1.d 47 hq;omega
  have hr:zas [.str z]=.exn NT:=by
   have hsl:=DL.split_len (x:=z) (y:=za8)
   exact ziW hzl rfl (by omega) (fun y hy=>by have:=PyProof.Rows.part_short hy;omega) (.inr (.inl h3))
  refine .inr ⟨?_,hr⟩
  rw[hn]
  by_cases cA:zfx (fig p)=false∨p="-0"
  ·rw[if_pos cA]
  ·rw[if_neg cA,if_neg st,if_pos (.inl fq)]
theorem zsF {v:Int}:za3 [.int v]=.ok (.bl true):=rfl
theorem zqP {p q:Int}:dNe (.tup [.int p,.int q]) (.tup [.int p,.int q])=.ok (.bl false):=zsr (x:=(p,q))
theorem zgW {d due:D}(k1:(zbV "str" d).bind (ifK (zar (zbo 1 (zak (zad (zaf 0) zaH) zan)) zaj) zaj [.sh d,.sh .non,.no,.no,.no,.no])=.ok (.nx [.sh d,.sh due,.no,.no,.no,.no]))(h:(∃ p q:Int,due=.tup [.int p,.int q]/\zas [d]=.ok (.tup [.int p,.int q]))∨(due=.non/\zas [d]=.exn NT)):zaK [d]=.ok (.bl true):=by
 rcases h with⟨p,q,rfl,hr⟩ | ⟨rfl,hr⟩
 ·have hne:=zqP (p:=p) (q:=q)
  have hw:∀ v:Int,za3 [.int v]=.ok (.bl true):=fun _=>rfl
  open_line with[zaK,zbP,k1,zn3,zlV,zjJ,hr,zph,hne,hw]
 ·have hw:∀ v:Int,za3 [.int v]=.ok (.bl true):=fun _=>rfl
  have t1:zow "NoText"=some true:=rfl
  have t2:zov "NoText"=some true:=rfl
  have t3:zio "NoText"=some true:=rfl
  have ht:∀ (ni:Nat) (sh:Ev->Res Fl) (ρ:Ev),zrw (zku zcV) ni sh ρ (.exn NT)=(sh (ρ.set ni (.sh (zmA NT)))).bind (zqB ni):=fun _ _ _=>zpg (x:=NT) (show zku zcV "NoText"=true from rfl)
  have he:zmA NT=.ob (.exf "NoText" ["row"]) [.int 0]:=zsC
  have hf:ziB zio "row" (.ob (.exf "NoText" ["row"]) [.int 0])=.ok (.int 0):=znw t3
  open_line with[zaK,zbP,k1,zn3,zlV,zjJ,hr,zff,ht,he,zlW t1,zlW t2,hf,hw,zq9]
theorem zes {z:Str}(hz:z.length<=90000):zaK [.str z]=.ok (.bl true):=by
 rcases ztE hz with⟨p,q,h1,h2⟩ | ⟨h1,h2⟩
 ·exact zgW (due:=.tup [.int p,.int q]) (by open_line with[h1]) (.inl ⟨p,q,rfl,h2⟩)
 ·exact zgW (due:=.non) (by open_line with[h1]) (.inr ⟨rfl,h2⟩)
theorem zk5 {d:D}(h:zbV "str" d=.ok (.bl false)):zaK [d]=.ok (.bl true) :=
 zgW (due:=.non) (by open_line with[h]) (.inr ⟨rfl,zmV h⟩)
structure ziM (p q:Int):Prop where
 q0:0 < q
 pN:p.natAbs<=N60
 qN:q.natAbs<=N60
theorem zr1:2*(N60*N60) < B13:=by rw[zmx];exact Nat.lt_of_lt_of_le (show 2*(N60*N60) < 2 ^ 500 by decide) (Nat.pow_le_pow_right (by decide) (by decide))
theorem n13:N60 < B13:=Nat.lt_of_le_of_lt (show N60<=2*(N60*N60) by decide) zr1
theorem zrD {x y:Int}(h:x.natAbs<=N60)(h':y.natAbs<=N60):zew x y=true:=zqQ (Nat.lt_of_le_of_lt h (Nat.lt_of_lt_of_le n13 zmy)) (Nat.lt_of_le_of_lt h' (Nat.lt_of_lt_of_le n13 zmy))
theorem zoj {x y:Int}(h:x.natAbs<=N60)(h':y.natAbs<=N60):(x*y).natAbs<=N60*N60:=by rw[Int.natAbs_mul];exact Nat.mul_le_mul h h'
theorem znR {g:Int}(h:g.natAbs<=2):g.natAbs<=N60:=Nat.le_trans h (by decide)
theorem zpj:K74.zfL=Com.m_ratioX:=rfl
theorem zs9:N60*N60 < 10 ^ 130:=by decide
theorem ziM.p130 {p q:Int}(h:ziM p q):p.natAbs < 10 ^ 130:=Nat.lt_of_le_of_lt h.pN (by decide)
theorem ziM.q130 {p q:Int}(h:ziM p q):q.natAbs < 10 ^ 130:=Nat.lt_of_le_of_lt h.qN (by decide)
theorem zkQ {p q:Int}(hp:p.natAbs < 10 ^ 130)(hq:q.natAbs < 10 ^ 130):(wrD p q).length<=300:=by
 have l1:=zgS hp
 have l2:=zgS hq
 unfold wrD
 split
 ·omega
 ·rw[Str.length_append,Str.length_append]
  have:("/" : Str).length=1:=rfl
  omega
theorem zly {p q r s:Int}(h:ziM p q)(k:ziM r s):zbR [.tup [.int p,.int q],.tup [.int r,.int s]]=.ok (.bl true):=by
 have m1:=zjK (zrD h.pN k.pN)
 have m2:=zjK (zrD h.qN k.qN)
 have hq:0 < q*s:=Int.mul_pos h.q0 k.q0
 have b1:=zoj h.pN k.pN
 have b2:=zoj h.qN k.qN
 have c1:(p*r).natAbs < B13:=Nat.lt_of_le_of_lt b1 (Nat.lt_of_le_of_lt (by omega) zr1)
 have c2:(q*s).natAbs < B13:=Nat.lt_of_le_of_lt b2 (Nat.lt_of_le_of_lt (by omega) zr1)
 have hl:=zic hq c1 c2
 have hr:=zk7 (a:=p*r) (b:=q*s) (by omega) c1 c2
 rw[show fr (zqS (p*r) (q*s))=.tup [.int (p*r / Int.gcd (p*r) (q*s)),.int (q*s / Int.gcd (p*r) (q*s))] by unfold zqS;rw[if_neg (by omega)];rfl] at hr
 have d1:(p*r / Int.gcd (p*r) (q*s)).natAbs < 10 ^ 130:=Nat.lt_of_le_of_lt (Int.natAbs_ediv_le_natAbs _ _) (Nat.lt_of_le_of_lt b1 zs9)
 have d2:(q*s / Int.gcd (p*r) (q*s)).natAbs < 10 ^ 130:=Nat.lt_of_le_of_lt (Int.natAbs_ediv_le_natAbs _ _) (Nat.lt_of_le_of_lt b2 zs9)
 generalize p*r / Int.gcd (p*r) (q*s)=u at *
 generalize q*s / Int.gcd (p*r) (q*s)=w at *
 have hs:=zft d1 d2
 have hw:za5 [.tup [.int u,.int w]]=.ok (.str (wrD u w)):=by rw[zgl];exact hs
 have hne:=zqP (p:=u) (q:=w)
 have hn2:=zfW (a:=wrD u w) (b:=wrD u w)
 rw[decide_eq_true rfl] at hn2
 have hri:=zes (z:=wrD u w) (by have:=zkQ d1 d2;omega)
 have ht:noX zg8 [.tup [.int p,.int q],.tup [.int r,.int s]]=.ok (.tup [.int u,.int w]):=zqN (by open_line with[zg8,zhu,m1,m2,zpj,hr])
 generalize wrD u w=T at *
 open_line with[zbR,zck,ht,m1,m2,hl,hs,hne,hw,hn2,hri]
theorem zpe {s g w a b:Int}(hg:0<=g/\g < 2)(ha:0<=a/\a < (N60:Int))(hb:0<=b/\b < (N60:Int)-1):∃ p q:Int,zaQ [.lst [.int s,.int g,.int w],.int a,.int b]=.ok (.tup [.int p,.int q])/\ziM p q:=by
 have m12:(12:Int)≠0:=by decide
 have k1:0<=a.fmod 31/\a.fmod 31 < 31:=by rw[Int.fmod_eq_emod_of_nonneg _ (by decide)];exact⟨Int.emod_nonneg _ (by decide),Int.emod_lt_of_pos _ (by decide)⟩
 have k2:0<=b.fmod 12/\b.fmod 12 < 12:=by rw[Int.fmod_eq_emod_of_nonneg _ (by decide)];exact⟨Int.emod_nonneg _ (by decide),Int.emod_lt_of_pos _ (by decide)⟩
 have big:(31:Int) < (N60:Int):=by decide
 have core:∀ a' b':Int,0<=a'->a' < (N60:Int)->0<=b'->b' < (N60:Int)-1->∃ p q u v:Int,zbd [.int a',.int (1+b')]=.ok (.tup [.int u,.int v])/\zbA (.int (2*g)) (.int u)=.ok (.int (2*g*u))/\p=u-2*g*u/\q=v/\ziM p q:=fun a' b' h1 h2 h3 h4=>by
  have hl:=zic (a:=a') (b:=1+b') (by omega) (Nat.lt_of_le_of_lt (show a'.natAbs<=N60 by omega) n13) (Nat.lt_of_le_of_lt (show(1+b').natAbs<=N60 by omega) n13)
  have hgp:=zi6 (a:=a') (b:=1+b') (by omega)
  have u0:0<=a' / Int.gcd a' (1+b'):=Int.ediv_nonneg h1 (by omega)
  have u1:(a' / Int.gcd a' (1+b')).natAbs<=a'.natAbs:=Int.natAbs_ediv_le_natAbs _ _
  have v1:((1+b') / Int.gcd a' (1+b')).natAbs<=(1+b').natAbs:=Int.natAbs_ediv_le_natAbs _ _
  have v0:0 < (1+b') / Int.gcd a' (1+b'):=Int.ediv_pos_of_pos_of_dvd (by omega) (by omega) (Int.gcd_dvd_right a' (1+b'))
  generalize a' / Int.gcd a' (1+b')=u at *
  generalize (1+b') / Int.gcd a' (1+b')=v at *
  refine⟨_,_,u,v,hl,zjK (zrD (znR (by omega)) (by omega)),rfl,rfl,v0,?_,by omega⟩
  have:g=0∨g=1:=by omega
  rcases this with rfl | rfl
  ·omega
  ·omega
 have m2:zbA (.int 2) (.int g)=.ok (.int (2*g)):=zjK (zrD (by decide) (znR (by omega)))
 cases e1:(s==1) with
 | true =>
  cases e2:(w==1) with
  | true =>
   obtain⟨p,q,u,v,h1,h2,rfl,rfl,h5⟩:=core (a.fmod 31) 0 k1.1 (by omega) (by decide) (by decide)
   rw[show(1:Int)+0=1 from rfl] at h1
   exact⟨_,_,by open_line with[zaQ,zaW,e1,e2,h1,m2,h2],h5⟩
  | false =>
   obtain⟨p,q,u,v,h1,h2,rfl,rfl,h5⟩:=core (a.fmod 31) (b.fmod 12) k1.1 (by omega) k2.1 (by omega)
   exact⟨_,_,by open_line with[zaQ,zaW,e1,e2,h1,m2,h2],h5⟩
 | false =>
  cases e2:(w==1) with
  | true =>
   obtain⟨p,q,u,v,h1,h2,rfl,rfl,h5⟩:=core a 0 ha.1 ha.2 (by decide) (by decide)
   rw[show(1:Int)+0=1 from rfl] at h1
   exact⟨_,_,by open_line with[zaQ,zaW,e1,e2,h1,m2,h2],h5⟩
  | false =>
   obtain⟨p,q,u,v,h1,h2,rfl,rfl,h5⟩:=core a b ha.1 ha.2 hb.1 hb.2
   exact⟨_,_,by open_line with[zaQ,zaW,e1,e2,h1,m2,h2],h5⟩
theorem zlE {S:Str}{k:Int}(h0:0<=k)(h1:k < (S.length:Int))(hS:S.length<=1000):∃ c,dIx (.str S) (.int k)=.ok (.str ⟨#[c]⟩):=by
 have hk:k.toNat < (cl S).length:=by rw[zcA];omega
 refine⟨(cl S)[k.toNat],?_⟩
 show(if S.length<=line then(match atI (cl S) k with | some c=>Res.ok (D.str ⟨#[c]⟩) | none=>.stuck) else .stuck)=_
 rw[if_pos (Nat.le_trans hS (by decide))]
 have:=zaX (List.getElem?_eq_getElem hk)
 rw[show((k.toNat:Nat):Int)=k by omega] at this
 rw[this]
theorem zpv {t:Str}(ht:t.length<=300){way kind at_:Int}(hk:0<=kind/\kind < 20):∃ u,zbI [.str t,.int way,.int kind,.int at_]=.ok (.str u)/\u.length<=1000:=by
 obtain⟨c,hc⟩:=zlE (S:="0123456789-/+. \n\ta_E") hk.1 (show kind < _ from hk.2) (by decide)
 have hl:=len_str (z:=t) (by omega)
 obtain⟨m,hm⟩:∃ m,zd2 (.int at_) (.int ((t.length:Int)+1))=.ok (.int m):=⟨_,zd7 (by omega)⟩
 have sl:∀ l h,zmz (.str t) l h=.ok (.str (Txt.slice t l h)):=fun l h=>zmN (by omega)
 have sn:∀ l h,(Txt.slice t l h).length<=300:=fun l h=>Nat.le_trans (PyProof.Txt.length_slice_le t l h) ht
 have c1:(⟨#[c]⟩:Str).length=1:=rfl
 have a1:∀ l h,zcx (.str (Txt.slice t l h)) (.str ⟨#[c]⟩)=.ok (.str (Txt.slice t l h++⟨#[c]⟩)):=fun l h=>ev_addS (decide_eq_true (by have:=sn l h;omega))
 have a2:∀ l h l' h',zcx (.str (Txt.slice t l h++⟨#[c]⟩)) (.str (Txt.slice t l' h'))=.ok (.str (Txt.slice t l h++⟨#[c]⟩++Txt.slice t l' h')):=fun l h l' h'=>ev_addS (decide_eq_true (by rw[Str.length_append];have:=sn l h;have:=sn l' h';omega))
 have a3:∀ l h l' h',zcx (.str (Txt.slice t l h)) (.str (Txt.slice t l' h'))=.ok (.str (Txt.slice t l h++Txt.slice t l' h')):=fun l h l' h'=>ev_addS (decide_eq_true (by have:=sn l h;have:=sn l' h';omega))
 have n2:∀ l h l' h',(Txt.slice t l h++(⟨#[c]⟩:Str)++Txt.slice t l' h').length<=1000:=fun l h l' h'=>by rw[Str.length_append,Str.length_append];have:=sn l h;have:=sn l' h';omega
 have n3:∀ l h l' h',(Txt.slice t l h++Txt.slice t l' h').length<=1000:=fun l h l' h'=>by rw[Str.length_append];have:=sn l h;have:=sn l' h';omega
 cases e0:(way==0) with
 | true=>exact⟨Txt.slice t none (some m)++(⟨#[c]⟩:Str)++Txt.slice t (some m) none,by open_line with[zbI,zb3,hc,hl,hm,e0,sl,a1,a2],n2 none (some m) (some m) none⟩
 | false =>
  cases e1:(way==1) with
  | true=>exact⟨Txt.slice t none (some m)++Txt.slice t (some (m+1)) none,by open_line with[zbI,zb3,hc,hl,hm,e0,e1,sl,a3],n3 none (some m) (some (m+1)) none⟩
  | false=>exact⟨Txt.slice t none (some m)++(⟨#[c]⟩:Str)++Txt.slice t (some (m+1)) none,by open_line with[zbI,zb3,hc,hl,hm,e0,e1,sl,a1,a2],n2 none (some m) (some (m+1)) none⟩
theorem zq4 {ds:List D}{v:Int}(h0:0<=v)(h1:v < (ds.length:Int)):∃ d,dIx (.lst ds) (.int v)=.ok d/\d∈ds:=by
 have hk:v.toNat < ds.length:=by omega
 refine⟨ds[v.toNat],?_,List.getElem_mem hk⟩
 have:=zlF (List.getElem?_eq_getElem hk)
 rw[show((v.toNat:Nat):Int)=v by omega] at this
 exact this
def zrt (d:D):Prop:=(∃ u,d=.str u/\u.length<=90000)∨zbV "str" d=.ok (.bl false)
theorem ziR {d:D}(h:zrt d):zaK [d]=.ok (.bl true):=by
 rcases h with⟨u,rfl,hl⟩ | h
 ·exact zes hl
 ·exact zk5 h
theorem zm7 {k:Int}(h:0<=k/\k < 26):∃ d,zb8 [.int k]=.ok d/\zrt d:=by
 have q1:ziA (.str "1") (.int 4400)=.ok (.str (zju "1" 4400)):=by unfold ziA;exact if_pos (by decide)
 have q2:ziA (.str "3") (.int 4400)=.ok (.str (zju "3" 4400)):=by unfold ziA;exact if_pos (by decide)
 have l1:(zju "1" 4400).length=4400:=by rw[zgY];decide
 have l2:(zju "3" 4400).length=4400:=by rw[zgY];decide
 have a1:zcx (.str "7/") (.str (zju "3" 4400))=.ok (.str ("7/"++zju "3" 4400)):=by unfold zcx;exact if_pos (by rw[l2];decide)
 have l3:(("7/" : Str)++zju "3" 4400).length<=90000:=by rw[Str.length_append,l2];decide
 generalize zju "1" 4400=R at *
 generalize zju "3" 4400=S at *
 generalize (("7/" : Str)++S)=S2 at *
 obtain⟨d,hd,hm⟩:=zq4 (ds:=[.str "",.str "-",.str "/",.str "-0",.str "00",.str "0/1",.str "0/2",.str "1/1",.str "2/4",.str "1/0",.str "1/-2",.str "--1",.str "1//2",.str "1/2/3",.str " 1",.str "1 ",.str "1/02",.str "-1/2",.str "+1",.non,.int 1,.tup [.int 1,.int 2],.bl true,.lst [.str "1"],.str R,.str S2]) h.1 h.2
 refine⟨d,by open_line with[zb8,zcB,q1,q2,a1,hd],?_⟩
 simp only[List.mem_cons,List.not_mem_nil,or_false] at hm
 rcases hm with rfl | rfl | rfl | rfl | rfl | rfl | rfl | rfl | rfl | rfl | rfl | rfl | rfl | rfl | rfl | rfl | rfl | rfl | rfl | rfl | rfl | rfl | rfl | rfl | rfl | rfl
 all_goals first
  | exact .inl ⟨_,rfl,by decide⟩
  | exact .inl ⟨_,rfl,by omega⟩
  | exact .inr rfl
theorem znf (ns:List Int)(hn:ns.length<=63):zlx [.lst (ns.map D.int)]=.ok (.bl true):=by
 have p59:zjQ (.int 10) (.int 59)=.ok (.int 100000000000000000000000000000000000000000000000000000000000):=rfl
 have hcut:zmf (ns.map D.int) none (some 63)=(ns.take 63).map D.int:=by
  rw[zmd,HT.sIx_none,show(63:Int)=((63:Nat):Int) from rfl,HT.sIx_nat]
  rw[List.drop_zero,Nat.sub_zero,Nat.min_eq_right (by omega:ns.length<=63)]
  rw[List.take_of_length_le (Nat.le_refl _),List.take_of_length_le hn]
 have hadd:zcx (.lst [.int 0]) (.lst (zmf (ns.map D.int) none (some 63)))=.ok (.lst (.int 0::(ns.take 63).map D.int)):=by
  rw[hcut,ev_addL (decide_eq_true (by rw[List.length_map,List.length_take];simp;omega))]
  rfl
 have F0:ziM 100000000000000000000000000000000000000000000000000000000001 100000000000000000000000000000000000000000000000000000000000:=⟨by decide,by decide,by decide⟩
 obtain⟨ρ',hl,p',q',x2,x3,x4,x5,x6,x7,_,rfl⟩:=zi8 (tg:=zgC 2) (body:=(zar (zbo 3 (zak (zad (zaf 2) (zad (zak (zad (dC (.int 4)) (zad (dC (.int 2)) (zad (dC (.int 2)) (zad (dC (.int 3)) (zad (dC (.int 20)) (zad (dC (.int 127)) (zad (dC (.int 26)) (zad (zac (dC (.int 10)) (dC (.int 60)) zjQ) (zad (zac (zac (dC (.int 10)) (dC (.int 60)) zjQ) (dC (.int 1)) zpI) zaH))))))))) zg9) zaH)) zba))
 (zar (zbo 4 (zak (zad (ziL (zaf 3) zd0 (zdv (dC (.int 3)))) (zad (zac (zaf 3) (dC (.int 7)) dIx) (zad (zac (zaf 3) (dC (.int 8)) dIx) zaH))) zaQ))
 (zar (zbo 5 (zak (zad (zaf 4) zaH) zaT))
 (zar (sIf (dOr (zem (zbr (zaf 5) (zbV "str"))) (zac (zaf 5) (zak (zad (zaf 4) zaH) za5) dNe))
 (zar (zci (dC (.bl false)))
 zaj)
 zaj)
 (zar (sIf (zem (zak (zad (zaf 4) (zad (zaf 1) zaH)) zbR))
 (zar (zci (dC (.bl false)))
 zaj)
 zaj)
 (zar (zbo 1 (zaf 4))
 (zar (zbo 6 (zak (zad (zaf 5) (zad (zac (zaf 3) (dC (.int 3)) dIx) (zad (zac (zaf 3) (dC (.int 4)) dIx) (zad (zac (zaf 3) (dC (.int 5)) dIx) zaH)))) zbI))
 (zar (znU (zak (zad (zaf 5) (zad (zaf 6) (zad (zak (zad (zac (zaf 3) (dC (.int 6)) dIx) zaH) zb8) zaH))) zg9) (zgC 7)
 (zar (sIf (zem (zak (zad (zaf 7) zaH) zaK))
 (zar (zci (dC (.bl false)))
 zaj)
 zaj)
 zaj))
 zaj))))))))) (fun ρ=>∃ (p q:Int) (x2 x3 x4 x5 x6 x7:Sl),ziM p q/\ρ=[.sh (.lst (ns.map D.int)),.sh (.tup [.int p,.int q]),x2,x3,x4,x5,x6,x7]) (ds:=D.int 0::(ns.take 63).map D.int) (fun d hd ρ ⟨p,q,x2,x3,x4,x5,x6,x7,FR,hρ⟩=>by
  subst hρ
  obtain⟨c,rfl⟩:∃ c:Int,d=.int c:=by
   rcases List.mem_cons.mp hd with rfl | hd
   ·exact⟨0,rfl⟩
   ·obtain⟨c,_,rfl⟩:=List.mem_map.mp hd
    exact⟨c,rfl⟩
  obtain⟨vs,hv,V⟩:=znz c [4,2,2,3,20,127,26,(N60:Int),(N60:Int)-1] (by decide) (by decide)
  have hv':Com.zba [.int c,.lst [.int 4,.int 2,.int 2,.int 3,.int 20,.int 127,.int 26,.int (N60:Int),.int ((N60:Int)-1)]]=.ok (.lst (vs.map D.int)):=hv
  obtain⟨v0,g0,b0,_⟩:=V.ix 0 0 rfl rfl
  obtain⟨v1,g1,b1,_⟩:=V.ix 1 1 rfl rfl
  obtain⟨v2,g2,b2,_⟩:=V.ix 2 2 rfl rfl
  obtain⟨v3,_,b3,i3⟩:=V.ix 3 3 rfl rfl
  obtain⟨v4,_,b4,i4⟩:=V.ix 4 4 rfl rfl
  obtain⟨v5,_,b5,i5⟩:=V.ix 5 5 rfl rfl
  obtain⟨v6,_,b6,i6⟩:=V.ix 6 6 rfl rfl
  obtain⟨v7,_,b7,i7⟩:=V.ix 7 7 rfl rfl
  obtain⟨v8,_,b8,i8⟩:=V.ix 8 8 rfl rfl
  have hvl:vs.length=9:=V.len
  have hc3:zmf (vs.map D.int) none (some 3)=[.int v0,.int v1,.int v2]:=by
   rw[zmd,HT.sIx_none,show(3:Int)=((3:Nat):Int) from rfl,HT.sIx_nat,hvl]
   have:=zrP (i:=0) g0 g1 g2
   show((vs.drop 0).take 3).map D.int=_
   rw[this];rfl
  obtain⟨p2,q2,hf,F2⟩:=zpe (s:=v0) (g:=v1) (w:=v2) (a:=v7) (b:=v8) b1 b7 b8
  have hs:=zft F2.p130 F2.q130
  have hw:za5 [.tup [.int p2,.int q2]]=.ok (.str (wrD p2 q2)):=by rw[zgl];exact hs
  have hne:=zfW (a:=wrD p2 q2) (b:=wrD p2 q2)
  rw[decide_eq_true rfl] at hne
  have hlo:=zly F2 FR
  have hwl:=zkQ F2.p130 F2.q130
  obtain⟨u,hu,hul⟩:=zpv (t:=wrD p2 q2) hwl (way:=v3) (kind:=v4) (at_:=v5) b4
  obtain⟨o,ho,hoT⟩:=zm7 b6
  have r1:=zes (z:=wrD p2 q2) (by omega)
  have r2:=zes (z:=u) (by omega)
  have r3:=ziR hoT
  generalize wrD p2 q2=T at *
  generalize hVs:D.lst (vs.map D.int)=Vs at *
  have hsl:zmz Vs none (some 3)=.ok (.lst [.int v0,.int v1,.int v2]):=by rw[← hVs,ev_sl2,hc3]
  obtain⟨ρ2,hin,y7,rfl⟩:=zi8 (tg:=zgC 7) (body:=(zar (sIf (zem (zak (zad (zaf 7) zaH) zaK))
 (zar (zci (dC (.bl false)))
 zaj)
 zaj)
 zaj)) (fun ρ=>∃ y7,ρ=[.sh (.lst (ns.map D.int)),.sh (.tup [.int p2,.int q2]),.sh (.int c),.sh Vs,.sh (.tup [.int p2,.int q2]),.sh (.str T),.sh (.str u),y7]) (ds:=[.str T,.str u,o]) (fun d hd ρ ⟨y7,hρ⟩=>by
    subst hρ
    refine⟨[.sh (.lst (ns.map D.int)),.sh (.tup [.int p2,.int q2]),.sh (.int c),.sh Vs,.sh (.tup [.int p2,.int q2]),.sh (.str T),.sh (.str u),.sh d],[.sh (.lst (ns.map D.int)),.sh (.tup [.int p2,.int q2]),.sh (.int c),.sh Vs,.sh (.tup [.int p2,.int q2]),.sh (.str T),.sh (.str u),.sh d],rfl,?_,.sh d,rfl⟩
    have rd:zaK [d]=.ok (.bl true):=by
     simp only[List.mem_cons,List.not_mem_nil,or_false] at hd
     rcases hd with rfl | rfl | rfl
     ·exact r1
     ·exact r2
     ·exact r3
    open_line with[rd]) [.sh (.lst (ns.map D.int)),.sh (.tup [.int p2,.int q2]),.sh (.int c),.sh Vs,.sh (.tup [.int p2,.int q2]),.sh (.str T),.sh (.str u),x7] ⟨_,rfl⟩
  refine⟨[.sh (.lst (ns.map D.int)),.sh (.tup [.int p,.int q]),.sh (.int c),x3,x4,x5,x6,x7],[.sh (.lst (ns.map D.int)),.sh (.tup [.int p2,.int q2]),.sh (.int c),.sh Vs,.sh (.tup [.int p2,.int q2]),.sh (.str T),.sh (.str u),y7],rfl,?_,p2,q2,_,_,_,_,_,_,F2,rfl⟩
  open_line with[hv',hsl,i7,i8,hf,hs,hw,hne,hlo,i3,i4,i5,hu,i6,ho,hin]) [.sh (.lst (ns.map D.int)),.sh (.tup [.int 100000000000000000000000000000000000000000000000000000000001,.int 100000000000000000000000000000000000000000000000000000000000]),.no,.no,.no,.no,.no,.no] ⟨_,_,_,_,_,_,_,_,F0,rfl⟩
 open_line with[zlx,zpx,p59,hadd,hl]
end K74
namespace K74
open PySem L2 DL
def top (i:Nat):Stmt:=PySem.Challenge.pw_farthestcut_k74_fractions_written.main.body.getD i (.Pass ⟨0,0,0,0⟩)
abbrev zbN:Stmt:=top 19
abbrev zbl:Stmt:=top 21
abbrev zbv:Stmt:=top 22
abbrev za9:Stmt:=top 26
abbrev zbs:Stmt:=top 12
abbrev zbj:Stmt:=top 25
abbrev zcm:Stmt:=top 7
abbrev za0:Stmt:=top 5
abbrev zeS:Stmt:=top 16
abbrev zeR:Stmt:=top 17
abbrev zbk:Stmt:=top 23
abbrev zbu:Stmt:=top 24
abbrev zbt:Stmt:=top 14
abbrev zcn:Stmt:=top 8
abbrev zbJ:Stmt:=top 13
abbrev zbK:Stmt:=top 20
abbrev zbL:Stmt:=top 29
abbrev zbw:Stmt:=top 30
abbrev zbX:Stmt:=top 27
abbrev zbM:Stmt:=top 28
abbrev zfq:Stmt:=top 31
theorem za2:zaC ["_law_cell","_law_sizes","_law_number_here","_law_left","_law_found","_law_k","_law_one"] ["_law_cell","_law_sizes"] (defScope zbN):=⟨rfl,rfl,rfl,by decide +kernel,rfl,by decide +kernel,by decide +kernel⟩
theorem zdo:zaC ["_law_one","_law_other_here"] ["_law_one","_law_other_here"] (defScope zbl):=⟨rfl,rfl,rfl,by decide +kernel,rfl,by decide +kernel,by decide +kernel⟩
theorem zd4:zaC ["_law_top","_law_bottom","_law_share"] ["_law_top","_law_bottom"] (defScope zbv):=⟨rfl,rfl,rfl,by decide +kernel,rfl,by decide +kernel,by decide +kernel⟩
theorem zaI:zaC ["_law_digits","_law_above","_law_below","_law_small","_law_sign","_law_whole_here","_law_found"] ["_law_digits","_law_above","_law_below"] (defScope za9):=⟨rfl,rfl,rfl,by decide +kernel,rfl,by decide +kernel,by decide +kernel⟩
theorem zgc:zaC ["one"] ["one"] (defScope zbs):=⟨rfl,rfl,rfl,by decide +kernel,rfl,by decide +kernel,by decide +kernel⟩
theorem zfE:zaC ["_law_one"] ["_law_one"] (defScope zbj):=⟨rfl,rfl,rfl,by decide +kernel,rfl,by decide +kernel,by decide +kernel⟩
theorem ziU:zaC ["thing"] ["thing"] (defScope zcm):=⟨rfl,rfl,rfl,by decide +kernel,rfl,by decide +kernel,by decide +kernel⟩
theorem zaV:zaC ["one","other","larger","smaller","rest"] ["one","other"] (defScope za0):=⟨rfl,rfl,rfl,by decide +kernel,rfl,by decide +kernel,by decide +kernel⟩
theorem zgU:zaC ["top","bottom","divisor"] ["top","bottom"] (defScope zeS):=⟨rfl,rfl,rfl,by decide +kernel,rfl,by decide +kernel,by decide +kernel⟩
theorem zmQ:zaC ["one","other"] ["one","other"] (defScope zeR):=⟨rfl,rfl,rfl,by decide +kernel,rfl,by decide +kernel,by decide +kernel⟩
theorem zfF:zaC ["_law_signs"] ["_law_signs"] (defScope zbk):=⟨rfl,rfl,rfl,by decide +kernel,rfl,by decide +kernel,by decide +kernel⟩
theorem za4:zaC ["_law_text","_law_above","_law_stroke","_law_below","_law_head","_law_top"] ["_law_text"] (defScope zbu):=⟨rfl,rfl,rfl,by decide +kernel,rfl,by decide +kernel,by decide +kernel⟩
theorem zd3:zaC ["text","figures"] ["text"] (defScope zbt):=⟨rfl,rfl,rfl,by decide +kernel,rfl,by decide +kernel,by decide +kernel⟩
theorem ziV:zaC ["thing"] ["thing"] (defScope zcn):=⟨rfl,rfl,rfl,by decide +kernel,rfl,by decide +kernel,by decide +kernel⟩
theorem zcY:zaC ["text","parts","one"] ["text"] (defScope zbJ):=⟨rfl,rfl,rfl,by decide +kernel,rfl,by decide +kernel,by decide +kernel⟩
theorem zgV:zaC ["_law_thing"] ["_law_thing"] (defScope zbK):=⟨rfl,rfl,rfl,by decide +kernel,rfl,by decide +kernel,by decide +kernel⟩
theorem zaE:zaC ["_law_thing","_law_due","_law_found","_law_told","_law_refused","e"] ["_law_thing"] (defScope zbL):=⟨rfl,rfl,rfl,by decide +kernel,rfl,by decide +kernel,by decide +kernel⟩
theorem zb4:zaC ["_law_one","_law_other_here","_law_product","_law_due","_law_text"] ["_law_one","_law_other_here"] (defScope zbw):=⟨rfl,rfl,rfl,by decide +kernel,rfl,by decide +kernel,by decide +kernel⟩
theorem zdp:zaC ["_law_text","_law_way","_law_kind","_law_at","_law_sign"] ["_law_text","_law_way","_law_kind","_law_at"] (defScope zbX):=⟨rfl,rfl,rfl,by decide +kernel,rfl,by decide +kernel,by decide +kernel⟩
theorem zbQ:zaC ["_law_kind","_law_some"] ["_law_kind"] (defScope zbM):=⟨rfl,rfl,rfl,by decide +kernel,rfl,by decide +kernel,by decide +kernel⟩
theorem zer:zaC ["_law_script","_law_ahead","_law_cell","_law_digits","_law_one","_law_text","_law_bent_here","_law_thing"] ["_law_script"] (defScope zfq):=⟨rfl,rfl,rfl,by decide +kernel,rfl,by decide +kernel,by decide +kernel⟩
abbrev zcR:Stmt:=zo9 (top 3) 0
theorem zke:zaC ["self","row"] ["self","row"] (defScope zcR):=⟨rfl,rfl,rfl,by decide +kernel,rfl,by decide +kernel,by decide +kernel⟩
set_option genInjectivity false in
set_option genSizeOfSpec false in
structure Adr where
 zbC:Addr
 zfT:FuncData
 zay:Addr
 zam:Addr
 zal:Addr
 zdM:Addr
 zdF:FuncData
 zcL:Addr
 zcH:FuncData
 zdf:Addr
 zc9:FuncData
 zcw:Addr
 zct:FuncData
 zdc:Addr
 zc6:FuncData
 zcJ:Addr
 zcF:FuncData
 ze4:Addr
 ze1:FuncData
 zcf:Addr
 zcd:FuncData
 zjj:Addr
 zjb:FuncData
 zji:Addr
 zja:FuncData
 zcK:Addr
 zcG:FuncData
 zde:Addr
 zc8:FuncData
 zdd:Addr
 zc7:FuncData
 ze5:Addr
 ze2:FuncData
 zdI:Addr
 zdB:FuncData
 zdJ:Addr
 zdC:FuncData
 zdK:Addr
 zdD:FuncData
 zdg:Addr
 zda:FuncData
 zek:Addr
 zeh:FuncData
 zdL:Addr
 zdE:FuncData
 zjk:Addr
 zkC:FuncData
set_option genInjectivity false in
set_option genSizeOfSpec false in
structure Txt (K:W.Frag) (mg:Str->Option Value) (t:Adr):Prop where
 zfn:Fun K "_law_draws" "_law_draws" zbN t.zdM t.zdF
 zca:zbE K t.zdF ["_law_cell","_law_sizes"] []
 zim:mg "_law_draws"=some (.ref t.zdM)
 zcO:Fun K "_law_divisor" "_law_divisor" zbl t.zcL t.zcH
 za7:zbE K t.zcH ["_law_one","_law_other_here"] []
 zeb:mg "_law_divisor"=some (.ref t.zcL)
 zdh:Fun K "_law_lowest" "_law_lowest" zbv t.zdf t.zc9
 zbg:zbE K t.zc9 ["_law_top","_law_bottom"] []
 zez:mg "_law_lowest"=some (.ref t.zdf)
 zdP:Fun K "_law_fraction" "_law_fraction" za9 t.zcw t.zct
 zaW:zbE K t.zct ["_law_digits","_law_above","_law_below"] []
 zfV:mg "_law_fraction"=some (.ref t.zcw)
 zcl:Fun K "shown_ratio" "shown_ratio" zbs t.zdc t.zc6
 zbf:zbE K t.zc6 ["one"] []
 zc3:mg "shown_ratio"=some (.ref t.zdc)
 zcM:Fun K "_law_written" "_law_written" zbj t.zcJ t.zcF
 zb5:zbE K t.zcF ["_law_one"] []
 zd9:mg "_law_written"=some (.ref t.zcJ)
 zcX:Fun K "is_whole" "is_whole" zcm t.ze4 t.ze1
 zco:zbE K t.ze1 ["thing"] []
 zdV:mg "is_whole"=some (.ref t.ze4)
 zcg:Fun K "common_divisor" "common_divisor" za0 t.zcf t.zcd
 zaS:zbE K t.zcd ["one","other"] []
 zdj:mg "common_divisor"=some (.ref t.zcf)
 zmv:Fun K "ratio" "ratio" zeS t.zjj t.zjb
 zf5:zbE K t.zjb ["top","bottom"] []
 zpc:mg "ratio"=some (.ref t.zjj)
 zmu:Fun K "times" "times" zeR t.zji t.zja
 zhu:zbE K t.zja ["one","other"] []
 zpb:mg "times"=some (.ref t.zji)
 zcN:Fun K "_law_figures" "_law_figures" zbk t.zcK t.zcG
 zaO:zbE K t.zcG ["_law_signs"] []
 zea:mg "_law_figures"=some (.ref t.zcK)
 zeP:Fun K "_law_number" "_law_number" zbu t.zde t.zc8
 zat:zbE K t.zc8 ["_law_text"] []
 zhc:mg "_law_number"=some (.ref t.zde)
 zeO:Fun K "has_figures" "has_figures" zbt t.zdd t.zc7
 zbz:zbE K t.zc7 ["text"] []
 zhb:mg "has_figures"=some (.ref t.zdd)
 zgN:Fun K "is_ratio" "is_ratio" zcn t.ze5 t.ze2
 zbm:zbE K t.ze2 ["thing"] []
 zkv:mg "is_ratio"=some (.ref t.ze5)
 zfl:Fun K "read_ratio" "read_ratio" zbJ t.zdI t.zdB
 zaL:zbE K t.zdB ["text"] []
 zik:mg "read_ratio"=some (.ref t.zdI)
 zcC:Fun K "_law_whole" "_law_whole" zbK t.zdJ t.zdC
 zb9:zbE K t.zdC ["_law_thing"] []
 zdy:mg "_law_whole"=some (.ref t.zdJ)
 zdO:Fun K "_law_right" "_law_right" zbL t.zdK t.zdD
 zbP:zbE K t.zdD ["_law_thing"] []
 zfe:mg "_law_right"=some (.ref t.zdK)
 zeQ:Fun K "_law_longer" "_law_longer" zbw t.zdg t.zda
 zck:zbE K t.zda ["_law_one","_law_other_here"] []
 zhd:mg "_law_longer"=some (.ref t.zdg)
 zf6:Fun K "_law_bent" "_law_bent" zbX t.zek t.zeh
 zb3:zbE K t.zeh ["_law_text","_law_way","_law_kind","_law_at"] []
 zi7:mg "_law_bent"=some (.ref t.zek)
 zfm:Fun K "_law_other" "_law_other" zbM t.zdL t.zdE
 zcB:zbE K t.zdE ["_law_kind"] []
 zil:mg "_law_other"=some (.ref t.zdL)
 zsR:Fun K "law" "law" zfq t.zjk t.zkC
 zpx:zbE K t.zkC ["_law_script"] []
 zsx:mg "law"=some (.ref t.zjk)
 n_ValueError:mg "ValueError"=none
 n_abs:mg "abs"=none
 n_all:mg "all"=none
 n_bool:mg "bool"=none
 n_int:mg "int"=none
 n_isinstance:mg "isinstance"=none
 n_len:mg "len"=none
 n_max:mg "max"=none
 n_range:mg "range"=none
 n_str:mg "str"=none
 n_tuple:mg "tuple"=none
 zgB:mg "CutError"=some (.ref t.zay)
 zgz:zkL K "CutError" t.zay
 zgA:mg "NoNumber"=some (.ref t.zam)
 zpG:zkL K "NoNumber" t.zam
 zhe:mg "NoText"=some (.ref t.zal)
 zjE:zkL K "NoText" t.zal
 zbW:zpA K "NoNumber" t.zam
 zcy:zpz K "NoText" t.zal
 zmt:Fun K "__init__" "NoText.__init__" zcR t.zbC t.zfT
 zeJ:zbE K t.zfT ["self","row"] []
 zhO:XIn K t.zal t.zbC
 zen:XSt K t.zal ["row"]
 zhS:W.isFn K (.ref t.zbC)=true
 ziP:zpB K t.zay
 zbH:W.subIn K (.ref t.zam) (.ref t.zay)=some true
 zbZ:W.subIn K (.ref t.zam) (.ref t.zal)=some false
 zbY:W.subIn K (.ref t.zal) (.ref t.zay)=some true
 zcp:W.subIn K (.ref t.zal) (.ref t.zal)=some true
 zf4:Kon K mg "FIGURES" (.str "0123456789")
 zcI:Kon K mg "MOST_FIGURES" (.int 60)
section
variable {P:Program}{w:World}{K:W.Frag}{mg:Str->Option Value}{base:Heap}{t:Adr}
theorem zfU (T:Txt K mg t):∀ x C,zku zcV x=true->XC K x C->W.exmOne K (.ref C) (.ref t.zay)=some true :=
 znl fun q hq=>by
  unfold zcV at hq
  simp only[List.mem_cons,List.not_mem_nil,or_false] at hq
  rcases hq with rfl | rfl
  ·exact⟨t.zam,T.zbW.xcls.xc,T.zgz.exm T.zbH⟩
  ·exact⟨t.zal,T.zcy.xc,T.zgz.exm T.zbY⟩
theorem zmK (T:Txt K mg t):zkJ K zow (.ref t.zal) :=
 zdn (p:=fun _ C b=>W.kitOne K (.ref C) (.ref t.zal)=some b) fun q hq=>by
  simp only[List.mem_cons,List.not_mem_nil,or_false] at hq
  rcases hq with rfl | rfl
  ·exact⟨t.zam,T.zbW.xcls.xc,T.zjE.kit T.zbW.self T.zbZ⟩
  ·exact⟨t.zal,T.zcy.xc,T.zjE.kit T.zcy.self T.zcp⟩
theorem zmJ (T:Txt K mg t):zkJ K zov (.type "ValueError") :=
 zdn (p:=fun _ C b=>W.kitOne K (.ref C) (.type "ValueError")=some b) fun q hq=>by
  simp only[List.mem_cons,List.not_mem_nil,or_false] at hq
  rcases hq with rfl | rfl
  ·exact⟨t.zam,T.zbW.xcls.xc,zjB zgv T.zbW.ve⟩
  ·exact⟨t.zal,T.zcy.xc,zjB zgv T.zcy.ve⟩
theorem zin (T:Txt K mg t):zrv K zio "row" :=
 zdn (p:=fun _ C _=>W.hasDictIn K C=true/\zeN K C "row") fun q hq=>by
  simp only[List.mem_cons,List.not_mem_nil,or_false] at hq
  rcases hq with rfl
  ·exact⟨t.zal,T.zcy.xc,T.zen.hd,T.zen.no _ (by decide)⟩
theorem zfS (T:Txt K mg t):FnOk P w K mg base CX0 1 t.zbC t.zfT ["self","row"] (zry K ["row"]) :=
 zsB T.zmt zke rfl (by decide) fun cdv A outer s0 H E=>(zrN (i:=1) T.ziP rfl T.zgB (zlc (i:=1) rfl (Or.inl rfl) zqh) rfl rfl (Or.inl rfl) (Or.inl rfl) zpL)
theorem zg5 (T:Txt K mg t):FnOk P w K mg base CX0 1 t.zdM t.zdF ["_law_cell","_law_sizes"] (spD K 2 zba) :=
 zaR T.zfn za2 fun cdv A outer s0 H H₀ E hr=>(
 (zaa (zax (i:=2) za2.nd rfl (Or.inl rfl) (zby (zmn rfl) zrk rfl T.n_max PyProof.Rows.Boot.«max» (zab (dv 0) (zab (zjP (zoa zae) (dv 0)) zai))))
 (zaa (zax (i:=3) za2.nd rfl (Or.inl rfl) (dv 2))
 (zaa (zrd (i:=4) za2.nd rfl (Or.inl rfl) (zrf zai))
 (zaa (zpk PassesOwn.never rfl rfl T.n_range (zby zdb zf3 rfl T.n_len PyProof.Rows.Boot.«len» (zab (dv 1) zai)) (zeY (i:=5) za2.nd rfl (Or.inl rfl)) zfB
 (zaa (zb2 (DW.dt (zn4 (zaZ zqI (zef fun _ _ _ _=>rb _) (dv 2) (ziz zae zae) nm) (zgD (zaZ zqH (zef fun _ _ _ _=>rb _) (dv 3) zae nm))))
 (zaa (ziv (i:=4) rfl (Or.inl rfl) (zdA (dv 3) (zav (dv 1) (dv 5))))
 (zaa (zax (i:=3) za2.nd rfl (Or.inl rfl) (zgI (dv 3) (zav (dv 1) (dv 5))))
 zag))
 (zaa (zax (i:=6) za2.nd rfl (Or.inl rfl) (zdA (zdk (zbq (zbq (zbq (zdA (dv 2) zae) (zdk (zdk zae (dv 5)) (dv 5))) (zdk zae (dv 5))) zae) zae) zae))
 (zaa (zax (i:=6) za2.nd rfl (Or.inl rfl) (zdA (zdk (zbq (zdA (zdk (dv 6) (dv 6)) zae) (dv 5)) zae) zae))
 (zaa (ziv (i:=4) rfl (Or.inl rfl) (zdA (zgI (dv 6) zae) (zav (dv 1) (dv 5))))
 zag))))
 zag))
 (zaa (zaM (dv 4))
 zag))))))
theorem zdt (T:Txt K mg t):FnOk P w K mg base CX0 1 t.zcL t.zcH ["_law_one","_law_other_here"] (spD K 2 za6) :=
 zaR T.zcO zdo fun cdv A outer s0 H H₀ E hr=>(
 (zaa (zjM _ PassesOwn.never (zaZ (zd5 hr.units) zgg (dv 1) zae nm)
 (zaa (zrc (i:=0) (j:=1) rfl zdo.nd rfl rfl (by decide) rfl rfl (zab (dv 1) (zab (zdA (dv 0) (dv 1)) zai)) rfl)
 zag))
 (zaa (zaM (zby zhs zmm rfl T.n_abs PyProof.Rows.Boot.«abs» (zab (dv 0) zai)))
 zag)))
theorem zd6 (T:Txt K mg t):FnOk P w K mg base CX0 2 t.zdf t.zc9 ["_law_top","_law_bottom"] (spD K 2 zbd) :=
 zaR T.zdh zd4 fun cdv A outer s0 H H₀ E hr=>(
 (zaa (zax (i:=2) zd4.nd rfl (Or.inl rfl) (zaB ((zdt T).mono (by decide:1<=1)) hr rfl T.zeb T.zcO.kp T.za7 zcj (zab (dv 0) (zab (dv 1) zai)) rfl (fun ρ ds h=>(fun _ h=>zah (fun _ h=>zah (fun _ h=>zau h) h) h) ds h)))
 (zaa (zaM (zfi (zab (zgI (dv 0) (dv 2)) (zab (zgI (dv 1) (dv 2)) zai))))
 zag)))
theorem zfr (T:Txt K mg t):FnOk P w K mg base CX0 3 t.zcw t.zct ["_law_digits","_law_above","_law_below"] (spD K 3 zaQ) :=
 zaR T.zdP zaI fun cdv A outer s0 H H₀ E hr=>(
 (zaa (zn5 rfl (dv 0) (zdW (i:=3) zaI.nd rfl (Or.inl rfl) (zdW (i:=4) zaI.nd rfl (Or.inl rfl) (zdW (i:=5) zaI.nd rfl (Or.inl rfl) zl2))))
 (zaa (zb2 (zaZ (zb7 hr.units) zdu (dv 3) zae nm)
 (zaa (zax (i:=1) zaI.nd rfl (Or.inl rfl) (zdA (dv 1) zae))
 (zaa (zax (i:=2) zaI.nd rfl (Or.inl rfl) (zdA (dv 2) zae))
 zag))
 zag)
 (zaa (zb2 (zaZ (zb7 hr.units) zdu (dv 5) zae nm)
 (zaa (zax (i:=2) zaI.nd rfl (Or.inl rfl) zae)
 zag)
 zag)
 (zaa (zax (i:=6) zaI.nd rfl (Or.inl rfl) (zaB ((zd6 T).mono (by decide:2<=2)) hr rfl T.zez T.zdh.kp T.zbg zcj (zab (dv 1) (zab (zbq zae (dv 2)) zai)) rfl (fun ρ ds h=>(fun _ h=>zah (fun _ h=>zah (fun _ h=>zau h) h) h) ds h)))
 (zaa (zaM (zfi (zab (zjP (zav (dv 6) zae) (zdk (zdk zae (dv 4)) (zav (dv 6) zae))) (zab (zav (dv 6) zae) zai))))
 zag))))))
theorem zcE (T:Txt K mg t):FnOk P w K mg base CX0 1 t.zdc t.zc6 ["one"] (spD K 1 zaT) :=
 zaR T.zcl zgc fun cdv A outer s0 H H₀ E hr=>(
 (zaa (zb2 (zaZ (zb7 hr.units) zdu (zav (dv 0) zae) zae nm)
 (zaa (zaM (zbx zbO zgL rfl T.n_str PyProof.Rows.Boot.«str» (zab (zav (dv 0) zae) zai)))
 zag)
 zag)
 (zaa (zaM (zbq (zbq (zbx zbO zgL rfl T.n_str PyProof.Rows.Boot.«str» (zab (zav (dv 0) zae) zai)) zaF) (zbx zbO zgL rfl T.n_str PyProof.Rows.Boot.«str» (zab (zav (dv 0) zae) zai))))
 zag)))
theorem zdr (T:Txt K mg t):FnOk P w K mg base CX0 1 t.zcJ t.zcF ["_law_one"] (spD K 1 za5) :=
 zaR T.zcM zfE fun cdv A outer s0 H H₀ E hr=>(
 (zaa (zb2 (zaZ (zb7 hr.units) zdu (zav (dv 0) zae) zae nm)
 (zaa (zaM (zbx zbO zgL rfl T.n_str PyProof.Rows.Boot.«str» (zab (zav (dv 0) zae) zai)))
 zag)
 zag)
 (zaa (zaM (zbq (zbq (zbx zbO zgL rfl T.n_str PyProof.Rows.Boot.«str» (zab (zav (dv 0) zae) zai)) zaF) (zbx zbO zgL rfl T.n_str PyProof.Rows.Boot.«str» (zab (zav (dv 0) zae) zai))))
 zag)))
theorem zc1 (T:Txt K mg t):FnOk P w K mg base CX0 1 t.ze4 t.ze1 ["thing"] (spD K 1 za1) :=
 zaR T.zcX ziU fun cdv A outer s0 H H₀ E hr=>(
 (zaa (zaM (zfk (zbD zgu rfl T.n_isinstance rfl T.n_int PyProof.Rows.Boot.«int» (dv 0)) (zfj (zn9 (zbD zfO rfl T.n_isinstance rfl T.n_bool PyProof.Rows.Boot.«bool» (dv 0))))))
 zag))
theorem zcT (T:Txt K mg t):FnOk P w K mg base CX0 1 t.zcf t.zcd ["one","other"] (spD K 2 zaJ) :=
 zaR T.zcg zaV fun cdv A outer s0 H H₀ E hr=>(
 (zaa (zax (i:=2) zaV.nd rfl (Or.inl rfl) (zby zhs zmm rfl T.n_abs PyProof.Rows.Boot.«abs» (zab (dv 0) zai)))
 (zaa (zax (i:=3) zaV.nd rfl (Or.inl rfl) (zby zhs zmm rfl T.n_abs PyProof.Rows.Boot.«abs» (zab (dv 1) zai)))
 (zaa (zjM _ PassesOwn.never (zaZ (zd5 hr.units) zgg (dv 3) zae nm)
 (zaa (zax (i:=4) zaV.nd rfl (Or.inl rfl) (zdA (dv 2) (dv 3)))
 (zaa (zax (i:=2) zaV.nd rfl (Or.inl rfl) (dv 3))
 (zaa (zax (i:=3) zaV.nd rfl (Or.inl rfl) (dv 4))
 zag))))
 (zaa (zaM (dv 2))
 zag)))))
theorem znb (T:Txt K mg t):FnOk P w K mg base (CXE P w) 2 t.zjj t.zjb ["top","bottom"] (spD K 2 zfL) :=
 zeW T.zmv zgU fun cdv A outer s0 H H₀ E hr=>(
 (zaa (zb2 (DW.dt (zeg (zcs (zbS (zaB ((zc1 T).mono (by decide:1<=1)) hr rfl T.zdV T.zcX.kp T.zco zgp (zab (dv 0) zai) rfl (fun ρ ds h=>(fun _ h=>zah (fun _ h=>zau h) h) ds h)))) (zbp (zcs (zbS (zaB ((zc1 T).mono (by decide:1<=1)) hr rfl T.zdV T.zcX.kp T.zco zgp (zab (dv 1) zai) rfl (fun ρ ds h=>(fun _ h=>zah (fun _ h=>zau h) h) ds h)))))))
 (zaa (zjN T.zbW.xcls T.zgA hr.hd rfl (zab zaF zai))
 zag)
 zag)
 (zaa (zb2 (zaZ (zb7 hr.units) zdu (dv 1) zae nm)
 (zaa (zjN T.zbW.xcls T.zgA hr.hd rfl (zab zaF zai))
 zag)
 zag)
 (zaa (zax (i:=2) zgU.nd rfl (Or.inl rfl) (zaB ((zcT T).mono (by decide:1<=1)) hr rfl T.zdj T.zcg.kp T.zaS zgp (zab (dv 0) (zab (dv 1) zai)) rfl (fun ρ ds h=>(fun _ h=>zah (fun _ h=>zah (fun _ h=>zau h) h) h) ds h)))
 (zaa (zb2 (zaZ zqE (zef fun _ _ _ _=>rb _) (dv 1) zae nm)
 (zaa (zax (i:=2) zgU.nd rfl (Or.inl rfl) (zoa (dv 2)))
 zag)
 zag)
 (zaa (zaM (zfi (zab (zgI (dv 0) (dv 2)) (zab (zgI (dv 1) (dv 2)) zai))))
 zag))))))
theorem zna (T:Txt K mg t):FnOk P w K mg base (CXE P w) 3 t.zji t.zja ["one","other"] (spD K 2 zg8) :=
 zeW T.zmu zmQ fun cdv A outer s0 H H₀ E hr=>(
 (zaa (zaM (zaB ((znb T).mono (by decide:2<=2)) hr rfl T.zpc T.zmv.kp T.zf5 zoP (zab (zdk (zav (dv 0) zae) (zav (dv 1) zae)) (zab (zdk (zav (dv 0) zae) (zav (dv 1) zae)) zai)) rfl (fun ρ ds h=>(fun _ h=>zah (fun _ h=>zah (fun _ h=>zau h) h) h) ds h)))
 zag))
theorem zds (T:Txt K mg t):FnOk P w K mg base CX0 1 t.zcK t.zcG ["_law_signs"] (spD K 1 zaN) :=
 zaR T.zcN zfF fun cdv A outer s0 H H₀ E hr=>(
 (zaa (zb2 (DW.dt (zeg (zaZ (zb7 hr.units) zdu (dv 0) zaF nm) (zeg (zaZ zqH (zef fun _ _ _ _=>rb _) (zby zdb zf3 rfl T.n_len PyProof.Rows.Boot.«len» (zab (dv 0) zai)) zae nm) (zbp (DW.dt (zn4 (zaZ (zb7 hr.units) zdu (zav (dv 0) zae) zaF nm) (zgD (zaZ (zd5 hr.units) zgg (dv 0) zaF nm))))))))
 (zaa (zaM ze0)
 zag)
 zag)
 (zaa (zaM (zgJ (zb7 hr.units) zdu (zpr (zsJ ["_law_sign"] 1 [] rfl (zn7 (dv 0)) (zgQ (by decide)) (fun s H C fp pn=>⟨fun He H0e=>(zeY (i:=0) (show List.Nodup (["_law_sign"]:List Str) from by decide) rfl (Or.inl rfl)),(zpm (zaZ (zm8 hr.units) znc (dv 0) zaF rfl)),(dv 0)⟩) ⟨rfl,rfl⟩ rfl rfl rfl rfl)) (zec zai) nm))
 zag)))
theorem zge (T:Txt K mg t):FnOk P w K mg base CX0 2 t.zde t.zc8 ["_law_text"] (spD K 1 zan) :=
 zaR T.zeP za4 fun cdv A outer s0 H H₀ E hr=>(
 (zaa (zn5 rfl (zpp (dv 0) zaF) (zdW (i:=1) za4.nd rfl (Or.inl rfl) (zdW (i:=2) za4.nd rfl (Or.inl rfl) (zdW (i:=3) za4.nd rfl (Or.inl rfl) zl2))))
 (zaa (zax (i:=4) za4.nd rfl (Or.inl rfl) (zbi (dv 1) (zcb (zbx zcu zei rfl T.n_int PyProof.Rows.Boot.«int» (zab (zgJ (zb7 hr.units) zdu (zbi (dv 1) zcc (zcb zae)) zaF nm) zai))) zcc))
 (zaa (zb2 (DW.dt (zeg (zcs (zbS (zaB ((zds T).mono (by decide:1<=1)) hr rfl T.zea T.zcN.kp T.zaO zcj (zab (dv 4) zai) rfl (fun ρ ds h=>(fun _ h=>zah (fun _ h=>zau h) h) ds h)))) (zbp (zaZ (zb7 hr.units) zdu (dv 1) zaF nm))))
 (zaa (zaM zgH)
 zag)
 zag)
 (zaa (zax (i:=5) za4.nd rfl (Or.inl rfl) (zbx zcu zei rfl T.n_int PyProof.Rows.Boot.«int» (zab (dv 4) zai)))
 (zaa (zb2 (zaZ (zb7 hr.units) zdu (zbi (dv 1) zcc (zcb zae)) zaF nm)
 (zaa (zax (i:=5) za4.nd rfl (Or.inl rfl) (zjP zae (dv 5)))
 zag)
 zag)
 (zaa (zb2 (zaZ (zb7 hr.units) zdu (dv 2) zaF nm)
 (zaa (zaM (zfi (zab (dv 5) (zab zae zai))))
 zag)
 zag)
 (zaa (zb2 (DW.dt (zeg (zcs (zbS (zaB ((zds T).mono (by decide:1<=1)) hr rfl T.zea T.zcN.kp T.zaO zcj (zab (dv 3) zai) rfl (fun ρ ds h=>(fun _ h=>zah (fun _ h=>zau h) h) ds h)))) (zeg (zaZ zqE (zef fun _ _ _ _=>rb _) (zbx zcu zei rfl T.n_int PyProof.Rows.Boot.«int» (zab (dv 3) zai)) zae nm) (zbp (zaZ (zd5 hr.units) zgg (zaB ((zdt T).mono (by decide:1<=1)) hr rfl T.zeb T.zcO.kp T.za7 zcj (zab (dv 5) (zab (zbx zcu zei rfl T.n_int PyProof.Rows.Boot.«int» (zab (dv 3) zai)) zai)) rfl (fun ρ ds h=>(fun _ h=>zah (fun _ h=>zah (fun _ h=>zau h) h) h) ds h)) zae nm)))))
 (zaa (zaM zgH)
 zag)
 zag)
 (zaa (zaM (zfi (zab (dv 5) (zab (zbx zcu zei rfl T.n_int PyProof.Rows.Boot.«int» (zab (dv 3) zai)) zai))))
 zag)))))))))
theorem zgd (T:Txt K mg t):FnOk P w K mg base CX0 1 t.zdd t.zc7 ["text"] (spD K 1 zbc) :=
 zaR T.zeO zd3 fun cdv A outer s0 H H₀ E hr=>(
 (zaa (zax (i:=1) zd3.nd rfl (Or.inl rfl) (zhj (zbS (zl4 (dv 0) zaF)) (zbi (dv 0) (zcb zae) zcc) (dv 0)))
 (zaa (zaM (zfk (znE zm9 zm9 (zet fun _ _ _ _=>rb _) (zet fun _ _ _ _=>rb _) zev zev zae (zby zdb zf3 rfl T.n_len PyProof.Rows.Boot.«len» (zab (dv 1) zai)) (zob T.zcI rfl)) (zfj (zby (zjU rfl) zoh rfl T.n_all PyProof.Rows.Boot.«all» (zab (zpr (zsJ ["sign"] 1 [] rfl (zn7 (dv 1)) (zgQ (by decide)) (fun s H C fp pn=>⟨fun He H0e=>(zeY (i:=0) (show List.Nodup (["sign"]:List Str) from by decide) rfl (Or.inl rfl)),zl1,(zgJ (zsn hr.units) zsp (dv 0) (zob T.zf4 rfl) rfl)⟩) ⟨rfl,rfl⟩ rfl rfl rfl rfl)) zai)))))
 zag)))
theorem zi1 (T:Txt K mg t):FnOk P w K mg base CX0 2 t.ze5 t.ze2 ["thing"] (spD K 1 zcU) :=
 zaR T.zgN ziV fun cdv A outer s0 H H₀ E hr=>(
 (zaa (zb2 (DW.dt (zeg (zcs (zbS (zbD zfb rfl T.n_isinstance rfl T.n_tuple PyProof.Rows.Boot.«tuple» (dv 0)))) (zbp (zaZ (zd5 hr.units) zgg (zby zdb zf3 rfl T.n_len PyProof.Rows.Boot.«len» (zab (dv 0) zai)) zae nm))))
 (zaa (zaM ze0)
 zag)
 zag)
 (zaa (zb2 (DW.dt (zeg (zcs (zbS (zaB ((zc1 T).mono (by decide:1<=1)) hr rfl T.zdV T.zcX.kp T.zco zcj (zab (zav (dv 0) zae) zai) rfl (fun ρ ds h=>(fun _ h=>zah (fun _ h=>zau h) h) ds h)))) (zbp (zcs (zbS (zaB ((zc1 T).mono (by decide:1<=1)) hr rfl T.zdV T.zcX.kp T.zco zcj (zab (zav (dv 0) zae) zai) rfl (fun ρ ds h=>(fun _ h=>zah (fun _ h=>zau h) h) ds h)))))))
 (zaa (zaM ze0)
 zag)
 zag)
 (zaa (zaM (zfk (zgJ zqI (zef fun _ _ _ _=>rb _) (zav (dv 0) zae) zae nm) (zfj (zgJ (zb7 hr.units) zdu (zaB ((zcT T).mono (by decide:1<=1)) hr rfl T.zdj T.zcg.kp T.zaS zcj (zab (zav (dv 0) zae) (zab (zav (dv 0) zae) zai)) rfl (fun ρ ds h=>(fun _ h=>zah (fun _ h=>zah (fun _ h=>zau h) h) h) ds h)) zae nm))))
 zag))))
theorem zg3 (T:Txt K mg t):FnOk P w K mg base (CXE P w) 3 t.zdI t.zdB ["text"] (spD K 1 zas) :=
 zeW T.zfl zcY fun cdv A outer s0 H H₀ E hr=>(
 (zaa (zax (i:=1) zcY.nd rfl (Or.inl rfl) (zhj (zbS (zbD zdU rfl T.n_isinstance rfl T.n_str PyProof.Rows.Boot.«str» (dv 0))) (znC (dv 0) zaF) (zec zai)))
 (zaa (zb2 (DW.dt (zeg (zcs (zny zm9 zm9 (zet fun _ _ _ _=>rb _) (zet fun _ _ _ _=>rb _) zev zev zae (zby zdb zf3 rfl T.n_len PyProof.Rows.Boot.«len» (zab (dv 1) zai)) zae)) (zbp (zcs (zbS (zby (zjU rfl) zoh rfl T.n_all PyProof.Rows.Boot.«all» (zab (zpr (zsJ ["part"] 1 [] rfl (zpn (dv 1)) (zgQ (by decide)) (fun s H C fp pn=>⟨fun He H0e=>(zeY (i:=0) (show List.Nodup (["part"]:List Str) from by decide) rfl (Or.inl rfl)),zl1,(zaB ((zgd T).mono (by decide:1<=2)) hr rfl T.zhb T.zeO.kp T.zbz zgp (zab (dv 0) zai) rfl (fun ρ ds h=>(fun _ h=>zah (fun _ h=>zau h) h) ds h))⟩) ⟨rfl,rfl⟩ rfl rfl rfl rfl)) zai)))))))
 (zaa (ziu T.zcy.xc T.zhO T.zen T.zhS ((zfS T).mono (by decide:1<=1)) T.zeJ (by decide) (by decide) hr T.zhe hr.hd rfl (zab zae zai))
 zag)
 zag)
 (zaa (zax (i:=2) zcY.nd rfl (Or.inl rfl) (zfi (zab (zbx zcu zei rfl T.n_int PyProof.Rows.Boot.«int» (zab (zav (dv 1) zae) zai)) (zab (zhj (zaZ (zb7 hr.units) zdu (zby zdb zf3 rfl T.n_len PyProof.Rows.Boot.«len» (zab (dv 1) zai)) zae nm) (zbx zcu zei rfl T.n_int PyProof.Rows.Boot.«int» (zab (zav (dv 1) zae) zai)) zae) zai))))
 (zaa (zb2 (DW.dt (zeg (zcs (zbS (zaB ((zi1 T).mono (by decide:2<=2)) hr rfl T.zkv T.zgN.kp T.zbm zgp (zab (dv 2) zai) rfl (fun ρ ds h=>(fun _ h=>zah (fun _ h=>zau h) h) ds h)))) (zbp (zaZ (zd5 hr.units) zgg (zaB ((zcE T).mono (by decide:1<=2)) hr rfl T.zc3 T.zcl.kp T.zbf zgp (zab (dv 2) zai) rfl (fun ρ ds h=>(fun _ h=>zah (fun _ h=>zau h) h) ds h)) (dv 0) nm))))
 (zaa (ziu T.zcy.xc T.zhO T.zen T.zhS ((zfS T).mono (by decide:1<=1)) T.zeJ (by decide) (by decide) hr T.zhe hr.hd rfl (zab zae zai))
 zag)
 zag)
 (zaa (zaM (dv 2))
 zag))))))
theorem zc2 (T:Txt K mg t):FnH P w K mg base 1 t.zdJ t.zdC ["_law_thing"] (spD K 1 za3) :=
 zkw T.zcC zgV fun cdv A outer s0 H H₀ E hr=>(
 (zaa (zaM (zfk (zbD zgu rfl T.n_isinstance rfl T.n_int PyProof.Rows.Boot.«int» (dv 0)) (zfj (zn9 (zbD zfO rfl T.n_isinstance rfl T.n_bool PyProof.Rows.Boot.«bool» (dv 0))))))
 zag))
theorem zeu (T:Txt K mg t):FnOk P w K mg base CX0 4 t.zdK t.zdD ["_law_thing"] (spD K 1 zaK) :=
 zaR T.zdO zaE fun cdv A outer s0 H H₀ E hr=>(
 (zaa (zax (i:=1) zaE.nd rfl (Or.inl rfl) zgH)
 (zaa (zb2 (zbS (zbD zdU rfl T.n_isinstance rfl T.n_str PyProof.Rows.Boot.«str» (dv 0)))
 (zaa (zax (i:=1) zaE.nd rfl (Or.inl rfl) (zaB ((zge T).mono (by decide:2<=3)) hr rfl T.zhc T.zeP.kp T.zat zcj (zab (dv 0) zai) rfl (fun ρ ds h=>(fun _ h=>zah (fun _ h=>zau h) h) ds h)))
 zag)
 zag)
 (zaa (zax (i:=2) zaE.nd rfl (Or.inl rfl) zgH)
 (zaa (zax (i:=3) zaE.nd rfl (Or.inl rfl) ze0)
 (zaa (zax (i:=4) zaE.nd rfl (Or.inl rfl) ze0)
 (zaa (zrb ⟨rfl,rfl⟩ (zpW (i:=2) zaE.nd rfl (Or.inl rfl) ((zg3 T).mono (by decide:3<=3)) hr rfl T.zik T.zfl.kp T.zaL (zab (dv 0) zai) rfl (fun ρ ds h=>(fun _ h=>zah (fun _ h=>zau h) h) ds h)) rfl T.zgB (zfU T) zaE.nd rfl rfl (fun ea=>(zaa (zax (i:=4) zaE.nd rfl (Or.inl rfl) ze0)
 (zaa (zax (i:=3) zaE.nd rfl (Or.inl rfl) (zfk (zl6 rfl T.zhe (zmK T) rfl T.n_isinstance (dv 5)) (zfj (zl7 rfl T.n_ValueError PyProof.Rows.Boot.«ValueError» (zmJ T) rfl T.n_isinstance (dv 5)))))
 (zaa (zb2 (zbS (dv 3))
 (zaa (zax (i:=3) zaE.nd rfl (Or.inl rfl) (zfk (znF ((zc2 T).mono (by decide:1<=3)) (zeM.hand hr) rfl T.zdy T.zcC.kp T.zb9 (zab (zl8 (zin T) (dv 5)) zai) rfl (fun ρ ds h=>(fun _ h=>zah (fun _ h=>zau h) h) ds h)) (zfj (zgJ (zb7 hr.units) zdu (zl8 (zin T) (dv 5)) zae nm))))
 zag)
 zag)
 zag)))))
 (zaa (zb2 (zaZ zqF zqL (dv 1) zgH nm)
 (zaa (zaM (zfk (dv 4) (zfj (dv 3))))
 zag)
 zag)
 (zaa (zb2 (DW.dt (zeg (zbS (dv 4)) (zeg (zcs (zbS (zbD zfb rfl T.n_isinstance rfl T.n_tuple PyProof.Rows.Boot.«tuple» (dv 2)))) (zbp (zaZ (zd5 hr.units) zgg (dv 2) (dv 1) nm)))))
 (zaa (zaM ze0)
 zag)
 zag)
 (zaa (zaM (zfk (zaB (DL.FnH.ok ((zc2 T).mono (by decide:1<=3))) hr rfl T.zdy T.zcC.kp T.zb9 zcj (zab (zav (dv 2) zae) zai) rfl (fun ρ ds h=>(fun _ h=>zah (fun _ h=>zau h) h) ds h)) (zfj (zaB (DL.FnH.ok ((zc2 T).mono (by decide:1<=3))) hr rfl T.zdy T.zcC.kp T.zb9 zcj (zab (zav (dv 2) zae) zai) rfl (fun ρ ds h=>(fun _ h=>zah (fun _ h=>zau h) h) ds h)))))
 zag))))))))))
theorem zgf (T:Txt K mg t):FnOk P w K mg base CX0 5 t.zdg t.zda ["_law_one","_law_other_here"] (spD K 2 zbR) :=
 zaR T.zeQ zb4 fun cdv A outer s0 H H₀ E hr=>(
 (zaa (zax (i:=2) zb4.nd rfl (Or.inl rfl) (zaB (DL.FnOk.noX ((zna T).mono (by decide:3<=4))) hr rfl T.zpb T.zmu.kp T.zhu zcj (zab (dv 0) (zab (dv 1) zai)) rfl (fun ρ ds h=>(fun _ h=>zah (fun _ h=>zah (fun _ h=>zau h) h) h) ds h)))
 (zaa (zax (i:=3) zb4.nd rfl (Or.inl rfl) (zaB ((zd6 T).mono (by decide:2<=4)) hr rfl T.zez T.zdh.kp T.zbg zcj (zab (zdk (zav (dv 0) zae) (zav (dv 1) zae)) (zab (zdk (zav (dv 0) zae) (zav (dv 1) zae)) zai)) rfl (fun ρ ds h=>(fun _ h=>zah (fun _ h=>zah (fun _ h=>zau h) h) h) ds h)))
 (zaa (zax (i:=4) zb4.nd rfl (Or.inl rfl) (zaB ((zcE T).mono (by decide:1<=4)) hr rfl T.zc3 T.zcl.kp T.zbf zcj (zab (dv 2) zai) rfl (fun ρ ds h=>(fun _ h=>zah (fun _ h=>zau h) h) ds h)))
 (zaa (zb2 (DW.dt (zeg (zaZ (zd5 hr.units) zgg (dv 2) (dv 3) nm) (zeg (zcs (zbS (zbD zdU rfl T.n_isinstance rfl T.n_str PyProof.Rows.Boot.«str» (dv 4)))) (zbp (zaZ (zd5 hr.units) zgg (dv 4) (zaB ((zdr T).mono (by decide:1<=4)) hr rfl T.zd9 T.zcM.kp T.zb5 zcj (zab (dv 3) zai) rfl (fun ρ ds h=>(fun _ h=>zah (fun _ h=>zau h) h) ds h)) nm)))))
 (zaa (zaM ze0)
 zag)
 zag)
 (zaa (zaM (zaB ((zeu T).mono (by decide:4<=4)) hr rfl T.zfe T.zdO.kp T.zbP zcj (zab (dv 4) zai) rfl (fun ρ ds h=>(fun _ h=>zah (fun _ h=>zau h) h) ds h)))
 zag))))))
theorem zia (T:Txt K mg t):FnOk P w K mg base CX0 1 t.zek t.zeh ["_law_text","_law_way","_law_kind","_law_at"] (spD K 4 zbI) :=
 zaR T.zf6 zdp fun cdv A outer s0 H H₀ E hr=>(
 (zaa (zax (i:=4) zdp.nd rfl (Or.inl rfl) (zav zaF (dv 2)))
 (zaa (zax (i:=3) zdp.nd rfl (Or.inl rfl) (zdA (dv 3) (zbq (zby zdb zf3 rfl T.n_len PyProof.Rows.Boot.«len» (zab (dv 0) zai)) zae)))
 (zaa (zb2 (zaZ (zb7 hr.units) zdu (dv 1) zae nm)
 (zaa (zaM (zbq (zbq (zbi (dv 0) zcc (zcb (dv 3))) (dv 4)) (zbi (dv 0) (zcb (dv 3)) zcc)))
 zag)
 zag)
 (zaa (zb2 (zaZ (zb7 hr.units) zdu (dv 1) zae nm)
 (zaa (zaM (zbq (zbi (dv 0) zcc (zcb (dv 3))) (zbi (dv 0) (zcb (zbq (dv 3) zae)) zcc)))
 zag)
 zag)
 (zaa (zaM (zbq (zbq (zbi (dv 0) zcc (zcb (dv 3))) (dv 4)) (zbi (dv 0) (zcb (zbq (dv 3) zae)) zcc)))
 zag))))))
theorem zg4 (T:Txt K mg t):FnOk P w K mg base CX0 1 t.zdL t.zdE ["_law_kind"] (spD K 1 zb8) :=
 zaR T.zfm zbQ fun cdv A outer s0 H H₀ E hr=>(
 (zaa (zax (i:=1) zbQ.nd rfl (Or.inl rfl) (zec (zab zaF (zab zaF (zab zaF (zab zaF (zab zaF (zab zaF (zab zaF (zab zaF zai))))))))))
 (zaa (zax (i:=1) zbQ.nd rfl (Or.inl rfl) (zbq (dv 1) (zec (zab zaF (zab zaF (zab zaF (zab zaF (zab zaF (zab zaF (zab zaF (zab zaF zai)))))))))))
 (zaa (zax (i:=1) zbQ.nd rfl (Or.inl rfl) (zbq (dv 1) (zec (zab zaF (zab zaF (zab zaF (zab zgH (zab zae (zab (zfi (zab zae (zab zae zai))) (zab ze0 (zab (zec (zab zaF zai)) zai)))))))))))
 (zaa (zax (i:=1) zbQ.nd rfl (Or.inl rfl) (zbq (dv 1) (zec (zab (zl5 zaF zae) (zab (zbq zaF (zl5 zaF zae)) zai)))))
 (zaa (zaM (zav (dv 1) (dv 0)))
 zag))))))
theorem zqK (T:Txt K mg t):FnOk P w K mg base CX0 6 t.zjk t.zkC ["_law_script"] (spD K 1 zlx) :=
 zaR T.zsR zer fun cdv A outer s0 H H₀ E hr=>(
 (zaa (zax (i:=1) zer.nd rfl (Or.inl rfl) (zfi (zab (zbq (ziz zae zae) zae) (zab (ziz zae zae) zai))))
 (zaa (zn6 PassesOwn.never rfl (zbq (zec (zab zae zai)) (zbi (dv 0) zcc (zcb zae))) (zeY (i:=2) zer.nd rfl (Or.inl rfl)) zfB
 (zaa (zax (i:=3) zer.nd rfl (Or.inl rfl) (zaB ((zg5 T).mono (by decide:1<=5)) hr rfl T.zim T.zfn.kp T.zca zcj (zab (dv 2) (zab (zec (zab zae (zab zae (zab zae (zab zae (zab zae (zab zae (zab zae (zab (ziz zae zae) (zab (zjP (ziz zae zae) zae) zai)))))))))) zai)) rfl (fun ρ ds h=>(fun _ h=>zah (fun _ h=>zah (fun _ h=>zau h) h) h) ds h)))
 (zaa (zax (i:=4) zer.nd rfl (Or.inl rfl) (zaB ((zfr T).mono (by decide:3<=5)) hr rfl T.zfV T.zdP.kp T.zaW zcj (zab (zbi (dv 3) zcc (zcb zae)) (zab (zav (dv 3) zae) (zab (zav (dv 3) zae) zai))) rfl (fun ρ ds h=>(fun _ h=>zah (fun _ h=>zah (fun _ h=>zah (fun _ h=>zau h) h) h) h) ds h)))
 (zaa (zax (i:=5) zer.nd rfl (Or.inl rfl) (zaB ((zcE T).mono (by decide:1<=5)) hr rfl T.zc3 T.zcl.kp T.zbf zcj (zab (dv 4) zai) rfl (fun ρ ds h=>(fun _ h=>zah (fun _ h=>zau h) h) ds h)))
 (zaa (zb2 (DW.dt (zeg (zcs (zbS (zbD zdU rfl T.n_isinstance rfl T.n_str PyProof.Rows.Boot.«str» (dv 5)))) (zbp (zaZ (zd5 hr.units) zgg (dv 5) (zaB ((zdr T).mono (by decide:1<=5)) hr rfl T.zd9 T.zcM.kp T.zb5 zcj (zab (dv 4) zai) rfl (fun ρ ds h=>(fun _ h=>zah (fun _ h=>zau h) h) ds h)) nm))))
 (zaa (zaM ze0)
 zag)
 zag)
 (zaa (zb2 (zcs (zbS (zaB ((zgf T).mono (by decide:5<=5)) hr rfl T.zhd T.zeQ.kp T.zck zcj (zab (dv 4) (zab (dv 1) zai)) rfl (fun ρ ds h=>(fun _ h=>zah (fun _ h=>zah (fun _ h=>zau h) h) h) ds h))))
 (zaa (zaM ze0)
 zag)
 zag)
 (zaa (zax (i:=1) zer.nd rfl (Or.inl rfl) (dv 4))
 (zaa (zax (i:=6) zer.nd rfl (Or.inl rfl) (zaB ((zia T).mono (by decide:1<=5)) hr rfl T.zi7 T.zf6.kp T.zb3 zcj (zab (dv 5) (zab (zav (dv 3) zae) (zab (zav (dv 3) zae) (zab (zav (dv 3) zae) zai)))) rfl (fun ρ ds h=>(fun _ h=>zah (fun _ h=>zah (fun _ h=>zah (fun _ h=>zah (fun _ h=>zau h) h) h) h) h) ds h)))
 (zaa (zn6 PassesOwn.never rfl (zec (zab (dv 5) (zab (dv 6) (zab (zaB ((zg4 T).mono (by decide:1<=5)) hr rfl T.zil T.zfm.kp T.zcB zcj (zab (zav (dv 3) zae) zai) rfl (fun ρ ds h=>(fun _ h=>zah (fun _ h=>zau h) h) ds h)) zai)))) (zeY (i:=7) zer.nd rfl (Or.inl rfl)) zfB
 (zaa (zb2 (zcs (zbS (zaB ((zeu T).mono (by decide:4<=5)) hr rfl T.zfe T.zdO.kp T.zbP zcj (zab (dv 7) zai) rfl (fun ρ ds h=>(fun _ h=>zah (fun _ h=>zau h) h) ds h))))
 (zaa (zaM ze0)
 zag)
 zag)
 zag))
 zag)))))))))
 (zaa (zaM ze0)
 zag))))
end
theorem txt_mk {K:W.Frag}{h:Heap}{mg:Str->Option Value}(X:K.In h)(G:h.Ns mainGlobals mg){zbC:Addr}{zay:Addr}{zam:Addr}{zal:Addr}{a_0:Addr}{a_1:Addr}{a_2:Addr}{a_3:Addr}{a_4:Addr}{a_5:Addr}{a_6:Addr}{a_7:Addr}{a_8:Addr}{a_9:Addr}{a_10:Addr}{a_11:Addr}{a_12:Addr}{a_13:Addr}{a_14:Addr}{a_15:Addr}{a_16:Addr}{a_17:Addr}{a_18:Addr}{a_19:Addr}{a_20:Addr}
  {oc_0 kV_0 dc_0 pm_0 cd_0 ct_0:Value}{od_0 an_0:Option Addr}{sl_0:Array (Option Value)}
  (e1_0:W.nsIn K mainGlobals "_law_draws"=some (some (.ref a_0))) (e2_0:K.lookup a_0=some ⟨oc_0,od_0,.func (W.fnOf "_law_draws" "_law_draws" (defArgs zbN) (defBody zbN) (defScope zbN) .none kV_0 dc_0 pm_0 an_0 cd_0 ct_0),sl_0⟩) (e3_0:W.codeIn K cd_0 "_law_draws"=true) (e4_0:W.keepIn K (.ref a_0)=true)
  {oc_1 kV_1 dc_1 pm_1 cd_1 ct_1:Value}{od_1 an_1:Option Addr}{sl_1:Array (Option Value)}
  (e1_1:W.nsIn K mainGlobals "_law_divisor"=some (some (.ref a_1))) (e2_1:K.lookup a_1=some ⟨oc_1,od_1,.func (W.fnOf "_law_divisor" "_law_divisor" (defArgs zbl) (defBody zbl) (defScope zbl) .none kV_1 dc_1 pm_1 an_1 cd_1 ct_1),sl_1⟩) (e3_1:W.codeIn K cd_1 "_law_divisor"=true) (e4_1:W.keepIn K (.ref a_1)=true)
  {oc_2 kV_2 dc_2 pm_2 cd_2 ct_2:Value}{od_2 an_2:Option Addr}{sl_2:Array (Option Value)}
  (e1_2:W.nsIn K mainGlobals "_law_lowest"=some (some (.ref a_2))) (e2_2:K.lookup a_2=some ⟨oc_2,od_2,.func (W.fnOf "_law_lowest" "_law_lowest" (defArgs zbv) (defBody zbv) (defScope zbv) .none kV_2 dc_2 pm_2 an_2 cd_2 ct_2),sl_2⟩) (e3_2:W.codeIn K cd_2 "_law_lowest"=true) (e4_2:W.keepIn K (.ref a_2)=true)
  {oc_3 kV_3 dc_3 pm_3 cd_3 ct_3:Value}{od_3 an_3:Option Addr}{sl_3:Array (Option Value)}
  (e1_3:W.nsIn K mainGlobals "_law_fraction"=some (some (.ref a_3))) (e2_3:K.lookup a_3=some ⟨oc_3,od_3,.func (W.fnOf "_law_fraction" "_law_fraction" (defArgs za9) (defBody za9) (defScope za9) .none kV_3 dc_3 pm_3 an_3 cd_3 ct_3),sl_3⟩) (e3_3:W.codeIn K cd_3 "_law_fraction"=true) (e4_3:W.keepIn K (.ref a_3)=true)
  {oc_4 kV_4 dc_4 pm_4 cd_4 ct_4:Value}{od_4 an_4:Option Addr}{sl_4:Array (Option Value)}
  (e1_4:W.nsIn K mainGlobals "shown_ratio"=some (some (.ref a_4))) (e2_4:K.lookup a_4=some ⟨oc_4,od_4,.func (W.fnOf "shown_ratio" "shown_ratio" (defArgs zbs) (defBody zbs) (defScope zbs) .none kV_4 dc_4 pm_4 an_4 cd_4 ct_4),sl_4⟩) (e3_4:W.codeIn K cd_4 "shown_ratio"=true) (e4_4:W.keepIn K (.ref a_4)=true)
  {oc_5 kV_5 dc_5 pm_5 cd_5 ct_5:Value}{od_5 an_5:Option Addr}{sl_5:Array (Option Value)}
  (e1_5:W.nsIn K mainGlobals "_law_written"=some (some (.ref a_5))) (e2_5:K.lookup a_5=some ⟨oc_5,od_5,.func (W.fnOf "_law_written" "_law_written" (defArgs zbj) (defBody zbj) (defScope zbj) .none kV_5 dc_5 pm_5 an_5 cd_5 ct_5),sl_5⟩) (e3_5:W.codeIn K cd_5 "_law_written"=true) (e4_5:W.keepIn K (.ref a_5)=true)
  {oc_6 kV_6 dc_6 pm_6 cd_6 ct_6:Value}{od_6 an_6:Option Addr}{sl_6:Array (Option Value)}
  (e1_6:W.nsIn K mainGlobals "is_whole"=some (some (.ref a_6))) (e2_6:K.lookup a_6=some ⟨oc_6,od_6,.func (W.fnOf "is_whole" "is_whole" (defArgs zcm) (defBody zcm) (defScope zcm) .none kV_6 dc_6 pm_6 an_6 cd_6 ct_6),sl_6⟩) (e3_6:W.codeIn K cd_6 "is_whole"=true) (e4_6:W.keepIn K (.ref a_6)=true)
  {oc_7 kV_7 dc_7 pm_7 cd_7 ct_7:Value}{od_7 an_7:Option Addr}{sl_7:Array (Option Value)}
  (e1_7:W.nsIn K mainGlobals "common_divisor"=some (some (.ref a_7))) (e2_7:K.lookup a_7=some ⟨oc_7,od_7,.func (W.fnOf "common_divisor" "common_divisor" (defArgs za0) (defBody za0) (defScope za0) .none kV_7 dc_7 pm_7 an_7 cd_7 ct_7),sl_7⟩) (e3_7:W.codeIn K cd_7 "common_divisor"=true) (e4_7:W.keepIn K (.ref a_7)=true)
  {oc_8 kV_8 dc_8 pm_8 cd_8 ct_8:Value}{od_8 an_8:Option Addr}{sl_8:Array (Option Value)}
  (e1_8:W.nsIn K mainGlobals "ratio"=some (some (.ref a_8))) (e2_8:K.lookup a_8=some ⟨oc_8,od_8,.func (W.fnOf "ratio" "ratio" (defArgs zeS) (defBody zeS) (defScope zeS) .none kV_8 dc_8 pm_8 an_8 cd_8 ct_8),sl_8⟩) (e3_8:W.codeIn K cd_8 "ratio"=true) (e4_8:W.keepIn K (.ref a_8)=true)
  {oc_9 kV_9 dc_9 pm_9 cd_9 ct_9:Value}{od_9 an_9:Option Addr}{sl_9:Array (Option Value)}
  (e1_9:W.nsIn K mainGlobals "times"=some (some (.ref a_9))) (e2_9:K.lookup a_9=some ⟨oc_9,od_9,.func (W.fnOf "times" "times" (defArgs zeR) (defBody zeR) (defScope zeR) .none kV_9 dc_9 pm_9 an_9 cd_9 ct_9),sl_9⟩) (e3_9:W.codeIn K cd_9 "times"=true) (e4_9:W.keepIn K (.ref a_9)=true)
  {oc_10 kV_10 dc_10 pm_10 cd_10 ct_10:Value}{od_10 an_10:Option Addr}{sl_10:Array (Option Value)}
  (e1_10:W.nsIn K mainGlobals "_law_figures"=some (some (.ref a_10))) (e2_10:K.lookup a_10=some ⟨oc_10,od_10,.func (W.fnOf "_law_figures" "_law_figures" (defArgs zbk) (defBody zbk) (defScope zbk) .none kV_10 dc_10 pm_10 an_10 cd_10 ct_10),sl_10⟩) (e3_10:W.codeIn K cd_10 "_law_figures"=true) (e4_10:W.keepIn K (.ref a_10)=true)
  {oc_11 kV_11 dc_11 pm_11 cd_11 ct_11:Value}{od_11 an_11:Option Addr}{sl_11:Array (Option Value)}
  (e1_11:W.nsIn K mainGlobals "_law_number"=some (some (.ref a_11))) (e2_11:K.lookup a_11=some ⟨oc_11,od_11,.func (W.fnOf "_law_number" "_law_number" (defArgs zbu) (defBody zbu) (defScope zbu) .none kV_11 dc_11 pm_11 an_11 cd_11 ct_11),sl_11⟩) (e3_11:W.codeIn K cd_11 "_law_number"=true) (e4_11:W.keepIn K (.ref a_11)=true)
  {oc_12 kV_12 dc_12 pm_12 cd_12 ct_12:Value}{od_12 an_12:Option Addr}{sl_12:Array (Option Value)}
  (e1_12:W.nsIn K mainGlobals "has_figures"=some (some (.ref a_12))) (e2_12:K.lookup a_12=some ⟨oc_12,od_12,.func (W.fnOf "has_figures" "has_figures" (defArgs zbt) (defBody zbt) (defScope zbt) .none kV_12 dc_12 pm_12 an_12 cd_12 ct_12),sl_12⟩) (e3_12:W.codeIn K cd_12 "has_figures"=true) (e4_12:W.keepIn K (.ref a_12)=true)
  {oc_13 kV_13 dc_13 pm_13 cd_13 ct_13:Value}{od_13 an_13:Option Addr}{sl_13:Array (Option Value)}
  (e1_13:W.nsIn K mainGlobals "is_ratio"=some (some (.ref a_13))) (e2_13:K.lookup a_13=some ⟨oc_13,od_13,.func (W.fnOf "is_ratio" "is_ratio" (defArgs zcn) (defBody zcn) (defScope zcn) .none kV_13 dc_13 pm_13 an_13 cd_13 ct_13),sl_13⟩) (e3_13:W.codeIn K cd_13 "is_ratio"=true) (e4_13:W.keepIn K (.ref a_13)=true)
  {oc_14 kV_14 dc_14 pm_14 cd_14 ct_14:Value}{od_14 an_14:Option Addr}{sl_14:Array (Option Value)}
  (e1_14:W.nsIn K mainGlobals "read_ratio"=some (some (.ref a_14))) (e2_14:K.lookup a_14=some ⟨oc_14,od_14,.func (W.fnOf "read_ratio" "read_ratio" (defArgs zbJ) (defBody zbJ) (defScope zbJ) .none kV_14 dc_14 pm_14 an_14 cd_14 ct_14),sl_14⟩) (e3_14:W.codeIn K cd_14 "read_ratio"=true) (e4_14:W.keepIn K (.ref a_14)=true)
  {oc_15 kV_15 dc_15 pm_15 cd_15 ct_15:Value}{od_15 an_15:Option Addr}{sl_15:Array (Option Value)}
  (e1_15:W.nsIn K mainGlobals "_law_whole"=some (some (.ref a_15))) (e2_15:K.lookup a_15=some ⟨oc_15,od_15,.func (W.fnOf "_law_whole" "_law_whole" (defArgs zbK) (defBody zbK) (defScope zbK) .none kV_15 dc_15 pm_15 an_15 cd_15 ct_15),sl_15⟩) (e3_15:W.codeIn K cd_15 "_law_whole"=true) (e4_15:W.keepIn K (.ref a_15)=true)
  {oc_16 kV_16 dc_16 pm_16 cd_16 ct_16:Value}{od_16 an_16:Option Addr}{sl_16:Array (Option Value)}
  (e1_16:W.nsIn K mainGlobals "_law_right"=some (some (.ref a_16))) (e2_16:K.lookup a_16=some ⟨oc_16,od_16,.func (W.fnOf "_law_right" "_law_right" (defArgs zbL) (defBody zbL) (defScope zbL) .none kV_16 dc_16 pm_16 an_16 cd_16 ct_16),sl_16⟩) (e3_16:W.codeIn K cd_16 "_law_right"=true) (e4_16:W.keepIn K (.ref a_16)=true)
  {oc_17 kV_17 dc_17 pm_17 cd_17 ct_17:Value}{od_17 an_17:Option Addr}{sl_17:Array (Option Value)}
  (e1_17:W.nsIn K mainGlobals "_law_longer"=some (some (.ref a_17))) (e2_17:K.lookup a_17=some ⟨oc_17,od_17,.func (W.fnOf "_law_longer" "_law_longer" (defArgs zbw) (defBody zbw) (defScope zbw) .none kV_17 dc_17 pm_17 an_17 cd_17 ct_17),sl_17⟩) (e3_17:W.codeIn K cd_17 "_law_longer"=true) (e4_17:W.keepIn K (.ref a_17)=true)
  {oc_18 kV_18 dc_18 pm_18 cd_18 ct_18:Value}{od_18 an_18:Option Addr}{sl_18:Array (Option Value)}
  (e1_18:W.nsIn K mainGlobals "_law_bent"=some (some (.ref a_18))) (e2_18:K.lookup a_18=some ⟨oc_18,od_18,.func (W.fnOf "_law_bent" "_law_bent" (defArgs zbX) (defBody zbX) (defScope zbX) .none kV_18 dc_18 pm_18 an_18 cd_18 ct_18),sl_18⟩) (e3_18:W.codeIn K cd_18 "_law_bent"=true) (e4_18:W.keepIn K (.ref a_18)=true)
  {oc_19 kV_19 dc_19 pm_19 cd_19 ct_19:Value}{od_19 an_19:Option Addr}{sl_19:Array (Option Value)}
  (e1_19:W.nsIn K mainGlobals "_law_other"=some (some (.ref a_19))) (e2_19:K.lookup a_19=some ⟨oc_19,od_19,.func (W.fnOf "_law_other" "_law_other" (defArgs zbM) (defBody zbM) (defScope zbM) .none kV_19 dc_19 pm_19 an_19 cd_19 ct_19),sl_19⟩) (e3_19:W.codeIn K cd_19 "_law_other"=true) (e4_19:W.keepIn K (.ref a_19)=true)
  {oc_20 kV_20 dc_20 pm_20 cd_20 ct_20:Value}{od_20 an_20:Option Addr}{sl_20:Array (Option Value)}
  (e1_20:W.nsIn K mainGlobals "law"=some (some (.ref a_20))) (e2_20:K.lookup a_20=some ⟨oc_20,od_20,.func (W.fnOf "law" "law" (defArgs zfq) (defBody zfq) (defScope zfq) .none kV_20 dc_20 pm_20 an_20 cd_20 ct_20),sl_20⟩) (e3_20:W.codeIn K cd_20 "law"=true) (e4_20:W.keepIn K (.ref a_20)=true)
  (z_ValueError:W.nsIn K mainGlobals "ValueError"=some none)
  (z_abs:W.nsIn K mainGlobals "abs"=some none)
  (z_all:W.nsIn K mainGlobals "all"=some none)
  (z_bool:W.nsIn K mainGlobals "bool"=some none)
  (z_int:W.nsIn K mainGlobals "int"=some none)
  (z_isinstance:W.nsIn K mainGlobals "isinstance"=some none)
  (z_len:W.nsIn K mainGlobals "len"=some none)
  (z_max:W.nsIn K mainGlobals "max"=some none)
  (z_range:W.nsIn K mainGlobals "range"=some none)
  (z_str:W.nsIn K mainGlobals "str"=some none)
  (z_tuple:W.nsIn K mainGlobals "tuple"=some none)
  (zfa:W.nsIn K mainGlobals "CutError"=some (some (.ref zay))) (zig:W.typeIn K (.ref zay)=some (.type "type")) (zih:W.mroIn K zay (.type "object")=some true) (zii:W.subIn K (.ref zay) (.type "BaseException")=some true)
  (zdx:W.nsIn K mainGlobals "NoNumber"=some (some (.ref zam))) (ze8:W.typeIn K (.ref zam)=some (.type "type")) (ze9:W.mroIn K zam (.type "object")=some true) (zfc:W.subIn K (.ref zam) (.type "BaseException")=some true)
  (zeV:W.nsIn K mainGlobals "NoText"=some (some (.ref zal))) (zgs:W.typeIn K (.ref zal)=some (.type "type")) (zgt:W.mroIn K zal (.type "object")=some true) (zgw:W.subIn K (.ref zal) (.type "BaseException")=some true)
  (zgO:W.findIn K (.ref zam) "__class__"=some (some (.builtin "object.__class__"))) (zhQ:W.findIn K (.ref zam) "__getattribute__"=some (some (.builtin "BaseException.__getattribute__"))) (zhP:W.findIn K (.ref zam) "__getattr__"=some none) (zhH:W.subIn K (.ref zam) (.type "NoneType")=some false) (zhG:W.subIn K (.ref zam) (.type "bool")=some false) (zhF:W.subIn K (.ref zam) (.type "int")=some false) (zhE:W.subIn K (.ref zam) (.type "str")=some false) (zhD:W.subIn K (.ref zam) (.type "tuple")=some false) (zhC:W.subIn K (.ref zam) (.type "list")=some false) (zhB:W.subIn K (.ref zam) (.type "dict")=some false) (zhz:W.subIn K (.ref zam) (.type "ValueError")=some true) (zf9:W.subIn K (.ref zam) (.ref zam)=some true) (zhT:W.excIn K zam [.type "ValueError",.type "Exception",.type "BaseException",.type "object"] "ValueError.__new__"=true)
  (ziO:W.findIn K (.ref zal) "__class__"=some (some (.builtin "object.__class__"))) (zj9:W.findIn K (.ref zal) "__getattribute__"=some (some (.builtin "BaseException.__getattribute__"))) (zj8:W.findIn K (.ref zal) "__getattr__"=some none) (zj5:W.subIn K (.ref zal) (.type "NoneType")=some false) (zj4:W.subIn K (.ref zal) (.type "bool")=some false) (zj3:W.subIn K (.ref zal) (.type "int")=some false) (zj2:W.subIn K (.ref zal) (.type "str")=some false) (zj1:W.subIn K (.ref zal) (.type "tuple")=some false) (zj0:W.subIn K (.ref zal) (.type "list")=some false) (zjZ:W.subIn K (.ref zal) (.type "dict")=some false) (zjY:W.subIn K (.ref zal) (.type "ValueError")=some true) (zhJ:W.subIn K (.ref zal) (.ref zal)=some true)
  {zkm zkr zkB zki zgK zkD:Value}{zkl zkH:Option Addr}{zkd:Array (Option Value)}
  {zlv zla:Str}{zg7:Addr}{zmq zkW:List Value}{zlI zmr:Bool}{zk1:List Str}{zkF:Option Bool}{zl9 zl0:Option Addr}{zlD zlC zlB zlA zlz:Option Value}{zmk:Value}{zis:Array DictEntry}{zlZ:Nat}{zkY:Array (Option Value)}
  (zhM:K.lookup zal=some (excClassObj zlv zla zal zg7 zmq [.ref zay,.type "ValueError",.type "Exception",.type "BaseException",.type "object"] zlI zk1 zkW zmr zkF zl9 zlD zlC zlB zlA zlz "ValueError.__new__")) (zhL:K.lookup zg7=some ⟨zmk,zl0,.dict zis zlZ,zkY⟩) (zhN:zis.toList.all zqM=true) (zhA:W.nsIn K zg7 "__init__"=some (some (.ref zbC)))
  (zk9:W.isFn K (.ref zbC)=true) (zh6:K.lookup zbC=some ⟨zkm,zkl,.func (W.fnOf "__init__" "NoText.__init__" (defArgs zcR) (defBody zcR) (defScope zcR) .none zkr zkB zki zkH zgK zkD),zkd⟩) (zh5:W.codeIn K zgK "NoText.__init__"=true) (zh4:W.keepIn K (.ref zbC)=true)
  (zj6:W.findIn K (.ref zal) "__setattr__"=some (some (.builtin "object.__setattr__"))) (zj7:W.hasDictIn K zal=true) (zga:W.findIn K (.ref zal) "row"=some none)
  (ze6:W.excIn K zay [.type "ValueError",.type "Exception",.type "BaseException",.type "object"] "ValueError.__new__"=true) (zhK:W.readsIn K zay (.type "type")=true) (zhR:W.findCls K (.ref zay) (.type "type") "__init__"=some (.val (.builtin "ValueError.__init__"))) (zhI:W.specialIn K (.ref zay) "__getattribute__"=some (some (.builtin "type.__getattribute__")))
  (zbH:W.subIn K (.ref zam) (.ref zay)=some true)
  (zbZ:W.subIn K (.ref zam) (.ref zal)=some false)
  (zbY:W.subIn K (.ref zal) (.ref zay)=some true)
  (zcp:W.subIn K (.ref zal) (.ref zal)=some true)
  {zkT:Tok}(zkN:W.nsIn K mainGlobals "FIGURES"=some (some (.str "0123456789" zkT)))
  {zgb:Tok}(zf8:W.nsIn K mainGlobals "MOST_FIGURES"=some (some (.int 60 zgb))) :
  ∃ t:Adr,Txt K mg t/\t.zjk=a_20/\∃ kV doc pm an cdv ct,t.zkC=W.fnOf "law" "law" (defArgs zfq) (defBody zfq) (defScope zfq) .none kV doc pm an cdv ct:=by
 refine⟨⟨zbC,_,zay,zam,zal,a_0,_,a_1,_,a_2,_,a_3,_,a_4,_,a_5,_,a_6,_,a_7,_,a_8,_,a_9,_,a_10,_,a_11,_,a_12,_,a_13,_,a_14,_,a_15,_,a_16,_,a_17,_,a_18,_,a_19,_,a_20,_⟩,⟨zaz e2_0 e3_0 e4_0,?b_0,W.mg_of X G e1_0,zaz e2_1 e3_1 e4_1,?b_1,W.mg_of X G e1_1,zaz e2_2 e3_2 e4_2,?b_2,W.mg_of X G e1_2,zaz e2_3 e3_3 e4_3,?b_3,W.mg_of X G e1_3,zaz e2_4 e3_4 e4_4,?b_4,W.mg_of X G e1_4,zaz e2_5 e3_5 e4_5,?b_5,W.mg_of X G e1_5,zaz e2_6 e3_6 e4_6,?b_6,W.mg_of X G e1_6,zaz e2_7 e3_7 e4_7,?b_7,W.mg_of X G e1_7,zaz e2_8 e3_8 e4_8,?b_8,W.mg_of X G e1_8,zaz e2_9 e3_9 e4_9,?b_9,W.mg_of X G e1_9,zaz e2_10 e3_10 e4_10,?b_10,W.mg_of X G e1_10,zaz e2_11 e3_11 e4_11,?b_11,W.mg_of X G e1_11,zaz e2_12 e3_12 e4_12,?b_12,W.mg_of X G e1_12,zaz e2_13 e3_13 e4_13,?b_13,W.mg_of X G e1_13,zaz e2_14 e3_14 e4_14,?b_14,W.mg_of X G e1_14,zaz e2_15 e3_15 e4_15,?b_15,W.mg_of X G e1_15,zaz e2_16 e3_16 e4_16,?b_16,W.mg_of X G e1_16,zaz e2_17 e3_17 e4_17,?b_17,W.mg_of X G e1_17,zaz e2_18 e3_18 e4_18,?b_18,W.mg_of X G e1_18,zaz e2_19 e3_19 e4_19,?b_19,W.mg_of X G e1_19,zaz e2_20 e3_20 e4_20,?b_20,W.mg_of X G e1_20,W.mg_none_of X G z_ValueError,W.mg_none_of X G z_abs,W.mg_none_of X G z_all,W.mg_none_of X G z_bool,W.mg_none_of X G z_int,W.mg_none_of X G z_isinstance,W.mg_none_of X G z_len,W.mg_none_of X G z_max,W.mg_none_of X G z_range,W.mg_none_of X G z_str,W.mg_none_of X G z_tuple,W.mg_of X G zfa,⟨zfa,zig,zih,zii⟩,W.mg_of X G zdx,⟨zdx,ze8,ze9,zfc⟩,W.mg_of X G zeV,⟨zeV,zgs,zgt,zgw⟩,⟨⟨zdx,ze8,ze9,zfc⟩,zgO,zhQ,zhP,zhH,zhG,zhF,zhE,zhD,zhC,zhB,zhz,zf9,zhT⟩,⟨⟨zeV,zgs,zgt,zgw⟩,ziO,zj9,zj8,zj5,zj4,zj3,zj2,zj1,zj0,zjZ,zjY,zhJ⟩,zaz zh6 zh5 zh4,?zeJ,znM zhM zhL zhN zhA ze6,zpK (znM zhM zhL zhN zhA ze6) zj6 zj7 (znd zga (zoZ)),zk9,⟨zhK,zhR,zhI⟩,zbH,zbZ,zbY,zcp,?zf4,?zcI⟩,rfl,_,_,_,_,_,_,rfl⟩
 case zeJ=>exact(zaz (st:=zcR) zh6 zh5 zh4).binds fun _ _ _ _ _ _ us hl=>by obtain⟨_,_,rfl⟩:=ln2 hl;rfl
 case b_0=>exact(zaz (st:=zbN) e2_0 e3_0 e4_0).binds fun _ _ _ _ _ _ us hl=>by obtain⟨_,_,rfl⟩:=ln2 hl;rfl
 case b_1=>exact(zaz (st:=zbl) e2_1 e3_1 e4_1).binds fun _ _ _ _ _ _ us hl=>by obtain⟨_,_,rfl⟩:=ln2 hl;rfl
 case b_2=>exact(zaz (st:=zbv) e2_2 e3_2 e4_2).binds fun _ _ _ _ _ _ us hl=>by obtain⟨_,_,rfl⟩:=ln2 hl;rfl
 case b_3=>exact(zaz (st:=za9) e2_3 e3_3 e4_3).binds fun _ _ _ _ _ _ us hl=>by obtain⟨_,_,_,rfl⟩:=ln3 hl;rfl
 case b_4=>exact(zaz (st:=zbs) e2_4 e3_4 e4_4).binds fun _ _ _ _ _ _ us hl=>by obtain⟨_,rfl⟩:=ln1 hl;rfl
 case b_5=>exact(zaz (st:=zbj) e2_5 e3_5 e4_5).binds fun _ _ _ _ _ _ us hl=>by obtain⟨_,rfl⟩:=ln1 hl;rfl
 case b_6=>exact(zaz (st:=zcm) e2_6 e3_6 e4_6).binds fun _ _ _ _ _ _ us hl=>by obtain⟨_,rfl⟩:=ln1 hl;rfl
 case b_7=>exact(zaz (st:=za0) e2_7 e3_7 e4_7).binds fun _ _ _ _ _ _ us hl=>by obtain⟨_,_,rfl⟩:=ln2 hl;rfl
 case b_8=>exact(zaz (st:=zeS) e2_8 e3_8 e4_8).binds fun _ _ _ _ _ _ us hl=>by obtain⟨_,_,rfl⟩:=ln2 hl;rfl
 case b_9=>exact(zaz (st:=zeR) e2_9 e3_9 e4_9).binds fun _ _ _ _ _ _ us hl=>by obtain⟨_,_,rfl⟩:=ln2 hl;rfl
 case b_10=>exact(zaz (st:=zbk) e2_10 e3_10 e4_10).binds fun _ _ _ _ _ _ us hl=>by obtain⟨_,rfl⟩:=ln1 hl;rfl
 case b_11=>exact(zaz (st:=zbu) e2_11 e3_11 e4_11).binds fun _ _ _ _ _ _ us hl=>by obtain⟨_,rfl⟩:=ln1 hl;rfl
 case b_12=>exact(zaz (st:=zbt) e2_12 e3_12 e4_12).binds fun _ _ _ _ _ _ us hl=>by obtain⟨_,rfl⟩:=ln1 hl;rfl
 case b_13=>exact(zaz (st:=zcn) e2_13 e3_13 e4_13).binds fun _ _ _ _ _ _ us hl=>by obtain⟨_,rfl⟩:=ln1 hl;rfl
 case b_14=>exact(zaz (st:=zbJ) e2_14 e3_14 e4_14).binds fun _ _ _ _ _ _ us hl=>by obtain⟨_,rfl⟩:=ln1 hl;rfl
 case b_15=>exact(zaz (st:=zbK) e2_15 e3_15 e4_15).binds fun _ _ _ _ _ _ us hl=>by obtain⟨_,rfl⟩:=ln1 hl;rfl
 case b_16=>exact(zaz (st:=zbL) e2_16 e3_16 e4_16).binds fun _ _ _ _ _ _ us hl=>by obtain⟨_,rfl⟩:=ln1 hl;rfl
 case b_17=>exact(zaz (st:=zbw) e2_17 e3_17 e4_17).binds fun _ _ _ _ _ _ us hl=>by obtain⟨_,_,rfl⟩:=ln2 hl;rfl
 case b_18=>exact(zaz (st:=zbX) e2_18 e3_18 e4_18).binds fun _ _ _ _ _ _ us hl=>by obtain⟨_,_,_,_,rfl⟩:=ln4 hl;rfl
 case b_19=>exact(zaz (st:=zbM) e2_19 e3_19 e4_19).binds fun _ _ _ _ _ _ us hl=>by obtain⟨_,rfl⟩:=ln1 hl;rfl
 case b_20=>exact(zaz (st:=zfq) e2_20 e3_20 e4_20).binds fun _ _ _ _ _ _ us hl=>by obtain⟨_,rfl⟩:=ln1 hl;rfl
 case zf4=>exact zo1 (W.mg_of X G zkN)
 case zcI=>exact zo2 (W.mg_of X G zf8)
theorem txt_wr {K:W.Frag}{mg:Str->Option Value}{a:Addr}{R:Adr->Prop}(h:∃ t:Adr,Txt K mg t/\t.zjk=a/\R t):∃ t:Adr,Txt K mg t/\mg "law"=some (.ref t.zjk)/\R t:=h.elim fun t ⟨T,_,r⟩=>⟨t,T,T.zsx,r⟩
theorem zp2 (K:W.Frag)(H:Hp)(a:Addr)(ns:List Int)(hl:ns.length<=63)(hS:SqL K H a (ns.map V.int)):spD K 1 zlx [.ref a] H (fun v _=>v=.bl true) fun _ _ _=>False:=by
 refine⟨rfl,H,[.lst (ns.map D.int)],zaG.refl _,Reps.cons (Rep.lst_iff.mpr ⟨a,_,rfl,hS,Reps.ints ns⟩) Reps.nil,?_⟩
 rw[znf ns hl]
 exact fun v H' H₀' _ r=>Rep.bl_iff.mp r
end K74
namespace PySem.W.Fast
def tw16987115912121289274:=0
def tw4933027336331364883:=0
def tw3919690585805902984:=0
def tw8009350375747555667:=0
def tw5040664571854104015:=0
def tw15779027741800385129:=0
def tw4856679519450649465:=0
def tw13359426031784065801:=0
def tw5094933635565288763:=0
def tw12526070572086372886:=0
def tw6606959923583070869:=0
def tw18205142766099780898:=0
def tw11081255291910830748:=0
def tw15556878197070164382:=0
def tw1003191400111965215:=0
def tw13183318967135398615:=0
def tw4513347073459306031:=0
def tw10867736562074209525:=0
def tw13445164402149873707:=0
def tw5635962064180128894:=0
def tw439237027332934045:=0
def tw6481102382483494816:=0
end PySem.W.Fast
open PySem PySem.W PyProof.Rows
set_option maxRecDepth 100000 in
set_option maxHeartbeats 0 in
theorem PySem.Challenge.cw_farthestcut_k74_fractions_written_holds : PySem.Challenge.rw_farthestcut_k74_fractions_written.Holds := by
 w_on;o_law;k_head;(case hw=>w_witness2)
 k_fill
 refine L2.walk_ofK (l:=PySem.Challenge.rw_farthestcut_k74_fractions_written) (n:=63) (k:=6) (x:="_law_script") (CX:=L2.CX0) (sp:=fun K=>DL.spD K 1 K74.zlx) rfl (by decide) rfl ⟨rfl,by decide,by decide⟩ (fun w h Y=>W.kIn_of Y) ?F ?S ?C
 case S=>exact fun K H a ns hl _ hS=>K74.zp2 K H a ns hl hS
 case C=>exact fun _ _ _ _ h=>h
 case F =>
  intro w mg fa h KX G hmg
  have T:∃ t:K74.Adr,K74.Txt (L2.KOf KX) mg t/\mg "law"=some (.ref t.zjk)/\∃ kV doc pm an cdv ct,t.zkC=W.fnOf "law" "law" (L2.defArgs K74.zfq) (L2.defBody K74.zfq) (L2.defScope K74.zfq) .none kV doc pm an cdv ct:=by
   dsimp only[L2.KOf]
   refine' K74.txt_wr (K74.txt_mk KX G ?_ ?_ ?_ ?_ ?_ ?_ ?_ ?_ ?_ ?_ ?_ ?_ ?_ ?_ ?_ ?_ ?_ ?_ ?_ ?_ ?_ ?_ ?_ ?_ ?_ ?_ ?_ ?_ ?_ ?_ ?_ ?_ ?_ ?_ ?_ ?_ ?_ ?_ ?_ ?_ ?_ ?_ ?_ ?_ ?_ ?_ ?_ ?_ ?_ ?_ ?_ ?_ ?_ ?_ ?_ ?_ ?_ ?_ ?_ ?_ ?_ ?_ ?_ ?_ ?_ ?_ ?_ ?_ ?_ ?_ ?_ ?_ ?_ ?_ ?_ ?_ ?_ ?_ ?_ ?_ ?_ ?_ ?_ ?_ ?_ ?_ ?_ ?_ ?_ ?_ ?_ ?_ ?_ ?_ ?_ ?_ ?_ ?_ ?_ ?_ ?_ ?_ ?_ ?_ ?_ ?_ ?_ ?_ ?_ ?_ ?_ ?_ ?_ ?_ ?_ ?_ ?_ ?_ ?_ ?_ ?_ ?_ ?_ ?_ ?_ ?_ ?_ ?_ ?_ ?_ ?_ ?_ ?_ ?_ ?_ ?_ ?_ ?_ ?_ ?_ ?_ ?_ ?_ ?_ ?_ ?_ ?_ ?_ ?_ ?_ ?_ ?_ ?_)
   all_goals try first | k_is | k_exc | rfl
  obtain⟨t,T,e0,kV,doc,pm,an,cdv,ct,ed⟩:=T
  have e1:=hmg.symm.trans e0
  cases e1
  refine⟨t.zkC,fun s u=>?_,fun base kb nb=>K74.zqK T⟩
  rw[ed]
  exact .of_eq rfl
