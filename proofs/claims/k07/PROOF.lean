import PyProof.Rows.All
import Wide.All
import OpenK.AllK
import Wide.FinOn
import PyProof.EqAt
import PyProof.EqKinds
import PyProof.NeKinds
import PyProof.TupleCall
import PySem.Challenge.RW_farthestcut_k07_purses_and_takings
set_option Elab.async false
set_option linter.all false
set_option maxRecDepth 100000
set_option maxHeartbeats 4000000
namespace L2
open PySem PySem.Spec PyProof.Rows
abbrev Key:=Sum Int Str
def ztX:Key->Value->Bool
 | .inl k,v=>Value.isInt k v
 | .inr x,v=>Value.isStrOf x v
def zwx (w:World):Key->Int
 | .inl k=>hashInt k
 | .inr x=>hashStr w x
theorem zbX:∀ {k:Key}{v:Value},ztX k v=true->(∃ i t,k=Sum.inl i/\v=Value.int i t)∨(∃ x t,k=Sum.inr x/\v=Value.str x t)
 | .inl i,v,h=>by
  obtain⟨t,e⟩:=Value.isInt_shape (k:=i) (v:=v) h
  exact .inl ⟨i,t,rfl,e⟩
 | .inr x,v,h=>by
  obtain⟨t,e⟩:=Value.isStrOf_shape (x:=x) (v:=v) h
  exact .inr ⟨x,t,rfl,e⟩
theorem ztW (a b:Int):decide ((Sum.inl a:Key)=Sum.inl b)=(a==b):=by
 by_cases e:a=b
 ·subst e;simp
 ·have h:¬ (Sum.inl a:Key)=Sum.inl b:=fun q=>e (Sum.inl.inj q)
  rw[decide_eq_false h]
  exact(beq_eq_false_iff_ne.mpr e).symm
theorem ztT (a b:Str):decide ((Sum.inr a:Key)=Sum.inr b)=decide (a=b):=by
 by_cases e:a=b
 ·subst e;simp
 ·have h:¬ (Sum.inr a:Key)=Sum.inr b:=fun q=>e (Sum.inr.inj q)
  rw[decide_eq_false h,decide_eq_false e]
theorem ztV (a:Int)(b:Str):decide ((Sum.inl a:Key)=Sum.inr b)=false:=decide_eq_false (fun q=>nomatch q)
theorem ztU (a:Str)(b:Int):decide ((Sum.inr a:Key)=Sum.inl b)=false:=decide_eq_false (fun q=>nomatch q)
def zl4 (prog:Program)(w:World):PySem.KeyKind prog w Key where
 is:=ztX
 hash:=zwx w
 inj:=fun v a b ha hb=>by
  rcases zbX ha with⟨i,t,rfl,rfl⟩ | ⟨x,t,rfl,rfl⟩
  ·rcases zbX hb with⟨j,u,rfl,e⟩ | ⟨y,u,rfl,e⟩
   ·injection e with e1 _;rw[e1]
   ·exact nomatch e
  ·rcases zbX hb with⟨j,u,rfl,e⟩ | ⟨y,u,rfl,e⟩
   ·exact nomatch e
   ·injection e with e1 _;rw[e1]
 byValue:=fun k v h=>by
  rcases zbX h with⟨i,t,rfl,rfl⟩ | ⟨x,t,rfl,rfl⟩<;>rfl
 pyHash:=fun hv h=>by
  rcases zbX hv with⟨i,t,rfl,rfl⟩ | ⟨x,t,rfl,rfl⟩
  ·exact wpAny_pyHash_int h
  ·exact wpAny_pyHash_str h
 eqBool:=fun hu hv h=>by
  rcases zbX hu with⟨i,t,rfl,rfl⟩ | ⟨x,t,rfl,rfl⟩
  ·rcases zbX hv with⟨j,u,rfl,rfl⟩ | ⟨y,u,rfl,rfl⟩
   ·rw[ztW] at h;exact wpAny_eqBool_int h
   ·rw[ztV] at h;exact SeqAt.EqAt.int_str i t y u _ _ _ _ h
  ·rcases zbX hv with⟨j,u,rfl,rfl⟩ | ⟨y,u,rfl,rfl⟩
   ·rw[ztU] at h;exact SeqAt.EqAt.str_int x t j u _ _ _ _ h
   ·rw[ztT] at h;exact wpAny_eqBool_str h
 «strs»:=fun k x t v h=>by
  rcases zbX h with⟨i,u,rfl,e⟩ | ⟨y,u,rfl,e⟩
  ·exact nomatch e
  ·injection e with e1 _
   subst e1
   cases v<;>rfl
inductive V where
 | non | bl (b:Bool) | int (i:Int) | str (x:Str) | byt (b:Array UInt8) | flt (b:UInt64) | ref (a:Addr) | ty (n:String)
 deriving DecidableEq
def zcz:V->Value->Prop
 | .non,u=>u=Value.none
 | .bl b,u=>u=Value.bool b
 | .int i,u=>∃ t,u=Value.int i t
 | .str x,u=>∃ t,u=Value.str x t
 | .byt b,u=>∃ t,u=Value.bytes b t
 | .flt b,u=>∃ t,u=Value.float b t
 | .ref a,u=>u=Value.ref a
 | .ty n,u=>u=Value.type n
abbrev zb0:List V->List Value->Prop:=Paired zcz
theorem zb0.length {xs:List V}{us:List Value}(r:zb0 xs us):xs.length=us.length:=Paired.length r
theorem zb0.get:∀ {xs:List V}{us:List Value}{i:Nat}{x:V},zb0 xs us->xs[i]?=some x->∃ u,us[i]?=some u/\zcz x u
 | _,_,_,_,.nil,e=>by simp at e
 | _,_,0,_,.cons r _,e=>by simp at e;subst e;exact⟨_,rfl,r⟩
 | _,_,i+1,x,.cons _ t,e=>by
  obtain⟨u,h1,h2⟩:=zb0.get (i:=i) (x:=x) t (by simpa using e)
  exact⟨u,by simpa using h1,h2⟩
theorem zb0.append:∀ {xs ys:List V}{us ws:List Value},zb0 xs us->zb0 ys ws->zb0 (xs++ys) (us++ws)
 | _,_,_,_,.nil,s=>s
 | _,_,_,_,.cons r t,s=>.cons r (zb0.append t s)
theorem zb0.take:∀ {xs:List V}{us:List Value}(n:Nat),zb0 xs us->zb0 (xs.take n) (us.take n)
 | _,_,0,_=>.nil
 | _,_,_+1,.nil=>.nil
 | _,_,n+1,.cons r t=>.cons r (zb0.take n t)
theorem zb0.drop:∀ {xs:List V}{us:List Value}(n:Nat),zb0 xs us->zb0 (xs.drop n) (us.drop n)
 | _,_,0,r=>r
 | _,_,_+1,.nil=>.nil
 | _,_,n+1,.cons _ t=>zb0.drop n t
def zun:Option V->Option Value->Prop
 | some v,some u=>zcz v u
 | none,none=>True
 | _,_=>False
def KV {κ:Type}:List (κ×V)->List (κ×Value)->Prop:=Paired fun(p:κ×V) (q:κ×Value)=>p.1=q.1/\zcz p.2 q.2
def kV:Key->V
 | .inl i=>.int i
 | .inr x=>.str x
inductive HO where
 | lst (xs:List V)
 | tup (xs:List V)
 | dK (kvs:List (Key×V)) | dT (kvs:List (List Key×V))
 | set (S:Int->Bool) (n:Nat)
 | ins (C dx:Addr) (fs:List (Str×V))
 | own (x:Addr)
 | xd (fs:List (Str×V))
 | met (f x:Addr)
 | rng (lo hi:Int)
 | frz (o:Obj) (u:HO)
 | tbl (ps:Array Value)
 | ext (φ:Heap->Prop)
abbrev Hp:=Addr->Option HO
def upd (H:Hp)(a:Addr)(o:HO):Hp:=fun b=>if b=a then some o else H b
theorem zas {H:Hp}{a:Addr}{o:HO}:upd H a o a=some o:=by unfold upd;rw[if_pos rfl]
theorem zat {H:Hp}{a b:Addr}{o:HO}(h:b≠a):upd H a o b=H b:=by unfold upd;rw[if_neg h]
theorem zaN {H:Hp}{a b:Addr}{o:HO}(h:H a=some o)(h':H b=none):a≠b:=by
 intro e;subst e;rw[h] at h';cases h'
section
variable (P:Program) (w:World)
def zcj (H:Hp)(h:Heap)(a:Addr):HO->Prop
 | .lst xs=>xs.length<=sizeLine/\∃ (its:List Value) (n:Nat),zb0 xs its/\h.get? a=some { cls:=.type "list",data:=.seq its.toArray n }
 | .tup xs=>xs.length<=sizeLine/\∃ its:List Value,zb0 xs its/\IsTup h a its.toArray
 | .dK kvs=>kvs.length<=sizeLine/\(a==sysModules)=false/\∃ vs,KV kvs vs/\h.DictOf (zl4 P w) a vs
 | .dT kvs=>kvs.length<=sizeLine/\(a==sysModules)=false/\∃ xs:List (List Key×Addr×Value),
   Paired (fun(p:List Key×V) (q:List Key×Addr×Value)=>p.1=q.1/\H q.2.1=some (.tup (p.1.map kV))/\zcz p.2 q.2.2) kvs xs /\
   ∃ o es ep,h.get? a=some o/\o.ExactDict/\o.data=.dict es ep/\es.toList=xs.map (entryOfKey (tupleKind (zl4 P w)))/\(xs.map (·.1)).Nodup
 | .set S n=>h.SetOf (intKind P w) a S n
 | .ins C dx fs=>H dx=some (.own a)/\fs.length<=1000/\dx≠a/\h.get? a=some (W.instObj C dx) /\
   ∃ mA,h.Ns1 dx mA/\(∀ f,zun (fs.lookup f) (mA f))/\PySem.Within mA (fs.map (·.1))
 | .own _=>∃ o,h.get? a=some o
 | .xd fs=>∃ mA,h.Ns1 a mA/\∀ f,zun (fs.lookup f) (mA f)
 | .rng lo hi=>∃ t u v,h.get? a=some { cls:=.type "range",data:=.fields #[.int lo t,.int hi u,.int 1 v] }
 | .frz o u=>h.get? a=some o/\zcj H h a u
 | .tbl ps=>h.get? a=some { cls:=.none,data:=.fields ps }
 | .met f x=>h.get? a=some (W.methodObj (.ref f) (.ref x))
 | .ext φ=>φ h/\(∃ o,h.get? a=some o)/\∀ h1 h2:Heap,φ h1->(∀ o,h1.get? a=some o->h2.get? a=some o)->φ h2
def HOk (H:Hp)(h:Heap):Prop:=∀ a o,H a=some o->zcj P w H h a o
end
section
variable {P:Program}{w:World}{H H':Hp}{h h':Heap}{a:Addr}{o:HO}
theorem zcj.lt (x:zcj P w H h a o):a < h.objs.size:=by
 cases o with
 | lst xs=>obtain⟨_,_,_,_,e⟩:=x;exact Heap.lt_size e
 | tup xs=>obtain⟨_,_,_,p⟩:=x;exact p.lt
 | dK kvs=>obtain⟨_,_,_,_,o,_,_,e,_⟩:=x;exact Heap.lt_size e
 | dT kvs=>obtain⟨_,_,_,_,o,_,_,e,_⟩:=x;exact Heap.lt_size e
 | set S n=>obtain⟨o,_,_,_,e,_⟩:=x;exact Heap.lt_size e
 | ins C dx fs=>obtain⟨_,_,_,e,_⟩:=x;exact Heap.lt_size e
 | own y=>obtain⟨_,e⟩:=x;exact Heap.lt_size e
 | xd fs=>obtain⟨_,⟨_,_,_,e,_⟩,_⟩:=x;exact Heap.lt_size e
 | rng lo hi=>obtain⟨_,_,_,e⟩:=x;exact Heap.lt_size e
 | frz ob u=>obtain⟨e,_⟩:=x;exact Heap.lt_size e
 | tbl ps=>exact Heap.lt_size (show h.get? a=some _ from x)
 | met f y=>exact Heap.lt_size (show h.get? a=some _ from x)
 | ext φ=>obtain⟨_,⟨_,e⟩,_⟩:=x;exact Heap.lt_size e
theorem Paired.mapP {α β:Type}{F G:α->β->Prop}:∀ {l₁:List α}{l₂:List β},Paired F l₁ l₂->(∀ a b,F a b->G a b)->Paired G l₁ l₂
 | _,_,.nil,_=>.nil
 | _,_,.cons r t,f=>.cons (f _ _ r) (Paired.mapP t f)
theorem zcj.stay (x:zcj P w H h a o)(k:∀ b u,(b=a∨H b=some (.own a))->h.get? b=some u->h'.get? b=some u)
  (ho:∀ b,H b=some (.own a)->H' b=some (.own a))(ht:∀ b xs,H b=some (.tup xs)->H' b=some (.tup xs)):zcj P w H' h' a o:=by
 induction o with
 | lst xs=>obtain⟨z,its,n,r,e⟩:=x;exact⟨z,its,n,r,k _ _ (.inl rfl) e⟩
 | tup xs=>obtain⟨z,its,r,ob,e,c⟩:=x;exact⟨z,its,r,ob,k _ _ (.inl rfl) e,c⟩
 | dK kvs=>obtain⟨z,y,vs,r,ob,es,ep,e,c⟩:=x;exact⟨z,y,vs,r,ob,es,ep,k _ _ (.inl rfl) e,c⟩
 | dT kvs =>
  obtain⟨z,y,xs,r,ob,es,ep,e,c⟩:=x
  exact⟨z,y,xs,Paired.mapP r fun p q z=>⟨z.1,ht _ _ z.2.1,z.2.2⟩,ob,es,ep,k _ _ (.inl rfl) e,c⟩
 | set S n=>obtain⟨ob,es,ep,t,e,c⟩:=x;exact⟨ob,es,ep,t,k _ _ (.inl rfl) e,c⟩
 | ins C dx fs =>
  obtain⟨d,z,ne,e,mA,⟨od,es,ep,e2,c⟩,r⟩:=x
  exact⟨ho _ d,z,ne,k _ _ (.inl rfl) e,mA,⟨od,es,ep,k _ _ (.inr d) e2,c⟩,r⟩
 | own y=>obtain⟨ob,e⟩:=x;exact⟨ob,k _ _ (.inl rfl) e⟩
 | xd fs=>obtain⟨mA,⟨od,es,ep,e,c⟩,r⟩:=x;exact⟨mA,⟨od,es,ep,k _ _ (.inl rfl) e,c⟩,r⟩
 | rng lo hi=>obtain⟨t,u,v,e⟩:=x;exact⟨t,u,v,k _ _ (.inl rfl) e⟩
 | frz ob u ih=>obtain⟨e,q⟩:=x;exact⟨k _ _ (.inl rfl) e,ih q⟩
 | tbl ps =>
  have e:h.get? a=some { cls:=.none,data:=.fields ps }:=x
  show h'.get? a=some { cls:=.none,data:=.fields ps }
  exact k a _ (.inl rfl) e
 | met f y =>
  have e:h.get? a=some (W.methodObj (.ref f) (.ref y)):=x
  show h'.get? a=some (W.methodObj (.ref f) (.ref y))
  exact k a _ (.inl rfl) e
 | ext φ=>obtain⟨p,⟨o,e⟩,st⟩:=x;exact⟨st _ _ p fun o q=>k _ _ (.inl rfl) q,⟨o,k _ _ (.inl rfl) e⟩,st⟩
theorem HOk.lt (x:HOk P w H h)(e:H a=some o):a < h.objs.size:=(x a o e).lt
theorem HOk.fresh (x:HOk P w H h)(e:h.objs.size<=a):H a=none:=by
 cases q:H a with
 | none=>rfl
 | some u=>exact absurd (Nat.lt_of_lt_of_le (x.lt q) e) (Nat.lt_irrefl _)
theorem HOk.kept (x:HOk P w H h)(k:∀ b u,h.get? b=some u->h'.get? b=some u):HOk P w H h':=fun a o e =>
 (x a o e).stay (fun b u _ q=>k b u q) (fun _ q=>q) fun _ _ q=>q
theorem HOk.laid (x:HOk P w H h)(k:∀ b u,h.get? b=some u->h'.get? b=some u)(hp:h.objs.size<=a)(new:zcj P w (upd H a o) h' a o):HOk P w (upd H a o) h':=fun b u e=>by
 have hn:=x.fresh hp
 by_cases hb:b=a
 ·subst hb;rw[zas] at e;cases e;exact new
 ·rw[zat hb] at e
  exact(x b u e).stay (fun c v _ q=>k c v q) (fun c q=>by rw[zat (zaN q hn)];exact q) fun c xs q=>by rw[zat (zaN q hn)];exact q
end
def Rd (H:Hp)(a:Addr)(u:HO):Prop:=H a=some u∨∃ o,H a=some (.frz o u)
theorem Rd.ok {P:Program}{w:World}{H:Hp}{h:Heap}{a:Addr}{u:HO}(r:Rd H a u)(x:HOk P w H h):zcj P w H h a u:=by
 rcases r with r | ⟨o,r⟩
 ·exact x a u r
 ·obtain⟨_,q⟩:=x a _ r
  exact q
def Mut:Option HO->Prop
 | some (.lst _)=>True
 | some (.dK _)=>True
 | some (.dT _)=>True
 | some (.set _ _)=>True
 | some (.ins _ _ _)=>True
 | some (.ext _)=>True
 | _=>False
section
variable {P:Program}{w:World}{H:Hp}{h h':Heap}{x e:Addr}{o':HO}
theorem HOk.write (ok:HOk P w H h)(mu:Mut (H x))(he:e=x∨H e=some (.own x))(k:∀ b u,b≠e->h.get? b=some u->h'.get? b=some u)(heo:∃ u,h'.get? e=some u)
  (new:zcj P w (upd H x o') h' x o'):HOk P w (upd H x o') h':=fun b u q=>by
 have nown:∀ c y,H c=some (.own y)->c≠x:=fun c y r z=>by subst z;rw[r] at mu;exact mu
 have ntup:∀ c xs,H c=some (.tup xs)->c≠x:=fun c xs r z=>by subst z;rw[r] at mu;exact mu
 by_cases hb:b=x
 ·subst hb;rw[zas] at q;cases q;exact new
 ·rw[zat hb] at q
  by_cases hbe:b=e
  ·have q':H b=some (.own x):=by
    rcases he with z | z
    ·exact absurd (hbe.trans z) hb
    ·rw[hbe];exact z
   rw[q] at q';cases q'
   obtain⟨v,hv⟩:=heo
   exact⟨v,by rw[hbe];exact hv⟩
  ·refine(ok b u q).stay (fun c v hc r=>k c v ?_ r) (fun c r=>by rw[zat (nown c b r)];exact r) fun c xs r=>by rw[zat (ntup c xs r)];exact r
   rcases hc with rfl | hc
   ·exact hbe
   ·rintro rfl
    rcases he with z | z
    ·exact nown c b hc z
    ·rw[hc] at z;cases z;exact hb rfl
end
structure Un (fs ex:List Addr) (H H':Hp) (h h':Heap):Prop where
 keep:∀ b o,h.get? b=some o->H b=none->b∉fs->b∉ex->h'.get? b=some o
 slot:∀ b o,h.get? b=some o->H b=none->b∈fs->b∉ex->∃ sl,h'.get? b=some { o with slots:=sl }
 free:∀ b o,h.get? b=some o->H b=none->b∉ex->H' b=none
 there:∀ b o,h.get? b=some o->b∉ex->∃ o',h'.get? b=some o'
 tups:∀ b xs,H b=some (.tup xs)->H' b=some (.tup xs)
 frzs:∀ b o u,H b=some (.frz o u)->H' b=some (.frz o u)
 tbls:∀ b ps,H b=some (.tbl ps)->∃ more,H' b=some (.tbl (ps++more))
section
variable {fs fs' ex ex':List Addr}{H H1 H2:Hp}{h h1 h2 h':Heap}{a x e:Addr}{o:HO}
theorem Un.any (u:Un fs ex H H1 h h1){b:Addr}{ob:Obj}(q:h.get? b=some ob)(n:H b=none)(hx:b∉ex):∃ sl,h1.get? b=some { ob with slots:=sl }:=by
 by_cases hb:b∈fs
 ·exact u.slot b ob q n hb hx
 ·exact⟨ob.slots,u.keep b ob q n hb hx⟩
theorem Un.trans (a:Un fs ex H H1 h h1)(b:Un fs ex H1 H2 h1 h2):Un fs ex H H2 h h2 where
 keep:=fun c ob q n hc hx=>b.keep c ob (a.keep c ob q n hc hx) (a.free c ob q n hx) hc hx
 slot:=fun c ob q n hc hx=>by
  obtain⟨sl,e1⟩:=a.slot c ob q n hc hx
  obtain⟨sl',e2⟩:=b.slot c _ e1 (a.free c ob q n hx) hc hx
  exact⟨sl',e2⟩
 free:=fun c ob q n hx=>by
  obtain⟨o',e1⟩:=a.there c ob q hx
  exact b.free c o' e1 (a.free c ob q n hx) hx
 there:=fun c ob q hx=>by
  obtain⟨o',e1⟩:=a.there c ob q hx
  exact b.there c o' e1 hx
 tups:=fun c xs q=>b.tups c xs (a.tups c xs q)
 frzs:=fun c ob xs q=>b.frzs c ob xs (a.frzs c ob xs q)
 tbls:=fun c ps q=>by
  obtain⟨m1,e1⟩:=a.tbls c ps q
  obtain⟨m2,e2⟩:=b.tbls c _ e1
  exact⟨m1++m2,by rw[e2,Array.append_assoc]⟩
theorem Un.kept (k:∀ b u,h.get? b=some u->h'.get? b=some u):Un fs ex H H h h' :=
 ⟨fun b ob q _ _ _=>k b ob q,fun b ob q _ _ _=>⟨ob.slots,k b ob q⟩,fun _ _ _ n _=>n,fun b ob q _=>⟨ob,k b ob q⟩,fun _ _ q=>q,fun _ _ _ q=>q,fun _ ps q=>⟨#[],by rw[q];simp⟩⟩
theorem Un.refl:Un fs ex H H h h:=Un.kept fun _ _ q=>q
theorem Un.laid (k:∀ b u,h.get? b=some u->h'.get? b=some u)(hp:h.objs.size<=a)(hn:H a=none):Un fs ex H (upd H a o) h h' where
 keep:=fun b u q _ _ _=>k b u q
 slot:=fun b u q _ _ _=>⟨u.slots,k b u q⟩
 free:=fun b u q n _=>by rw[zat (Nat.ne_of_lt (Nat.lt_of_lt_of_le (Heap.lt_size q) hp))];exact n
 there:=fun b u q _=>⟨u,k b u q⟩
 tups:=fun b xs q=>by rw[zat (zaN q hn)];exact q
 frzs:=fun b u xs q=>by rw[zat (zaN q hn)];exact q
 tbls:=fun b ps q=>⟨#[],by rw[zat (zaN q hn),q];simp⟩
theorem Un.write (mu:Mut (H x))(he:e=x∨H e=some (.own x))(k:∀ b u,b≠e->h.get? b=some u->h'.get? b=some u)(heo:∃ u,h'.get? e=some u):Un fs ex H (upd H x o) h h':=by
 have hx:∀ b,H b=none->b≠x:=fun b n z=>by subst z;rw[n] at mu;exact mu
 have hb:∀ b,H b=none->b≠e:=fun b n z=>by
  subst z
  rcases he with r | r
  ·exact hx b n r
  ·rw[n] at r;cases r
 have hm:∀ b u,H b=some u->¬ Mut (some u)->b≠x:=fun b u q nm z=>by subst z;rw[q] at mu;exact nm mu
 refine⟨fun b u q n _ _=>k b u (hb b n) q,fun b u q n _ _=>⟨u.slots,k b u (hb b n) q⟩,fun b u q n _=>by rw[zat (hx b n)];exact n,fun b u q _=>?_,
  fun b xs q=>by rw[zat (hm b _ q fun z=>z)];exact q,fun b u xs q=>by rw[zat (hm b _ q fun z=>z)];exact q,fun b ps q=>⟨#[],by rw[zat (hm b _ q fun z=>z),q];simp⟩⟩
 by_cases hbe:b=e
 ·subst hbe;exact heo
 ·exact⟨u,k b u hbe q⟩
end
def trk (h:Heap)(H:Hp):List Addr:=(List.range h.objs.size).filter fun a=>(H a).isSome
def zqp (h:Heap)(H:Hp):Heap:=W.hideAll h (trk h H)
theorem zoO (h:Heap)(H:Hp):(zqp h H).objs.size=h.objs.size:=W.hideAll_size _ _
theorem zqo {h:Heap}{H:Hp}{b:Addr}{o:Obj}(e:h.get? b=some o)(n:H b=none):(zqp h H).get? b=some o :=
 W.hideAll_get _ e fun hm=>by
  have q:(H b).isSome=true:=(List.mem_filter.mp hm).2
  rw[n] at q;simp at q
theorem zr4 {h:Heap}{H:Hp}{b:Addr}{o:Obj}(e:(zqp h H).get? b=some o):h.get? b=some o/\H b=none:=by
 have e':h.get? b=some o:=W.of_hideAll (trk h H) e
 refine⟨e',?_⟩
 cases q:H b with
 | none=>rfl
 | some x =>
  have hm:b∈trk h H:=List.mem_filter.mpr ⟨List.mem_range.mpr (Heap.lt_size e'),by simp [q]⟩
  have z:(zqp h H).get? b=none:=W.hideAll_none (trk h H) hm
  rw[z] at e;cases e
structure Mod (K:W.Frag) (mg:Str->Option Value) (base:Heap):Prop where
 kin:K.In base
 glob:base.Ns mainGlobals mg
 blt:∃ mb,base.Ns builtinsNs mb/\∀ x:Str,x≠"__name__"->mb x=bootBuiltins x
 nolimit:base.NoLimit
structure Cx where
 prog:Program
 w:World
 K:W.Frag
 mg:Str->Option Value
 base:Heap
 A:Around
 N:List Str
 s₀:Shared
 H₀:Hp
 env:Env
 outer:List Env
 stack:List Env
 ex:List Addr
 fn:Str->Bool
 calm:Bool
 pn:List (Addr×Obj)
 xe:Value->Shared->Prop
def frs (l:List Env):List Addr:=l.filterMap (·.frame)
abbrev Cx.fs (X:Cx):List Addr:=frs X.outer
def Vis (sc:Scope)(x:Str):Prop:=sc.names.lookup x=some .local ∨ sc.names.lookup x=some .cell∨sc.names.lookup x=some .free
def Loc (sc:Scope)(x:Str):Prop:=sc.names.lookup x=some .local ∨ sc.names.lookup x=some .cell
def zv6 (env:Env)(h:Heap)(m:Str->Option Value)(x:Str)(u:Value):Prop :=
 (env.kindOf x=some .local /\ m x=some u)∨((env.kindOf x=some .cell∨env.kindOf x=some .free)/\∃ c,env.cells.lookup x=some c/\h.IsCell c (some u))
structure Cx.Ok (X:Cx):Prop where
 mod:Mod X.K X.mg X.base
 kind:X.env.scope.kind=.function
 glob:X.env.globals=mainGlobals
 blt:X.env.builtins=builtinsNs
 above:X.s₀.heap.objs.size<=X.env.locals
 inj:∀ x y c,X.env.cells.lookup x=some c->X.env.cells.lookup y=some c->x=y
 has:∀ x,(X.env.kindOf x=some .cell∨X.env.kindOf x=some .free)->∃ c,X.env.cells.lookup x=some c
 cab:∀ x c,X.fn x=true->X.env.cells.lookup x=some c->X.s₀.heap.objs.size<=c
 hd:X.calm=true->X.A.handled=none
 frames:X.A.frames=some X.stack
 stk:X.stack=X.outer∨(X.stack=X.env::X.outer/\X.env.frame=some X.env.locals)
 exf:∀ b∈X.ex,b≠X.env.locals/\∀ x c,X.env.cells.lookup x=some c->c≠b
 bs:∀ b o,X.base.get? b=some o->X.s₀.heap.get? b=some o/\X.H₀ b=none
 bsz:X.base.objs.size<=X.s₀.heap.objs.size
 noex:∀ b o,X.base.get? b=some o->b∉X.ex
 exfs:∀ b∈X.ex,b∉X.fs
 funs:X.s₀.heap.FunFrames X.base X.outer
 frf:∀ b∈X.fs,X.H₀ b=none
structure Inv (X:Cx) (pins:List (Addr×Obj)) (σ:List (Option V)) (H:Hp) (s:Shared):Prop where
 ok:X.Ok
 os:s.os=X.s₀.os
 bare:AllBare s.gens
 base:Un X.fs X.ex X.H₀ H X.s₀.heap s.heap
 loc:∃ m,s.heap.Ns X.env.locals m/\∀ (i:Nat) (x:Str) (v:V),X.N[i]?=some x->σ[i]?=some (some v)->Vis X.env.scope x->∃ u,zcz v u/\zv6 X.env s.heap m x u
 cell:∀ x c,X.env.cells.lookup x=some c->∃ v,s.heap.IsCell c v
 free:H X.env.locals=none
 freeC:∀ x c,X.env.cells.lookup x=some c->H c=none
 pin:∀ p∈X.pn++pins,s.heap.get? p.1=some p.2/\H p.1=none/\p.1≠X.env.locals/\p.1∉X.fs/\∀ v,p.2.data≠.cell v
 hok:HOk X.prog X.w H s.heap
 len:σ.length=X.N.length
section
variable {X:Cx}{pins:List (Addr×Obj)}{σ:List (Option V)}{H H':Hp}{s:Shared}{h':Heap}
theorem Cx.Ok.nofr (ok:X.Ok){b:Addr}{o:Obj}(e:X.base.get? b=some o):b∉X.fs:=fun hb=>by
 have:=(ok.funs.mem hb).1
 rw[e] at this;cases this
theorem Inv.bs (I:Inv X pins σ H s):∀ b o,X.base.get? b=some o->s.heap.get? b=some o/\H b=none:=fun b o e =>
 ⟨I.base.keep b o (I.ok.bs b o e).1 (I.ok.bs b o e).2 (I.ok.nofr e) (I.ok.noex b o e),I.base.free b o (I.ok.bs b o e).1 (I.ok.bs b o e).2 (I.ok.noex b o e)⟩
theorem Inv.bk (I:Inv X pins σ H s):∀ b o,X.base.get? b=some o->s.heap.get? b=some o:=fun b o e=>(I.bs b o e).1
theorem Inv.mod (I:Inv X pins σ H s):Mod X.K X.mg X.base:=I.ok.mod
theorem Inv.kIn (I:Inv X pins σ H s):X.K.In s.heap:=I.ok.mod.kin.keeps I.bk
theorem Inv.lt (I:Inv X pins σ H s):X.env.locals < s.heap.objs.size:=let ⟨_,hn,_⟩:=I.loc;hn.lt
theorem Inv.sz (I:Inv X pins σ H s):X.s₀.heap.objs.size<=s.heap.objs.size:=Nat.le_trans I.ok.above (Nat.le_of_lt I.lt)
theorem Inv.nofs (I:Inv X pins σ H s){a:Addr}(h:s.heap.objs.size<=a):a∉X.fs:=fun hb=>by
 obtain⟨_,o,ho,_⟩:=I.ok.funs.mem hb
 exact absurd (Nat.lt_of_lt_of_le (Heap.lt_size ho) (Nat.le_trans I.sz h)) (Nat.lt_irrefl _)
theorem Inv.cne (I:Inv X pins σ H s):∀ x c,X.env.cells.lookup x=some c->c≠X.env.locals:=fun x c e z=>by
 obtain⟨v,o,ho,hd⟩:=I.cell x c e
 obtain⟨m,⟨o',es,ep,ho',hd',_⟩,_⟩:=I.loc
 rw[z,ho'] at ho;cases ho;rw[hd'] at hd;cases hd
theorem Inv.funs (I:Inv X pins σ H s):s.heap.FunFrames X.base X.outer:=by
 have all:∀ (l:List Env),(∀ b∈frs l,b∈X.fs)->X.s₀.heap.FunFrames X.base l->s.heap.FunFrames X.base l:=by
  intro l
  induction l with
  | nil=>intro _ _;trivial
  | cons env r ih =>
   intro hs hl
   obtain⟨hk,⟨L,o,hf,hn,ho,hd⟩,hr⟩:=hl
   have hL:L∈X.fs:=hs L (by unfold frs;rw[List.filterMap_cons,hf];exact List.mem_cons_self)
   obtain⟨sl,e⟩:=I.base.slot L o ho (I.ok.frf L hL) hL fun z=>I.ok.exfs L z hL
   exact⟨hk,⟨L,_,hf,hn,e,hd⟩,ih (fun b hb=>hs b (by unfold frs;rw[List.filterMap_cons,hf];exact List.mem_cons_of_mem _ hb)) hr⟩
 exact all X.outer (fun _ hb=>hb) I.ok.funs
theorem Inv.stack (I:Inv X pins σ H s):s.heap.FunFrames X.base X.stack:=by
 rcases I.ok.stk with e | ⟨e,hf⟩
 ·rw[e];exact I.funs
 ·rw[e]
  obtain⟨m,hn,_⟩:=I.loc
  refine .cons (by rw[I.ok.kind];decide) hf hn ?_ I.funs
  exact Heap.get?_none_of_le (Nat.le_trans I.ok.bsz I.ok.above)
theorem Inv.stkSub (I:Inv X pins σ H s):∀ b∈frs X.stack,b∈X.env.locals::X.fs:=fun b hb=>by
 rcases I.ok.stk with e | ⟨e,hf⟩
 ·rw[e] at hb;exact List.mem_cons_of_mem _ hb
 ·rw[e] at hb
  unfold frs at hb
  rw[List.filterMap_cons,hf] at hb
  exact hb
theorem Inv.stkFree (I:Inv X pins σ H s):∀ b∈frs X.stack,H b=none:=fun b hb=>by
 rcases List.mem_cons.mp (I.stkSub b hb) with e | hb
 ·rw[e];exact I.free
 ·obtain⟨_,o,ho,_⟩:=I.ok.funs.mem hb
  exact I.base.free b o ho (I.ok.frf b hb) fun z=>I.ok.exfs b z hb
theorem Inv.step {g':Array GenState}{t':Nat}{d':Drawn}{ch:List Addr}(I:Inv X pins σ H s)
  (hch:∀ b∈ch,(b∈X.ex∨X.s₀.heap.objs.size<=b)/\b≠X.env.locals/\(∀ x c,X.env.cells.lookup x=some c->c≠b)/\∀ p∈X.pn++pins,p.1≠b)
  (keep:∀ b o,b≠X.env.locals->b∉X.fs->b∉ch->s.heap.get? b=some o->H b=none->h'.get? b=some o)
  (slot:∀ b o,b≠X.env.locals->b∈X.fs->b∉ch->s.heap.get? b=some o->H b=none->∃ sl,h'.get? b=some { o with slots:=sl })(free:∀ b o,b∉ch->s.heap.get? b=some o->H b=none->H' b=none)
  (there:∀ b o,b∉ch->s.heap.get? b=some o->∃ o',h'.get? b=some o')
  (tups:∀ b xs,H b=some (.tup xs)->H' b=some (.tup xs))(frzs:∀ b o u,H b=some (.frz o u)->H' b=some (.frz o u))(tbls:∀ b ps,H b=some (.tbl ps)->∃ more,H' b=some (.tbl (ps++more)))
  (ns:∀ m,s.heap.Ns X.env.locals m->h'.Ns X.env.locals m)(hok:HOk X.prog X.w H' h')(hg:AllBare g') :
  Inv X pins σ H' { s with heap:=h',gens:=g',drawn:=d',toks:=t' }:=by
 have neL:∀ b o,X.s₀.heap.get? b=some o->b≠X.env.locals:=fun b o e=>Nat.ne_of_lt (Nat.lt_of_lt_of_le (Heap.lt_size e) I.ok.above)
 have neC:∀ b o,X.s₀.heap.get? b=some o->b∉X.ex->b∉ch:=fun b o e hx hb=>by
  rcases(hch b hb).1 with z | z
  ·exact hx z
  ·exact absurd (Nat.lt_of_lt_of_le (Heap.lt_size e) z) (Nat.lt_irrefl _)
 have cellK:∀ x c,X.env.cells.lookup x=some c->∀ v,s.heap.IsCell c v->h'.IsCell c v:=fun x c e v ⟨o,ho,hd⟩=>by
  have nch:c∉ch:=fun z=>(hch c z).2.2.1 x c e rfl
  by_cases hc:c∈X.fs
  ·obtain⟨sl,q⟩:=slot c o (I.cne x c e) hc nch ho (I.freeC x c e)
   exact⟨_,q,hd⟩
  ·exact⟨o,keep c o (I.cne x c e) hc nch ho (I.freeC x c e),hd⟩
 refine⟨I.ok,I.os,hg,⟨fun b o e n hb hx=>?_,fun b o e n hb hx=>?_,fun b o e n hx=>?_,fun b o e hx=>?_,fun b xs e=>tups b xs (I.base.tups b xs e),fun b o xs e=>frzs b o xs (I.base.frzs b o xs e),fun b ps e=>?_⟩,?_,fun x c e=>?_,?_,fun x c e=>?_,fun p hp=>?_,hok,I.len⟩
 ·exact keep b o (neL b o e) hb (neC b o e hx) (I.base.keep b o e n hb hx) (I.base.free b o e n hx)
 ·obtain⟨sl,e1⟩:=I.base.slot b o e n hb hx
  obtain⟨sl',e2⟩:=slot b _ (neL b o e) hb (neC b o e hx) e1 (I.base.free b o e n hx)
  exact⟨sl',e2⟩
 ·obtain⟨o',e1⟩:=I.base.there b o e hx
  exact free b o' (neC b o e hx) e1 (I.base.free b o e n hx)
 ·obtain⟨o',e1⟩:=I.base.there b o e hx
  exact there b o' (neC b o e hx) e1
 ·obtain⟨m1,e1⟩:=I.base.tbls b ps e
  obtain⟨m2,e2⟩:=tbls b _ e1
  exact⟨m1++m2,by rw[e2,Array.append_assoc]⟩
 ·obtain⟨m,hn,hl⟩:=I.loc
  refine⟨m,ns m hn,fun i x v e1 e2 e3=>?_⟩
  obtain⟨u,r,l⟩:=hl i x v e1 e2 e3
  refine⟨u,r,?_⟩
  rcases l with l | ⟨k,c,e,z⟩
  ·exact .inl l
  ·exact .inr ⟨k,c,e,cellK x c e _ z⟩
 ·obtain⟨v,z⟩:=I.cell x c e
  exact⟨v,cellK x c e v z⟩
 ·obtain⟨m,⟨o,_,_,ho,_⟩,_⟩:=I.loc
  exact free _ o (fun z=>(hch _ z).2.1 rfl) ho I.free
 ·obtain⟨v,o,ho,hd⟩:=I.cell x c e
  exact free c o (fun z=>(hch c z).2.2.1 x c e rfl) ho (I.freeC x c e)
 ·obtain⟨e,n,ne,nf,d⟩:=I.pin p hp
  have nch:p.1∉ch:=fun z=>(hch p.1 z).2.2.2 p hp rfl
  exact⟨keep p.1 p.2 ne nf nch e n,free p.1 p.2 nch e n,ne,nf,d⟩
theorem Inv.un {t':Nat}(I:Inv X pins σ H s)(u:Un X.fs [] H H' s.heap h')(hok:HOk X.prog X.w H' h'):Inv X pins σ H' { s with heap:=h',toks:=t' }:=by
 obtain⟨m,⟨o,es,ep,ho,r⟩,_⟩:=id I.loc
 obtain⟨sl,hL⟩:=u.any ho I.free (by simp)
 exact I.step (g':=s.gens) (d':=s.drawn) (ch:=[]) (fun _ z=>nomatch z) (fun b o _ hb _ e n=>u.keep b o e n hb (by simp)) (fun b o _ hb _ e n=>u.slot b o e n hb (by simp)) (fun b o _ e n=>u.free b o e n (by simp)) (fun b o _ e=>u.there b o e (by simp)) u.tups u.frzs u.tbls (fun m' hm=>by
  obtain⟨o',es',ep',ho',r'⟩:=hm
  rw[ho] at ho';cases ho'
  exact⟨_,es',ep',hL,r'⟩) hok I.bare
theorem Inv.call {g':Array GenState}{t':Nat}{d':Drawn}{ch:List Addr}(I:Inv X pins σ H s)(u:Un (frs X.stack) ch H H' s.heap h')(hok:HOk X.prog X.w H' h')(hg:AllBare g')
  (hch:∀ b∈ch,(b∈X.ex∨X.s₀.heap.objs.size<=b)/\b≠X.env.locals/\(∀ x c,X.env.cells.lookup x=some c->c≠b)/\∀ p∈X.pn++pins,p.1≠b) :
  Inv X pins σ H' { s with heap:=h',gens:=g',drawn:=d',toks:=t' }:=by
 obtain⟨m,⟨o,es,ep,ho,r⟩,_⟩:=id I.loc
 obtain⟨sl,hL⟩:=u.any ho I.free fun z=>(hch _ z).2.1 rfl
 exact I.step (ch:=ch) hch (fun b o hL hb hc e n=>u.keep b o e n (fun z=>(List.mem_cons.mp (I.stkSub b z)).elim hL hb) hc) (fun b o _ _ hc e n=>u.any e n hc) (fun b o hc e n=>u.free b o e n hc) (fun b o hc e=>u.there b o e hc) u.tups u.frzs u.tbls (fun m' hm=>by
  obtain⟨o',es',ep',ho',r'⟩:=hm
  rw[ho] at ho';cases ho'
  exact⟨_,es',ep',hL,r'⟩) hok hg
theorem Inv.turned {t':Nat}{it:Addr}(I:Inv X pins σ H s)(k:∀ b o,b≠it->s.heap.get? b=some o->h'.get? b=some o)(hn:H it=none)(hL:it≠X.env.locals)
  (h1:it∈X.ex∨X.s₀.heap.objs.size<=it)(h2:∀ x c,X.env.cells.lookup x=some c->c≠it)(h3:∀ p∈X.pn++pins,p.1≠it):Inv X pins σ H { s with heap:=h',toks:=t' }:=by
 have nit:∀ b u,H b=some u->b≠it:=fun b u e z=>by rw[z,hn] at e;cases e
 refine I.step (g':=s.gens) (d':=s.drawn) (ch:=[it]) (fun b hb=>?_) (fun b o _ _ hc e _=>k b o (fun z=>hc (by simp [z])) e) (fun b o _ _ hc e _=>⟨o.slots,k b o (fun z=>hc (by simp [z])) e⟩) (fun _ _ _ _ n=>n)
  (fun b o hc e=>⟨o,k b o (fun z=>hc (by simp [z])) e⟩) (fun _ _ e=>e) (fun _ _ _ e=>e) (fun b ps e=>⟨#[],by rw[e];simp⟩) (fun m hm=>?_) (fun b u e=>?_) I.bare
 ·have e:b=it:=by simpa using hb
  subst e
  exact⟨h1,hL,h2,h3⟩
 ·obtain⟨o,es,ep,ho,r⟩:=hm
  exact⟨o,es,ep,k _ o (Ne.symm hL) ho,r⟩
 ·refine(I.hok b u e).stay (fun c v hc q=>k c v ?_ q) (fun _ q=>q) fun _ _ q=>q
  rcases hc with z | z
  ·rw[z];exact nit b u e
  ·exact nit c _ z
theorem Inv.tok (I:Inv X pins σ H s)(t:Nat):Inv X pins σ H { s with toks:=t }:=I.un (h':=s.heap) (t':=t) Un.refl I.hok
theorem Inv.kept {t':Nat}(I:Inv X pins σ H s)(k:∀ b u,s.heap.get? b=some u->h'.get? b=some u):Inv X pins σ H { s with heap:=h',toks:=t' }:=I.un (Un.kept k) (I.hok.kept k)
theorem Inv.laid {a:Addr}{o:HO}{t':Nat}(I:Inv X pins σ H s)(k:∀ b u,s.heap.get? b=some u->h'.get? b=some u)(hp:s.heap.objs.size<=a)(new:zcj X.prog X.w (upd H a o) h' a o) :
  Inv X pins σ (upd H a o) { s with heap:=h',toks:=t' }:=I.un (Un.laid k hp (I.hok.fresh hp)) (I.hok.laid k hp new)
theorem Inv.write {x e:Addr}{o:HO}{t':Nat}(I:Inv X pins σ H s)(mu:Mut (H x))(he:e=x∨H e=some (.own x))(k:∀ b u,b≠e->s.heap.get? b=some u->h'.get? b=some u)(heo:∃ u,h'.get? e=some u)
  (new:zcj X.prog X.w (upd H x o) h' x o):Inv X pins σ (upd H x o) { s with heap:=h',toks:=t' }:=I.un (Un.write mu he k heo) (I.hok.write mu he k heo new)
theorem Inv.pins_of {pins':List (Addr×Obj)}(I:Inv X pins σ H s)(h:∀ p∈pins',s.heap.get? p.1=some p.2/\H p.1=none/\p.1≠X.env.locals/\p.1∉X.fs/\∀ v,p.2.data≠.cell v):Inv X pins' σ H s :=
 ⟨I.ok,I.os,I.bare,I.base,I.loc,I.cell,I.free,I.freeC,fun p hp=>(List.mem_append.mp hp).elim (fun z=>I.pin p (List.mem_append_left _ z)) (h p),I.hok,I.len⟩
theorem zke {N:List Str}(hN:N.Nodup){i j:Nat}{x:Str}(a:N[i]?=some x)(b:N[j]?=some x):i=j:=by
 obtain⟨h1,e1⟩:=List.getElem?_eq_some_iff.mp a
 obtain⟨h2,e2⟩:=List.getElem?_eq_some_iff.mp b
 exact(List.getElem_inj hN).mp (e1.trans e2.symm)
theorem zkL {M:Model}{A:Around}{E:Value->Shared->Prop}{i:Nat}{x:Str}{v:V}{u:Value}{Q:Unit->Shared->Prop}(I:Inv X pins σ H s)(hN:X.N.Nodup)(hi:X.N[i]?=some x)(hx:Loc X.env.scope x)(r:zcz v u)
  (h:∀ s',Inv X pins (σ.set i (some v)) H s'->(∃ a,Heap.SameBut a s.heap s'.heap/\(a=X.env.locals∨X.env.cells.lookup x=some a))->Q () s')(hf:X.fn x=true∨X.env.scope.names.lookup x=some .local := by first | exact .inl rfl | exact .inr rfl | assumption):wpAny M A (storeName X.env x u) Q E s:=by
 obtain⟨m,hn,hl⟩:=id I.loc
 have hcls:(X.env.scope.kind==.class||(X.env.scope.kind==.module&&X.env.locals != X.env.globals))=false:=by rw[I.ok.kind];rfl
 have hiσ:i < σ.length:=by rw[I.len];exact(List.getElem?_eq_some_iff.mp hi).1
 have cne:=I.cne
 have tracked:∀ {a:Addr}{h':Heap},(∃ o,s.heap.get? a=some o/\H a=none)->Heap.SameBut a s.heap h'->HOk X.prog X.w H h':=fun {a h'} ha hs b ob e=>by
  obtain⟨_,_,hfree⟩:=ha
  refine(I.hok b ob e).stay (fun c w' hc q=>(hs.2 c ?_).trans q) (fun _ q=>q) fun _ _ q=>q
  rintro rfl
  rcases hc with rfl | hc
  ·rw[hfree] at e;cases e
  ·rw[hfree] at hc;cases hc
 rcases hx with hk | hk
 ·refine wpAny_storeName_local hk hn (fun h' hn' hs=>?_) hcls
  obtain⟨oL,_,_,hoL,_⟩:=id hn
  refine h _ ⟨I.ok,I.os,I.bare,⟨fun b o e n hb hx=>?_,fun b o e n hb hx=>?_,I.base.free,fun b o e hx=>?_,I.base.tups,I.base.frzs,I.base.tbls⟩,⟨_,hn',fun j y v' e1 e2 e3=>?_⟩,fun y c e=>?_,I.free,I.freeC,fun p hp=>?_,tracked ⟨oL,hoL,I.free⟩ hs,by simpa using I.len⟩ ⟨_,hs,.inl rfl⟩
  ·exact(hs.2 b (Nat.ne_of_lt (Nat.lt_of_lt_of_le (Heap.lt_size e) I.ok.above))).trans (I.base.keep b o e n hb hx)
  ·obtain⟨sl,e1⟩:=I.base.slot b o e n hb hx
   exact⟨sl,(hs.2 b (Nat.ne_of_lt (Nat.lt_of_lt_of_le (Heap.lt_size e) I.ok.above))).trans e1⟩
  ·obtain⟨o',e1⟩:=I.base.there b o e hx
   exact⟨o',(hs.2 b (Nat.ne_of_lt (Nat.lt_of_lt_of_le (Heap.lt_size e) I.ok.above))).trans e1⟩
  ·by_cases hj:j=i
   ·subst hj
    rw[hi] at e1;cases e1
    rw[List.getElem?_set_self hiσ] at e2
    cases e2
    exact⟨u,r,.inl ⟨hk,by simp⟩⟩
   ·rw[List.getElem?_set_ne (Ne.symm hj)] at e2
    obtain⟨u',r',q⟩:=hl j y v' e1 e2 e3
    refine⟨u',r',?_⟩
    rcases q with⟨k,e⟩ | ⟨k,c,e,z⟩
    ·refine .inl ⟨k,?_⟩
     have:y≠x:=fun e=>hj (zke hN e1 (e▸hi))
     simp [this,e]
    ·exact .inr ⟨k,c,e,z.sameBut hs (cne y c e)⟩
  ·obtain⟨w',z⟩:=I.cell y c e
   exact⟨w',z.sameBut hs (cne y c e)⟩
  ·obtain⟨e,n,ne,nf,d⟩:=I.pin p hp
   exact⟨(hs.2 p.1 ne).trans e,n,ne,nf,d⟩
 ·have hfn:X.fn x=true:=by
   rcases hf with z | z
   ·exact z
   ·rw[z] at hk;cases hk
  obtain⟨c,hc⟩:=I.ok.has x (.inl hk)
  obtain⟨w',z⟩:=I.cell x c hc
  refine wpAny_storeName_cell I.ok.kind hk hc z (fun h' hc' hs=>?_)
  obtain⟨oc,hoc,hocd⟩:=id z
  refine h { s with heap:=h' } ⟨I.ok,I.os,I.bare,⟨fun b o e n hb hx=>?_,fun b o e n hb hx=>?_,I.base.free,fun b o e hx=>?_,I.base.tups,I.base.frzs,I.base.tbls⟩,⟨m,hn.sameBut hs (Ne.symm (cne x c hc)),fun j y v' e1 e2 e3=>?_⟩,fun y c' e=>?_,I.free,I.freeC,fun p hp=>?_,tracked ⟨oc,hoc,I.freeC x c hc⟩ hs,by simpa using I.len⟩ ⟨c,hs,.inr hc⟩
  ·exact(hs.2 b (Nat.ne_of_lt (Nat.lt_of_lt_of_le (Heap.lt_size e) (I.ok.cab x c hfn hc)))).trans (I.base.keep b o e n hb hx)
  ·obtain⟨sl,e1⟩:=I.base.slot b o e n hb hx
   exact⟨sl,(hs.2 b (Nat.ne_of_lt (Nat.lt_of_lt_of_le (Heap.lt_size e) (I.ok.cab x c hfn hc)))).trans e1⟩
  ·obtain⟨o',e1⟩:=I.base.there b o e hx
   exact⟨o',(hs.2 b (Nat.ne_of_lt (Nat.lt_of_lt_of_le (Heap.lt_size e) (I.ok.cab x c hfn hc)))).trans e1⟩
  ·by_cases hj:j=i
   ·subst hj
    rw[hi] at e1;cases e1
    rw[List.getElem?_set_self hiσ] at e2
    cases e2
    exact⟨u,r,.inr ⟨.inl hk,c,hc,hc'⟩⟩
   ·rw[List.getElem?_set_ne (Ne.symm hj)] at e2
    obtain⟨u',r',q⟩:=hl j y v' e1 e2 e3
    refine⟨u',r',?_⟩
    rcases q with q | ⟨k,c',e,z'⟩
    ·exact .inl q
    ·refine .inr ⟨k,c',e,z'.sameBut hs ?_⟩
     rintro rfl
     exact hj (zke hN e1 (I.ok.inj _ _ _ e hc▸hi))
  ·by_cases hcc:c'=c
   ·subst hcc;exact⟨_,hc'⟩
   ·obtain⟨w2,z2⟩:=I.cell y c' e
    exact⟨w2,z2.sameBut hs hcc⟩
  ·obtain⟨e,n,ne,nf,d⟩:=I.pin p hp
   refine⟨(hs.2 p.1 ?_).trans e,n,ne,nf,d⟩
   intro q
   rw[q,hoc] at e
   have q':oc=p.2:=Option.some.inj e
   exact d w' (by rw[← q'];exact hocd)
theorem zf2 {M:Model}{A:Around}{E:Value->Shared->Prop}{i:Nat}{x:Str}{v:V}{u:Value}{Q:Unit->Shared->Prop}(I:Inv X pins σ H s)(hN:X.N.Nodup)(hi:X.N[i]?=some x)(hx:Loc X.env.scope x)(r:zcz v u)
  (h:∀ s',Inv X pins (σ.set i (some v)) H s'->Q () s')(hf:X.fn x=true∨X.env.scope.names.lookup x=some .local := by first | exact .inl rfl | exact .inr rfl | assumption):wpAny M A (storeName X.env x u) Q E s :=
 zkL I hN hi hx r (fun s' I' _=>h s' I') hf
theorem Inv.call' {s':Shared}{ch:List Addr}(I:Inv X pins σ H s)(ho:s'.os=s.os)(u:Un (frs X.stack) ch H H' s.heap s'.heap)(hok:HOk X.prog X.w H' s'.heap)(hg:AllBare s'.gens)
  (hch:∀ b∈ch,(b∈X.ex∨X.s₀.heap.objs.size<=b)/\b≠X.env.locals/\(∀ x c,X.env.cells.lookup x=some c->c≠b)/\∀ p∈X.pn++pins,p.1≠b):Inv X pins σ H' s':=by
 obtain⟨h',g',d',t',o'⟩:=s'
 have e:o'=s.os:=ho
 subst e
 exact I.call (g':=g') (t':=t') (d':=d') u hok hg hch
end
abbrev XK:=Value->Option Addr->Hp->Prop
abbrev St:=List (Option V)
abbrev VK:=V->Hp->Prop
abbrev TE:=St->Hp->VK->Prop
abbrev TT:=St->Hp->(Bool->Hp->Prop)->Prop
abbrev TA:=St->Hp->(List V->Hp->Prop)->Prop
structure zjU where
 nx:St->Hp->Prop
 rt:VK
 bk:St->Hp->Prop:=fun _ _=>False
 ct:St->Hp->Prop:=fun _ _=>False
abbrev TS:=zjU->St->Hp->Prop
def EP (X:Cx)(pins:List (Addr×Obj))(σ:St)(Q:VK)(u:Value)(s':Shared):Prop:=∃ v H',Inv X pins σ H' s'/\zcz v u/\Q v H'
def TP (X:Cx)(pins:List (Addr×Obj))(σ:St)(Q:Bool->Hp->Prop)(b:Bool)(s':Shared):Prop:=∃ H',Inv X pins σ H' s'/\Q b H'
def AP (X:Cx)(pins:List (Addr×Obj))(σ:St)(Q:List V->Hp->Prop)(us:List Value)(s':Shared):Prop:=∃ vs H',Inv X pins σ H' s'/\zb0 vs us/\Q vs H'
def SP (X:Cx)(pins:List (Addr×Obj))(D:zjU)(f:Flow)(s':Shared):Prop :=
 match f with
 | .next=>∃ σ' H',Inv X pins σ' H' s'/\D.nx σ' H'
 | .brk=>∃ σ' H',Inv X pins σ' H' s'/\D.bk σ' H'
 | .cont=>∃ σ' H',Inv X pins σ' H' s'/\D.ct σ' H'
 | .ret u=>∃ v σ' H',Inv X pins σ' H' s'/\zcz v u/\D.rt v H'
def PE (X:Cx)(e:Expr)(t:TE):Prop :=
 ∀ (pins:List (Addr×Obj)) (s:Shared) (σ:St) (H:Hp) (Q:VK),Inv X pins σ H s->t σ H Q->wpAny (model X.prog X.w) X.A (eval e X.env) (EP X pins σ Q) X.xe s
def PT (X:Cx)(e:Expr)(t:TT):Prop :=
 ∀ (pins:List (Addr×Obj)) (s:Shared) (σ:St) (H:Hp) (Q:Bool->Hp->Prop),Inv X pins σ H s->t σ H Q->wpAny (model X.prog X.w) X.A (isTrue e X.env (eval e X.env)) (TP X pins σ Q) X.xe s
def PW (X:Cx)(e:Expr)(t:TT):Prop :=
 ∀ (whole:Sem Value) (pins:List (Addr×Obj)) (s:Shared) (σ:St) (H:Hp) (Q:Bool->Hp->Prop),Inv X pins σ H s->t σ H Q->wpAny (model X.prog X.w) X.A (isTrue e X.env whole) (TP X pins σ Q) X.xe s
theorem PW.pt {X:Cx}{e:Expr}{t:TT}(h:PW X e t):PT X e t:=h _
def PA (X:Cx)(es:List Expr)(t:TA):Prop :=
 ∀ (pos:Pos) (pins:List (Addr×Obj)) (s:Shared) (σ:St) (H:Hp) (Q:List V->Hp->Prop),Inv X pins σ H s->t σ H Q->wpAny (model X.prog X.w) X.A (spliced (backTo pos (starEach es X.env))) (AP X pins σ Q) X.xe s
def PS (X:Cx)(st:Stmt)(t:TS):Prop :=
 ∀ (pins:List (Addr×Obj)) (s:Shared) (σ:St) (H:Hp) (D:zjU),Inv X pins σ H s->t D σ H->wpAny (model X.prog X.w) X.A (exec st X.env) (SP X pins D) X.xe s
def PSs (X:Cx)(st:List Stmt)(t:TS):Prop :=
 ∀ (pins:List (Addr×Obj)) (s:Shared) (σ:St) (H:Hp) (D:zjU),Inv X pins σ H s->t D σ H->wpAny (model X.prog X.w) X.A (execs st X.env) (SP X pins D) X.xe s
theorem thn {α:Type}{t:Sem α}{Q Q':α->Shared->Prop}{M:Model}{A:Around}{E:Value->Shared->Prop}{s:Shared}(h:wpAny M A t Q E s)(hQ:∀ a s,Q a s->Q' a s):wpAny M A t Q' E s:=wpAny_mono h hQ fun _ _ x=>x
section
variable {X:Cx}
theorem bin {a b:Expr}{ta tb:TE}(ha:PE X a ta)(hb:PE X b tb){pins:List (Addr×Obj)}{s:Shared}{σ:St}{H:Hp}{R:V->V->Hp->Prop}(I:Inv X pins σ H s)(h:ta σ H fun x H1=>tb σ H1 fun y H2=>R x y H2)
  {α:Type}{Q:α->Shared->Prop}{f:Value->Value->Sem α}
  (hf:∀ v u s2 x y H2,Inv X pins σ H2 s2->zcz x v->zcz y u->R x y H2->wpAny (model X.prog X.w) X.A (f v u) Q X.xe s2) :
  wpAny (model X.prog X.w) X.A (eval a X.env) (fun v s₁=>wpAny (model X.prog X.w) X.A (eval b X.env) (fun u s₂=>wpAny (model X.prog X.w) X.A (f v u) Q X.xe s₂) X.xe s₁) X.xe s:=by
 refine thn (ha pins s σ H _ I h) fun v s1 ⟨x,H1,I1,r1,q1⟩=>?_
 refine thn (hb pins s1 σ H1 _ I1 q1) fun u s2 ⟨y,H2,I2,r2,q2⟩=>?_
 exact hf v u s2 x y H2 I2 r1 r2 q2
def zwb (i:Nat):TE:=fun σ H Q=>∃ v,σ[i]?=some (some v)/\Q v H
def tC (v:V):TE:=fun _ H Q=>Q v H
theorem ziL {i:Nat}{x:Str}{pos:Pos}(hN:X.N[i]?=some x)(hv:Vis X.env.scope x)(hd:(x==("__debug__" : Str))=false:=by decide)(hcd:(x==("__classdict__" : Str))=false:=by decide):PE X (.Name x pos) (zwb i):=by
 intro pins s σ H Q I h
 obtain⟨v,e,h⟩:=h
 obtain⟨m,hn,hl⟩:=I.loc
 obtain⟨u,r,l⟩:=hl i x v hN e hv
 have fin:EP X pins σ Q u s:=⟨v,H,I,r,h⟩
 rcases l with⟨hk,hm⟩ | ⟨hk,c,hc,hcell⟩
 ·exact wpAny_Name (wpAny_loadName_local I.ok.kind hk hn hm fin) hd
 ·rcases hk with hk | hk
  ·exact wpAny_Name (wpAny_loadName_cell I.ok.kind hk hc hcell fin) hd
  ·exact wpAny_Name (wpAny_loadName_free I.ok.kind hk hc hcell fin hcd) hd
theorem zq9 {i j pos}:PE X (.Constant (.int i) j pos) (tC (.int i)):=fun _ _ _ H _ I h=>wpAny_Constant_int ⟨.int i,H,I.tok _,⟨_,rfl⟩,h⟩
theorem zvg {b j pos}:PE X (.Constant (.bool b) j pos) (tC (.bl b)):=fun _ _ _ H _ I h=>Constant_bool ⟨.bl b,H,I,rfl,h⟩
theorem ztE {j pos}:PE X (.Constant .none j pos) (tC .non):=fun _ _ _ H _ I h=>Constant_none ⟨.non,H,I,rfl,h⟩
theorem ztz {x j pos}:PE X (.Constant (.str x) j pos) (tC (.str x)):=fun _ _ _ H _ I h=>Calls.Constant_str ⟨.str x,H,I.tok _,⟨_,rfl⟩,h⟩
def Gl (X:Cx)(x:Str):Prop:=X.env.kindOf x=some .globalImplicit
theorem zgO {E:Value->Shared->Prop}{pins:List (Addr×Obj)}{s:Shared}{σ:St}{H:Hp}{x:Str}{u:Value}{pos:Pos}{Q:Value->Shared->Prop}(I:Inv X pins σ H s)(hg:Gl X x)(hm:X.mg x=some u)(h:Q u s)
  (hd:(x==("__debug__" : Str))=false:=by decide):wpAny (model X.prog X.w) X.A (eval (.Name x pos) X.env) Q E s :=
 Calls.Name_function_global I.ok.kind hg (Calls.loadGlobal_global (by rw[I.ok.glob];exact I.mod.glob.keeps I.bk) hm h) hd
theorem zk7 {E:Value->Shared->Prop}{pins:List (Addr×Obj)}{s:Shared}{σ:St}{H:Hp}{x:Str}{u:Value}{pos:Pos}{Q:Value->Shared->Prop}(I:Inv X pins σ H s)(hg:Gl X x)(hm:X.mg x=none)(hv:bootBuiltins x=some u)(h:Q u s)
  (hn:x≠"__name__":=by decide)(hd:(x==("__debug__" : Str))=false:=by decide):wpAny (model X.prog X.w) X.A (eval (.Name x pos) X.env) Q E s:=by
 obtain⟨mb,h1,h2⟩:=I.mod.blt
 exact Calls.Name_function_global I.ok.kind hg (Calls.loadGlobal_builtin (by rw[I.ok.glob];exact I.mod.glob.keeps I.bk) hm (by rw[I.ok.blt];exact h1.keeps I.bk) ((h2 x hn).trans hv) h) hd
theorem zon {x:Str}{v:V}{u:Value}{pos:Pos}(hg:Gl X x)(hm:X.mg x=some u)(r:zcz v u)(hd:(x==("__debug__" : Str))=false:=by decide):PE X (.Name x pos) (tC v) :=
 fun _ _ _ H _ I h=>zgO I hg hm ⟨v,H,I,r,h⟩ hd
theorem zop {x:Str}{v:V}{u:Value}{pos:Pos}(hg:Gl X x)(hm:X.mg x=none)(hv:bootBuiltins x=some u)(r:zcz v u)(hn:x≠"__name__":=by decide)(hd:(x==("__debug__" : Str))=false:=by decide):PE X (.Name x pos) (tC v) :=
 fun _ _ _ H _ I h=>zk7 I hg hm hv ⟨v,H,I,r,h⟩ hn hd
variable {a b:Expr}{ta tb:TE}{pos:Pos}
def PC (X:Cx)(op:CmpOp)(a b:Expr)(t:TE):Prop :=
 ∀ (pins:List (Addr×Obj)) (s:Shared) (σ:St) (H:Hp) (Q:VK),Inv X pins σ H s->t σ H Q ->
  wpAny (model X.prog X.w) X.A (eval a X.env) (fun v s₁=>wpAny (model X.prog X.w) X.A (eval b X.env) (fun u s₂=>wpAny (model X.prog X.w) X.A (compareOp op v u) (EP X pins σ Q) X.xe s₂) X.xe s₁) X.xe s
theorem zmG (b:Expr){op:CmpOp}(h:op≠.In)(h2:op≠.NotIn):behindInMarks op b=false:=by
 have e1:(op==CmpOp.In)=false:=by cases op<;>first | rfl | exact absurd rfl h
 have e2:(op==CmpOp.NotIn)=false:=by cases op<;>first | rfl | exact absurd rfl h2
 cases b<;>simp [behindInMarks,e1,e2]
def tB (t:TE):TT:=fun σ H Q=>t σ H fun x H1=>∃ c,x=.bl c/\Q c H1
theorem zvV {op:CmpOp}{t:TE}(h:PC X op a b t)(h1:behindInMarks op b=false:=by first | exact zmG _ (by decide) (by decide) | rfl):PT X (.Compare a [op] [b] pos) (tB t):=by
 intro pins s σ H Q I hw
 refine wpAny_isTrue_Compare1 (thn (h pins s σ H _ I hw) fun v s1 h1=>thn h1 fun u s2 h2=>thn h2 fun c s3 ⟨x,H1,I1,r1,q1⟩=>?_) h1
 obtain⟨d,rfl,q⟩:=q1
 cases r1
 exact wpAny_truthy_bool ⟨H1,I1,q⟩
theorem ztq {e:Expr}{t:TE}(h:PE X e t)(he:∀ whole,isTrue e X.env whole=(do let v ← whole;standAt e.pos;holding [v] (truthy v)):=by intro _;rfl):PT X e (tB t):=by
 intro pins s σ H Q I hw
 refine isTrue_plain (thn (h pins s σ H _ I hw) fun v s1 ⟨x,H1,I1,r1,q1⟩=>?_) (he _)
 obtain⟨d,rfl,q⟩:=q1
 cases r1
 exact wpAny_truthy_bool ⟨H1,I1,q⟩
variable {tA tB':TT}{rest:List Expr}
def zwn (t u:TT):TT:=fun σ H Q=>t σ H fun c H1=>if c=true then u σ H1 Q else Q false H1
def tOr (t u:TT):TT:=fun σ H Q=>t σ H fun c H1=>if c=true then Q true H1 else u σ H1 Q
def zwi (t:TT):TT:=fun σ H Q=>t σ H fun c H1=>Q (!c) H1
theorem zrN (ha:PT X a tA):PW X (.BoolOp .And [a] pos) tA:=by
 intro wh pins s σ H Q I h
 refine isTrue_and (thn (ha pins s σ H Q I h) fun c s1 e=>?_)
 cases c with
 | true=>exact isTrue_and_nil e
 | false=>exact e
theorem ztm (ha:PT X a tA):PW X (.BoolOp .Or [a] pos) tA:=by
 intro wh pins s σ H Q I h
 refine isTrue_or (thn (ha pins s σ H Q I h) fun c s1 e=>?_)
 cases c with
 | false=>exact isTrue_or_nil e
 | true=>exact e
theorem ztn (ha:PT X a tA)(hb:PW X (.BoolOp .And (b::rest) pos) tB'):PW X (.BoolOp .And (a::b::rest) pos) (zwn tA tB'):=by
 intro wh pins s σ H Q I h
 refine isTrue_and (thn (ha pins s σ H _ I h) fun c s1 ⟨H1,I1,q1⟩=>?_)
 cases c with
 | true=>exact hb wh pins s1 σ H1 Q I1 q1
 | false=>exact⟨H1,I1,q1⟩
theorem zu7 (ha:PT X a tA)(hb:PW X (.BoolOp .Or (b::rest) pos) tB'):PW X (.BoolOp .Or (a::b::rest) pos) (tOr tA tB'):=by
 intro wh pins s σ H Q I h
 refine isTrue_or (thn (ha pins s σ H _ I h) fun c s1 ⟨H1,I1,q1⟩=>?_)
 cases c with
 | true=>exact⟨H1,I1,q1⟩
 | false=>exact hb wh pins s1 σ H1 Q I1 q1
theorem ztr (ha:PT X a tA):PT X (.UnaryOp .Not a pos) (zwi tA):=by
 intro pins s σ H Q I h
 exact isTrue_not (ha pins s σ H (fun c H1=>Q (!c) H1) I h)
def zuT (ta tb:TE):TE:=fun σ H Q=>ta σ H fun x H1=>∃ c,x=.bl c/\if c=true then tb σ H1 Q else Q (.bl false) H1
def zwh (ta tb:TE):TE:=fun σ H Q=>ta σ H fun x H1=>∃ c,x=.bl c/\if c=true then Q (.bl true) H1 else tb σ H1 Q
def zuN (ta:TE):TE:=fun σ H Q=>ta σ H fun x H1=>∃ c,x=.bl c/\Q (.bl (!c)) H1
theorem ztC {op}{t:TE}(h:PE X a t):PE X (.BoolOp op [a] pos) t:=fun pins s σ H Q I hw=>BoolOp_one (h pins s σ H Q I hw)
theorem ztF (ha:PE X a ta)(hb:PE X (.BoolOp .And (b::rest) pos) tb):PE X (.BoolOp .And (a::b::rest) pos) (zuT ta tb):=by
 intro pins s σ H Q I h
 refine BoolOp_and (thn (ha pins s σ H _ I h) fun v s1 ⟨x,H1,I1,r1,q1⟩=>?_)
 obtain⟨c,rfl,q1⟩:=q1
 cases r1
 refine wpAny_truthy_bool ?_
 cases c with
 | true=>exact hb pins s1 σ H1 Q I1 q1
 | false=>exact⟨.bl false,H1,I1,rfl,q1⟩
theorem zve (ha:PE X a ta)(hb:PE X (.BoolOp .Or (b::rest) pos) tb):PE X (.BoolOp .Or (a::b::rest) pos) (zwh ta tb):=by
 intro pins s σ H Q I h
 refine BoolOp_or (thn (ha pins s σ H _ I h) fun v s1 ⟨x,H1,I1,r1,q1⟩=>?_)
 obtain⟨c,rfl,q1⟩:=q1
 cases r1
 refine wpAny_truthy_bool ?_
 cases c with
 | false=>exact hb pins s1 σ H1 Q I1 q1
 | true=>exact⟨.bl true,H1,I1,rfl,q1⟩
theorem ztD (ha:PE X a ta):PE X (.UnaryOp .Not a pos) (zuN ta):=by
 intro pins s σ H Q I h
 refine UnaryOp_ (thn (ha pins s σ H _ I h) fun v s1 ⟨x,H1,I1,r1,q1⟩=>?_)
 obtain⟨c,rfl,q1⟩:=q1
 cases r1
 exact not_of (wpAny_truthy_bool ⟨.bl (!c),H1,I1,rfl,q1⟩)
end
def SqL (K:W.Frag)(H:Hp)(a:Addr)(xs:List V):Prop :=
 Rd H a (.lst xs) ∨
  ∃ (o:Obj) (its:Array Value) (n:Nat),K.lookup a=some o/\o.cls=.type "list"/\o.dict=none/\o.data=.seq its n/\its.size<=sizeLine/\zb0 xs its.toList
def SqT (K:W.Frag)(H:Hp)(a:Addr)(xs:List V):Prop :=
 Rd H a (.tup xs) ∨
  ∃ (o:Obj) (its:Array Value) (n:Nat),K.lookup a=some o/\o.cls=.type "tuple"/\o.data=.seq its n/\its.size<=sizeLine/\zb0 xs its.toList
def zwE:Value->Option V
 | .none=>some .non
 | .bool b=>some (.bl b)
 | .int i _=>some (.int i)
 | .str x _=>some (.str x)
 | .bytes b _=>some (.byt b)
 | .float b _=>some (.flt b)
 | .ref a=>some (.ref a)
 | .type n=>some (.ty n)
 | _=>none
theorem zcz.abs {x:V}{u:Value}(r:zcz x u):zwE u=some x:=by
 cases x with
 | non=>cases r;rfl
 | bl _=>cases r;rfl
 | int _=>obtain⟨t,rfl⟩:=r;rfl
 | str _=>obtain⟨t,rfl⟩:=r;rfl
 | byt _=>obtain⟨t,rfl⟩:=r;rfl
 | flt _=>obtain⟨t,rfl⟩:=r;rfl
 | ref _=>cases r;rfl
 | ty _=>cases r;rfl
theorem zcz.inj {x y:V}{u:Value}(r:zcz x u)(q:zcz y u):x=y:=Option.some.inj (r.abs.symm.trans q.abs)
theorem zb0.inj:∀ {xs ys:List V}{us:List Value},zb0 xs us->zb0 ys us->xs=ys
 | _,_,_,.nil,.nil=>rfl
 | _,_,_,.cons r t,.cons r' t'=>by rw[r.inj r',zb0.inj t t']
section
variable {X:Cx}{pins:List (Addr×Obj)}{σ:St}{H:Hp}{s:Shared}{a:Addr}{xs ys:List V}
theorem SqL.of {K:W.Frag}(h:H a=some (.lst xs)):SqL K H a xs:=.inl (.inl h)
theorem SqT.of {K:W.Frag}(h:H a=some (.tup xs)):SqT K H a xs:=.inl (.inl h)
theorem Inv.list (I:Inv X pins σ H s)(h:SqL X.K H a xs):∃ its:List Value,zb0 xs its/\PlainL s.heap a its.toArray/\xs.length<=sizeLine:=by
 rcases h with h | ⟨o,its,n,hk,hc,hd,hs,hz,r⟩
 ·obtain⟨z,its,n,r,e⟩:=h.ok I.hok
  exact⟨its,r,⟨_,n,e,rfl,rfl,rfl⟩,z⟩
 ·refine⟨its.toList,r,⟨o,n,I.kIn a o hk,hc,hd,by simpa using hs⟩,?_⟩
  have e:=r.length
  simp only[Array.length_toList] at e
  omega
theorem Inv.tuple (I:Inv X pins σ H s)(h:SqT X.K H a xs):∃ its:List Value,zb0 xs its/\IsTup s.heap a its.toArray/\xs.length<=sizeLine:=by
 rcases h with h | ⟨o,its,n,hk,hc,hs,hz,r⟩
 ·obtain⟨z,its,r,p⟩:=h.ok I.hok
  exact⟨its,r,p,z⟩
 ·refine⟨its.toList,r,⟨o,I.kIn a o hk,hc,n,by simpa using hs⟩,?_⟩
  have e:=r.length
  simp only[Array.length_toList] at e
  omega
theorem Inv.list_inj (I:Inv X pins σ H s)(h:SqL X.K H a xs)(h':SqL X.K H a ys):xs=ys:=by
 obtain⟨its,r,⟨o,n,e,_,_,d⟩,_⟩:=I.list h
 obtain⟨its',r',⟨o',n',e',_,_,d'⟩,_⟩:=I.list h'
 rw[e] at e';cases e'
 rw[d] at d'
 injection d' with d1 _
 have:its=its':=by simpa using congrArg Array.toList d1
 subst this
 exact r.inj r'
theorem Inv.tuple_inj (I:Inv X pins σ H s)(h:SqT X.K H a xs)(h':SqT X.K H a ys):xs=ys:=by
 obtain⟨its,r,⟨o,e,_,n,d⟩,_⟩:=I.tuple h
 obtain⟨its',r',⟨o',e',_,n',d'⟩,_⟩:=I.tuple h'
 rw[e] at e';cases e'
 rw[d] at d'
 injection d' with d1 _
 have:its=its':=by simpa using congrArg Array.toList d1
 subst this
 exact r.inj r'
end
abbrev Cx.wish (X:Cx)(E:Value->Shared->Prop):Cx:={ X with xe:=E }
abbrev Cx.nox (X:Cx):Cx:=X.wish fun _ _=>False
theorem Cx.Ok.wish {X:Cx}(ok:X.Ok)(E:Value->Shared->Prop):(X.wish E).Ok :=
 ⟨ok.mod,ok.kind,ok.glob,ok.blt,ok.above,ok.inj,ok.has,ok.cab,ok.hd,ok.frames,ok.stk,ok.exf,ok.bs,ok.bsz,ok.noex,ok.exfs,ok.funs,ok.frf⟩
theorem Cx.Ok.unwish {X:Cx}{E:Value->Shared->Prop}(ok:(X.wish E).Ok):X.Ok :=
 ⟨ok.mod,ok.kind,ok.glob,ok.blt,ok.above,ok.inj,ok.has,ok.cab,ok.hd,ok.frames,ok.stk,ok.exf,ok.bs,ok.bsz,ok.noex,ok.exfs,ok.funs,ok.frf⟩
section
variable {X:Cx}{pins:List (Addr×Obj)}{σ:St}{H:Hp}{s:Shared}{E:Value->Shared->Prop}
theorem Inv.wish (I:Inv X pins σ H s)(E:Value->Shared->Prop):Inv (X.wish E) pins σ H s:=⟨I.ok.wish E,I.os,I.bare,I.base,I.loc,I.cell,I.free,I.freeC,I.pin,I.hok,I.len⟩
theorem Inv.unwish (I:Inv (X.wish E) pins σ H s):Inv X pins σ H s:=⟨I.ok.unwish,I.os,I.bare,I.base,I.loc,I.cell,I.free,I.freeC,I.pin,I.hok,I.len⟩
theorem SP.unwish {D:zjU}{f:Flow}{s':Shared}(h:SP (X.wish E) pins D f s'):SP X pins D f s':=by
 cases f with
 | next=>obtain⟨σ',H',I,q⟩:=h;exact⟨σ',H',I.unwish,q⟩
 | brk=>obtain⟨σ',H',I,q⟩:=h;exact⟨σ',H',I.unwish,q⟩
 | cont=>obtain⟨σ',H',I,q⟩:=h;exact⟨σ',H',I.unwish,q⟩
 | ret u=>obtain⟨v,σ',H',I,r,q⟩:=h;exact⟨v,σ',H',I.unwish,r,q⟩
theorem PSs.nox {st:List Stmt}{t:TS}(h:PSs X.nox st t):PSs X st t:=fun pins s σ H D I hw =>
 wpAny_mono (h pins s σ H D (I.wish _) hw) (fun _ _ q=>q.unwish) fun _ _ z=>False.elim z
end
section
variable {X:Cx}{st:Stmt}{rest:List Stmt}{t u:TS}{e:Expr}{te:TE}{pos:Pos}
def zuO:TS:=fun D σ H=>D.nx σ H
def zwd (t u:TS):TS:=fun D σ H=>t { D with nx:=u D } σ H
theorem zoe:PSs X [] zuO:=fun _ _ σ H _ I h=>wpAny_execs_nil ⟨σ,H,I,h⟩
theorem zii (h1:PS X st t)(h2:PSs X rest u):PSs X (st::rest) (zwd t u):=by
 intro pins s σ H D I h
 refine wpAny_execs_cons (thn (h1 pins s σ H { D with nx:=u D } I h) fun f s1 q=>?_)
 cases f with
 | next =>
  obtain⟨σ',H',I',q⟩:=q
  exact h2 pins s1 σ' H' D I' q
 | ret v=>exact q
 | brk=>exact q
 | cont=>exact q
theorem Inv.quiet {pins:List (Addr×Obj)}{σ:St}{H:Hp}{s:Shared}(I:Inv X pins σ H s):interactive X.env=false:=by simp [interactive,I.ok.kind]
def zuP (te:TE):TS:=fun D σ H=>te σ H fun _ H1=>D.nx σ H1
theorem zlS (he:PE X e te)(hs:swapsWith e none pos.line X.env=pure false:=by rfl):PS X (.Expr e pos) (zuP te):=by
 intro pins s σ H D I h
 exact wpAny_Expr_any (thn (he pins s σ H _ I h) fun v s1 ⟨x,H1,I1,r1,q1⟩=>⟨σ,H1,I1,q1⟩) I.quiet hs
def zwf (te:TE):TS:=fun D σ H=>te σ H D.rt
theorem zts (he:PE X e te):PS X (.Return (some e) pos) (zwf te):=by
 intro pins s σ H D I h
 exact wpAny_Return_some (thn (he pins s σ H _ I h) fun v s1 ⟨x,H1,I1,r1,q1⟩=>⟨x,σ,H1,I1,r1,q1⟩)
def zwl (c:TT)(t u:TS):TS:=fun D σ H=>c σ H fun b H1=>if b=true then t D σ H1 else u D σ H1
theorem zvb {c:Expr}{a b:List Stmt}{tc:TT}(hc:PT X c tc)(ha:PSs X a t)(hb:PSs X b u):PS X (.If c a b pos) (zwl tc t u):=by
 intro pins s σ H D I h
 refine wpAny_If (thn (hc pins s σ H _ I h) fun d s1 ⟨H1,I1,q1⟩=>?_)
 cases d with
 | true=>exact ha pins s1 σ H1 D I1 q1
 | false=>exact hb pins s1 σ H1 D I1 q1
end
abbrev TG:=V->St->Hp->(St->Hp->Prop)->Prop
abbrev TGs:=List V->St->Hp->(St->Hp->Prop)->Prop
def PG (X:Cx)(target:Expr)(t:TG):Prop :=
 ∀ (pins:List (Addr×Obj)) (s:Shared) (σ:St) (H:Hp) (v:V) (u:Value) (Q:St->Hp->Prop),Inv X pins σ H s->zcz v u->t v σ H Q ->
  wpAny (model X.prog X.w) X.A (assign target X.env u) (fun _ s'=>∃ σ' H',Inv X pins σ' H' s'/\Q σ' H') X.xe s
def PGs (X:Cx)(ts:List Expr)(t:TGs):Prop :=
 ∀ (pins:List (Addr×Obj)) (s:Shared) (σ:St) (H:Hp) (vs:List V) (us:List Value) (Q:St->Hp->Prop),Inv X pins σ H s->zb0 vs us->t vs σ H Q ->
  wpAny (model X.prog X.w) X.A (assignInOrder ((assignEach ts X.env).map (·.2)) us) (fun _ s'=>∃ σ' H',Inv X pins σ' H' s'/\Q σ' H') X.xe s
section
variable {X:Cx}{pos:Pos}
def zsm (i:Nat):TG:=fun v σ H Q=>Q (σ.set i (some v)) H
theorem zom {i:Nat}{x:Str}(hN:X.N.Nodup)(hi:X.N[i]?=some x)(hx:Loc X.env.scope x)(hf:X.fn x=true∨X.env.scope.names.lookup x=some .local := by first | exact .inl rfl | exact .inr rfl | assumption):PG X (.Name x pos) (zsm i):=by
 intro pins s σ H v u Q I r h
 exact wpAny_assign_Name (zf2 I hN hi hx r (fun s' I'=>⟨_,H,I',h⟩) hf)
def zwC:TGs:=fun vs σ H Q=>vs=[]/\Q σ H
def zvs (t:TG)(u:TGs):TGs:=fun vs σ H Q=>∃ v r,vs=v::r/\t v σ H fun σ' H'=>u r σ' H' Q
theorem zrU:PGs X [] zwC:=by
 intro pins s σ H vs us Q I r h
 obtain⟨e,h⟩:=h
 subst e
 cases r
 exact assignInOrder_nil ⟨σ,H,I,h⟩
theorem zp1 {e:Expr}{es:List Expr}{t:TG}{u:TGs}(h1:PG X e t)(h2:PGs X es u)
  (hs:(assignEach (e::es) X.env).map (·.2)=assign e X.env::(assignEach es X.env).map (·.2):=by rfl):PGs X (e::es) (zvs t u):=by
 intro pins s σ H vs us Q I r h
 obtain⟨v,vr,e1,h⟩:=h
 subst e1
 cases r with
 | cons r rr =>
  rw[hs]
  refine assignInOrder_cons (thn (h1 pins s σ H _ _ _ I r h) fun _ s1 ⟨σ1,H1,I1,q1⟩=>?_)
  exact h2 pins s1 σ1 H1 _ _ Q I1 rr q1
def zwB (K:W.Frag)(n:Nat)(t:TGs):TG:=fun v σ H Q=>∃ a xs,v=.ref a/\SqT K H a xs/\xs.length=n/\t xs σ H Q
theorem ztw {es:List Expr}{k:Nat}{t:TGs}{n:Nat}(hc:X.calm=true)(h:PGs X es t)
  (hn:(assignEach es X.env).length=n:=by rfl)(hst:(assignEach es X.env).findIdx? (·.1)=none:=by rfl):PG X (.Tuple es k pos) (zwB X.K n t):=by
 intro pins s σ H v u Q I r hw
 obtain⟨a,xs,e1,hq,hl,hw⟩:=hw
 subst e1
 cases r
 obtain⟨its,rv,ht,hz⟩:=I.tuple hq
 refine assign_Tuple_tuple (I.ok.hd hc) ht (by simp [hn,← hl,rv.length]) hst fun h' hx=>?_
 have I1:Inv X pins σ H { s with heap:=h' }:=I.kept (t':=s.toks) fun b o e=>hx b o (Nat.ne_of_lt (Heap.lt_size e)) e
 exact h pins _ σ H xs _ Q I1 (by simpa using rv) hw
def zuS (te:TE)(g:TG):TS:=fun D σ H=>te σ H fun x H1=>g x σ H1 D.nx
theorem ztu {tg e:Expr}{te:TE}{g:TG}(he:PE X e te)(hg:PG X tg g)(hs:swapsWithSole [tg] e pos.line X.env=pure false:=by rfl)(hw:swappedStores [tg] e X.env=pure none:=by rfl)
  (h1:(assignEach [tg] X.env).map (·.2)=[assign tg X.env]:=by rfl):PS X (.Assign [tg] e pos) (zuS te g):=by
 intro pins s σ H D I h
 refine wpAny_Assign_stores (thn (he pins s σ H _ I h) fun v s1 ⟨x,H1,I1,r1,q1⟩=>?_) hs hw
 rw[h1]
 exact thn (hg pins s1 σ H1 x v _ I1 r1 q1) fun _ s2 q=>q
theorem zq6 {i:Nat}{x:Str}{e:Expr}{te:TE}{pos':Pos}(hN:X.N.Nodup)(hi:X.N[i]?=some x)(hx:Loc X.env.scope x)(he:PE X e te)(hs:swapsWith e (some (.Name x pos')) pos.line X.env=pure false:=by rfl)(hf:X.fn x=true∨X.env.scope.names.lookup x=some .local := by first | exact .inl rfl | exact .inr rfl | assumption) :
  PS X (.Assign [.Name x pos'] e pos) (zuS te (zsm i)):=by
 intro pins s σ H D I h
 refine wpAny_Assign_Name (thn (he pins s σ H _ I h) fun v s1 ⟨y,H1,I1,r1,q1⟩=>?_) hs
 exact zf2 I1 hN hi hx r1 (fun s2 I2=>⟨_,H1,I2,q1⟩) hf
def zwg (i j:Nat)(ta:TA):TS:=fun D σ H=>ta σ H fun vs H1=>∃ v w,vs=[v,w]/\D.nx ((σ.set i (some v)).set j (some w)) H1
theorem ztt {i j:Nat}{x y:Str}{a b:Expr}{ta:TA}{px py pt:Pos}{kt k2 pt2}(hc:X.calm=true)(hN:X.N.Nodup)(hi:X.N[i]?=some x)(hj:X.N[j]?=some y)(hij:i≠j)
  (hx:X.env.scope.names.lookup x=some .local)(hy:X.env.scope.names.lookup y=some .local)(ha:PA X [a,b] ta)
  (hw:swappedStores [.Tuple [.Name x px,.Name y py] kt pt] (.Tuple [a,b] k2 pt2) X.env=pure (some [x,y]))
  (hs:swapsWithSole [.Tuple [.Name x px,.Name y py] kt pt] (.Tuple [a,b] k2 pt2) pos.line X.env=pure false:=by rfl) :
  PS X (.Assign [.Tuple [.Name x px,.Name y py] kt pt] (.Tuple [a,b] k2 pt2) pos) (zwg i j ta):=by
 intro pins s σ H D I h
 rw[exec_Assign_arm]
 refine wpAny_bind (wpAny_standAt ?_)
 rw[hs]
 refine wpAny_bind (wpAny_pure ?_)
 rw[if_neg (by decide)]
 refine wpAny_bind (Tuple_ (thn (ha _ pins s σ H _ I h) fun us s1 ⟨vs,H1,I1,r1,q1⟩=>?_))
 obtain⟨v,w,e1,q1⟩:=q1
 subst e1
 obtain⟨u1,u2,rfl,rv,rw'⟩:∃ u1 u2,us=[u1,u2]/\zcz v u1/\zcz w u2:=by
  cases r1 with
  | cons p q =>
   cases q with
   | cons p' q' =>
    cases q'
    exact⟨_,_,rfl,p,p'⟩
 refine wpAny_newObj_type ?_ (by show 2<=sizeLine;decide)
 have I2:Inv X pins σ H1 { s1 with heap:=s1.heap.push { cls:=.type "tuple",data:=.seq [u1,u2].toArray } }:=I1.kept (t':=s1.toks) fun b o e=>Heap.get?_push_of_some _ e
 rw[hw]
 refine wpAny_bind (wpAny_pure ?_)
 show wpAny (model X.prog X.w) X.A (do rule "assign.swapped-stores";let items ← unpackItems (.ref s1.heap.objs.size) 2 none;assignInOrder [fun v=>bindName X.env y v,fun v=>bindName X.env x v] items.reverse;pure Flow.next) _ _ _
 refine wpAny_bind (wpAny_rule (wpAny_bind (unpackItems_tuple (items:=#[u1,u2]) (I.ok.hd hc) (IsTup.new s1.heap _) fun h' hx'=>?_)))
 have I3:=I2.kept (h':=h') (t':=s1.toks) fun b o e=>hx' b o (Nat.ne_of_lt (Heap.lt_size e)) e
 show wpAny _ _ (assignInOrder [fun v=>bindName X.env y v,fun v=>bindName X.env x v] [u2,u1] >>= fun _=>pure Flow.next) _ _ _
 refine wpAny_bind (assignInOrder_cons (wpAny_bindName (zf2 I3 hN hj (.inl hy) rw' (fun s2 I4=>?_) (.inr hy))))
 refine assignInOrder_cons (wpAny_bindName (zf2 I4 hN hi (.inl hx) rv (fun s3 I5=>assignInOrder_nil (wpAny_pure ?_)) (.inr hx)))
 rw[List.set_comm _ _ (Ne.symm hij)] at I5
 exact⟨_,H1,I5,q1⟩
end
section
variable {X:Cx}{pos:Pos}
def zs2 (c:TT)(tb:TS):TS:=fun D σ H=>∃ W:Nat->St->Hp->Prop,(∃ m,W m σ H)/\∀ m σ H,W m σ H ->
 c σ H fun b H1=>if b=true then ∃ N:St->Hp->Prop,(∀ σ' H',N σ' H'->∃ m',m' < m/\W m' σ' H')/\tb { D with nx:=N,ct:=N,bk:=D.nx } σ H1 else D.nx σ H1
theorem zpY {c:Expr}{body:List Stmt}{tc:TT}{tb:TS}(hp:PassesOwn (model X.prog X.w) X.A X.env X.xe)(hc:PT X c tc)(hb:PSs X body tb):PS X (.While c body [] pos) (zs2 tc tb):=by
 intro pins s σ H D I h
 obtain⟨W,⟨m0,w0⟩,turn⟩:=h
 refine wpAny_While (codeAny_whileLoop (fun n s'=>∃ σ' H',Inv X pins σ' H' s'/\W n σ' H') ?_ m0 ⟨σ,H,I,w0⟩)
 rintro n s1 ⟨σ1,H1,I1,w1⟩
 refine wpAny_passesOwn hp (thn (hc pins s1 σ1 H1 _ I1 (turn n σ1 H1 w1)) fun b s2 ⟨H2,I2,q2⟩=>?_)
 cases b with
 | true =>
  obtain⟨N,hN,q2⟩:=q2
  rw[if_pos rfl]
  refine wpAny_passesOwn hp (thn (hb pins s2 σ1 H2 _ I2 q2) fun f s3 q3=>?_)
  cases f with
  | next =>
   obtain⟨σ3,H3,I3,n3⟩:=q3
   obtain⟨m',hm,w3⟩:=hN σ3 H3 n3
   exact⟨m',hm,σ3,H3,I3,w3⟩
  | cont =>
   obtain⟨σ3,H3,I3,n3⟩:=q3
   obtain⟨m',hm,w3⟩:=hN σ3 H3 n3
   exact⟨m',hm,σ3,H3,I3,w3⟩
  | brk=>exact q3
  | ret v=>exact q3
 | false =>
  rw[if_neg Bool.false_ne_true]
  exact wpAny_execs_nil ⟨σ1,H2,I2,q2⟩
end
structure It where
 go:Nat->Hp->Prop
 yld:Nat->Hp->V->Hp->Prop
 stop:Nat->Hp->Prop
def znJ (X:Cx)(pins:List (Addr×Obj))(H:Hp)(b:Addr):Prop :=
 H b=none/\b≠X.env.locals/\b∉X.fs/\(b∈X.ex∨X.s₀.heap.objs.size<=b)/\(∀ x c,X.env.cells.lookup x=some c->c≠b)/\∀ p∈X.pn++pins,p.1≠b
theorem Inv.fpOk {X:Cx}{pins:List (Addr×Obj)}{σ:St}{H H':Hp}{s:Shared}{b:Addr}(I:Inv X pins σ H s)(hb:s.heap.objs.size<=b)(hn:H' b=none):znJ X pins H' b:=by
 refine⟨hn,Nat.ne_of_gt (Nat.lt_of_lt_of_le I.lt hb),I.nofs hb,.inr (Nat.le_trans I.sz hb),fun x c e z=>?_,fun p hp z=>?_⟩
 ·obtain⟨v,q⟩:=I.cell x c e
  exact absurd (Nat.lt_of_lt_of_le q.lt (by rw[z];exact hb)) (Nat.lt_irrefl _)
 ·exact absurd (Nat.lt_of_lt_of_le (Heap.lt_size (I.pin p hp).1) (by rw[z];exact hb)) (Nat.lt_irrefl _)
structure zsL (P:Program) (w:World) (K:W.Frag) (tg:Expr) (J:It) (fp:List Addr) (it:Addr) (tn:Nat->Heap->Prop):Prop where
 mem:it∈fp
 obj:∀ i h,tn i h->∀ b∈fp,∃ o,h.get? b=some o/\∀ v,o.data≠.cell v
 keep:∀ i h h',tn i h->(∀ b∈fp,∀ o,h.get? b=some o->h'.get? b=some o)->tn i h'
 item:∀ (X:Cx),X.prog=P->X.w=w->X.K=K->X.calm=true->∀ (i:Nat) (pins:List (Addr×Obj)) (s:Shared) (σ:St) (H:Hp) (E:Value->Shared->Prop),Inv X pins σ H s->(∀ b∈fp,znJ X pins H b)->tn i s.heap->J.go i H ->
  wpAny (model P w) X.A (pyNext (.ref it)) (fun r s1=>∃ u,r=some u /\
   wpAny (model P w) X.A (letOwnedTupleGo tg (.ref it) u) (fun _ s2=>∃ x H',Inv X pins σ H' s2/\zcz x u/\J.yld i H x H'/\tn (i+1) s2.heap/\∀ b∈fp,H' b=none) E s1) E s
 done:∀ (X:Cx),X.prog=P->X.w=w->X.K=K->X.calm=true->∀ (i:Nat) (pins:List (Addr×Obj)) (s:Shared) (σ:St) (H:Hp) (E:Value->Shared->Prop),Inv X pins σ H s->(∀ b∈fp,znJ X pins H b)->tn i s.heap->J.stop i H ->
  wpAny (model P w) X.A (pyNext (.ref it)) (fun r s1=>r=none/\Inv X pins σ H s1) E s
 self:∀ (A:Around) (i:Nat) (s:Shared) (Q:Value->Shared->Prop) (E:Value->Shared->Prop),tn i s.heap->Q (.ref it) s->wpAny (model P w) A (pyIter (.ref it)) Q E s
abbrev TI:=St->Hp->(It->Hp->Prop)->Prop
def PIE (X:Cx)(pins:List (Addr×Obj))(σ:St)(tg:Expr)(R:It->Hp->Prop)(itv:Value)(s2:Shared):Prop :=
 ∃ (it:Addr) (fp:List Addr) (tn:Nat->Heap->Prop) (J:It) (H':Hp),itv=.ref it/\Inv X pins σ H' s2/\zsL X.prog X.w X.K tg J fp it tn/\tn 0 s2.heap/\(∀ b∈fp,znJ X pins H' b)/\R J H'
def PI (X:Cx)(tg iter:Expr)(wi:TI):Prop :=
 ∀ (pins:List (Addr×Obj)) (s:Shared) (σ:St) (H:Hp) (R:It->Hp->Prop),Inv X pins σ H s->wi σ H R ->
  wpAny (model X.prog X.w) X.A (eval iter X.env) (fun v s1=>wpAny (model X.prog X.w) X.A (pyIter v) (PIE X pins σ tg R) X.xe s1) X.xe s
theorem zqq {M:Model}{A:Around}{E:Value->Shared->Prop}{s:Shared}{tg:Expr}{it:Addr}{u:Value}{o:Obj}{n:String}{vs:Array Value}{Q:Unit->Shared->Prop}(ho:s.heap.get? it=some o)(hc:o.cls=.type n)(hd:o.data=.fields vs)
  (hn:["enumerate","zip","dict_itemiterator","dict_reverseitemiterator","odict_iterator","itertools.zip_longest","itertools.pairwise"].contains n=false)(hQ:Q () s):wpAny M A (letOwnedTupleGo tg (.ref it) u) Q E s:=by
 unfold letOwnedTupleGo
 cases tg<;>first
  | exact wpAny_pure hQ
  | (cases u<;>first
    | exact wpAny_pure hQ
    | (refine wpAny_bind (wpAny_load ho ?_);rw[hc,hd];show wpAny M A (if(["enumerate","zip","dict_itemiterator","dict_reverseitemiterator","odict_iterator","itertools.zip_longest","itertools.pairwise"].contains n&&vs[0]?==some (rawInt _))=true then _ else _) Q E s;rw[if_neg (by intro h;rw[hn,Bool.false_and] at h;cases h)];exact wpAny_pure hQ))
def Itl (K:W.Frag)(a:Addr):It :=
 ⟨fun i H=>∃ xs x,SqL K H a xs/\xs[i]?=some x,fun i H x H'=>H'=H/\∀ xs,SqL K H a xs->xs[i]?=some x,fun i H=>∃ xs,SqL K H a xs/\xs.length<=i⟩
def Itr (lo:Int)(n:Nat):It:=⟨fun i _=>i < n,fun i H x H'=>H'=H/\x=.int (lo+i),fun i _=>n<=i⟩
theorem znV {P:Program}{w:World}{K:W.Frag}{tg:Expr}(a it:Addr):zsL P w K tg (Itl K a) [it] it (fun i h=>h.IsListIter it a i) where
 mem:=by simp
 obj:=fun i h st b hb=>by
  have e:b=it:=by simpa using hb
  subst e
  obtain⟨o,e,c,d⟩:=st
  exact⟨o,e,fun v z=>by rw[d] at z;cases z⟩
 keep:=fun i h h' st k=>st.at fun o e=>k it (by simp) o e
 item:=by
  intro X hP hw hK hc i pins s σ H E I hf st hg
  subst hP hw hK
  obtain⟨xs,x,hq,hx⟩:=hg
  obtain⟨its,rv,p,hz⟩:=I.list hq
  obtain⟨u,hu,ru⟩:=rv.get hx
  obtain⟨f0,f1,f2,f3,f4,f5⟩:=hf it (by simp)
  refine wpAny_pyNext_list_item st p.isList (x:=u) (by simpa using hu) fun h' st' sb=>?_
  have I1:Inv X pins σ H { s with heap:=h' }:=I.turned (t':=s.toks) (fun b o hb e=>(sb.2 b hb).trans e) f0 f1 f3 f4 f5
  obtain⟨o,e,c,d⟩:=id st'
  exact⟨u,rfl,zqq (s:={ s with heap:=h' }) e c d (by decide) ⟨x,H,I1,ru,⟨rfl,fun ys hy=>by rw[I.list_inj hy hq];exact hx⟩,st',fun b hb=>(hf b hb).1⟩⟩
 done:=by
  intro X hP hw hK hc i pins s σ H E I hf st hg
  subst hP hw hK
  obtain⟨xs,hq,hx⟩:=hg
  obtain⟨its,rv,p,hz⟩:=I.list hq
  obtain⟨f0,f1,f2,f3,f4,f5⟩:=hf it (by simp)
  have hl:=rv.length
  exact wpAny_pyNext_list_end (I.ok.hd hc) st p.isList (by simp;omega) fun h' eb=>⟨rfl,I.turned (t':=s.toks) (fun b o hb e=>eb b o hb e) f0 f1 f3 f4 f5⟩
 self:=fun _ _ _ _ _ st h=>wpAny_pyIter_listiter st h
theorem znc {P:Program}{w:World}{K:W.Frag}{tg:Expr}(it:Addr)(lo:Int)(n:Nat):zsL P w K tg (Itr lo n) [it] it (fun i h=>IsRangeIter h it (lo+(i:Nat)*1) ((n:Int)-(i:Nat)) 1) where
 mem:=by simp
 obj:=fun i h st b hb=>by
  have e:b=it:=by simpa using hb
  subst e
  exact⟨_,st,fun v z=>by
   have z':Data.fields _=Data.cell v:=z
   cases z'⟩
 keep:=fun i h h' st k=>k it (by simp) _ st
 item:=by
  intro X hP hw hK hc i pins s σ H E I hf st hg
  subst hP hw hK
  obtain⟨f0,f1,f2,f3,f4,f5⟩:=hf it (by simp)
  have W:=Walks.range (prog:=X.prog) (w:=X.w) (I.ok.hd hc) it lo 1 n
  refine W.item i s _ _ hg st fun v h' tk hv st' kk=>?_
  obtain⟨t,rfl⟩:=hv
  have I1:Inv X pins σ H { s with heap:=h',toks:=tk }:=I.turned (fun b o hb e=>kk b o (by simpa using hb) e) f0 f1 f3 f4 f5
  refine⟨_,rfl,zqq (s:={ s with heap:=h',toks:=tk }) (n:="range_iterator") st' rfl rfl (by decide) ⟨.int (lo+i),H,I1,⟨t,?_⟩,⟨rfl,rfl⟩,st',fun b hb=>(hf b hb).1⟩⟩
  rw[Int.mul_one]
 done:=by
  intro X hP hw hK hc i pins s σ H E I hf st hg
  subst hP hw hK
  obtain⟨f0,f1,f2,f3,f4,f5⟩:=hf it (by simp)
  exact wpAny_pyNext_range_end (I.ok.hd hc) st (by have:n<=i:=hg;omega) fun h' eb=>⟨rfl,I.turned (t':=s.toks) (fun b o hb e=>eb b o hb e) f0 f1 f3 f4 f5⟩
 self:=fun _ _ _ _ _ st h=>wpAny_pyIter_rangeiter st h
section
variable {X:Cx}{tg:Expr}
def zvp (K:W.Frag)(tl:TE):TI:=fun σ H R=>tl σ H fun x H1=>∃ a,x=.ref a/\(∃ xs,SqL K H1 a xs)/\R (Itl K a) H1
theorem zol {l:Expr}{tl:TE}(hl:PE X l tl):PI X tg l (zvp X.K tl):=by
 intro pins s σ H R I h
 refine thn (hl pins s σ H _ I h) fun v s1 ⟨x,H1,I1,r1,q1⟩=>?_
 obtain⟨a,e,⟨xs,hq⟩,q⟩:=q1
 subst e
 cases r1
 obtain⟨its,rv,p,hz⟩:=I1.list hq
 refine wpAny_pyIter_list p.isList ?_
 refine⟨s1.heap.objs.size,[s1.heap.objs.size],_,_,H1,rfl,I1.kept (t':=s1.toks) fun b o e=>Heap.get?_push_of_some _ e,znV a _,⟨_,Heap.get?_push_size _ rfl,rfl,rfl⟩,fun b hb=>?_,q⟩
 have e:b=s1.heap.objs.size:=by simpa using hb
 subst e
 exact I1.fpOk (Nat.le_refl _) (I1.hok.fresh (Nat.le_refl _))
theorem zpU {pins:List (Addr×Obj)}{σ:St}{H:Hp}{s:Shared}{R:It->Hp->Prop}{E:Value->Shared->Prop}{lo hi:Int}{t u v:Tok}{tk:Nat}(I:Inv X pins σ H s)(h1:-(2 ^ 62)<=lo)(h2:lo < 2 ^ 62)(h3:-(2 ^ 62)<=hi)(h4:hi < 2 ^ 62)
  (q:R (Itr lo (hi-lo).toNat) H):wpAny (model X.prog X.w) X.A (pyIter (.ref s.heap.objs.size)) (PIE X pins σ tg R) E { s with heap:=s.heap.push { cls:=.type "range",data:=.fields #[.int lo t,.int hi u,.int 1 v] },toks:=tk }:=by
 refine wpAny_pyIter_range (IsRange.new ..) (small_one h1 h2 h3 h4) ?_
 have I1:Inv X pins σ H { s with heap:=s.heap.push { cls:=.type "range",data:=.fields #[.int lo t,.int hi u,.int 1 v] },toks:=tk }:=I.kept fun b o e=>Heap.get?_push_of_some _ e
 refine⟨(s.heap.push { cls:=.type "range",data:=.fields #[.int lo t,.int hi u,.int 1 v] }).objs.size,[(s.heap.push { cls:=.type "range",data:=.fields #[.int lo t,.int hi u,.int 1 v] }).objs.size],_,_,H,rfl,
  I1.kept (t':=tk) fun b o e=>Heap.get?_push_of_some _ e,znc _ lo (hi-lo).toNat,?_,fun b hb=>?_,q⟩
 ·have e1:lo+((0:Nat):Int)*1=lo:=by simp
  have e2:(((hi-lo).toNat:Nat):Int)-((0:Nat):Int)=Builtin.Range.rangeSize lo hi 1:=by rw[rangeSize_one];split<;>omega
  show IsRangeIter _ _ (lo+((0:Nat):Int)*1) ((((hi-lo).toNat:Nat):Int)-((0:Nat):Int)) 1
  rw[e1,e2]
  exact Heap.get?_push_size _ rfl
 ·have e:b=(s.heap.push { cls:=.type "range",data:=.fields #[.int lo t,.int hi u,.int 1 v] }).objs.size:=by simpa using hb
  subst e
  exact I1.fpOk (Nat.le_refl _) (I1.hok.fresh (Nat.le_refl _))
def zvo (ta:TA):TI:=fun σ H R=>ta σ H fun vs H1=>∃ j:Int,vs=[.int j]/\-(2 ^ 62)<=j/\j < 2 ^ 62/\R (Itr 0 j.toNat) H1
theorem zkZ {a:Expr}{ta:TA}{p pos:Pos}(hg:Gl X "range")(hm:X.mg "range"=none)(ha:PA X [a] ta)(hs:starEach [a] X.env=[(false,eval a X.env)]:=by rfl):PI X tg (.Call (.Name "range" p) [a] [] pos) (zvo ta):=by
 intro pins s σ H R I h
 refine Call_ (zk7 I hg hm boot_range (PyProof.Rows.callWith_type1 (thn (ha pos pins s σ H _ I h) fun us s1 ⟨vs,H1,I1,r1,q1⟩=>?_) hs rfl))
 obtain⟨j,e,q1,q2,q⟩:=q1
 subst e
 cases r1 with
 | cons r rr =>
  cases rr
  obtain⟨t,rfl⟩:=r
  exact call_range_1 (zpU I1 (by omega) (by omega) q1 q2 (by simpa using q))
def zwm (wi:TI)(g:TG)(tb:TS):TS:=fun D σ H=>wi σ H fun J H1=>∃ W:Nat->Nat->St->Hp->Prop,(∃ m,W 0 m σ H1)/\∀ i m σ H,W i m σ H ->
 (J.stop i H/\D.nx σ H)∨(J.go i H/\∃ N:St->Hp->Prop,(∀ σ' H',N σ' H'->∃ m',m' < m/\W (i+1) m' σ' H')/\∀ x H',J.yld i H x H'->g x σ H' fun σ2 H2=>tb { D with nx:=N,ct:=N,bk:=D.nx } σ2 H2)
def zkY (fp:List Addr)(h:Heap):List (Addr×Obj):=fp.filterMap fun b=>(h.get? b).map fun o=>(b,o)
theorem zf9 {fp:List Addr}{h:Heap}{b:Addr}{o:Obj}(hb:b∈fp)(e:h.get? b=some o):(b,o)∈zkY fp h:=List.mem_filterMap.mpr ⟨b,hb,by rw[e];rfl⟩
theorem zov {fp:List Addr}{h:Heap}{p:Addr×Obj}(hp:p∈zkY fp h):p.1∈fp/\h.get? p.1=some p.2:=by
 obtain⟨b,hb,e⟩:=List.mem_filterMap.mp hp
 cases q:h.get? b with
 | none=>rw[q] at e;cases e
 | some o =>
  rw[q] at e
  have e':(b,o)=p:=Option.some.inj e
  subst e'
  exact⟨hb,q⟩
theorem Inv.pinned {pins:List (Addr×Obj)}{σ:St}{H:Hp}{s:Shared}{fp:List Addr}(I:Inv X pins σ H s)(hf:∀ b∈fp,znJ X pins H b)(ho:∀ b∈fp,∃ o,s.heap.get? b=some o/\∀ v,o.data≠.cell v):Inv X (pins++zkY fp s.heap) σ H s :=
 I.pins_of fun p hp=>(List.mem_append.mp hp).elim (fun z=>I.pin p (List.mem_append_right _ z)) fun z=>by
  obtain⟨hb,e⟩:=zov z
  obtain⟨f0,f1,f2,_⟩:=hf p.1 hb
  obtain⟨o,e',d⟩:=ho p.1 hb
  rw[e] at e';cases e'
  exact⟨e,f0,f1,f2,d⟩
theorem Inv.unpinned {pins pl:List (Addr×Obj)}{σ:St}{H:Hp}{s:Shared}(I:Inv X (pins++pl) σ H s):Inv X pins σ H s:=I.pins_of fun p hp=>I.pin p (List.mem_append_right _ (List.mem_append_left _ hp))
theorem zof {iter:Expr}{body:List Stmt}{wi:TI}{g:TG}{tb:TS}{pos:Pos}(hp:PassesOwn (model X.prog X.w) X.A X.env X.xe)(hc:X.calm=true)(hi:PI X tg iter wi)(hg:PG X tg g)(hb:PSs X body tb)
  (hs:∀ x,foldedSetIterable iter X.env x=pure x:=by intro _;rfl):PS X (.For tg iter body [] pos) (zwm wi g tb):=by
 intro pins s σ H D I h
 refine wpAny_For (thn (hi pins s σ H _ I h) fun v s1 h1=>thn h1 fun itv s2 h2=>?_) hs
 obtain⟨it,fp,tn,J,H2,e,I2,T,st2,f2,W,⟨m0,w0⟩,turn⟩:=h2
 subst e
 have stat:∀ {H':Hp},(∀ b∈fp,H' b=none)->∀ b∈fp,znJ X pins H' b:=fun hn b hb=>⟨hn b hb,(f2 b hb).2⟩
 refine codeAny_forLoop_any (fun n s'=>∃ i σ' H',Inv X pins σ' H' s'/\tn i s'.heap/\(∀ b∈fp,H' b=none)/\W i n σ' H') ?_ m0 ⟨0,σ,H2,I2,st2,fun b hb=>(f2 b hb).1,w0⟩
 rintro n s3 ⟨i,σ3,H3,I3,st3,fr3,w3⟩
 rcases turn i n σ3 H3 w3 with⟨stop,qn⟩ | ⟨go,N,hN,step⟩
 ·refine wpAny_passesOwn hp (thn (T.done X rfl rfl rfl hc i pins s3 σ3 H3 X.xe I3 (stat fr3) st3 stop) fun r s4 ⟨hr,I4⟩=>?_)
  subst hr
  exact wpAny_execs_nil ⟨σ3,H3,I4,qn⟩
 ·refine wpAny_passesOwn hp (thn (T.item X rfl rfl rfl hc i pins s3 σ3 H3 X.xe I3 (stat fr3) st3 go) fun r s4 ⟨u,hr,h4⟩=>?_)
  subst hr
  refine wpAny_passesOwn hp (thn h4 fun _ s5 ⟨x,H5,I5,r5,y5,st5,fr5⟩=>?_)
  have I5':=I5.pinned (stat fr5) (T.obj _ _ st5)
  refine wpAny_passesOwn hp (thn (hg _ s5 σ3 H5 x u _ I5' r5 (step x H5 y5)) fun _ s6 ⟨σ6,H6,I6,q6⟩=>?_)
  refine wpAny_passesOwn hp (thn (hb _ s6 σ6 H6 _ I6 q6) fun f s7 q7=>?_)
  have again:∀ {σ7:St}{H7:Hp},Inv X (pins++zkY fp s5.heap) σ7 H7 s7->N σ7 H7->∃ m,m < n/\∃ i σ' H',Inv X pins σ' H' s7/\tn i s7.heap/\(∀ b∈fp,H' b=none)/\W i m σ' H':=fun {σ7 H7} I7 n7=>by
   obtain⟨m',hm,w7⟩:=hN σ7 H7 n7
   refine⟨m',hm,i+1,σ7,H7,I7.unpinned,T.keep _ _ _ st5 fun b hb o e=>(I7.pin (b,o) (List.mem_append_right _ (List.mem_append_right _ (zf9 hb e)))).1,fun b hb=>?_,w7⟩
   obtain⟨o,e,d⟩:=T.obj _ _ st5 b hb
   exact(I7.pin (b,o) (List.mem_append_right _ (List.mem_append_right _ (zf9 hb e)))).2.1
  cases f with
  | next=>obtain⟨σ7,H7,I7,n7⟩:=q7;exact again I7 n7
  | cont=>obtain⟨σ7,H7,I7,n7⟩:=q7;exact again I7 n7
  | brk=>obtain⟨σ7,H7,I7,q7⟩:=q7;exact⟨σ7,H7,I7.unpinned,q7⟩
  | ret v=>obtain⟨x7,σ7,H7,I7,r7,q7⟩:=q7;exact⟨x7,σ7,H7,I7.unpinned,r7,q7⟩
end
theorem zqs {K:W.Frag}{a:Addr}{xs:List V}{g:TG}{tb:TS}{D:zjU}{σ:St}{H:Hp}(Pv:Nat->St->Hp->Prop)(h0:Pv 0 σ H)(hl:∀ i σ H,i<=xs.length->Pv i σ H->SqL K H a xs)
  (hs:∀ i x σ H,xs[i]?=some x->Pv i σ H->g x σ H fun σ2 H2=>tb { D with nx:=Pv (i+1),ct:=Pv (i+1),bk:=D.nx } σ2 H2)(hd:∀ σ H,Pv xs.length σ H->D.nx σ H) :
  ∃ W:Nat->Nat->St->Hp->Prop,(∃ m,W 0 m σ H)/\∀ i m σ H,W i m σ H ->
   ((Itl K a).stop i H/\D.nx σ H)∨((Itl K a).go i H/\∃ N:St->Hp->Prop,(∀ σ' H',N σ' H'->∃ m',m' < m/\W (i+1) m' σ' H')/\∀ x H',(Itl K a).yld i H x H'->g x σ H' fun σ2 H2=>tb { D with nx:=N,ct:=N,bk:=D.nx } σ2 H2):=by
 refine⟨fun i m σ H=>m=xs.length-i/\i<=xs.length/\Pv i σ H,⟨xs.length,by simp,Nat.zero_le _,h0⟩,?_⟩
 rintro i m σ H ⟨rfl,hi,p⟩
 have q:=hl i σ H hi p
 by_cases hlt:i < xs.length
 ·refine .inr ⟨⟨xs,xs[i],q,by simp [hlt]⟩,Pv (i+1),fun σ' H' p'=>⟨xs.length-(i+1),by omega,rfl,hlt,p'⟩,fun x H' y=>?_⟩
  obtain⟨e,y⟩:=y
  subst e
  exact hs i x σ _ (y xs q) p
 ·have e:i=xs.length:=by omega
  subst e
  exact .inl ⟨⟨xs,q,Nat.le_refl _⟩,hd σ H p⟩
theorem zoS {lo:Int}{n:Nat}{g:TG}{tb:TS}{D:zjU}{σ:St}{H:Hp}(Pv:Nat->St->Hp->Prop)(h0:Pv 0 σ H)
  (hs:∀ i σ H,i < n->Pv i σ H->g (.int (lo+i)) σ H fun σ2 H2=>tb { D with nx:=Pv (i+1),ct:=Pv (i+1),bk:=D.nx } σ2 H2)(hd:∀ σ H,Pv n σ H->D.nx σ H) :
  ∃ W:Nat->Nat->St->Hp->Prop,(∃ m,W 0 m σ H)/\∀ i m σ H,W i m σ H ->
   ((Itr lo n).stop i H/\D.nx σ H)∨((Itr lo n).go i H/\∃ N:St->Hp->Prop,(∀ σ' H',N σ' H'->∃ m',m' < m/\W (i+1) m' σ' H')/\∀ x H',(Itr lo n).yld i H x H'->g x σ H' fun σ2 H2=>tb { D with nx:=N,ct:=N,bk:=D.nx } σ2 H2):=by
 refine⟨fun i m σ H=>m=n-i/\i<=n/\Pv i σ H,⟨n,by simp,Nat.zero_le _,h0⟩,?_⟩
 rintro i m σ H ⟨rfl,hi,p⟩
 by_cases hlt:i < n
 ·refine .inr ⟨hlt,Pv (i+1),fun σ' H' p'=>⟨n-(i+1),by omega,rfl,hlt,p'⟩,fun x H' y=>?_⟩
  obtain⟨e,y⟩:=y
  subst e y
  exact hs i σ _ hlt p
 ·have e:i=n:=by omega
  subst e
  exact .inl ⟨Nat.le_refl _,hd σ H p⟩
abbrev R2:=V->V->Hp->VK->Prop
def OpR (X:Cx)(f:Value->Value->Sem Value)(r:R2):Prop :=
 ∀ (pins:List (Addr×Obj)) (s:Shared) (σ:St) (H:Hp) (x y:V) (v u:Value) (Q:VK),Inv X pins σ H s->zcz x v->zcz y u->r x y H Q ->
  wpAny (model X.prog X.w) X.A (f v u) (EP X pins σ Q) X.xe s
def UnR (X:Cx)(f:Value->Sem Value)(r:V->Hp->VK->Prop):Prop :=
 ∀ (pins:List (Addr×Obj)) (s:Shared) (σ:St) (H:Hp) (x:V) (v:Value) (Q:VK),Inv X pins σ H s->zcz x v->r x H Q ->
  wpAny (model X.prog X.w) X.A (f v) (EP X pins σ Q) X.xe s
def zhK (X:Cx)(f:Value)(r:List V->Hp->VK->Prop):Prop :=
 ∀ (pins:List (Addr×Obj)) (s:Shared) (σ:St) (H:Hp) (xs:List V) (us:List Value) (Q:VK),Inv X pins σ H s->zb0 xs us->r xs H Q ->
  wpAny (model X.prog X.w) X.A (call f us) (EP X pins σ Q) X.xe s
def zwH (X:Cx)(r:V->Hp->(Bool->Hp->Prop)->Prop):Prop :=
 ∀ (pins:List (Addr×Obj)) (s:Shared) (σ:St) (H:Hp) (x:V) (v:Value) (Q:Bool->Hp->Prop),Inv X pins σ H s->zcz x v->r x H Q ->
  wpAny (model X.prog X.w) X.A (truthy v) (TP X pins σ Q) X.xe s
def tOp (r:R2)(ta tb:TE):TE:=fun σ H Q=>ta σ H fun x H1=>tb σ H1 fun y H2=>r x y H2 Q
def tUn (r:V->Hp->VK->Prop)(ta:TE):TE:=fun σ H Q=>ta σ H fun x H1=>r x H1 Q
def rI (C:Int->Int->Prop)(g:Int->Int->V):R2:=fun x y H Q=>∃ i j,x=.int i/\y=.int j/\C i j/\Q (g i j) H
def rI0 (g:Int->Int->V):R2:=fun x y H Q=>∃ i j,x=.int i/\y=.int j/\Q (g i j) H
def rU (g:Int->V):V->Hp->VK->Prop:=fun x H Q=>∃ i,x=.int i/\Q (g i) H
section
variable {X:Cx}{a b c:Expr}{ta tb tc:TE}{pos:Pos}
theorem zvH (ha:PE X a ta)(hb:PE X b tb){pins:List (Addr×Obj)}{s:Shared}{σ:St}{H:Hp}{R:V->V->Hp->Prop}(I:Inv X pins σ H s)
  (h:ta σ H fun x H1=>tb σ H1 fun y H2=>R x y H2){Q:Value->Shared->Prop}{f:Value->Value->Sem Value}
  (hf:∀ v u s2 x y H2,Inv X pins σ H2 s2->zcz x v->zcz y u->R x y H2->wpAny (model X.prog X.w) X.A (f v u) Q X.xe s2) :
  wpAny (model X.prog X.w) X.A (eval a X.env) (fun v s₁=>wpAny (model X.prog X.w) X.A (eval b X.env) (fun u s₂=>wpAny (model X.prog X.w) X.A (f v u) Q X.xe s₂) X.xe s₁) X.xe s:=by
 refine thn (ha pins s σ H _ I h) fun v s1 ⟨x,H1,I1,r1,q1⟩=>?_
 refine thn (hb pins s1 σ H1 _ I1 q1) fun u s2 ⟨y,H2,I2,r2,q2⟩=>?_
 exact hf v u s2 x y H2 I2 r1 r2 q2
theorem ztB {op:Operator}{r:R2}(ho:OpR X (binaryOp op) r)(ha:PE X a ta)(hb:PE X b tb):PE X (.BinOp a op b pos) (tOp r ta tb):=by
 intro pins s σ H Q I h
 exact wpAny_BinOp (zvH ha hb I h fun v u s2 x y H2 I2 rx ry q=>ho pins s2 σ H2 x y v u Q I2 rx ry q)
theorem ztx {op:UnaryOp}{r:V->Hp->VK->Prop}(ho:UnR X (unaryOp op) r)(ha:PE X a ta):PE X (.UnaryOp op a pos) (tUn r ta):=by
 intro pins s σ H Q I h
 exact UnaryOp_ (thn (ha pins s σ H _ I h) fun v s1 ⟨x,H1,I1,r1,q1⟩=>ho pins s1 σ H1 x v Q I1 r1 q1)
theorem opI {f:Value->Value->Sem Value}{C:Int->Int->Prop}{g:Int->Int->Int}
  (rule:∀ (i j:Int) (t u:Tok) (s:Shared) (Q:Value->Shared->Prop) (E:Value->Shared->Prop),C i j->Q (.int (g i j) s.toks) { s with toks:=s.toks+1 }->wpAny (model X.prog X.w) X.A (f (.int i t) (.int j u)) Q E s) :
  OpR X f (rI C fun i j=>.int (g i j)):=by
 intro pins s σ H x y v u Q I rx ry h
 obtain⟨i,j,rfl,rfl,hc,q⟩:=h
 obtain⟨t,rfl⟩:=rx
 obtain⟨t',rfl⟩:=ry
 exact rule i j t t' s _ _ hc ⟨.int (g i j),H,I.tok _,⟨_,rfl⟩,q⟩
theorem zv0 {f:Value->Value->Sem Value}{g:Int->Int->Int}
  (rule:∀ (i j:Int) (t u:Tok) (s:Shared) (Q:Value->Shared->Prop) (E:Value->Shared->Prop),Q (.int (g i j) s.toks) { s with toks:=s.toks+1 }->wpAny (model X.prog X.w) X.A (f (.int i t) (.int j u)) Q E s) :
  OpR X f (rI0 fun i j=>.int (g i j)):=by
 intro pins s σ H x y v u Q I rx ry h
 obtain⟨i,j,rfl,rfl,q⟩:=h
 obtain⟨t,rfl⟩:=rx
 obtain⟨t',rfl⟩:=ry
 exact rule i j t t' s _ _ ⟨.int (g i j),H,I.tok _,⟨_,rfl⟩,q⟩
theorem zuv {f:Value->Value->Sem Value}{g:Int->Int->Bool}
  (rule:∀ (i j:Int) (t u:Tok) (s:Shared) (Q:Value->Shared->Prop) (E:Value->Shared->Prop),Q (.bool (g i j)) s->wpAny (model X.prog X.w) X.A (f (.int i t) (.int j u)) Q E s) :
  OpR X f (rI0 fun i j=>.bl (g i j)):=by
 intro pins s σ H x y v u Q I rx ry h
 obtain⟨i,j,rfl,rfl,q⟩:=h
 obtain⟨t,rfl⟩:=rx
 obtain⟨t',rfl⟩:=ry
 exact rule i j t t' s _ _ ⟨.bl (g i j),H,I,rfl,q⟩
def zwK (i j:Int):Prop:=0<=j/\j<=1000000/\i.natAbs < 2 ^ 64
def zv8 (i j:Int):Prop:=(-(2 ^ 64) < i/\i < 2 ^ 64)∨(-(2 ^ 64) < j/\j < 2 ^ 64)
theorem zv8.ok {i j:Int}(h:zv8 i j):IntMulOk i j:=by
 rcases h with⟨h1,h2⟩ | ⟨h1,h2⟩
 ·exact .of_left (intBits_le_64 h1 h2)
 ·exact .of_right (intBits_le_64 h1 h2)
theorem ztM:OpR X (binaryOp .Add) (rI0 fun i j=>.int (i+j)):=zv0 fun _ _ _ _ _ _ _ q=>add_int q
theorem ztH:OpR X (binaryOp .Sub) (rI0 fun i j=>.int (i-j)):=zv0 fun _ _ _ _ _ _ _ q=>sub_int q
theorem zrZ:OpR X (binaryOp .Mod) (rI (fun _ j=>j≠0) fun i j=>.int (i.fmod j)):=opI fun _ _ _ _ _ _ _ hc q=>mod_int' hc q
theorem ztJ:OpR X (binaryOp .Pow) (rI zwK fun i j=>.int (i ^ j.toNat)):=opI fun _ _ _ _ _ _ _ hc q=>pow_int_small hc.1 hc.2.1 hc.2.2 q
theorem unI {f:Value->Sem Value}{g:Int->Int}
  (rule:∀ (i:Int) (t:Tok) (s:Shared) (Q:Value->Shared->Prop) (E:Value->Shared->Prop),Q (.int (g i) s.toks) { s with toks:=s.toks+1 }->wpAny (model X.prog X.w) X.A (f (.int i t)) Q E s) :
  UnR X f (rU fun i=>.int (g i)):=by
 intro pins s σ H x v Q I rx h
 obtain⟨i,rfl,q⟩:=h
 obtain⟨t,rfl⟩:=rx
 exact rule i t s _ _ ⟨.int (g i),H,I.tok _,⟨_,rfl⟩,q⟩
theorem zqU:UnR X (unaryOp .USub) (rU fun i=>.int (-i)):=unI fun _ _ _ _ _ q=>neg_int q
end
section
variable {X:Cx}{a b c:Expr}{ta tb tc:TE}{pos:Pos}
theorem zoW {pins:List (Addr×Obj)}{σ:St}{H:Hp}{s:Shared}{Q:VK}{k k':Bool}(I:Inv X pins σ H s)(q:Q (.bl k) H)(e:k=k'):EP X pins σ Q (.bool k') s:=by
 subst e
 exact⟨.bl k,H,I,rfl,q⟩
theorem zk1:OpR X (compareOp .Lt) (rI0 fun i j=>.bl (decide (i < j))):=zuv fun _ _ _ _ _ _ _ q=>lt_int q
theorem znj:OpR X (compareOp .LtE) (rI0 fun i j=>.bl (decide (i<=j))):=zuv fun _ _ _ _ _ _ _ q=>le_int q
theorem zlY:OpR X (compareOp .Gt) (rI0 fun i j=>.bl (decide (j < i))):=zuv fun _ _ _ _ _ _ _ q=>gt_int q
theorem znk:OpR X (compareOp .GtE) (rI0 fun i j=>.bl (decide (j<=i))):=zuv fun _ _ _ _ _ _ _ q=>ge_int q
theorem zot:OpR X (compareOp .In) (fun x y H Q=>∃ i j,x=.str i/\y=.str j/\Q (.bl (!(Builtin.Str.occurrences j i 0 j.length 1).isEmpty)) H):=by
 intro pins s σ H x y v u Q I rx ry h
 obtain⟨i,j,rfl,rfl,q⟩:=h
 obtain⟨t,rfl⟩:=rx
 obtain⟨t',rfl⟩:=ry
 exact in_str (zoW I q rfl)
theorem zmD:OpR X (compareOp .Is) (fun x y H Q=>y=.non/\Q (.bl (decide (x=.non))) H):=by
 intro pins s σ H x y v u Q I rx ry h
 obtain⟨rfl,q⟩:=h
 cases ry
 refine is_none_gen (zoW I q ?_)
 cases x<;>first
  | (cases rx;rfl)
  | (obtain⟨t,rfl⟩:=rx;rfl)
theorem zor:OpR X (compareOp .IsNot) (fun x y H Q=>y=.non/\Q (.bl (!decide (x=.non))) H):=by
 intro pins s σ H x y v u Q I rx ry h
 obtain⟨rfl,q⟩:=h
 cases ry
 refine isnot_none_gen (zoW I q ?_)
 cases x<;>first
  | (cases rx;rfl)
  | (obtain⟨t,rfl⟩:=rx;rfl)
theorem OpR.or {f:Value->Value->Sem Value}{r r':R2}(h:OpR X f r)(h':OpR X f r'):OpR X f (fun x y H Q=>r x y H Q∨r' x y H Q):=by
 intro pins s σ H x y v u Q I rx ry q
 rcases q with q | q
 ·exact h pins s σ H x y v u Q I rx ry q
 ·exact h' pins s σ H x y v u Q I rx ry q
theorem zrW {op:CmpOp}{r:R2}(ho:OpR X (compareOp op) r)(ha:PE X a ta)(hb:PE X b tb)(hm:behindInMarks op b=false):PE X (.Compare a [op] [b] pos) (tOp r ta tb):=by
 intro pins s σ H Q I h
 exact wpAny_Compare1 (zvH ha hb I h fun v u s2 x y H2 I2 rx ry q=>ho pins s2 σ H2 x y v u Q I2 rx ry q) hm
def zs3 (t:TE):TT:=fun σ H Q=>t σ H fun x H'=>∃ k,x=.bl k/\Q k H'
theorem zrO {op:CmpOp}{r:R2}(ho:OpR X (compareOp op) r)(ha:PE X a ta)(hb:PE X b tb)(hm:behindInMarks op b=false):PT X (.Compare a [op] [b] pos) (zs3 (tOp r ta tb)):=by
 intro pins s σ H Q I h
 refine wpAny_isTrue_Compare1 (thn (ha pins s σ H _ I h) fun v s1 ⟨x,H1,I1,r1,q1⟩=>thn (hb pins s1 σ H1 _ I1 q1) fun u s2 ⟨y,H2,I2,r2,q2⟩ =>
  thn (ho pins s2 σ H2 x y v u _ I2 r1 r2 q2) fun c s3 ⟨z,H3,I3,r3,k,e,q3⟩=>?_) hm
 subst e
 cases r3
 exact wpAny_truthy_bool ⟨H3,I3,q3⟩
def znZ (r r':R2)(ta tb tc:TE):TE:=fun σ H Q=>ta σ H fun x H1=>tb σ H1 fun y H2=>r x y H2 fun z H3=>∃ k,z=.bl k /\
 (if k=true then tc σ H3 fun w' H4=>r' y w' H4 Q else Q (.bl false) H3)
theorem zp3 {op op':CmpOp}{r r':R2}(ho:OpR X (compareOp op) r)(ho':OpR X (compareOp op') r')(ha:PE X a ta)(hb:PE X b tb)(hc:PE X c tc)
  (hm:lastMarks [op,op'] [b,c]=false:=by with_unfolding_all rfl):PE X (.Compare a [op,op'] [b,c] pos) (znZ r r' ta tb tc):=by
 intro pins s σ H Q I h
 refine Compare_chain (thn (ha pins s σ H _ I h) fun v s1 ⟨x,H1,I1,r1,q1⟩=>chain_link (thn (hb pins s1 σ H1 _ I1 q1) fun u s2 ⟨y,H2,I2,r2,q2⟩ =>
  thn (ho pins s2 σ H2 x y v u _ I2 r1 r2 q2) fun d s3 ⟨z,H3,I3,r3,k,e,q3⟩=>?_)) hm
 subst e
 cases r3
 refine wpAny_truthy_bool ?_
 cases k with
 | false=>exact ite_ff ⟨.bl false,H3,I3,rfl,q3⟩
 | true=>exact ite_tt (chain_last (thn (hc pins s3 σ H3 _ I3 q3) fun w' s4 ⟨z',H4,I4,r4,q4⟩=>ho' pins s4 σ H4 y z' u w' Q I4 r2 r4 q4))
theorem zpX {op op':CmpOp}{r r':R2}(ho:OpR X (compareOp op) r)(ho':OpR X (compareOp op') r')(ha:PE X a ta)(hb:PE X b tb)(hc:PE X c tc)
  (hm:lastMarks [op,op'] [b,c]=false:=by with_unfolding_all rfl):PT X (.Compare a [op,op'] [b,c] pos) (zs3 (znZ r r' ta tb tc)):=by
 intro pins s σ H Q I h
 refine isTrue_chain (thn (ha pins s σ H _ I h) fun v s1 ⟨x,H1,I1,r1,q1⟩=>test_link (thn (hb pins s1 σ H1 _ I1 q1) fun u s2 ⟨y,H2,I2,r2,q2⟩ =>
  thn (ho pins s2 σ H2 x y v u _ I2 r1 r2 q2) fun d s3 ⟨z,H3,I3,r3,k,e,q3⟩=>?_)) hm
 subst e
 cases r3
 refine wpAny_truthy_bool ?_
 cases k with
 | false =>
  obtain⟨k',e',q'⟩:=q3
  cases e'
  exact ite_ff ⟨H3,I3,q'⟩
 | true =>
  refine ite_tt (test_last (thn (hc pins s3 σ H3 _ I3 q3) fun w' s4 ⟨z',H4,I4,r4,q4⟩=>thn (ho' pins s4 σ H4 y z' u w' _ I4 r2 r4 q4) fun d' s5 ⟨z2,H5,I5,r5,k2,e2,q5⟩=>?_))
  subst e2
  cases r5
  exact wpAny_truthy_bool ⟨H5,I5,q5⟩
def zwG (K:W.Frag)(x:V)(H:Hp)(k:Bool):Prop :=
 match x with
 | .non=>k=false
 | .bl b=>k=b
 | .int i=>k=(i != 0)
 | .str y=>y.length<=sizeLine/\k=((y.length:Int) != 0)
 | .byt y=>y.size<=sizeLine/\k=((y.size:Int) != 0)
 | .ref p=>(∃ xs,SqL K H p xs/\k=!xs.isEmpty)∨(∃ xs,SqT K H p xs/\k=!xs.isEmpty)∨∃ kvs,H p=some (.dK kvs)/\k=!kvs.isEmpty
 | _=>False
theorem znv {κ:Type}{kvs:List (κ×V)}{vs:List (κ×Value)}(r:KV kvs vs):(!vs.isEmpty)=!kvs.isEmpty:=by
 cases r<;>rfl
theorem zjG {xs:List V}{its:List Value}(r:zb0 xs its):(!its.toArray.isEmpty)=!xs.isEmpty:=by
 cases r<;>simp
theorem zk6:(sizeLine:Nat) < 2 ^ 63:=by rw[sizeLine_eq];decide
theorem zvM:zwH X (fun x H Q=>∃ k,zwG X.K x H k/\Q k H):=by
 intro pins s σ H x v Q I rx h
 obtain⟨k,e,q⟩:=h
 have hl:=zk6
 have hs:sizeLine=16777216:=sizeLine_eq
 cases x with
 | non =>
  cases rx
  have e':k=false:=e
  subst e'
  exact truthy_none ⟨H,I,q⟩
 | bl b =>
  cases rx
  have e':k=b:=e
  subst e'
  exact wpAny_truthy_bool ⟨H,I,q⟩
 | int i =>
  obtain⟨t,rfl⟩:=rx
  have e':k=(i != 0):=e
  subst e'
  exact PySem.P.truthy_int ⟨H,I,q⟩
 | str y =>
  obtain⟨t,rfl⟩:=rx
  obtain⟨hy,e'⟩:y.length<=sizeLine/\k=((y.length:Int) != 0):=e
  subst e'
  exact PySem.P.truthy_str (by omega) ⟨H,I.tok _,q⟩
 | byt y =>
  obtain⟨t,rfl⟩:=rx
  obtain⟨hy,e'⟩:y.size<=sizeLine/\k=((y.size:Int) != 0):=e
  subst e'
  exact W.truthy_bytes (by omega) ⟨H,I.tok _,q⟩
 | ref p =>
  cases rx
  have e':(∃ xs,SqL X.K H p xs/\k=!xs.isEmpty)∨(∃ xs,SqT X.K H p xs/\k=!xs.isEmpty)∨∃ kvs,H p=some (.dK kvs)/\k=!kvs.isEmpty:=e
  rcases e' with⟨xs,hx,e'⟩ | ⟨xs,hx,e'⟩ | ⟨kvs,hx,e'⟩
  ·subst e'
   obtain⟨its,r,pl,hz⟩:=I.list hx
   have hlen:=r.length
   exact wpAny_truthy_list pl.isList (by simp only[List.size_toArray];omega) ⟨H,I.tok _,by rw[zjG r];exact q⟩
  ·subst e'
   obtain⟨its,r,pl,hz⟩:=I.tuple hx
   have hlen:=r.length
   exact truthy_tuple pl (by simp only[List.size_toArray];omega) ⟨H,I.tok _,by rw[zjG r];exact q⟩
  ·subst e'
   obtain⟨hz,hS,vs,r,m⟩:kvs.length<=sizeLine/\(p==sysModules)=false/\∃ vs,KV kvs vs/\s.heap.DictOf (zl4 X.prog X.w) p vs:=I.hok p _ hx
   have hlen:kvs.length=vs.length:=Paired.length r
   exact wpAny_truthy_dict hS m (by omega) ⟨H,I.tok _,by rw[znv r];exact q⟩
 | _=>exact(show False from e).elim
theorem znl:OpR X (binaryOp .Add) (fun x y H Q=>∃ i j,x=.str i/\y=.str j/\i.length+j.length<=sizeLine/\Q (.str (i++j)) H):=by
 intro pins s σ H x y v u Q I rx ry h
 obtain⟨i,j,rfl,rfl,hz,q⟩:=h
 obtain⟨t,rfl⟩:=rx
 obtain⟨t',rfl⟩:=ry
 exact add_str (fun t' tk=>⟨.str (i++j),H,I.tok _,⟨_,rfl⟩,q⟩) hz
theorem zlG {x:V}{us:List Value}(r:zb0 [x] us):∃ u,us=[u]/\zcz x u:=by
 cases r with
 | cons r1 r2=>cases r2;exact⟨_,rfl,r1⟩
theorem zuH {x y:V}{us:List Value}(r:zb0 [x,y] us):∃ u w',us=[u,w']/\zcz x u/\zcz y w':=by
 cases r with
 | cons r1 r2 =>
  cases r2 with
  | cons r3 r4=>cases r4;exact⟨_,_,rfl,r1,r3⟩
theorem zkA:zhK X (.builtin "abs") (fun xs H Q=>∃ i,xs=[.int i]/\Q (.int (if i < 0 then -i else i)) H):=by
 intro pins s σ H xs us Q I r h
 obtain⟨i,rfl,q⟩:=h
 obtain⟨u,rfl,t,rfl⟩:=zlG r
 exact call_abs_int fun u tk=>⟨.int (if i < 0 then -i else i),H,I.tok _,⟨_,rfl⟩,q⟩
theorem zpm (hc:X.calm=true):zhK X (.builtin "max") (fun xs H Q=>∃ i j,xs=[.int i,.int j]/\Q (.int (if j > i then j else i)) H):=by
 intro pins s σ H xs us Q I r h
 obtain⟨i,j,rfl,q⟩:=h
 obtain⟨u,w',rfl,⟨t,rfl⟩,⟨t',rfl⟩⟩:=zuH r
 refine max_two_ints (I.ok.hd hc) fun h' tk k=>⟨_,H,I.kept k,?_,q⟩
 by_cases hj:j > i
 ·rw[if_pos hj,if_pos hj];exact⟨_,rfl⟩
 ·rw[if_neg hj,if_neg hj];exact⟨_,rfl⟩
theorem zjh:zhK X (.type "int") (fun xs H Q=>(∃ i,xs=[.int i]/\Q (.int i) H)∨∃ k,xs=[.bl k]/\Q (.int (if k then 1 else 0)) H):=by
 intro pins s σ H xs us Q I r h
 rcases h with⟨i,rfl,q⟩ | ⟨k,rfl,q⟩
 ·obtain⟨u,rfl,t,rfl⟩:=zlG r
  exact call_int_int ⟨.int i,H,I,⟨_,rfl⟩,q⟩
 ·obtain⟨u,rfl,r1⟩:=zlG r
  cases r1
  exact call_int_bool ⟨.int (if k then 1 else 0),H,I.tok _,⟨_,rfl⟩,q⟩
def zv7 (K:W.Frag)(x:V)(H:Hp)(n:Nat):Prop :=
 match x with
 | .str y=>y.length<=sizeLine/\n=y.length
 | .byt y=>y.size<=sizeLine/\n=y.size
 | .ref p=>(∃ xs,SqL K H p xs/\n=xs.length)∨∃ xs,SqT K H p xs/\n=xs.length
 | _=>False
theorem zaS:zhK X (.builtin "len") (fun xs H Q=>∃ x n,xs=[x]/\zv7 X.K x H n/\Q (.int n) H):=by
 intro pins s σ H xs us Q I r h
 obtain⟨x,n,rfl,e,q⟩:=h
 obtain⟨u,rfl,rx⟩:=zlG r
 have hl:=zk6
 have hs:sizeLine=16777216:=sizeLine_eq
 cases x with
 | str y =>
  obtain⟨t,rfl⟩:=rx
  obtain⟨hy,e'⟩:y.length<=sizeLine/\n=y.length:=e
  subst e'
  exact len_str (by omega) ⟨.int _,H,I.tok _,⟨_,rfl⟩,q⟩
 | byt y =>
  obtain⟨t,rfl⟩:=rx
  obtain⟨hy,e'⟩:y.size<=sizeLine/\n=y.size:=e
  subst e'
  exact W.len_bytes (by omega) ⟨.int _,H,I.tok _,⟨_,rfl⟩,q⟩
 | ref p =>
  cases rx
  have e':(∃ xs,SqL X.K H p xs/\n=xs.length)∨∃ xs,SqT X.K H p xs/\n=xs.length:=e
  rcases e' with⟨xs,hx,e'⟩ | ⟨xs,hx,e'⟩
  ·subst e'
   obtain⟨its,r',pl,hz⟩:=I.list hx
   have hlen:=r'.length
   exact Calls.call_len_list pl.isList (by simp only[List.size_toArray];omega) ⟨.int xs.length,H,I.tok _,⟨_,by simp only[List.size_toArray];rw[hlen]⟩,q⟩
  ·subst e'
   obtain⟨its,r',pl,hz⟩:=I.tuple hx
   have hlen:=r'.length
   exact len_tuple pl (by simp only[List.size_toArray];omega) ⟨.int xs.length,H,I.tok _,⟨_,by simp only[List.size_toArray];rw[hlen]⟩,q⟩
 | _=>exact(show False from e).elim
end
structure zvJ (h:Heap) (x dx C:Addr) (mA:Str->Option Value):Prop where
 obj:h.get? x=some (W.instObj C dx)
 ns:h.Ns1 dx mA
 ne:dx≠x
theorem zk5 {h:Heap}{dx:Addr}{mA:Str->Option Value}(n:h.Ns1 dx mA):∃ od,h.get? dx=some od/\∀ name,W.lookIn name od=some (mA name):=by
 obtain⟨o,es,ep,ho,hd,hk,_,hm⟩:=n
 refine⟨o,ho,fun name=>?_⟩
 have e:=hm name
 unfold nsFind findBy at e
 rw[← Array.find?_toList] at e
 unfold W.lookIn
 rw[hd]
 dsimp only
 split
 ·rename_i y q
  rw[q] at e
  exact congrArg some e
 ·rename_i q
  rw[q] at e
  have a:es.toList.any (·.refKey)=false:=by
   rw[List.any_eq_false]
   intro y hy
   obtain⟨z,t,hkey⟩:=hk y (Array.mem_toList_iff.mp hy)
   simp [DictEntry.refKey,hkey]
  have a':¬ es.toList.any (·.refKey)=true:=by rw[a];exact Bool.false_ne_true
  rw[if_neg a']
  exact congrArg some e
theorem zvJ.look {h:Heap}{x dx C:Addr}{mA:Str->Option Value}(I:zvJ h x dx C mA):∃ od,W.InstAt h x (W.instObj C dx) C (some od)/\∀ name,W.lookIn name od=some (mA name) :=
 let ⟨od,ho,hl⟩:=zk5 I.ns
 ⟨od,⟨I.obj,rfl,rfl,ho⟩,hl⟩
section
variable {prog:Program}{w:World}{A:Around}{E:Value->Shared->Prop}{s:Shared}{K:W.Frag}{x dx C f:Addr}{mA:Str->Option Value}{name:Str}{v:Value}
end
def zlx (f:Str)(v:V):List (Str×V)->List (Str×V)
 | []=>[(f,v)]
 | (g,x)::r=>if g=f then(g,v)::r else(g,x)::zlx f v r
theorem ziR (f g:Str)(v:V):∀ fs:List (Str×V),(zlx f v fs).lookup g=if g=f then some v else fs.lookup g
 | []=>by
  show List.lookup g [(f,v)]=_
  by_cases h:g=f
  ·have hb:(g==f)=true:=beq_iff_eq.mpr h
   simp only[List.lookup,hb,if_pos h]
  ·have hb:(g==f)=false:=beq_eq_false_iff_ne.mpr h
   simp only[List.lookup,hb,if_neg h]
 | (k,x)::r=>by
  have ih:=ziR f g v r
  rw[show zlx f v ((k,x)::r)=(if k=f then(k,v)::r else(k,x)::zlx f v r) from rfl]
  by_cases hk:k=f
  ·rw[if_pos hk]
   by_cases h:g=k
   ·have hb:(g==k)=true:=beq_iff_eq.mpr h
    simp only[List.lookup,hb,if_pos (h.trans hk)]
   ·have hb:(g==k)=false:=beq_eq_false_iff_ne.mpr h
    simp only[List.lookup,hb,if_neg (fun e:g=f=>h (e.trans hk.symm))]
  ·rw[if_neg hk]
   by_cases h:g=k
   ·have hb:(g==k)=true:=beq_iff_eq.mpr h
    simp only[List.lookup,hb,if_neg (fun e:g=f=>hk (h.symm.trans e))]
   ·have hb:(g==k)=false:=beq_eq_false_iff_ne.mpr h
    simp only[List.lookup,hb]
    exact ih
theorem ziV (f:Str)(v:V):∀ fs:List (Str×V),f∈(zlx f v fs).map (·.1)/\∀ g,g∈fs.map (·.1)->g∈(zlx f v fs).map (·.1)
 | []=>⟨by simp [zlx],fun g h=>by simp at h⟩
 | (k,x)::r=>by
  obtain⟨i1,i2⟩:=ziV f v r
  rw[show zlx f v ((k,x)::r)=(if k=f then(k,v)::r else(k,x)::zlx f v r) from rfl]
  by_cases hk:k=f
  ·rw[if_pos hk]
   subst hk
   exact⟨by simp,fun g h=>by simpa using h⟩
  ·rw[if_neg hk]
   refine⟨?_,fun g h=>?_⟩
   ·rw[List.map_cons]
    exact List.mem_cons_of_mem _ i1
   ·rw[List.map_cons] at h ⊢
    rcases List.mem_cons.mp h with e | e
    ·exact List.mem_cons.mpr (.inl e)
    ·exact List.mem_cons_of_mem _ (i2 g e)
section
variable {P:Program}{w:World}{H H':Hp}{h h':Heap}{a C dx:Addr}{fs fs':List (Str×V)}
theorem zoM (hok:HOk P w H h)(e:H a=some (.ins C dx fs)):∃ mA,zvJ h a dx C mA/\(∀ f,zun (fs.lookup f) (mA f))/\PySem.Within mA (fs.map (·.1))/\fs.length<=1000/\H dx=some (.own a):=by
 obtain⟨d,z,ne,ob,mA,n,r,q⟩:=(show zcj P w H h a (.ins C dx fs) from hok a _ e)
 exact⟨mA,⟨ob,n,ne⟩,r,q,z,d⟩
end
structure Cls (K:W.Frag) (C:Addr):Prop where
 pg:W.plainGet K C Str.empty=true
 hd:W.hasDictIn K C=true
 po:W.plainOver K C=true
 sa:W.findIn K (.ref C) "__setattr__"=some (some (.builtin "object.__setattr__"))
theorem Cls.get {K:W.Frag}{C:Addr}(c:Cls K C)(f:Str):W.plainGet K C f=true:=c.pg
def zjQ (K:W.Frag)(C:Addr)(f:Str):Prop:=W.findIn K (.ref C) f=some none
section
variable {X:Cx}{pins:List (Addr×Obj)}{σ:St}{H:Hp}{s:Shared}{a C dx:Addr}{fs:List (Str×V)}{f:Str}{v:V}{A:Around}{E:Value->Shared->Prop}
end
section
variable {X:Cx}{o e value:Expr}{f:Str}{pos pos' tpos:Pos}{ta tv:TE}
end
section
variable {X:Cx}{pins:List (Addr×Obj)}{σ:St}{H:Hp}{s:Shared}{A:Around}{E:Value->Shared->Prop}{Q:Value->Shared->Prop}{c:Value}{b:Bool}
inductive znM (K:W.Frag) (H:Hp):V->Value->Prop where
 | non:znM K H .non (.type "NoneType")
 | bl (x:Bool):znM K H (.bl x) (.type "bool")
 | int (i:Int):znM K H (.int i) (.type "int")
 | str (x:Str):znM K H (.str x) (.type "str")
 | flt (x:UInt64):znM K H (.flt x) (.type "float")
 | lst {a:Addr}{xs:List V}(e:H a=some (.lst xs)):znM K H (.ref a) (.type "list")
 | frz {a:Addr}{o:Obj}{xs:List V}(e:H a=some (.frz o (.lst xs))):znM K H (.ref a) (.type "list")
 | tup {a:Addr}{xs:List V}(e:H a=some (.tup xs)):znM K H (.ref a) (.type "tuple")
 | dK {a:Addr}{kvs:List (Key×V)}(e:H a=some (.dK kvs)):znM K H (.ref a) (.type "dict")
 | dT {a:Addr}{kvs:List (List Key×V)}(e:H a=some (.dT kvs)):znM K H (.ref a) (.type "dict")
 | ins {a C dx:Addr}{fs:List (Str×V)}(e:H a=some (.ins C dx fs)) (cl:Cls K C) (ha:W.findIn K (.ref C) "__class__"=some (some (.builtin "object.__class__")))
   (hn:W.specialIn K (.builtin "object.__class__") "__get__"=some (some (.builtin "getset_descriptor.__get__"))) (htk:W.takesIn K (.builtin "object.__class__")=some true)
   (hm:W.mroIn K C (.type "object")=some true):znM K H (.ref a) (.ref C)
theorem zg7 {x:V}{u t:Value}(I:Inv X pins σ H s)(rx:zcz x u)(ty:znM X.K H x t)(e:W.kitOne X.K t c=some b)(h:∀ tk,Q (.bool b) { s with toks:=tk }) :
  wpAny (model X.prog X.w) A (call (.builtin "isinstance") [u,c]) Q E s:=by
 cases ty with
 | non=>cases (show u=Value.none from rx);exact W.kia_one W.kitx_none I.kIn True.intro e (fun z=>nomatch z) h
 | bl y=>cases (show u=Value.bool y from rx);exact W.kia_one W.kitx_bool I.kIn True.intro e (fun z=>nomatch z) h
 | int i=>obtain⟨t,q⟩:=(show ∃ t,u=Value.int i t from rx);cases q;exact W.kia_one W.kitx_int I.kIn True.intro e (fun z=>nomatch z) h
 | str y=>obtain⟨t,q⟩:=(show ∃ t,u=Value.str y t from rx);cases q;exact W.kia_one W.kitx_str I.kIn True.intro e (fun z=>nomatch z) h
 | flt y=>obtain⟨t,q⟩:=(show ∃ t,u=Value.float y t from rx);cases q;exact W.kia_one W.kitx_float I.kIn True.intro e (fun z=>nomatch z) h
 | @lst a xs ea =>
  cases (show u=Value.ref a from rx)
  obtain⟨_,_,n,_,h1⟩:=(show zcj X.prog X.w H s.heap a (.lst xs) from I.hok a _ ea)
  exact W.kia_one W.kitx_list I.kIn ⟨_,h1,rfl⟩ e (fun z=>nomatch z) h
 | @frz a ob xs ea =>
  cases (show u=Value.ref a from rx)
  obtain⟨_,_,_,n,_,h1⟩:=(show zcj X.prog X.w H s.heap a (.frz ob (.lst xs)) from I.hok a _ ea)
  exact W.kia_one W.kitx_list I.kIn ⟨_,h1,rfl⟩ e (fun z=>nomatch z) h
 | @tup a xs ea =>
  cases (show u=Value.ref a from rx)
  obtain⟨_,_,_,p⟩:=(show zcj X.prog X.w H s.heap a (.tup xs) from I.hok a _ ea)
  obtain⟨o,h1,h2,_⟩:=p
  exact W.kia_one W.kitx_tuple I.kIn ⟨o,h1,h2⟩ e (fun z=>nomatch z) h
 | @dK a kvs ea =>
  cases (show u=Value.ref a from rx)
  obtain⟨_,_,vs,_,p⟩:=(show zcj X.prog X.w H s.heap a (.dK kvs) from I.hok a _ ea)
  obtain⟨o,es,ep,h1,h2,_⟩:=p
  exact W.kia_one W.kitx_dict I.kIn ⟨o,h1,h2.1⟩ e (fun z=>nomatch z) h
 | @dT a kvs ea =>
  cases (show u=Value.ref a from rx)
  obtain⟨_,_,xs,_,o,es,ep,h1,h2,_⟩:=(show zcj X.prog X.w H s.heap a (.dT kvs) from I.hok a _ ea)
  exact W.kia_one W.kitx_dict I.kIn ⟨o,h1,h2.1⟩ e (fun z=>nomatch z) h
 | @ins a C dx fs ea cl ha hn htk hm =>
  cases (show u=Value.ref a from rx)
  obtain⟨mA,O,_⟩:=zoM I.hok ea
  obtain⟨od,J,_⟩:=O.look
  exact W.kia_one (W.kitx_own (cl.get _) cl.hd ha hn htk hm) I.kIn J e (fun z=>nomatch z) h
end
structure zgV (k:Nat) (A:Around):Prop where
 hd:A.handled=none
 dp:A.depth+3*k+5 < recursionLimit
 un:A.units+16*k+200 < cLine
theorem zgV.mono {j k:Nat}{A:Around}(r:zgV k A)(h:j<=k):zgV j A:=⟨r.hd,by have:=r.dp;omega,by have:=r.un;omega⟩
theorem zgV.deeper {k:Nat}{A:Around}(r:zgV (k+1) A)(env:Env):zgV k (A.deeper env) :=
 ⟨r.hd,by have:=r.dp;show A.depth+1+3*k+5 < _;omega,by have:=r.un;show A.units+3+16*k+200 < _;omega⟩
theorem znr {A:Around}{C:Addr}{us:List Value}{kw:List (Str×Value)}:(A.under (.builtin "type.__call__" ⟨.ref C::us,kw⟩)).depth=A.depth+1:=by
 first | rfl | simp [Around.under,Code.weight,Code.isCreation,Code.isGuard,Code.isCaller,Code.frames,Code.isFrame,guardIds]
theorem znq {A:Around}{C:Addr}{us:List Value}{kw:List (Str×Value)}:(A.under (.builtin "type.__call__" ⟨.ref C::us,kw⟩)).units=A.units+1:=by
 first | rfl | simp [Around.under,Code.cUnits,Code.frames,Code.isFrame]
theorem zgV.make {k:Nat}{A:Around}(r:zgV (k+1) A)(C:Addr)(us:List Value)(kw:List (Str×Value)):zgV k (A.under (.builtin "type.__call__" ⟨.ref C::us,kw⟩)) :=
 ⟨r.hd,by have:=r.dp;rw[znr];omega,by have:=r.un;rw[znq];omega⟩
theorem zgV.depth {k:Nat}{A:Around}(r:zgV k A):A.depth < recursionLimit:=by have:=r.dp;omega
theorem zgV.units {k:Nat}{A:Around}(r:zgV k A):A.units+64 < cLine:=by have:=r.un;omega
def zwj:TA:=fun _ H Q=>Q [] H
def zuQ (ta:TE)(tr:TA):TA:=fun σ H Q=>ta σ H fun x H1=>tr σ H1 fun xs H2=>Q (x::xs) H2
section
variable {X:Cx}{e:Expr}{es:List Expr}{te:TE}{t:TA}{pos:Pos}
theorem zgn:PA X [] zwj:=fun _ _ _ _ H Q I h=>Calls.spliced_nil ⟨[],H,I,.nil,h⟩
theorem zc7 (ha:PE X e te)(hr:PA X es t)(hs:starEach (e::es) X.env=(false,eval e X.env)::starEach es X.env:=by rfl):PA X (e::es) (zuQ te t):=by
 intro pos pins s σ H Q I h
 rw[hs]
 show wpAny _ _ (spliced ((false,eval e X.env)::backTo pos (starEach es X.env))) _ _ s
 refine Calls.spliced_cons (thn (ha pins s σ H _ I h) fun u s1 ⟨x,H1,I1,r1,q1⟩=>?_)
 exact thn (hr pos pins s1 σ H1 _ I1 q1) fun us s2 ⟨xs,H2,I2,r2,q2⟩=>⟨x::xs,H2,I2,.cons r1 r2,q2⟩
def zwc (t:TA):TE:=fun σ H Q=>t σ H fun xs H1=>xs.length<=sizeLine/\∀ p,H1 p=none->Q (.ref p) (upd H1 p (.tup xs))
def zwk (t:TA):TE:=fun σ H Q=>t σ H fun xs H1=>xs.length<=sizeLine/\∀ p,H1 p=none->Q (.ref p) (upd H1 p (.lst xs))
theorem zty {x1}(h:PA X es t):PE X (.Tuple es x1 pos) (zwc t):=by
 intro pins s σ H Q I hq
 refine wpAny_Tuple_spliced (thn (h pos pins s σ H _ I hq) fun us s1 ⟨xs,H1,I1,r,z,q⟩=>⟨by rw[← r.length];exact z,?_⟩)
 have hf:H1 s1.heap.objs.size=none:=I1.hok.fresh (Nat.le_refl _)
 refine⟨.ref s1.heap.objs.size,upd H1 s1.heap.objs.size (.tup xs),I1.laid (t':=s1.toks) (fun b u e=>Heap.get?_push_of_some _ e) (Nat.le_refl _) ?_,rfl,q _ hf⟩
 exact⟨z,us,r,⟨_,Heap.get?_push_size _ rfl,rfl,_,rfl⟩⟩
theorem zq8 (h:PA X es t):PE X (.List es pos) (zwk t):=by
 intro pins s σ H Q I hq
 refine wpAny_List_spliced (thn (h pos pins s σ H _ I hq) fun us s1 ⟨xs,H1,I1,r,z,q⟩=>⟨by rw[← r.length];exact z,?_⟩)
 have hf:H1 s1.heap.objs.size=none:=I1.hok.fresh (Nat.le_refl _)
 refine⟨.ref s1.heap.objs.size,upd H1 s1.heap.objs.size (.lst xs),I1.laid (t':=s1.toks) (fun b u e=>Heap.get?_push_of_some _ e) (Nat.le_refl _) ?_,rfl,q _ hf⟩
 exact⟨z,us,0,r,Heap.get?_push_size _ rfl⟩
end
abbrev Sp:=List V->Hp->VK->XK->Prop
abbrev CXT:=List Env->Hp->Shared->XK->Value->Shared->Prop
structure zrn (P:Program) (w:World) (K:W.Frag) (mg:Str->Option Value) (base:Heap) (A:Around) (outer:List Env) (s:Shared) (H:Hp):Prop where
 frames:A.frames=some outer
 mod:Mod K mg base
 bs:∀ b o,base.get? b=some o->s.heap.get? b=some o/\H b=none
 bsz:base.objs.size<=s.heap.objs.size
 funs:s.heap.FunFrames base outer
 frf:∀ b∈frs outer,H b=none
 hok:HOk P w H s.heap
 bare:AllBare s.gens
def CE (outer:List Env)(P:Program)(w:World)(H:Hp)(s:Shared)(Q:VK)(u:Value)(s':Shared):Prop :=
 ∃ v H',s'.os=s.os/\AllBare s'.gens/\Un (frs outer) [] H H' s.heap s'.heap/\HOk P w H' s'.heap/\zcz v u/\Q v H'
def CR (CX:CXT)(outer:List Env)(P:Program)(w:World)(H:Hp)(s:Shared)(Q:VK)(E:XK)(r:Result)(s':Shared):Prop :=
 match r with
 | .ok (.ret u)=>CE outer P w H s Q u s'
 | .ok _=>False
 | .error e=>CX outer H s E e s'
structure zdy (P:Program) (w:World) (K:W.Frag) (mg:Str->Option Value) (base:Heap) (CX:CXT) (k:Nat) (f:Addr) (fd:FuncData) (ps:List Str) (sp:Sp):Prop where
 len:∀ vs H Q E,sp vs H Q E->vs.length=ps.length
 run:∀ (A:Around) (outer:List Env) (s:Shared) (H:Hp) (args:Args) (us:List Value) (vs:List V) (Q:VK) (E:XK),zgV k A->zrn P w K mg base A outer s H->BindsTo s fd args (ps.zip us)->zb0 vs us->sp vs H Q E ->
  codeAny (model P w) A (.call (.ref f) args) (CR CX outer P w H s Q E) s
theorem zdy.mono {P:Program}{w:World}{K:W.Frag}{mg:Str->Option Value}{base:Heap}{CX:CXT}{j k:Nat}{f:Addr}{fd:FuncData}{ps:List Str}{sp:Sp}(F:zdy P w K mg base CX j f fd ps sp)(h:j<=k) :
  zdy P w K mg base CX k f fd ps sp:=⟨F.len,fun A outer s H args us vs Q E hr=>F.run A outer s H args us vs Q E (hr.mono h)⟩
theorem zrn.make {P:Program}{w:World}{K:W.Frag}{mg:Str->Option Value}{base:Heap}{A:Around}{outer:List Env}{s:Shared}{H:Hp}(e:zrn P w K mg base A outer s H)(C:Addr)(us:List Value)(kw:List (Str×Value)) :
  zrn P w K mg base (A.under (.builtin "type.__call__" ⟨.ref C::us,kw⟩)) outer s H:=⟨by first | exact e.frames | (simpa [Around.under,Code.envs,Code.isFrame,pushEnvs] using e.frames),e.mod,e.bs,e.bsz,e.funs,e.frf,e.hok,e.bare⟩
section
variable {X:Cx}{pins:List (Addr×Obj)}{σ:St}{H:Hp}{s s':Shared}
theorem Inv.env0 (I:Inv X pins σ H s):zrn X.prog X.w X.K X.mg X.base X.A X.stack s H :=
 ⟨I.ok.frames,I.ok.mod,I.bs,Nat.le_trans I.ok.bsz I.sz,I.stack,I.stkFree,I.hok,I.bare⟩
theorem Inv.after {Q:VK}{u:Value}(I:Inv X pins σ H s)(h:CE X.stack X.prog X.w H s Q u s'):EP X pins σ Q u s':=by
 obtain⟨v,H',os,bare,un,hok,r,q⟩:=h
 obtain⟨hh,g,d,t,os'⟩:=s'
 obtain rfl:os'=s.os:=os
 exact⟨v,H',I.call (h':=hh) (g':=g) (d':=d) (t':=t) (ch:=[]) un hok bare (fun b z=>absurd z (by simp)),r,q⟩
end
def zuR (sp:Sp)(dvs:List V)(E:XK)(t:TA):TE:=fun σ H Q=>t σ H fun vs H1=>sp (vs++dvs) H1 Q E
def zbZ (K:W.Frag)(fd:FuncData)(ps:List Str)(ds:List Value):Prop :=
 ∀ (s:Shared) (us:List Value),K.In s.heap->(us++ds).length=ps.length->BindsTo s fd ⟨us,[]⟩ (ps.zip (us++ds))
theorem zbZ.all {K:W.Frag}{fd:FuncData}{ps:List Str}(h:∀ us:List Value,us.length=ps.length->bindArgs fd ⟨us,[]⟩=pure (ps.zip us)):zbZ K fd ps []:=fun s us _ hl=>by
 rw[List.append_nil] at hl ⊢
 exact .of_eq (h us hl)
def zjP (CX:CXT)(X:Cx)(E:XK):Prop:=∀ (pins:List (Addr×Obj)) (σ:St) (H:Hp) (s:Shared) (e:Value) (s':Shared),Inv X pins σ H s->CX X.stack H s E e s'->X.xe e s'
section
variable {X:Cx}{CX:CXT}{k:Nat}{f C:Addr}{fd:FuncData}{ps:List Str}{sp:Sp}{dvs:List V}{ds:List Value}{E:XK}{x m:Str}{p pos apos:Pos}{e o:Expr}{es:List Expr}{ta:TE}{t:TA}
theorem zth {pins:List (Addr×Obj)}{σ:St}{H:Hp}{s:Shared}{Q:VK}{us:List Value}{vs:List V}(F:zdy X.prog X.w X.K X.mg X.base CX k f fd ps sp)(hr:zgV k X.A)(hb:zbZ X.K fd ps ds)(hd:zb0 dvs ds)(hx:zjP CX X E)
  (I:Inv X pins σ H s)(r:zb0 vs us)(h:sp (vs++dvs) H Q E):wpAny (model X.prog X.w) X.A (call (.ref f) us) (EP X pins σ Q) X.xe s:=by
 have r2:zb0 (vs++dvs) (us++ds):=r.append hd
 have hl:(us++ds).length=ps.length:=by rw[← r2.length];exact F.len _ _ _ _ h
 refine wpAny_call (codeAny_mono (F.run X.A X.stack s H ⟨us,[]⟩ (us++ds) (vs++dvs) Q E hr I.env0 (hb s us I.kIn hl) r2 h) fun r s' hq=>?_)
 cases r with
 | error e=>exact hx pins σ H s e s' I hq
 | ok fl =>
  cases fl with
  | ret u=>exact I.after hq
  | next=>exact False.elim hq
  | brk=>exact False.elim hq
  | cont=>exact False.elim hq
theorem zrX (F:zdy X.prog X.w X.K X.mg X.base CX k f fd ps sp)(hr:zgV k X.A)(hg:Gl X x)(hm:X.mg x=some (.ref f))(hk:W.keepIn X.K (.ref f)=true)(hb:zbZ X.K fd ps ds)(hd:zb0 dvs ds)(hx:zjP CX X E)
  (ha:PA X (e::es) t)(hdb:(x==("__debug__" : Str))=false:=by decide)(he:starEach (e::es) X.env=(false,eval e X.env)::starEach es X.env:=by rfl)(hpl:(backTo pos (starEach es X.env)).any (·.1)=false:=by rfl) :
  PE X (.Call (.Name x p) (e::es) [] pos) (zuR sp dvs E t):=by
 intro pins s σ H Q I h
 refine wpAny_Call_Name_kw (zgO I hg hm ?_ hdb)
 refine W.callWith_K (h₀:=X.base) I.ok.mod.kin hk (thn (ha pos pins s σ H _ I h) fun us s1 ⟨vs,H1,I1,r,q⟩=>⟨I1.kIn,?_⟩) he hpl
 exact zth F hr hb hd hx I1 r q
end
section
variable {X:Cx}{CX:CXT}{k:Nat}{f C:Addr}{fd:FuncData}{ps ks:List Str}{sp:Sp}{E:XK}{x m:Str}{p pos apos kpos:Pos}{e o:Expr}{es:List Expr}{kws:List Keyword}{te ta:TE}{t tk:TA}{nm:Option Str}
variable {g:List Value->List Value->List Value}{gV:List V->List V->List V}
end
structure zaM (N P:List Str) (sc:Scope):Prop where
 kind:sc.kind=.function
 co:sc.isCoroutine=false
 gen:sc.isGenerator=false
 nd:N.Nodup
 pre:N.take P.length=P
 par:∀ x∈P,sc.names.lookup x=some .local ∨ sc.names.lookup x=some .cell
 nofree:∀ y∈sc.names,y.2≠.free
theorem zlq {kindOf:Str->Option NameKind}{x:Str}:∀ {binds:List (Str×Value)}{m:Str->Option Value},(∀ v,(x,v)∉binds)->bindL kindOf binds m x=m x
 | [],_,_=>rfl
 | (n,v)::r,m,h=>by
  unfold bindL
  rw[zlq fun w hw=>h w (List.mem_cons_of_mem _ hw)]
  split
  ·have:x≠n:=by rintro rfl;exact h v List.mem_cons_self
   simp [this]
  ·rfl
theorem zls {kindOf:Str->Option NameKind}{x:Str}:∀ {binds:List (Str×Value)}{m:Str->Option Value},(∀ v,(x,v)∉binds)->bindC kindOf binds m x=m x
 | [],_,_=>rfl
 | (n,v)::r,m,h=>by
  unfold bindC
  rw[zls fun w hw=>h w (List.mem_cons_of_mem _ hw)]
  split
  ·rfl
  ·have:x≠n:=by rintro rfl;exact h v List.mem_cons_self
   simp [this]
theorem zlr {kindOf:Str->Option NameKind}{x:Str}{v:Value}:∀ {P:List Str}{vs:List Value}{i:Nat}{m:Str->Option Value},P.Nodup->P[i]?=some x->vs[i]?=some v->kindOf x=some .local ->
  bindL kindOf (P.zip vs) m x=some v
 | [],_,_,_,_,h,_,_=>by simp at h
 | _::_,[],_,_,_,_,h,_=>by simp at h
 | p::P,w::vs,0,m,nd,h1,h2,hk=>by
  simp at h1 h2;subst h1;subst h2
  show bindL kindOf ((p,w)::P.zip vs) m p=_
  unfold bindL
  rw[zlq fun v hv=>(List.nodup_cons.mp nd).1 (List.of_mem_zip hv).1,if_pos hk]
  simp
 | p::P,w::vs,i+1,m,nd,h1,h2,hk=>by
  show bindL kindOf ((p,w)::P.zip vs) m x=_
  unfold bindL
  exact zlr (i:=i) (List.nodup_cons.mp nd).2 (by simpa using h1) (by simpa using h2) hk
theorem zlt {kindOf:Str->Option NameKind}{x:Str}{v:Value}:∀ {P:List Str}{vs:List Value}{i:Nat}{m:Str->Option Value},P.Nodup->P[i]?=some x->vs[i]?=some v->kindOf x≠some .local ->
  bindC kindOf (P.zip vs) m x=some v
 | [],_,_,_,_,h,_,_=>by simp at h
 | _::_,[],_,_,_,_,h,_=>by simp at h
 | p::P,w::vs,0,m,nd,h1,h2,hk=>by
  simp at h1 h2;subst h1;subst h2
  show bindC kindOf ((p,w)::P.zip vs) m p=_
  unfold bindC
  rw[zls fun v hv=>(List.nodup_cons.mp nd).1 (List.of_mem_zip hv).1,if_neg hk]
  simp
 | p::P,w::vs,i+1,m,nd,h1,h2,hk=>by
  show bindC kindOf ((p,w)::P.zip vs) m x=_
  unfold bindC
  exact zlt (i:=i) (List.nodup_cons.mp nd).2 (by simpa using h1) (by simpa using h2) hk
def start (N:List Str)(vs:List V):St:=vs.map some++List.replicate (N.length-vs.length) none
def zgu (CX:CXT)(P:Program)(w:World)(K:W.Frag)(mg:Str->Option Value)(base:Heap)(N:List Str)(qual:Str)(scope:Scope)(f:Addr)(cd:Value)(A:Around)(outer:List Env)(s:Shared)(H:Hp)(E:XK):Cx where
 prog:=P
 w:=w
 K:=K
 mg:=mg
 base:=base
 A:=A.deeper (envOfC qual scope s.heap.objs.size f cd)
 N:=N
 s₀:=s
 H₀:=H
 env:=envOfC qual scope s.heap.objs.size f cd
 outer:=outer
 stack:=envOfC qual scope s.heap.objs.size f cd::outer
 ex:=[]
 calm:=true
 fn:=fun _=>true
 pn:=[]
 xe:=fun e s'=>wpAny (model P w) (A.deeper (envOfC qual scope s.heap.objs.size f cd)) (leaving (envOfC qual scope s.heap.objs.size f cd) e) (fun _ s''=>CX outer H s E e s'') (fun e' s''=>CX outer H s E e' s'') s'
theorem zm3 {sc:Scope}{n:Nat}{x:Str}(h:sc.names.lookup x=some .cell):∃ c,(cellsFrom n sc.names []).lookup x=some c:=by
 have q:=W.cellsFrom_some sc.names n [] (.inl h)
 exact Option.isSome_iff_exists.mp q
theorem zoL {CX:CXT}{P:Program}{w:World}{K:W.Frag}{mg:Str->Option Value}{base:Heap}{N ps:List Str}{qual:Str}{scope:Scope}{f:Addr}{cd:Value}{A:Around}{outer:List Env}{s s1:Shared}{H:Hp}{E:XK}{us:List Value}{vs:List V}
  (S:zaM N ps scope)(hd:A.handled=none)(e0:zrn P w K mg base A outer s H)(hl:vs.length=ps.length)(r:zb0 vs us)
  (x:InCallC s s.heap.objs.size (bindL (envOfC qual scope s.heap.objs.size f cd).kindOf (ps.zip us) fun _=>none) (cellsFrom (s.heap.objs.size+1) scope.names []) (bindC (envOfC qual scope s.heap.objs.size f cd).kindOf (ps.zip us) fun _=>none) s1) :
  Inv (zgu CX P w K mg base N qual scope f cd A outer s H E) [] (start N vs) H s1:=by
 have hpl:ps.length<=N.length:=by have:=congrArg List.length S.pre;rw[List.length_take] at this;omega
 obtain⟨h1,tk,rfl,hk⟩:=x.done
 have noA:∀ b:Addr,b∉(zgu CX P w K mg base N qual scope f cd A outer s H E).ex:=fun b z=>absurd (show b∈([]:List Addr) from z) (by simp)
 refine⟨⟨e0.mod,S.kind,rfl,rfl,Nat.le_refl _,fun y z c h1 h2=>?_,fun y hy=>?_,fun y c _ h=>?_,fun _=>hd,Around.frames_deeper e0.frames,.inr ⟨rfl,rfl⟩,fun b z=>absurd z (noA b),e0.bs,e0.bsz,fun b _ _=>noA b,fun b z=>absurd z (noA b),e0.funs,e0.frf⟩,
  rfl,e0.bare,Un.kept hk,⟨_,x.toInCall.ns,fun i y v h1 h2 h3=>?_⟩,fun y c h=>⟨_,x.cell y c h⟩,e0.hok.fresh (Nat.le_refl _),fun y c h=>?_,fun p hp=>absurd (show p∈([]:List (Addr×Obj)) from hp) (by simp),e0.hok.kept hk,?_⟩
 ·exact name_of_addr x.apart (PySem.mem_of_lookup h1) (PySem.mem_of_lookup h2)
 ·have hy:scope.names.lookup y=some .cell∨scope.names.lookup y=some .free:=hy
  rcases hy with hy | hy
  ·exact zm3 hy
  ·exact absurd rfl (S.nofree _ (PySem.mem_of_lookup hy))
 ·exact Nat.le_of_lt (x.above y c (PySem.mem_of_lookup h))
 ·have hi:i < vs.length:=by
   unfold start at h2
   by_cases hi:i < vs.length
   ·exact hi
   ·rw[List.getElem?_append_right (by simpa using hi)] at h2
    rw[List.getElem?_replicate] at h2
    split at h2<;>cases h2
  have ha:vs[i]?=some v:=by
   unfold start at h2
   rw[List.getElem?_append_left (by simpa using hi),List.getElem?_map] at h2
   cases e:vs[i]? with
   | none=>rw[e] at h2;cases h2
   | some a=>rw[e] at h2;cases h2;rfl
  obtain⟨u,hu,rv⟩:=r.get ha
  have hp:ps[i]?=some y:=by
   rw[← S.pre,List.getElem?_take_of_lt (by omega)];exact h1
  have ndP:ps.Nodup:=by rw[← S.pre];exact S.nd.sublist (List.take_sublist _ _)
  refine⟨u,rv,?_⟩
  rcases S.par y (List.mem_of_getElem? hp) with k | k
  ·exact .inl ⟨k,zlr ndP hp hu k⟩
  ·obtain⟨c,e⟩:=zm3 (n:=s.heap.objs.size+1) k
   refine .inr ⟨.inl k,c,e,?_⟩
   have q:=x.cell y c e
   rw[zlt ndP hp hu (by show scope.names.lookup y≠_;rw[k];decide)] at q
   exact q
 ·exact e0.hok.fresh (Nat.le_of_lt (x.above y c (PySem.mem_of_lookup h)))
 ·unfold start
  show _=N.length
  rw[List.length_append,List.length_map,List.length_replicate]
  omega
theorem zt5 {CX:CXT}{P:Program}{w:World}{K:W.Frag}{mg:Str->Option Value}{base:Heap}{k:Nat}{f:Addr}{name qual:Str}{params:Arguments}{body:List Stmt}{scope:Scope}{dV kV doc pm cdv ct oc:Value}{an od:Option Addr}
  {osl:Array (Option Value)}{N ps:List Str}{sp:Sp}(lk:K.lookup f=some ⟨oc,od,.func (W.fnOf name qual params body scope dV kV doc pm an cdv ct),osl⟩) (hcd:W.codeIn K cdv qual=true) (S:zaM N ps scope)
  (len:∀ vs H Q E,sp vs H Q E->vs.length=ps.length)
  (hbody:∀ (A:Around) (outer:List Env) (s:Shared) (H:Hp) (vs:List V) (Q:VK) (E:XK),zgV k (A.deeper (envOfC qual scope s.heap.objs.size f cdv))->sp vs H Q E ->
   ∃ t,PSs (zgu CX P w K mg base N qual scope f cdv A outer s H E) body t/\t { nx:=fun _ H'=>Q .non H',rt:=Q } (start N vs) H) :
  zdy P w K mg base CX (k+1) f (W.fnOf name qual params body scope dV kV doc pm an cdv ct) ps sp:=by
 refine⟨len,fun A outer s H args us vs Q E hr e0 hb r hsp=>?_⟩
 have hl:=len _ _ _ _ hsp
 have KX:K.In s.heap:=e0.mod.kin.keeps fun b o e=>(e0.bs b o e).1
 have lim:s.heap.NoLimit:=e0.mod.nolimit.keeps fun b o e=>(e0.bs b o e).1
 have hkind:∀ y∈ps.zip us,scope.names.lookup y.1=some .local ∨ (scope.names.lookup y.1=some .cell/\((cellsFrom (s.heap.objs.size+1) scope.names []).lookup y.1).isSome=true):=fun⟨n,v⟩ hy=>by
  rcases S.par n (List.of_mem_zip hy).1 with q | q
  ·exact .inl q
  ·exact .inr ⟨q,W.cellsFrom_some _ _ _ (.inl q)⟩
 refine codeAny_call_function hr.depth (KX _ _ lk) rfl S.co S.gen rfl (W.codeRec_of KX hcd) (hb _ _ _ _ ?_)
 refine wpAny_newFunctionEnv_cells S.kind hkind fun env he s1 x=>?_
 subst he
 refine⟨lim.keeps x.toInCall.keep,codeAny_func ?_⟩
 obtain⟨t,ht,hq⟩:=hbody A outer s H vs Q E (hr.deeper _) hsp
 have I:Inv (zgu CX P w K mg base N qual scope f cdv A outer s H E) [] (start N vs) H s1:=zoL S hr.hd e0 hl r x
 refine wpAny_mono (ht [] s1 (start N vs) H _ I hq) (fun fl s' hs=>?_) fun e s' hs=>hs
 have fin:∀ {σ':St}{H':Hp}{v:V}{u:Value},Inv (zgu CX P w K mg base N qual scope f cdv A outer s H E) [] σ' H' s'->zcz v u->Q v H'->CE outer P w H s Q u s' :=
  fun {σ' H' v u} J rv q=>⟨v,H',J.os,J.bare,J.base,J.hok,rv,q⟩
 cases fl with
 | ret u =>
  obtain⟨v,σ',H',J,rv,q⟩:=hs
  exact fin J rv q
 | next =>
  obtain⟨σ',H',J,q⟩:=hs
  exact fin (v:=V.non) (u:=Value.none) J rfl q
 | brk =>
  obtain⟨_,_,_,q⟩:=hs
  exact False.elim q
 | cont =>
  obtain⟨_,_,_,q⟩:=hs
  exact False.elim q
section
variable {X:Cx}{x:Str}{p pos:Pos}{e:Expr}{es:List Expr}{t:TA}{id T:String}{r:List V->Hp->VK->Prop}
def tCB (r:List V->Hp->VK->Prop)(t:TA):TE:=fun σ H Q=>t σ H fun vs H1=>r vs H1 Q
theorem zj9 (hc:zhK X (.builtin id) r)(hg:Gl X x)(hm:X.mg x=none)(hv:bootBuiltins x=some (.builtin id))(ha:PA X (e::es) t)(hn:x≠"__name__":=by decide)(hdb:(x==("__debug__" : Str))=false:=by decide)
  (he:starEach (e::es) X.env=(false,eval e X.env)::starEach es X.env:=by rfl)(hpl:(backTo pos (starEach es X.env)).any (·.1)=false:=by rfl):PE X (.Call (.Name x p) (e::es) [] pos) (tCB r t):=by
 intro pins s σ H Q I h
 refine wpAny_Call_Name_kw (zk7 I hg hm hv ?_ hn hdb)
 exact PyProof.Rows.callWith_builtin1 (thn (ha pos pins s σ H _ I h) fun us s1 ⟨vs,H1,I1,r1,q1⟩=>hc pins s1 σ H1 vs us Q I1 r1 q1) he hpl
theorem zoo (hc:zhK X (.type T) r)(hg:Gl X x)(hm:X.mg x=none)(hv:bootBuiltins x=some (.type T))(ha:PA X (e::es) t)(hn:x≠"__name__":=by decide)(hdb:(x==("__debug__" : Str))=false:=by decide)
  (he:starEach (e::es) X.env=(false,eval e X.env)::starEach es X.env:=by rfl)(hpl:(backTo pos (starEach es X.env)).any (·.1)=false:=by rfl):PE X (.Call (.Name x p) (e::es) [] pos) (tCB r t):=by
 intro pins s σ H Q I h
 refine wpAny_Call_Name_kw (zk7 I hg hm hv ?_ hn hdb)
 exact PyProof.Rows.callWith_type1 (thn (ha pos pins s σ H _ I h) fun us s1 ⟨vs,H1,I1,r1,q1⟩=>hc pins s1 σ H1 vs us Q I1 r1 q1) he hpl
end
end L2
namespace HT
open PySem PyProof.Rows
section
open PySem.SeqAt
open PySem.AutoSeq1 (wpAny_loadPart')
open PySem.MeetsSeq PySem.MeetsSeq2 PySem.MeetsSeq3
end
section
variable {prog:Program}{w:World}{A:Around}{E:Value->Shared->Prop}{s:Shared}
theorem cat_tup {t b:Addr}{vs ws:List Value}{Q:Value->Shared->Prop}(ht:IsTup s.heap t vs.toArray)(hb:IsTup s.heap b ws.toArray)(hv:vs≠[])
  (h1:ws=[]->Q (.ref t) s)(h2:ws≠[]->Q (.ref s.heap.objs.size) { s with heap:=s.heap.push { cls:=.type "tuple",data:=.seq (vs++ws).toArray } })
  (hsz:vs.length+ws.length<=sizeLine):wpAny (model prog w) A (binaryOp .Add (.ref t) (.ref b)) Q E s:=by
 obtain⟨⟨cls,dd,data,sl⟩,ho,hc,n,hd⟩:=id ht
 obtain⟨⟨cls2,dd2,data2,sl2⟩,ho2,hc2,n2,hd2⟩:=id hb
 simp only at hc hd hc2 hd2
 subst hc hd hc2 hd2
 have e:vs.toArray++ws.toArray=(vs++ws).toArray:=by simp
 by_cases hw:ws=[]
 ·exact concat_meets ⟨_,ho,rfl⟩ ⟨_,ho2,rfl⟩ noFill_tuple_add seq_tuple_add PySem.F.slot_tuple_add PySem.F.entry_tuple_add (PySem.F.args_tuple_add_2 _ _)
   (tuple_addW1 t b vs.toArray ws.toArray n n2 dd dd2 sl sl2 (by simpa using hv) (by simp [hw])) ⟨ho,ho2,h1 hw⟩
 ·refine concat_meets ⟨_,ho,rfl⟩ ⟨_,ho2,rfl⟩ noFill_tuple_add seq_tuple_add PySem.F.slot_tuple_add PySem.F.entry_tuple_add (PySem.F.args_tuple_add_2 _ _)
   (tuple_addW2 t b vs.toArray ws.toArray n n2 dd dd2 sl sl2 (by simpa using hv) (by simpa using hw) (by rw[List.size_toArray,List.size_toArray];exact hsz)) ⟨ho,ho2,?_⟩
  rw[e]
  exact h2 hw
def sIx (n d:Nat):Option Int->Nat
 | none=>d
 | some v=>if v < 0 then(v+(n:Int)).toNat else min v.toNat n
theorem sIx_none (n d:Nat):sIx n d none=d:=rfl
theorem sIx_nat (n d k:Nat):sIx n d (some (k:Int))=min k n:=by
 show(if(k:Int) < 0 then((k:Int)+(n:Int)).toNat else min (k:Int).toNat n)=min k n
 rw[if_neg (by omega),Int.toNat_natCast]
theorem zte (n d:Nat)(hd:d<=n)(o:Option Int):sIx n d o<=n:=by
 cases o with
 | none=>exact hd
 | some v =>
  show(if v < 0 then(v+(n:Int)).toNat else min v.toNat n)<=n
  by_cases hv:v < 0
  ·rw[if_pos hv];omega
  ·rw[if_neg hv];exact Nat.min_le_right _ _
theorem zpg (v:Int)(n d:Nat):(if v < 0 then max (v+(n:Int)) 0 else min v (n:Int))=((sIx n d (some v):Nat):Int):=by
 show(if v < 0 then max (v+(n:Int)) 0 else min v (n:Int))=(((if v < 0 then(v+(n:Int)).toNat else min v.toNat n):Nat):Int)
 by_cases hv:v < 0
 ·simp only[if_pos hv];omega
 ·simp only[if_neg hv];omega
theorem znI (lo hi:Option Int)(n:Nat):Builtin.Slice.sliceAdjust lo hi 1 (n:Int)=(((sIx n 0 lo:Nat):Int),((sIx n n hi:Nat):Int)):=by
 have h1:¬ ((1:Int) < 0):=by omega
 unfold Builtin.Slice.sliceAdjust
 simp only[h1,if_false]
 refine Prod.ext ?_ ?_
 ·cases lo with
  | none=>rfl
  | some v=>exact zpg v n 0
 ·cases hi with
  | none=>rfl
  | some v=>exact zpg v n n
theorem zni (i j:Nat):Builtin.Slice.slicePlaces (i:Int) (j:Int) 1=j-i:=by
 unfold Builtin.Slice.slicePlaces
 have h1:(1:Int) > 0:=by omega
 simp only[h1,if_true,Int.ediv_one]
 split<;>omega
theorem zjy {v:Value}{o:Option Int}{Q:Option Int->Shared->Prop}(p:IsPart v o)(h:Q o s):wpAny (model prog w) A (Builtin.Slice.slicePartIndex v) Q E s:=by
 cases p with
 | none=>exact slicePart_none h
 | int i t=>exact slicePart_int h
theorem zhV {sl:Addr}{vl vu:Value}{lo hi:Option Int}{n:Nat}{Q:Int×Int×Nat->Shared->Prop}(hs:s.heap.IsSliceOf sl vl vu .none)(pl:IsPart vl lo)(pu:IsPart vu hi)
  (h:Q (((sIx n 0 lo:Nat):Int),1,sIx n n hi-sIx n 0 lo) s):wpAny (model prog w) A (Builtin.Slice.sliceApplied (.ref sl) (pure (n:Int))) Q E s:=by
 obtain⟨os,hos,hcs,hds⟩:=id hs
 unfold Builtin.Slice.sliceApplied Builtin.Slice.sliceFields
 refine wpAny_bind (wpAny_bind (wpAny_field hos hds (x:=vl) rfl (wpAny_bind (wpAny_field hos hds (x:=vu) rfl (wpAny_bind (wpAny_field hos hds (x:=.none) rfl (wpAny_pure ?_)))))))
 refine wpAny_bind (slicePart_none ?_)
 show wpAny _ _ (if((1:Int)==0)=true then _ else _) _ _ s
 rw[if_neg (by decide)]
 refine wpAny_bind (zjy pl (wpAny_bind (zjy pu (wpAny_bind (wpAny_pure ?_)))))
 show wpAny _ _ (match Builtin.Slice.sliceAdjust lo hi 1 (n:Int) with | (lo,hi)=>pure (lo,(1:Int),Builtin.Slice.slicePlaces lo hi 1)) _ _ s
 rw[znI lo hi n]
 show wpAny _ _ (pure (((sIx n 0 lo:Nat):Int),(1:Int),Builtin.Slice.slicePlaces ((sIx n 0 lo:Nat):Int) ((sIx n n hi:Nat):Int) 1)) _ _ s
 rw[zni]
 exact wpAny_pure h
theorem zp0 (xs:Array Value)(i k:Nat):((List.range k).filterMap fun(m:Nat)=>xs[((i:Int)+(m:Int)*1).toNat]?).toArray=((xs.toList.drop i).take k).toArray:=by
 have e:(fun(m:Nat)=>xs[((i:Int)+(m:Int)*1).toNat]?)=fun m=>xs[i+m]?:=by
  funext m
  have:((i:Int)+(m:Int)*1).toNat=i+m:=by omega
  rw[this]
 rw[e]
 have:=pick_run xs i k
 rw[List.filterMap_map] at this
 have e2:((fun x=>xs[x]?)∘fun x=>i+x)=fun m=>xs[i+m]?:=rfl
 rw[e2] at this
 rw[this]
theorem getItem_tuple_cut {t sl:Addr}{items:Array Value}{vl vu:Value}{lo hi:Option Int}{Q:Value->Shared->Prop}(ht:IsTup s.heap t items)(hs:s.heap.IsSliceOf sl vl vu .none)(pl:IsPart vl lo)(pu:IsPart vu hi)
  (hw:¬ (sIx items.size 0 lo=0/\sIx items.size items.size hi=items.size))
  (h:Q (.ref s.heap.objs.size) { s with heap:=s.heap.push { cls:=.type "tuple",data:=.seq ((items.toList.drop (sIx items.size 0 lo)).take (sIx items.size items.size hi-sIx items.size 0 lo)).toArray } })
  (hsz:items.size<=sizeLine):wpAny (model prog w) A (getItem (.ref t) (.ref sl)) Q E s:=by
 have htake:sizeOk (.seq ((items.toList.drop (sIx items.size 0 lo)).take (sIx items.size items.size hi-sIx items.size 0 lo)).toArray):=by
  show((items.toList.drop (sIx items.size 0 lo)).take (sIx items.size items.size hi-sIx items.size 0 lo)).toArray.size<=sizeLine
  rw[List.size_toArray,List.length_take,List.length_drop,Array.length_toList]
  omega
 have hj:sIx items.size items.size hi<=items.size:=zte _ _ (Nat.le_refl _) hi
 obtain⟨os,hos,hcs,hds⟩:=id hs
 have hTs:s.TypeIs (.ref sl) "slice":=⟨os,hos,hcs⟩
 unfold getItem
 try with_reducible refine wpAny_holding ?_
 first | refine wpAny_bind (wpAny_pure ?_) | skip
 refine wpAny_bind (wpAny_sequenceKey ht.typeIs (by decide) ?_)
 refine wpAny_bind (wpAny_callSpecial?_slot (name:=Str.ofString "__getitem__") ht.typeIs PyProof.Rows.slot_tuple_getitem
  (wpAny_call_entry PyProof.Rows.slot_tuple_getitem ht.typeIs entry_tuple_getitem ?_ (args_tuple_getitem _ _)))
 show wpAny _ _ (Builtin.Tuple.tupleItemsOf (.ref t) >>= _) _ _ s
 refine wpAny_bind (tupleItemsOf_ ht ?_)
 refine wpAny_bind (wpAny_typeOf hTs ?_)
 rw[if_pos (by decide)]
 refine wpAny_bind (zhV hs pl pu ?_)
 have hno:¬ ((((sIx items.size 0 lo:Nat):Int)==0&&(1:Int)==1&&(sIx items.size items.size hi-sIx items.size 0 lo)==items.size)=true):=by
  intro q
  rw[Bool.and_eq_true,Bool.and_eq_true] at q
  have q1:((sIx items.size 0 lo:Nat):Int)=0:=eq_of_beq q.1.1
  have q2:sIx items.size items.size hi-sIx items.size 0 lo=items.size:=eq_of_beq q.2
  exact hw ⟨by omega,by omega⟩
 show wpAny _ _ (if(((sIx items.size 0 lo:Nat):Int)==0&&(1:Int)==1&&(sIx items.size items.size hi-sIx items.size 0 lo)==items.size)=true then _ else _) _ _ s
 rw[if_neg hno,zp0]
 first
  | exact wpAny_bind (m:=Builtin.Tuple.tupleExact _) (wpAny_newObj_type (wpAny_pure ⟨_,rfl,wpAny_pure h⟩) htake)
  | exact wpAny_bind (m:=Builtin.Tuple.tupleExact _) (wpAny_newObj_type (wpAny_bind (wpAny_pure (wpAny_pure ⟨_,rfl,wpAny_pure h⟩))) htake)
  | exact wpAny_bind (wpAny_bind (m:=Builtin.Tuple.tupleExact _) (wpAny_newObj_type (wpAny_pure (wpAny_pure ⟨_,rfl,wpAny_pure h⟩)) htake))
  | exact wpAny_bind (wpAny_bind (m:=Builtin.Tuple.tupleExact _) (wpAny_newObj_type (wpAny_pure ⟨_,rfl,wpAny_pure h⟩) htake))
end
end HT
namespace L2
open PySem PySem.Spec PyProof.Rows
abbrev TO:=St->Hp->(Option Int->Hp->Prop)->Prop
def PO (X:Cx)(e:Option Expr)(t:TO):Prop :=
 ∀ (pins:List (Addr×Obj)) (s:Shared) (σ:St) (H:Hp) (Q:Option Int->Hp->Prop),Inv X pins σ H s->t σ H Q ->
  wpAny (model X.prog X.w) X.A (evalPart e X.env) (fun u s'=>∃ o H',Inv X pins σ H' s'/\IsPart u o/\Q o H') X.xe s
def zrG:TO:=fun _ H Q=>Q none H
def zuM (t:TE):TO:=fun σ H Q=>t σ H fun x H1=>∃ i,x=.int i/\Q (some i) H1
section
variable {X:Cx}{e:Expr}{te:TE}{lo hi:Option Expr}{tl th:TO}{pos p2:Pos}
theorem zrQ:PO X none zrG:=by
 intro pins s σ H Q I h
 rw[evalPart_none]
 exact wpAny_pure ⟨none,H,I,.none,h⟩
theorem zrP (h:PE X e te):PO X (some e) (zuM te):=by
 intro pins s σ H Q I hw
 rw[evalPart_some]
 refine thn (h pins s σ H _ I hw) fun u s1 ⟨x,H1,I1,r1,q1⟩=>?_
 obtain⟨i,rfl,q⟩:=q1
 obtain⟨t,rfl⟩:=r1
 exact⟨some i,H1,I1,.int i t,q⟩
def SlR (X:Cx)(r:V->Option Int->Option Int->Hp->VK->Prop):Prop :=
 ∀ (pins:List (Addr×Obj)) (s:Shared) (σ:St) (H:Hp) (x:V) (v vl vu:Value) (lo hi:Option Int) (sl:Addr) (Q:VK),Inv X pins σ H s->zcz x v->s.heap.IsSliceOf sl vl vu .none->IsPart vl lo->IsPart vu hi->r x lo hi H Q ->
  ∃ T id,typeLookup (.type T) "__getitem__"=pure (some (.builtin id))/\s.TypeIs v T/\wpAny (model X.prog X.w) X.A (getItem v (.ref sl)) (EP X pins σ Q) X.xe s
theorem SlR.or {r r':V->Option Int->Option Int->Hp->VK->Prop}(h:SlR X r)(h':SlR X r'):SlR X (fun x lo hi H Q=>r x lo hi H Q∨r' x lo hi H Q):=by
 intro pins s σ H x v vl vu lo hi sl Q I rx hs pl pu q
 rcases q with q | q
 ·exact h pins s σ H x v vl vu lo hi sl Q I rx hs pl pu q
 ·exact h' pins s σ H x v vl vu lo hi sl Q I rx hs pl pu q
def tSl (r:V->Option Int->Option Int->Hp->VK->Prop)(te:TE)(tl th:TO):TE:=fun σ H Q=>te σ H fun x H1=>tl σ H1 fun l H2=>th σ H2 fun u H3=>r x l u H3 Q
theorem zmC {r:V->Option Int->Option Int->Hp->VK->Prop}(hr:SlR X r)(he:PE X e te)(hl:PO X lo tl)(hu:PO X hi th):PE X (.Subscript e (.Slice lo hi none p2) pos) (tSl r te tl th):=by
 intro pins s σ H Q I h
 refine Subscript_ (thn (he pins s σ H _ I h) fun v s1 ⟨x,H1,I1,r1,q1⟩=>?_)
 refine wpAny_Slice (thn (hl pins s1 σ H1 _ I1 q1) fun vl s2 ⟨l,H2,I2,pl,q2⟩=>thn (hu pins s2 σ H2 _ I2 q2) fun vu s3 ⟨u,H3,I3,pu,q3⟩=>?_)
 rw[evalPart_none]
 refine wpAny_pure ?_
 have I4:Inv X pins σ H3 { s3 with heap:=s3.heap.push { cls:=.type "slice",data:=.fields #[vl,vu,.none] } }:=I3.kept (t':=s3.toks) fun b ob q=>Heap.get?_push_of_some _ q
 obtain⟨T,id,hT,ht,hg⟩:=hr pins { s3 with heap:=s3.heap.push { cls:=.type "slice",data:=.fields #[vl,vu,.none] } } σ H3 x v vl vu l u s3.heap.objs.size Q I4 r1 (Heap.IsSliceOf.new ..) pl pu q3
 show wpAny (model X.prog X.w) X.A (subscriptTail e (.Slice lo hi none p2) v (.ref s3.heap.objs.size)) (EP X pins σ Q) X.xe { s3 with heap:=s3.heap.push { cls:=.type "slice",data:=.fields #[vl,vu,.none] } }
 exact tail_any (ops:=[.ref s3.heap.objs.size,v]) ht hT hg (by with_unfolding_all rfl)
def zrj (xs:List V)(lo hi:Option Int):List V:=(xs.drop (HT.sIx xs.length 0 lo)).take (HT.sIx xs.length xs.length hi-HT.sIx xs.length 0 lo)
theorem zja (xs:List V)(lo hi:Option Int):(zrj xs lo hi).length<=xs.length:=by
 unfold zrj
 rw[List.length_take,List.length_drop]
 omega
def zwr (K:W.Frag):V->Option Int->Option Int->Hp->VK->Prop:=fun x lo hi H Q=>∃ a xs,x=.ref a/\SqT K H a xs /\
 ¬ (HT.sIx xs.length 0 lo=0/\HT.sIx xs.length xs.length hi=xs.length)/\∀ p,H p=none->Q (.ref p) (upd H p (.tup (zrj xs lo hi)))
theorem zs9:SlR X (zwr X.K):=by
 intro pins s σ H x v vl vu lo hi sl Q I rx hs pl pu h
 obtain⟨a,xs,rfl,hx,hw,q⟩:=h
 cases rx
 obtain⟨its,r,ht,hz⟩:=I.tuple hx
 have hlen:its.toArray.size=xs.length:=by rw[List.size_toArray];exact r.length.symm
 refine⟨"tuple",_,PyProof.Rows.slot_tuple_getitem.lookup,ht.typeIs,?_⟩
 refine HT.getItem_tuple_cut ht hs pl pu (by rw[hlen];exact hw) ?_ (by rw[hlen];exact hz)
 rw[hlen]
 refine⟨.ref s.heap.objs.size,_,I.laid (t':=s.toks) (o:=.tup (zrj xs lo hi)) (fun b ob q=>Heap.get?_push_of_some _ q) (Nat.le_refl _) ?_,rfl,q _ (I.hok.fresh (Nat.le_refl _))⟩
 exact⟨Nat.le_trans (zja xs lo hi) hz,_,(r.drop (HT.sIx xs.length 0 lo)).take (HT.sIx xs.length xs.length hi-HT.sIx xs.length 0 lo),IsTup.new _ _⟩
def zu6 (K:W.Frag):R2:=fun x y H Q=>∃ a b xs ys,x=.ref a/\y=.ref b/\SqT K H a xs/\SqT K H b ys/\xs≠[]/\xs.length+ys.length<=sizeLine /\
 (ys=[]->Q (.ref a) H)/\(ys≠[]->∀ p,H p=none->Q (.ref p) (upd H p (.tup (xs++ys))))
theorem zb0.nil_iff {xs:List V}{us:List Value}(r:zb0 xs us):us=[]↔xs=[]:=by
 cases r with
 | nil=>simp
 | cons _ _=>simp
theorem zr2:OpR X (binaryOp .Add) (zu6 X.K):=by
 intro pins s σ H x y v u Q I rx ry h
 obtain⟨a,b,xs,ys,rfl,rfl,ha,hb,hx,hz,q1,q2⟩:=h
 cases rx
 cases ry
 obtain⟨its,r1,p1,_⟩:=I.tuple ha
 obtain⟨its2,r2,p2,_⟩:=I.tuple hb
 refine HT.cat_tup p1 p2 (fun z=>hx (r1.nil_iff.mp z)) (fun z=>⟨.ref a,H,I,rfl,q1 (r2.nil_iff.mp z)⟩) (fun z=>?_) (by rw[← r1.length,← r2.length];exact hz)
 refine⟨.ref s.heap.objs.size,_,I.laid (t':=s.toks) (o:=.tup (xs++ys)) (fun b ob q=>Heap.get?_push_of_some _ q) (Nat.le_refl _) ?_,rfl,q2 (fun w=>z (r2.nil_iff.mpr w)) _ (I.hok.fresh (Nat.le_refl _))⟩
 exact⟨by rw[List.length_append];exact hz,_,r1.append r2,IsTup.new _ _⟩
end
def ixN (n:Nat)(i:Int):Option Nat:=if 0<=i then(if i < n then some i.toNat else none) else if -(n:Int)<=i then some (i+n).toNat else none
def atI {α:Type}(xs:List α)(i:Int):Option α:=(ixN xs.length i).bind fun j=>xs[j]?
theorem zsh {n:Nat}{i:Int}{j:Nat}(h:ixN n i=some j):seqIndex? i n=some j/\j < n/\-(n:Int)<=i/\i < n:=by
 unfold ixN at h
 by_cases h0:0<=i
 ·rw[if_pos h0] at h
  by_cases h1:i < n
  ·rw[if_pos h1] at h
   have e:i.toNat=j:=Option.some.inj h
   exact⟨by rw[seqIndex_of h0 h1,e],by omega,by omega,h1⟩
  ·rw[if_neg h1] at h;cases h
 ·rw[if_neg h0] at h
  by_cases h1:-(n:Int)<=i
  ·rw[if_pos h1] at h
   have e:(i+n).toNat=j:=Option.some.inj h
   exact⟨by rw[seqIndex_neg (by omega) h1,e],by omega,h1,by omega⟩
  ·rw[if_neg h1] at h;cases h
theorem zmm {α:Type}{xs:List α}{i:Int}{v:α}(h:atI xs i=some v):∃ j,seqIndex? i xs.length=some j/\xs[j]?=some v/\j < xs.length/\-(xs.length:Int)<=i/\i < xs.length:=by
 unfold atI at h
 cases e:ixN xs.length i with
 | none=>rw[e] at h;cases h
 | some j =>
  rw[e] at h
  obtain⟨h1,h2,h3,h4⟩:=zsh e
  exact⟨j,h1,h,h2,h3,h4⟩
theorem zbn {α:Type}{xs:List α}{j:Nat}{v:α}(h:xs[j]?=some v):atI xs (j:Int)=some v:=by
 have hj:j < xs.length:=(List.getElem?_eq_some_iff.mp h).1
 have e:ixN xs.length (j:Int)=some j:=by
  unfold ixN
  rw[if_pos (by omega),if_pos (by omega)];simp
 unfold atI;rw[e];exact h
def zmp (b:Expr):Prop:=∀ o i,subscripted b false o i=operate [o,i] (getItem o i)
def IxR (X:Cx)(r:R2):Prop :=
 ∀ (value slice:Expr) (pins:List (Addr×Obj)) (s:Shared) (σ:St) (H:Hp) (x y:V) (v u:Value) (Q:VK),Inv X pins σ H s->zcz x v->zcz y u->r x y H Q ->
  subscripted slice false v u=operate [v,u] (getItem v u)->wpAny (model X.prog X.w) X.A (subscriptTail value slice v u) (EP X pins σ Q) X.xe s
def MtR (X:Cx)(id:String)(r:V->List V->Hp->VK->Prop):Prop :=
 ∀ (pins:List (Addr×Obj)) (s:Shared) (σ:St) (H:Hp) (x:V) (xs:List V) (v:Value) (us:List Value) (Q:VK),Inv X pins σ H s->zcz x v->zb0 xs us->r x xs H Q ->
  wpAny (model X.prog X.w) X.A (call (.builtin id) (v::us)) (EP X pins σ Q) X.xe s
section
variable {X:Cx}{a b:Expr}{ta tb:TE}{pos:Pos}
theorem IxR.or {r r':R2}(h:IxR X r)(h':IxR X r'):IxR X (fun x y H Q=>r x y H Q∨r' x y H Q):=by
 intro value slice pins s σ H x y v u Q I rx ry q hs
 rcases q with q | q
 ·exact h value slice pins s σ H x y v u Q I rx ry q hs
 ·exact h' value slice pins s σ H x y v u Q I rx ry q hs
theorem zvf {r:R2}(hr:IxR X r)(ha:PE X a ta)(hb:PE X b tb)(hs:zmp b):PE X (.Subscript a b pos) (tOp r ta tb):=by
 intro pins s σ H Q I h
 exact Subscript_ (zvH ha hb I h fun v u s2 x y H2 I2 rx ry q=>hr a b pins s2 σ H2 x y v u Q I2 rx ry q (hs _ _))
def zvS (K:W.Frag):R2:=fun x y H Q=>∃ p xs i v,x=.ref p/\y=.int i/\SqL K H p xs/\atI xs i=some v/\Q v H
def zvQ (K:W.Frag):R2:=fun x y H Q=>∃ p xs i v,x=.ref p/\y=.int i/\SqT K H p xs/\atI xs i=some v/\Q v H
def zvR:R2:=fun x y H Q=>∃ z i c,x=.str z/\y=.int i/\z.length<=sizeLine/\atI z.cps.toList i=some c/\Q (.str ⟨#[c]⟩) H
theorem zsg:IxR X (zvS X.K):=by
 intro value slice pins s σ H x y v u Q I rx ry h hs
 obtain⟨p,xs,i,z,rfl,rfl,hq,he,q⟩:=h
 cases rx
 obtain⟨t,rfl⟩:=ry
 obtain⟨its,r,pl,hz⟩:=I.list hq
 obtain⟨j,h1,h2,h3,h4,h5⟩:=zmm he
 obtain⟨w,ew,rw'⟩:=r.get h2
 have hl:=r.length
 have hn:=zk6
 have fin:EP X pins σ Q w s:=⟨z,H,I,rw',q⟩
 by_cases h0:0<=i
 ·have hj:i.toNat=j:=by
   rw[seqIndex_of h0 h5] at h1
   exact Option.some.inj h1
  exact item_listR pl.isList h0 (by omega) (by rw[hj];simpa using ew) fin hs
 ·have hj:(i+(its.toArray.size:Int)).toNat=j:=by
   rw[seqIndex_neg (by omega) h4] at h1
   rw[List.size_toArray,← hl]
   exact Option.some.inj h1
  exact subscriptTail_builtinR (x:=w) pl.isList.typeIs slot_list_getitem.lookup
   (wpAny_getItem_list_neg (Q:=fun r s'=>r=w/\EP X pins σ Q r s') pl.isList (by omega) (by rw[List.size_toArray]<;>omega) (by omega) (by rw[hj];simpa using ew) ⟨rfl,fin⟩) hs
theorem ztZ:IxR X (zvQ X.K):=by
 intro value slice pins s σ H x y v u Q I rx ry h hs
 obtain⟨p,xs,i,z,rfl,rfl,hq,he,q⟩:=h
 cases rx
 obtain⟨t,rfl⟩:=ry
 obtain⟨its,r,pl,hz⟩:=I.tuple hq
 obtain⟨j,h1,h2,h3,h4,h5⟩:=zmm he
 obtain⟨w,ew,rw'⟩:=r.get h2
 have hl:=r.length
 have hn:=zk6
 have fin:EP X pins σ Q w s:=⟨z,H,I,rw',q⟩
 exact subscriptTail_builtinR (x:=w) pl.typeIs slot_tuple_getitem.lookup
  (getItem_tuple (j:=j) (Q:=fun r s'=>r=w/\EP X pins σ Q r s') pl (by omega) (by omega) (by rw[List.size_toArray,← hl];exact h1) (by simpa using ew) ⟨rfl,fin⟩) hs
theorem zt0:IxR X zvR:=by
 intro value slice pins s σ H x y v u Q I rx ry h hs
 obtain⟨z,i,c,rfl,rfl,hz,he,q⟩:=h
 obtain⟨t,rfl⟩:=rx
 obtain⟨t',rfl⟩:=ry
 obtain⟨j,h1,h2,h3,h4,h5⟩:=zmm he
 have hl:z.cps.toList.length=z.length:=by simp [Str.length]
 rw[hl] at h1 h4 h5
 have hn:=zk6
 exact tail_any (typeIs_str s z t) slot_str_getitem.lookup (getItem_str (c:=c) (by
  have e1:decide (i < -(2 ^ 63:Int))=false:=decide_eq_false (by omega)
  have e2:decide (i≥2 ^ 63)=false:=decide_eq_false (by omega)
  rw[e1,e2,Bool.or_false]) (by rw[h1];simpa using h2) ⟨.str ⟨#[c]⟩,H,I.tok _,⟨_,rfl⟩,q⟩) hs
def rIx (K:W.Frag):R2:=fun x y H Q=>zvS K x y H Q∨zvQ K x y H Q∨zvR x y H Q
theorem zt1:IxR X (rIx X.K):=zsg.or (ztZ.or zt0)
theorem zkN (lo hi:Option Int)(n:Nat):(sliceBounds lo hi none n).1=((HT.sIx n 0 lo:Nat):Int)/\(sliceBounds lo hi none n).2.1=((HT.sIx n n hi:Nat):Int)/\(sliceBounds lo hi none n).2.2=1:=by
 refine⟨?_,?_,rfl⟩
 ·cases lo with
  | none=>simp [sliceBounds,HT.sIx]
  | some i =>
   simp only[sliceBounds,HT.sIx,Option.getD_none,show(1:Int) > 0 by decide,if_true]
   by_cases h:i < 0
   ·simp only[h,if_true]<;>omega
   ·simp only[h,if_false]<;>omega
 ·cases hi with
  | none=>simp [sliceBounds,HT.sIx]
  | some i =>
   simp only[sliceBounds,HT.sIx,Option.getD_none,show(1:Int) > 0 by decide,if_true]
   by_cases h:i < 0
   ·simp only[h,if_true]<;>omega
   ·simp only[h,if_false]<;>omega
theorem zj0 (its:List Value)(lo hi:Option Int):slicePick its.toArray lo hi none=((its.drop (HT.sIx its.length 0 lo)).take (HT.sIx its.length its.length hi-HT.sIx its.length 0 lo)).toArray:=by
 obtain⟨h1,h2,h3⟩:=zkN lo hi its.toArray.size
 unfold slicePick
 rw[h1,h2,h3]
 simp only[sliceRange_one,pick_run,List.size_toArray]<;>rfl
def zwt (K:W.Frag):V->Option Int->Option Int->Hp->VK->Prop:=fun x lo hi H Q=>∃ a xs,x=.ref a/\SqL K H a xs/\∀ p,H p=none->Q (.ref p) (upd H p (.lst (zrj xs lo hi)))
theorem zn3:SlR X (zwt X.K):=by
 intro pins s σ H x v vl vu lo hi sl Q I rx hs pl pu h
 obtain⟨a,xs,rfl,hx,q⟩:=h
 cases rx
 obtain⟨its,r,ht,hz⟩:=I.list hx
 have hlen:=r.length
 refine⟨"list",_,slot_list_getitem.lookup,ht.isList.typeIs,?_⟩
 refine wpAny_getItem_list_slice ht.isList hs pl pu .none (by simp) ?_ (by rw[List.size_toArray]<;>omega)
 rw[zj0,← hlen]
 refine⟨.ref s.heap.objs.size,_,I.laid (t':=s.toks) (o:=.lst (zrj xs lo hi)) (fun b ob q=>Heap.get?_push_of_some _ q) (Nat.le_refl _) ?_,rfl,q _ (I.hok.fresh (Nat.le_refl _))⟩
 exact⟨Nat.le_trans (zja xs lo hi) hz,_,0,(r.drop (HT.sIx xs.length 0 lo)).take (HT.sIx xs.length xs.length hi-HT.sIx xs.length 0 lo),Heap.get?_push_size _ rfl⟩
theorem zk0:OpR X (compareOp .NotIn) (fun x y H Q=>∃ i j,x=.str i/\y=.str j/\Q (.bl (!(!(Builtin.Str.occurrences j i 0 j.length 1).isEmpty))) H):=by
 intro pins s σ H x y v u Q I rx ry h
 obtain⟨i,j,rfl,rfl,q⟩:=h
 obtain⟨t,rfl⟩:=rx
 obtain⟨t',rfl⟩:=ry
 exact notIn_str ⟨.bl _,H,I,rfl,q⟩
theorem zfN:zhK X (.type "list") (fun xs H Q=>∃ p ys,xs=[.ref p]/\(SqL X.K H p ys∨SqT X.K H p ys)/\∀ l,H l=none->Q (.ref l) (upd H l (.lst ys))):=by
 intro pins s σ H xs us Q I r h
 obtain⟨p,ys,rfl,hq,q⟩:=h
 obtain⟨u,rfl,rx⟩:=zlG r
 cases rx
 have fin:∀ (its:List Value),zb0 ys its->ys.length<=sizeLine->∀ (h':Heap) (c':Nat),(∀ b o',s.heap.get? b=some o'->h'.get? b=some o') ->
   h'.get? s.heap.objs.size=some { cls:=.type "list",dict:=none,data:=.seq its.toArray c',slots:=#[] }->EP X pins σ Q (.ref s.heap.objs.size) { s with heap:=h' }:=fun its r' hz h' c' kp e =>
  ⟨.ref s.heap.objs.size,_,I.laid (t':=s.toks) kp (Nat.le_refl _) (show zcj X.prog X.w _ h' _ (.lst ys) from⟨hz,its,c',r',e⟩),rfl,q _ (I.hok.fresh (Nat.le_refl _))⟩
 rcases hq with hq | hq
 ·obtain⟨its,r',pl,hz⟩:=I.list hq
  have hlen:=r'.length
  obtain⟨o,ho,hc,n,hd⟩:=pl.isList
  exact call_list_seq p (.inl rfl) ho hc hd (fun h' c' kp e=>fin its r' hz h' c' kp e) (by simp only[List.size_toArray]<;>omega)
 ·obtain⟨its,r',pl,hz⟩:=I.tuple hq
  have hlen:=r'.length
  obtain⟨o,ho,hc,n,hd⟩:=pl
  exact call_list_seq p (.inr rfl) ho hc hd (fun h' c' kp e=>fin its r' hz h' c' kp e) (by simp only[List.size_toArray]<;>omega)
theorem zkz:zhK X (.type "tuple") (fun xs H Q=>∃ p ys,xs=[.ref p]/\((SqL X.K H p ys/\∀ l,H l=none->Q (.ref l) (upd H l (.tup ys)))∨(SqT X.K H p ys/\Q (.ref p) H))):=by
 intro pins s σ H xs us Q I r h
 obtain⟨p,ys,rfl,h⟩:=h
 obtain⟨u,rfl,rx⟩:=zlG r
 cases rx
 rcases h with⟨hq,q⟩ | ⟨hq,q⟩
 ·obtain⟨its,r',pl,hz⟩:=I.list hq
  have hlen:=r'.length
  refine call_tuple_list pl.isList (fun h' kp=>?_) (by simp only[List.size_toArray]<;>omega)
  have I1:Inv X pins σ H { s with heap:=h' }:=I.kept (t':=s.toks) kp
  have I2:Inv X pins σ (upd H h'.objs.size (.tup ys)) { s with heap:=h'.push { cls:=.type "tuple",data:=.seq its.toArray } } :=
   I1.laid (t':=s.toks) (fun b o e=>Heap.get?_push_of_some _ e) (Nat.le_refl _) (show zcj X.prog X.w _ _ _ (.tup ys) from⟨hz,its,r',IsTup.new _ _⟩)
  exact⟨.ref h'.objs.size,_,I2,rfl,q _ (I1.hok.fresh (Nat.le_refl _))⟩
 ·obtain⟨its,r',pl,hz⟩:=I.tuple hq
  exact call_tuple_same pl ⟨.ref p,H,I,rfl,q⟩
def tyV (K:W.Frag)(T:String)(x:V)(H:Hp):Prop:=match x with
 | .str _=>T="str"
 | .int _=>T="int"
 | .ref p=>(T="list"/\∃ xs,SqL K H p xs)∨(T="tuple"/\∃ o,K.lookup p=some o/\o.cls=.type "tuple"/\o.dict=none) ∨
   (T="dict"/\((∃ kvs,H p=some (.dK kvs))∨∃ kvs,H p=some (.dT kvs)))∨(T="set"/\∃ S n,H p=some (.set S n))
 | _=>False
theorem zsR {pins:List (Addr×Obj)}{σ:St}{H:Hp}{s:Shared}{T:String}{x:V}{v:Value}(I:Inv X pins σ H s)(r:zcz x v)(ty:tyV X.K T x H) :
  s.TypeIs v T/\∀ a,v=.ref a->∃ ob,s.heap.get? a=some ob/\ob.dict=none:=by
 cases x with
 | str z =>
  obtain⟨t,rfl⟩:=r
  cases (show T="str" from ty)
  exact⟨typeIs_str s z t,fun _ e=>nomatch e⟩
 | int i =>
  obtain⟨t,rfl⟩:=r
  cases (show T="int" from ty)
  exact⟨typeIs_int s i t,fun _ e=>nomatch e⟩
 | ref p =>
  cases r
  rcases ty with⟨rfl,xs,hq⟩ | ⟨rfl,o,hk,hc,hd⟩ | ⟨rfl,hk⟩ | ⟨rfl,S,n,hk⟩
  ·obtain⟨its,_,pl,_⟩:=I.list hq
   refine⟨pl.isList.typeIs,fun a e=>?_⟩
   cases e
   obtain⟨o,n,e,c,hd,_⟩:=pl
   exact⟨o,e,hd⟩
  ·refine⟨⟨o,I.kIn p o hk,hc⟩,fun a e=>?_⟩
   cases e
   exact⟨o,I.kIn _ o hk,hd⟩
  ·have z:∃ o,s.heap.get? p=some o/\o.ExactDict:=by
    rcases hk with⟨kvs,hk⟩ | ⟨kvs,hk⟩
    ·obtain⟨_,_,_,_,o,_,_,e,ex,_⟩:=I.hok p _ hk
     exact⟨o,e,ex⟩
    ·obtain⟨_,_,_,_,o,_,_,e,ex,_⟩:=I.hok p _ hk
     exact⟨o,e,ex⟩
   obtain⟨o,e,ex⟩:=z
   refine⟨⟨o,e,ex.1⟩,fun a e2=>?_⟩
   cases e2
   exact⟨o,e,ex.2.1⟩
  ·obtain⟨o,_,_,_,e,ex,_⟩:=I.hok p _ hk
   refine⟨⟨o,e,ex.1⟩,fun a e2=>?_⟩
   cases e2
   exact⟨o,e,ex.2.1⟩
 | _=>exact False.elim ty
def tBM (K:W.Frag)(T:String)(r:V->List V->Hp->VK->Prop)(to:TE)(t:TA):TE:=fun σ H Q=>to σ H fun x H1=>tyV K T x H1/\t σ H1 fun xs H2=>r x xs H2 Q
variable {o e:Expr}{es:List Expr}{to:TE}{t:TA}{name:Str}{apos cpos:Pos}{T id:String}{r:V->List V->Hp->VK->Prop}
theorem zp4 (pa:PlainAttrs T)(slot:Slot T name id)(hty:typeOf (.builtin id)=pure (.type "method_descriptor"))(hm:MtR X id r)(ho:PE X o to)(ha:PA X (e::es) t)
  (hbase:attributeBase o name X.env (eval o X.env)=eval o X.env:=by rfl)
  (hfew:((backTo cpos (starEach (e::es) X.env)).all (fun x=>!x.1)&&(backToKw cpos (keywordEach [] X.env)).all (fun x=>x.1.isSome)
  &&decide ((e::es).length+([]:List Keyword).length+(if([]:List Keyword).isEmpty then 0 else 1) < 30))=true:=by rfl)
  (hline:(apos.endLine==cpos.line)=true:=by rfl) (hs:starEach (e::es) X.env=(false,eval e X.env)::starEach es X.env:=by rfl) (hplain:(backTo cpos (starEach es X.env)).any (·.1)=false:=by rfl) :
  PE X (.Call (.Attribute o name apos) (e::es) [] cpos) (tBM X.K T r to t):=by
 intro pins s σ H Q I h
 refine wpAny_Call_method_late hbase hfew hline rfl (thn (ho pins s σ H _ I h) fun v s1 ⟨x,H1,I1,r1,ty,q1⟩=>?_)
 obtain⟨h1,h2⟩:=zsR I1 r1 ty
 refine⟨T,id,pa,slot,hty,h1,h2,?_⟩
 have hA:=ha cpos pins s1 σ H1 _ I1 q1
 rw[hs] at hA ⊢
 refine Calls.callWith_builtin (by show(false||(backTo cpos (starEach es X.env)).any (·.1))=false;rw[hplain]<;>rfl) (Calls.evalArgs_plain ?_)
 exact thn hA fun us s2 ⟨vs,H2,I2,r2,q2⟩=>hm pins s2 σ H2 x vs v us Q I2 r1 r2 q2
end
def MtM (X:Cx)(id:String)(r:V->List V->Hp->VK->Prop):Prop :=
 ∀ (pins:List (Addr×Obj)) (s:Shared) (σ:St) (H:Hp) (x:V) (xs:List V) (v:Value) (us:List Value) (Q:VK),Inv X pins σ H s->zcz x v->zb0 xs us->r x xs H Q ->
  wpAny (model X.prog X.w) X.A (call (.builtin id) (v::us)) (EP X pins σ Q) X.xe s
theorem zb0.one:∀ {x:V}{us:List Value},zb0 [x] us->∃ u,us=[u]/\zcz x u
 | _,_,.cons r .nil=>⟨_,rfl,r⟩
theorem zb0.dropLast {xs:List V}{us:List Value}(h:zb0 xs us):zb0 xs.dropLast us.dropLast:=by
 induction h with
 | nil=>exact .nil
 | cons r t ih =>
  cases t with
  | nil=>exact .nil
  | cons q t'=>exact .cons r ih
theorem zb0.rep {xs:List V}{us:List Value}(h:zb0 xs us):∀ k:Nat,zb0 (List.replicate k xs).flatten (List.replicate k us).flatten
 | 0=>.nil
 | k+1=>by
  rw[List.replicate_succ,List.replicate_succ,List.flatten_cons,List.flatten_cons]
  exact zb0.append h (zb0.rep h k)
theorem zsK {α:Type}(l:List α):l.eraseIdx (l.length-1)=l.dropLast:=by
 induction l with
 | nil=>rfl
 | cons a r ih =>
  cases r with
  | nil=>rfl
  | cons b r =>
   have e:(a::b::r).length-1=((b::r).length-1)+1:=by
    have h1:(a::b::r).length=r.length+2:=rfl
    have h2:(b::r).length=r.length+1:=rfl
    omega
   rw[e,List.eraseIdx_cons_succ,ih]
   all_goals rfl
theorem zlf (its:List Value):∀ (k:Nat) (acc:List Value),
  List.foldl (fun x1 x2=>x1++x2) acc.toArray (List.replicate k its.toArray)=(acc++(List.replicate k its).flatten).toArray
 | 0,acc=>by simp
 | k+1,acc=>by
  have e:acc.toArray++its.toArray=(acc++its).toArray:=by simp
  have e2:(acc++its)++(List.replicate k its).flatten=acc++(List.replicate (k+1) its).flatten:=by
   rw[List.replicate_succ,List.flatten_cons,List.append_assoc]
  rw[← e2,← zlf its k (acc++its),← e,List.replicate_succ,List.foldl_cons]
section
variable {X:Cx}{pins:List (Addr×Obj)}{σ:St}{H:Hp}{s:Shared}{l b:Addr}{xs ys zs:List V}
theorem Inv.lset {its its':List Value}{n:Nat}{f:Array Value->Array Value}{t':Nat}(I:Inv X pins σ H s)(hH:H l=some (.lst xs))
  (e:s.heap.get? l=some { cls:=.type "list",data:=.seq its.toArray n })(hf:f its.toArray=its'.toArray)(hv:zb0 ys its')(hz:ys.length<=sizeLine) :
  Inv X pins σ (upd H l (.lst ys)) { s with heap:=s.heap.update l (Obj.mapSeq f),toks:=t' }:=by
 have q:=PySem.IsL.update e f
 rw[hf] at q
 refine I.write (x:=l) (e:=l) (by rw[hH];exact trivial) (.inl rfl) (fun b' u hb hu=>(Heap.get?_update_other s.heap (Obj.mapSeq f) (Ne.symm hb)).trans hu) ⟨_,q⟩ ?_
 exact⟨hz,its',_,hv,q⟩
theorem Inv.lnew {its:List Value}{t':Nat}(I:Inv X pins σ H s)(hv:zb0 ys its)(hz:ys.length<=sizeLine) :
  Inv X pins σ (upd H s.heap.objs.size (.lst ys)) { s with heap:=s.heap.push { cls:=.type "list",data:=.seq its.toArray },toks:=t' } :=
 I.laid (fun _ _ q=>Heap.get?_push_of_some _ q) (Nat.le_refl _) ⟨hz,its,0,hv,Heap.get?_push_size _ rfl⟩
theorem Inv.fresh (I:Inv X pins σ H s):H s.heap.objs.size=none:=I.hok.fresh (Nat.le_refl _)
theorem Inv.lstM (I:Inv X pins σ H s)(hH:H l=some (.lst xs)):xs.length<=sizeLine/\∃ (its:List Value) (n:Nat),zb0 xs its/\xs.length=its.length/\s.heap.get? l=some { cls:=.type "list",data:=.seq its.toArray n }:=by
 obtain⟨z,its,n,r,e⟩:=I.hok l _ hH
 exact⟨z,its,n,r,r.length,e⟩
theorem zp6 {n:Nat}(h:n<=sizeLine):Builtin.List.listTooLong n=false:=by
 unfold Builtin.List.listTooLong
 exact decide_eq_false (by omega)
end
section
variable {X:Cx}
def zrM:V->List V->Hp->VK->Prop:=fun x vs H Q=>∃ l xs y,x=.ref l/\vs=[y]/\H l=some (.lst xs)/\xs.length < sizeLine/\Q .non (upd H l (.lst (xs++[y])))
theorem zk4:MtM X "list.append" zrM:=by
 intro pins s σ H x vs v us Q I rx rv h
 obtain⟨l,xs,y,rfl,rfl,hH,hz,q⟩:=h
 cases rx
 obtain⟨u,rfl,ru⟩:=rv.one
 obtain⟨z,its,n,r,hl,e⟩:=I.lstM hH
 refine call_meets F.slot_list_append ⟨_,e,rfl⟩ F.entry_list_append (F.args_list_append_2 _ _) (PySem.list_append l its.toArray n u (by rw[List.size_toArray];omega)) ⟨e,?_⟩
 refine⟨.non,_,I.lset (its':=its++[u]) hH e (by simp) (r.append (.cons ru .nil)) ?_,rfl,q⟩
 rw[List.length_append,List.length_singleton]
 omega
def zwL:V->List V->Hp->VK->Prop:=fun x vs H Q=>∃ l xs y,x=.ref l/\vs=[]/\H l=some (.lst xs)/\xs[xs.length-1]?=some y/\Q y (upd H l (.lst xs.dropLast))
def zwu:R2:=fun x y H Q=>∃ l k xs,x=.ref l/\y=.int k/\H l=some (.lst xs)/\-(2 ^ 63)<=k/\k < 2 ^ 63/\xs.length*k.toNat<=sizeLine /\
 ∀ p,H p=none->Q (.ref p) (upd H p (.lst (List.replicate k.toNat xs).flatten))
theorem zsd {α:Type}(xs:List α)(k:Nat):(List.replicate k xs).flatten.length=k*xs.length:=by
 induction k with
 | zero=>simp
 | succ k ih=>rw[List.replicate_succ,List.flatten_cons,List.length_append,ih,Nat.succ_mul,Nat.add_comm]
theorem ztI:OpR X (binaryOp .Mult) zwu:=by
 intro pins s σ H x y v u Q I rx ry h
 obtain⟨l,k,xs,rfl,rfl,hH,h1,h2,hz,q⟩:=h
 cases rx
 obtain⟨t,rfl⟩:=ry
 obtain⟨z,its,n,r,hl,e⟩:=I.lstM hH
 have hlen:its.toArray.size*k.toNat<=sizeLine:=by rw[List.size_toArray,← hl];exact hz
 have hcap:¬ its.toArray.size*k.toNat > (2 ^ 63-1) / 8:=by
  have:(sizeLine:Nat)<=(2 ^ 63-1) / 8:=by decide
  omega
 have hfit:¬ (!Builtin.List.listFitsIndex k)=true:=by
  rw[fitsIndex_both h1 h2]
  exact Bool.false_ne_true
 have hlong:¬ Builtin.List.listTooLong (its.toArray.size*k.toNat)=true:=by
  rw[zp6 hlen]
  exact Bool.false_ne_true
 have hnew:List.foldl (fun x1 x2=>x1++x2) #[] (List.replicate (if its.toArray.isEmpty=true then 0 else k.toNat) its.toArray)=(List.replicate k.toNat its).flatten.toArray:=by
  have f0:∀ m:Nat,List.foldl (fun x1 x2=>x1++x2) #[] (List.replicate m its.toArray)=(List.replicate m its).flatten.toArray:=fun m=>by
   have:=zlf its m []
   rw[List.nil_append] at this
   exact this
  rw[f0]
  cases its with
  | nil=>simp
  | cons a r'=>rw[if_neg (by simp)]
 refine wpAny_binaryOp_repeat_ref (T:="list") (U:="int") (by decide) ⟨_,e,rfl⟩ (fun s'=>typeIs_int s' k t) noFill_list_mul F.fills_int_mul F.slot_int_rmul repeat_list F.slot_int_index.lookup
  (call_meets F.slot_int_rmul (typeIs_int s k t) F.entry_int_rmul (F.args_int_rmul_2 _ _) (int___rmul___int_list k t l its.toArray n)
   ⟨e,rfl,⟨_,e,rfl⟩,call_meets F.slot_list_mul ⟨_,e,rfl⟩ F.entry_list_mul (F.args_list_mul_2 _ _) (AutoListH.list___mul___list_int_3 l its.toArray n k t hfit hcap hlong) ⟨e,?_⟩⟩)
 rw[hnew]
 exact⟨.ref _,_,I.lnew (t':=s.toks) (r.rep k.toNat) (by rw[zsd,Nat.mul_comm];exact hz),rfl,q _ I.fresh⟩
end
section
variable {prog:Program}{w:World}{A:Around}{E:Value->Shared->Prop}{s:Shared}
set_option maxRecDepth 100000 in
end
section
variable {X:Cx}
end
end L2
namespace Att
open PySem PySem.W PySem.Calls PyProof.Rows
theorem ziX {P:Params}{h:Heap}:∀ (ns:List Int) (vs:List Value),WellAll P h vs (ns.map WData.int)->IntsAre vs ns:=by
 intro ns
 induction ns with
 | nil =>
  intro vs w
  rw[List.map_nil] at w
  cases w
  exact .nil
 | cons n ns ih =>
  intro vs w
  rw[List.map_cons] at w
  cases w with
  | cons a b =>
   cases a
   exact .cons _ _ (ih _ b)
theorem zn5 {l:OpenLaw}{n:Nat}(hn:l.most=some n){P:Params}{h:Heap}{args:List WData}{vals:List Value}
  (hpre:l.row.toRowW.claim.pre args=true)(hwl:WellAll P h vals args) :
  ∃ a vs ns,vals=[Value.ref a]/\args=[WData.list (ns.map WData.int)]/\h.get? a=some { cls:=.type "list",data:=.seq vs.toArray }/\IntsAre vs ns/\ns.length<=n:=by
 have hsh:WShape.hasAll [] args [.list .int]=true:=(pre_splitW hpre).1
 have hc:l.pre.holds [] { args:=args }=true:=(pre_splitW hpre).2
 obtain⟨d,r,rfl,h1,h2⟩:=hasAllW_cons hsh
 obtain rfl:=hasAllW_nil h2
 obtain⟨xs,rfl,h3⟩:=hasW_list h1
 obtain⟨ns,rfl⟩:=items_int h3
 have hlen:ns.length<=n:=by
  unfold OpenLaw.pre at hc
  have h4:(WTm.not (.lt (.lit (.int (n:Int))) (.len (.arg 0)))).holds [] { args:=[.list (ns.map .int)] }=true:=by
   have h4:=(holds_andW hc).1
   rw[hn] at h4
   exact h4
  have h5:=condW_of h4 (w_not (w_lt w_lit (w_len_list (w_arg rfl))))
  rw[List.length_map] at h5
  refine Nat.le_of_not_lt fun q=>?_
  have q':(n:Int) < ((ns.length:Nat):Int):=by omega
  first
   | (rw[decide_eq_true q'] at h5;exact absurd h5 (by decide))
   | (simp at h5;omega)
 cases hwl with
 | cons w1 w2 =>
  cases w2
  cases w1 with
  | list ho hall=>exact⟨_,_,ns,rfl,rfl,ho,ziX ns _ hall,hlen⟩
theorem zoh (l:OpenLaw)(args:List WData):l.row.toRowW.claim.post args (.bool true) args=true :=
 postW_of (r:=l.row.toRowW) (X:=(true==true))
  (show WShape.has [] (.bool true) .bool=true by first | rfl | decide | simp [WShape.has,WShape.arms,WShape.armsAll])
  (show(WTm.eq .res (.lit (.bool true))).value [] { args:=args,res:=some (.bool true),after:=args }=some (.bool (true==true)) from w_eq_bool (w_res rfl) w_lit) rfl
theorem attach_call {l:OpenLaw}{n:Nat}{q:Program}{loose:List Str}{XP:(Str->Option Value)->Heap->Prop}{YP:World->Heap->Prop}{d:DefRec}
  (hn:l.most=some n)(hdf:d.params.defaults=[])
  (call:∀ (w:World) (s₀ s₁:Shared) (mg mb:Str->Option Value) (fa:Addr) (o:Obj) (pm cd doc:Value) (a:Addr) (vs:List Value) (ns:List Int),
   Ground q loose [] XP w s₀ mg mb s₁.heap->YP w s₁.heap ->
   s₁.heap.get? fa=some o->o.data=.func (docDef d.name d.params d.body d.scope pm cd doc)->s₁.heap.CodeRec cd d.name->mg d.name=some (.ref fa) ->
   s₁.heap.get? a=some { cls:=.type "list",data:=.seq vs.toArray }->IntsAre vs ns->ns.length<=n->s₁.gens=#[] ->
   codeAny (model l.prog w) callerA (.call (.ref fa) ⟨[.ref a],[]⟩) (fun r s'=>r=.ok (.ret (.bool true))/\OldK s₁.heap s'.heap/\s'.os=s₁.os/\AllBare s'.gens) s₁) :
  WalkO q loose XP YP l.row.toRowW d [] (fun f vs=>PySem.call f vs):=by
 intro w s₀ s₁ mg mb G Y fa o pm cd doc dV kV ho hd hcd hD hmg hg args vals as hpre hlay hrd hwl hlo
 obtain rfl:dV=.none:=Dflts.none hD hdf
 obtain rfl:kV=.none:=Dflts.noKw hD
 obtain⟨a,vs,ns,rfl,rfl,hobj,hints,hlen⟩:=zn5 hn hpre hwl
 refine enter_call (codeAny_mono (call w s₀ s₁ mg mb fa o pm cd doc a vs ns G Y ho (fd_plain hd) hcd hmg hobj hints hlen hg) fun r s' hq=>?_)
 obtain⟨rfl,h2,h3,h4⟩:=hq
 exact⟨.inl ⟨.bool true,.bool true,[],rfl,fun _=>rfl,.bool true,zoh l _,fun _=>⟨List.Pairwise.nil,fun _ hm=>(nomatch hm)⟩⟩,h2,h3,h4⟩
section
variable {prog:Program}{w:World}{A:Around}{E:Value->Shared->Prop}{s:Shared}{K:Frag}
end
end Att
namespace L2
open PySem PySem.Spec PyProof.Rows
theorem zfm:∀ {vs:List Value}{ns:List Int},IntsAre vs ns->zb0 (ns.map V.int) vs
 | _,_,.nil=>.nil
 | _,_,.cons n t h=>.cons ⟨t,rfl⟩ (zfm h)
def zuD (H:Hp):Prop:=∀ b,H b=none∨∃ o xs,H b=some (.frz o (.lst xs))
theorem zqd {P:Program}{w:World}{K:W.Frag}{mg mb:Str->Option Value}{CX:CXT}{k:Nat}{fa a:Addr}{fd:FuncData}{x:Str}{sp:Sp}{s₁:Shared}{vs:List Value}{ns:List Int}
  (KX:K.In s₁.heap)(hns:s₁.heap.Ns mainGlobals mg)(hb:s₁.heap.Ns builtinsNs mb)(hbb:∀ x:Str,x≠"__name__"->mb x=bootBuiltins x)(hlim:s₁.heap.NoLimit)(hg:s₁.gens=#[])
  (ha:s₁.heap.get? a=some { cls:=.type "list",data:=.seq vs.toArray })(hi:IntsAre vs ns)(hl:ns.length<=sizeLine)(hr:zgV k callerA)
  (F:∀ base:Heap,K.In base->base.Ns mainGlobals mg->zdy P w K mg base CX k fa fd [x] sp)(hbind:∀ (s:Shared) (u:Value),BindsTo s fd ⟨[u],[]⟩ [(x,u)])
  (hsp:∀ H:Hp,zuD H->SqL K H a (ns.map V.int)->sp [.ref a] H (fun v _=>v=.bl true) fun _ _ _=>False)
  (hCX:∀ H e s',CX [] H s₁ (fun _ _ _=>False) e s'->False) :
  codeAny (model P w) callerA (.call (.ref fa) ⟨[.ref a],[]⟩) (fun r s'=>r=.ok (.ret (.bool true))/\OldK s₁.heap s'.heap/\s'.os=s₁.os/\AllBare s'.gens) s₁:=by
 have rv:=zfm hi
 have lenV:=hi.length
 have core:∀ H:Hp,zuD H->SqL K H a (ns.map V.int)->HOk P w H s₁.heap->(∀ b,H b≠none->b=a)->(H a≠none->K.lookup a=none) ->
   codeAny (model P w) callerA (.call (.ref fa) ⟨[.ref a],[]⟩) (fun r s'=>r=.ok (.ret (.bool true))/\OldK s₁.heap s'.heap/\s'.os=s₁.os/\AllBare s'.gens) s₁:=by
  intro H hO hS hok hA hK
  have base_of:∀ {b:Addr}{o:Obj},s₁.heap.get? b=some o->H b=none->(zqp s₁.heap H).get? b=some o:=fun e n=>zqo e n
  have noA:∀ {b:Addr}{o:Obj}{es:Array DictEntry}{ep:Nat},s₁.heap.get? b=some o->o.data=.dict es ep->H b=none:=fun {b o es ep} e d=>by
   cases q:H b with
   | none=>rfl
   | some u =>
    have e':b=a:=hA b (by rw[q];simp)
    subst e'
    rw[ha] at e;cases e
    have d':Data.seq vs.toArray _=Data.dict es ep:=d
    cases d'
  have nsK:∀ {b:Addr}{m:Str->Option Value},s₁.heap.Ns b m->(zqp s₁.heap H).Ns b m:=fun {b m} ⟨o,es,ep,e,d,r⟩=>⟨o,es,ep,base_of e (noA e d),d,r⟩
  have hKb:K.In (zqp s₁.heap H):=fun b o e=>base_of (KX b o e) (by
   cases q:H b with
   | none=>rfl
   | some u =>
    have e':b=a:=hA b (by rw[q];simp)
    subst e'
    rw[hK (by rw[q];simp)] at e;cases e)
  have hM:Mod K mg (zqp s₁.heap H):=⟨hKb,nsK hns,⟨mb,nsK hb,hbb⟩,let ⟨mc,h1,h2⟩:=hlim;⟨mc,nsK h1,h2⟩⟩
  have e0:zrn P w K mg (zqp s₁.heap H) callerA [] s₁ H:=⟨rfl,hM,fun b o e=>zr4 e,Nat.le_of_eq (zoO _ _),trivial,fun b hb=>absurd (show b∈([]:List Addr) from hb) (by simp),hok,.of_eq hg⟩
  refine codeAny_mono ((F _ hKb (nsK hns)).run callerA [] s₁ H ⟨[.ref a],[]⟩ [.ref a] [.ref a] _ _ hr e0 (hbind s₁ (.ref a)) (.cons rfl .nil) (hsp H hO hS)) fun r s' h=>?_
  cases r with
  | error e=>exact(hCX H e s' h).elim
  | ok fl =>
   cases fl with
   | next=>exact False.elim h
   | brk=>exact False.elim h
   | cont=>exact False.elim h
   | ret u =>
    obtain⟨v,H',os,bare,un,hok',r',q⟩:=h
    have q':v=.bl true:=q
    subst q'
    obtain rfl:u=Value.bool true:=r'
    refine⟨rfl,OldK.of_keep fun b o e=>?_,os,bare⟩
    cases q:H b with
    | none=>exact un.keep b o e q (by intro z;exact absurd (show b∈([]:List Addr) from z) (by simp)) (by simp)
    | some u =>
     rcases hO b with z | ⟨ob,xs,z⟩
     ·rw[q] at z;cases z
     ·have z2:=un.frzs b ob _ z
      obtain⟨e1,_⟩:=hok b _ z
      obtain⟨e2,_⟩:=hok' b _ z2
      rw[e] at e1;cases e1
      exact e2
 cases hk:K.lookup a with
 | some o =>
  have e:=KX a o hk
  rw[ha] at e
  cases e
  refine core (fun _=>none) (fun _=>.inl rfl) (.inr ⟨_,vs.toArray,_,hk,rfl,rfl,rfl,by rw[List.size_toArray,lenV];exact hl,by simpa using rv⟩) (fun b u z=>by have z':(none:Option HO)=some u:=z;cases z') (fun b z=>absurd rfl z) fun z=>absurd rfl z
 | none =>
  refine core (fun b=>if b=a then some (.frz { cls:=.type "list",data:=.seq vs.toArray } (.lst (ns.map V.int))) else none) (fun b=>?_) (.inl (.inr ⟨{ cls:=.type "list",data:=.seq vs.toArray },if_pos rfl⟩)) (fun b u z=>?_) (fun b z=>?_) fun _=>hk
  ·by_cases hb:b=a
   ·exact .inr ⟨_,_,if_pos hb⟩
   ·exact .inl (if_neg hb)
  ·by_cases hb:b=a
   ·have z':=(if_pos hb).symm.trans z
    cases z'
    subst hb
    exact⟨ha,by rw[List.length_map];exact hl,vs,_,rv,ha⟩
   ·have z':=(if_neg hb).symm.trans z
    cases z'
  ·by_cases hb:b=a
   ·exact hb
   ·exact absurd (if_neg hb) z
abbrev KOf {K:W.Frag}{h:Heap}(_:K.In h):W.Frag:=K
theorem zrz {l:W.OpenLaw}{n k:Nat}{q:Program}{loose:List Str}{XP:(Str->Option Value)->Heap->Prop}{YP:World->Heap->Prop}{d:DefRec}{K:Params->W.Frag}{CX:World->CXT}{sp:World->Sp}{x:Str}
  (hn:l.most=some n)(hn2:n<=sizeLine)(hdf:d.params.defaults=[])(hr:zgV k callerA)
  (hY:∀ (w:World) (h:Heap),YP w h->(K w.params).In h)
  (F:∀ (w:World) (mg:Str->Option Value) (fa:Addr) (h:Heap),(K w.params).In h->h.Ns mainGlobals mg->mg d.name=some (.ref fa) ->
   ∃ fd:FuncData,(∀ (s:Shared) (u:Value),BindsTo s fd ⟨[u],[]⟩ [(x,u)]) /\
    ∀ base:Heap,(K w.params).In base->base.Ns mainGlobals mg->zdy l.prog w (K w.params) mg base (CX w) k fa fd [x] (sp w))
  (hsp:∀ (w:World) (H:Hp) (a:Addr) (ns:List Int),ns.length<=n->zuD H->SqL (K w.params) H a (ns.map V.int)->sp w [.ref a] H (fun v _=>v=.bl true) fun _ _ _=>False)
  (hCX:∀ (w:World) (H:Hp) (s:Shared) (e:Value) (s':Shared),CX w [] H s (fun _ _ _=>False) e s'->False) :
  W.WalkO q loose XP YP l.row.toRowW d [] (fun f vs=>PySem.call f vs):=by
 refine Att.attach_call hn hdf fun w s₀ s₁ mg mb fa o pm cd doc a vs ns G Y ho hd hcd hmg hobj hints hlen hg=>?_
 have KX:=hY w _ Y
 obtain⟨fd,hb,hF⟩:=F w mg fa _ KX G.T.g hmg
 exact zqd KX G.T.g G.T.b G.T.builtins G.T.nolimit hg hobj hints (Nat.le_trans hlen hn2) hr hF hb (fun H hO hS=>hsp w H a ns hlen hO hS) fun H e s'=>hCX w H s₁ e s'
theorem walk_ofK {l:W.OpenLaw}{n k:Nat}{q:Program}{loose:List Str}{XP:(Str->Option Value)->Heap->Prop}{YP:World->Heap->Prop}{d:DefRec}{K:Params->W.Frag}{CX:CXT}{sp:W.Frag->Sp}{x:Str}
  (hn:l.most=some n)(hn2:n<=sizeLine)(hdf:d.params.defaults=[])(hr:zgV k callerA)
  (hY:∀ (w:World) (h:Heap),YP w h->(K w.params).In h)
  (F:∀ (w:World) (mg:Str->Option Value) (fa:Addr) (h:Heap),(K w.params).In h->h.Ns mainGlobals mg->mg d.name=some (.ref fa) ->
   ∃ fd:FuncData,(∀ (s:Shared) (u:Value),BindsTo s fd ⟨[u],[]⟩ [(x,u)]) /\
    ∀ base:Heap,(K w.params).In base->base.Ns mainGlobals mg->zdy l.prog w (K w.params) mg base CX k fa fd [x] (sp (K w.params)))
  (hsp:∀ (K:W.Frag) (H:Hp) (a:Addr) (ns:List Int),ns.length<=n->zuD H->SqL K H a (ns.map V.int)->sp K [.ref a] H (fun v _=>v=.bl true) fun _ _ _=>False)
  (hCX:∀ (H:Hp) (s:Shared) (e:Value) (s':Shared),CX [] H s (fun _ _ _=>False) e s'->False) :
  W.WalkO q loose XP YP l.row.toRowW d [] (fun f vs=>PySem.call f vs) :=
 zrz (K:=K) (CX:=fun _=>CX) (sp:=fun w=>sp (K w.params)) hn hn2 hdf hr hY F (fun w H a ns h1 h2 h3=>hsp (K w.params) H a ns h1 h2 h3) fun _ H s e s'=>hCX H s e s'
def zsk (s:Stmt)(j:Nat):Stmt:=match s with
 | .ClassDef _ _ _ body _ _ _ _ _ _ _=>body.getD j (.Pass ⟨0,0,0,0⟩)
 | _=>.Pass ⟨0,0,0,0⟩
def defArgs (s:Stmt):Arguments:=match s with
 | .FunctionDef _ a _ _ _ _ _ _ _ _=>a
 | _=>{ posonlyargs:=[],args:=[],vararg:=none,kwonlyargs:=[],kw_defaults:=[],kwarg:=none,defaults:=[] }
def defBody (s:Stmt):List Stmt:=match s with
 | .FunctionDef _ _ b _ _ _ _ _ _ _=>b
 | _=>[]
def defScope (s:Stmt):Scope:=match s with
 | .FunctionDef _ _ _ _ _ _ sc _ _ _=>sc
 | _=>{ kind:=.function,names:=[],isGenerator:=false,isCoroutine:=false }
abbrev CX0:CXT:=fun _ _ _ _ _ _=>False
abbrev E0:XK:=fun _ _ _=>False
theorem zcb {X:Cx}:zjP CX0 X E0:=fun _ _ _ _ _ _ _ h=>h.elim
structure Fun (K:W.Frag) (x qual:Str) (st:Stmt) (f:Addr) (fd:FuncData):Prop where
 ex:∃ (oc:Value) (od:Option Addr) (kV doc pm:Value) (an:Option Addr) (cdv ct:Value) (osl:Array (Option Value)),
  fd=W.fnOf x qual (defArgs st) (defBody st) (defScope st) .none kV doc pm an cdv ct/\K.lookup f=some ⟨oc,od,.func fd,osl⟩/\W.codeIn K cdv qual=true
 kp:W.keepIn K (.ref f)=true
section
variable {P:Program}{w:World}{K:W.Frag}{mg:Str->Option Value}{base:Heap}
theorem Fun.ok {x qual:Str}{st:Stmt}{f:Addr}{fd:FuncData}{N ps:List Str}{k:Nat}{sp:Sp}(F:Fun K x qual st f fd)(S:zaM N ps (defScope st))(len:∀ vs H Q E,sp vs H Q E->vs.length=ps.length)
  (hbody:∀ (cdv:Value) (A:Around) (outer:List Env) (s:Shared) (H:Hp) (vs:List V) (Q:VK) (E:XK),zgV k (A.deeper (envOfC qual (defScope st) s.heap.objs.size f cdv))->sp vs H Q E ->
   ∃ t,PSs (zgu CX0 P w K mg base N qual (defScope st) f cdv A outer s H E).nox (defBody st) t/\t { nx:=fun _ H'=>Q .non H',rt:=Q } (start N vs) H):zdy P w K mg base CX0 (k+1) f fd ps sp:=by
 obtain⟨oc,od,kV,doc,pm,an,cdv,ct,osl,rfl,lk,hcd⟩:=F.ex
 refine zt5 lk hcd S len fun A outer s H vs Q E hr hsp=>?_
 obtain⟨t,h,q⟩:=hbody cdv A outer s H vs Q E hr hsp
 exact⟨t,h.nox,q⟩
theorem Fun.binds {x qual:Str}{st:Stmt}{f:Addr}{fd:FuncData}{ps:List Str}(F:Fun K x qual st f fd)
  (h:∀ (kV doc pm:Value) (an:Option Addr) (cdv ct:Value) (us:List Value),us.length=ps.length->bindArgs (W.fnOf x qual (defArgs st) (defBody st) (defScope st) .none kV doc pm an cdv ct) ⟨us,[]⟩=pure (ps.zip us)):zbZ K fd ps []:=by
 obtain⟨oc,od,kV,doc,pm,an,cdv,ct,osl,rfl,lk,hcd⟩:=F.ex
 exact .all (h kV doc pm an cdv ct)
theorem zay {x qual:Str}{st:Stmt}{f:Addr}{oc:Value}{od an:Option Addr}{osl:Array (Option Value)}{kV doc pm cdv ct:Value}(l:K.lookup f=some ⟨oc,od,.func (W.fnOf x qual (defArgs st) (defBody st) (defScope st) .none kV doc pm an cdv ct),osl⟩)
  (c:W.codeIn K cdv qual=true)(k:W.keepIn K (.ref f)=true):Fun K x qual st f (W.fnOf x qual (defArgs st) (defBody st) (defScope st) .none kV doc pm an cdv ct):=⟨⟨oc,od,kV,doc,pm,an,cdv,ct,osl,rfl,l,c⟩,k⟩
end
section
variable {X:Cx}
end
def zaT (H H':Hp):Prop:=∀ b o,H b=some o->H' b=some o
theorem zaT.refl (H:Hp):zaT H H:=fun _ _ h=>h
theorem zaT.trans {H H1 H2:Hp}(a:zaT H H1)(b:zaT H1 H2):zaT H H2:=fun c o h=>b c o (a c o h)
theorem zaT.free {H H':Hp}(e:zaT H H'){l:Addr}(h:H' l=Option.none):H l=Option.none:=by
 cases q:H l with
 | none=>rfl
 | some o =>
  rw[e l o q] at h
  cases h
end L2
namespace DL
open PySem PySem.Spec PySem.Calls PySem.W PyProof.Rows Builtin Builtin.ObjectAttr Builtin.Getset_descriptor
section
variable {prog:Program}{w:World}{A:Around}{E:Value->Shared->Prop}{h:Heap}{g:Array GenState}{d:Drawn}{t:Nat}{os:OsState}{a C:Addr}{o:Obj}{K:Frag}
structure zpx (K:Frag) (C:Addr):Prop where
 cls:findIn K (.ref C) "__class__"=some (some (.builtin "object.__class__"))
 ga:findIn K (.ref C) "__getattribute__"=some (some (.builtin "BaseException.__getattribute__"))
 gt:findIn K (.ref C) "__getattr__"=some none
 ob:mroIn K C (.type "object")=some true
 be:subIn K (.ref C) (.type "BaseException")=some true
theorem zsO {R:Result->Shared->Prop}{tp:Value}(X:K.In h)(Z:zpx K C)(hx:h.get? a=some o)(hc:o.cls=.ref C)(hq:R (.ok (.ret (.ref C))) ⟨h,g,d,t,os⟩) :
  codeAny (model prog w) A (.call (.builtin "getset_descriptor.__get__") ⟨[.builtin "object.__class__",.ref a,tp],[]⟩) R ⟨h,g,d,t,os⟩:=by
 have L0:Looks (model prog w) h (typeOf (.ref a)) (.ref C):=hc▸(Looks.ld hx).andThen .now
 have L1:=looks_mroIn (M:=model prog w) X Z.ob
 refine codeAny_call_builtin KF.slot_gs.plain KF.entry_gs (KF.slot_gs.check _ _ _ _ _ _ _ _ KF.type_class (KF.args_gs _ _ _) ?_)
 unfold Builtin.«getset_descriptor.__get__» descrGet
 rw[dga_obj]
 refine wpAny_bind (wpAny_pure ?_)
 unfold descrGetter descrCheckInstance descrNameAndClass isInstance
 simp only[KF.owner_class]
 repeat lk
 refine⟨Code.quiet_builtin _ (by decide +kernel),codeAny_builtin KF.entry_class ?_⟩
 unfold Builtin.«object.__class__» shownTypeOf
 repeat lk
 exact hq
theorem zpB {M:Model}{nameV:Value}{Q:Unit->Shared->Prop}(X:K.In h)(Z:zpx K C)(hx:h.get? a=some o)(hc:o.cls=.ref C)(hq:Q () ⟨h,g,d,t,os⟩):wpAny M A (checkBuiltinCall "BaseException.__getattribute__" ⟨[.ref a,nameV],[]⟩) Q E ⟨h,g,d,t,os⟩:=by
 have hk:builtinKind "BaseException.__getattribute__"=some .slot:=by decide +kernel
 have hsplit:splitId "BaseException.__getattribute__"=some ("BaseException","__getattribute__"):=by decide +kernel
 have ha:=F.args_bexc_ga (.ref a) nameV
 have LS:Looks M h (isSubtype (.ref C) (.type "BaseException")) true:=looks_subIn X Z.be
 simp only[checkBuiltinCall,hk,hsplit]
 refine wpAny_bind ?_
 ·unfold isInstance
  repeat (first | (with_reducible refine wpAny_loadPart_at hx ?_;rw[hc]) | (with_reducible refine LS.at ?_) | wp_step)
  exact hq
theorem zpA {tk:Tok}{Q:Fin->Shared->Prop}(X:K.In h)(Z:zpx K C)(hx:h.get? a=some o)(hc:o.cls=.ref C)(hq:Q (.done (.ret (.ref C))) ⟨h,g,d,t,os⟩) :
  wpAny (model prog w) A (Builtin.«object.__getattribute__» ⟨[.ref a,.str "__class__" tk],[]⟩) Q E ⟨h,g,d,t,os⟩:=by
 have hT5:(⟨h,g,d,t,os⟩:Shared).TypeIs (.builtin "object.__class__") "getset_descriptor":=F.typeOf_object_class
 have f5:=F.typeOf_object_class
 have f6:=F.slot_gs_get.lookup
 have f7:=F.slot_gs_set.lookup
 have LC:Looks (model prog w) h (typeLookup (.ref C) "__class__") (some (.builtin "object.__class__")):=looks_findIn X Z.cls
 repeat (any_goals (first | assumption | (with_reducible refine wpAny_loadPart_at hx ?_;rw[hc]) | (with_reducible refine LC.at ?_) | wp_step))
 refine zsO X Z hx hc ?_
 repeat (any_goals (first | assumption | wp_step))
theorem zrw {tk:Tok}{R:Result->Shared->Prop}(X:K.In h)(Z:zpx K C)(hx:h.get? a=some o)(hc:o.cls=.ref C)(hq:R (.ok (.ret (.ref C))) ⟨h,g,d,t,os⟩) :
  codeAny (model prog w) A (.call (.builtin "BaseException.__getattribute__") ⟨[.ref a,.str "__class__" tk],[]⟩) R ⟨h,g,d,t,os⟩ :=
 codeAny_call_builtin F.attr_ValueError.ga.plain F.entry_bexc_ga (zpB X Z hx hc (zpA X Z hx hc hq))
theorem zuE {tk:Tok}{Q:Value->Shared->Prop}(X:K.In h)(Z:zpx K C)(hx:h.get? a=some o)(hc:o.cls=.ref C)(hq:Q (.ref C) ⟨h,g,d,t,os⟩) :
  wpAny (model prog w) A (getAttrBy (.ref a) (.str "__class__" tk) false) Q E ⟨h,g,d,t,os⟩:=by
 have f3:=F.attr_ValueError.ga.bind (.ref a)
 have hx2:(Value.builtin "BaseException.__getattribute__"==Value.builtin "object.__getattribute__")=false:=by decide +kernel
 have hx1:(onTheHeap (Value.ref C)&&Value.builtin "BaseException.__getattribute__"==Value.builtin "object.__getattribute__")=false:=by rw[hx2];rfl
 have L1:Looks (model prog w) h (typeLookup (.ref C) "__getattribute__") (some (.builtin "BaseException.__getattribute__")):=looks_findIn X Z.ga
 have L2:Looks (model prog w) h (typeLookup (.ref C) "__getattr__") none:=looks_findIn X Z.gt
 repeat (any_goals (first | assumption | (with_reducible refine wpAny_loadPart_at hx ?_;rw[hc]) | (with_reducible refine L1.at ?_) | (with_reducible refine L2.at ?_) | wp_step))
 refine zrw X Z hx hc ?_
 repeat (any_goals (first | assumption | wp_step))
theorem zrx {Q:Option Value->Shared->Prop}(X:K.In h)(Z:zpx K C)(hx:h.get? a=some o)(hc:o.cls=.ref C)(hq:Q (some (.ref C)) ⟨h,g,d,t+1,os⟩):wpAny (model prog w) A (getAttr? (.ref a) "__class__") Q E ⟨h,g,d,t,os⟩:=by
 unfold getAttr? getAttrBy?
 repeat (any_goals (first | assumption | with_reducible apply zuE X Z hx hc | wp_step))
end
def zpt (a C:Addr):Heap->Prop:=fun h=>∃ o vs,h.get? a=some o/\o.cls=.ref C/\o.data=.fields vs
theorem zmK {K:Frag}{a C:Addr}(Z:zpx K C)(hC:(clsIn K C).isSome=true):KitX K (.ref a) (.ref C) (zpt a C) where
 ty:=fun _ _ _ ⟨o,_,h1,h2,_⟩=>h2▸(Looks.ld h1).andThen .now
 it:=fun _ _ X _=>by
  obtain⟨cd,hcD⟩:=Option.isSome_iff_exists.mp hC
  unfold clsIn at hcD
  split at hcD
  ·rename_i c' d' cd' sl' ho
   intro A' Q' E' s' k q
   unfold isType loadHead
   exact wpAny_bind (wpAny_loadPart (k _ _ (X _ _ ho)) (wpAny_pure q))
  ·cases hcD
 ne:=fun h tp dd its n sl X htp=>by
  obtain⟨cd,hcD⟩:=Option.isSome_iff_exists.mp hC
  refine Bool.eq_false_iff.mpr fun q=>?_
  have e:C=tp:=Value.ref.inj (beq_iff_eq.mp q)
  subst e
  unfold clsIn at hcD
  split at hcD
  ·rename_i c' d' cd' sl' ho
   have z:=(X _ _ ho).symm.trans htp
   cases z
  ·cases hcD
 ca:=fun {_ _ _ _ _ s} X ⟨o,_,h1,h2,_⟩ k=>by
  obtain⟨h,g,d,t,os⟩:=s
  exact zrx X Z h1 h2 k
theorem zpx.isCls {K:Frag}{C:Addr}(Z:zpx K C):(clsIn K C).isSome=true:=by
 obtain⟨cd,a,b⟩:=Option.bind_eq_some_iff.mp Z.ob
 rw[a];rfl
def zfP:List String:=["NoneType","bool","int","str","tuple","list","dict"]
structure XC (K:Frag) (x:Str) (C:Addr):Prop where
 ns:nsIn K mainGlobals x=some (some (.ref C))
 ek:zpx K C
 bt:∀ T∈zfP,kitOne K (.ref C) (.type T)=some false
end DL
namespace L2
open PySem PySem.Spec PyProof.Rows
section
variable {κ:Type}[DecidableEq κ]
def zu8 (kvs:List (κ×V))(k:κ)(v:V):List (κ×V) :=
 if(kvs.any fun kv=>decide (kv.1=k))=true then kvs.map (fun kv=>if kv.1=k then(kv.1,v) else kv) else kvs++[(k,v)]
end
section
variable {P:Program}{w:World}{H:Hp}{h:Heap}{a:Addr}
end
section
variable {X:Cx}{pins:List (Addr×Obj)}{σ:St}{H:Hp}{s:Shared}{a:Addr}{y v:V}{u r:Value}{o:Option V}{A:Around}{E:Value->Shared->Prop}
theorem Inv.big (I:Inv X pins σ H s):sysModules < s.heap.objs.size:=by
 have h:mainGlobals < s.heap.objs.size:=(I.mod.glob.keeps I.bk).lt
 exact Nat.lt_trans (by decide) h
end
section
variable {X:Cx}{pins:List (Addr×Obj)}{σ:St}{H:Hp}{s:Shared}{a:Addr}{kvs:List (Key×V)}{k:Key}{u:Value}{A:Around}{E:Value->Shared->Prop}
end
section
variable {X:Cx}{o i e value:Expr}{pos pos' tpos:Pos}{td ty tv:TE}
end
theorem zqx {P:Program}{w:World}{H:Hp}(h:Heap)(hb:sysModules < h.objs.size):zcj P w H (h.push { cls:=.type "dict",data:=.dict #[] }) h.objs.size (.dK []) :=
 ⟨Nat.zero_le _,beq_eq_false_iff_ne.mpr (Ne.symm (Nat.ne_of_lt hb)),[],.nil,Heap.DictOf.new h⟩
def zs4:TE:=fun _ H Q=>∀ p,H p=none->Q (.ref p) (upd H p (.dK []))
section
variable {X:Cx}{pos:Pos}
theorem zp2:PE X (.Dict [] [] pos) zs4:=fun pins s σ H Q I h =>
 wpAny_Dict_empty ⟨.ref s.heap.objs.size,_,I.laid (a:=s.heap.objs.size) (o:=.dK []) (t':=s.toks) (fun _ _ q=>Heap.get?_push_of_some _ q) (Nat.le_refl _) (zqx s.heap I.big),rfl,h _ (I.hok.fresh (Nat.le_refl _))⟩
end
section
variable {X:Cx}{pins:List (Addr×Obj)}{σ:St}{H:Hp}{s:Shared}{a:Addr}{y d:V}{u r:Value}{o:Option V}{A:Around}{E:Value->Shared->Prop}
end
section
variable {X:Cx}{o e f:Expr}{apos cpos:Pos}{td ty tx:TE}
end
section
variable {X:Cx}{pins:List (Addr×Obj)}{σ:St}{H:Hp}{s:Shared}{a:Addr}{kvs:List (Key×V)}{A:Around}{E:Value->Shared->Prop}
end
section
variable {X:Cx}{pins:List (Addr×Obj)}{σ:St}{H:Hp}{s:Shared}{a:Addr}{y:V}{u:Value}{A:Around}{E:Value->Shared->Prop}
end
end L2
namespace DL
open PySem PySem.Spec PyProof.Rows L2
def nst:Expr->Bool
 | .Starred _ _=>false
 | _=>true
theorem zaO {e:Expr}{es:List Expr}{env:PySem.Env}(h:nst e=true):starEach (e::es) env=(false,eval e env)::starEach es env:=by
 cases e<;>first | (rw[starEach];intros;contradiction) | rw[starEach] | (cases h)
theorem zf3 {e:Expr}{env:PySem.Env}(h:nst e=true):starEach [e] env=[(false,eval e env)]:=by
 rw[zaO h,starEach]
theorem zbK {env:PySem.Env}{pos:Pos}:∀ {es:List Expr},es.all nst=true->(backTo pos (starEach es env)).any (·.1)=false
 | [],_=>by rw[starEach];rfl
 | e::es,h=>by
  rw[List.all_cons,Bool.and_eq_true] at h
  rw[zaO h.1]
  have:=zbK (env:=env) (pos:=pos) h.2
  show(false||(backTo pos (starEach es env)).any (·.1))=false
  rw[this];rfl
theorem zik {e:Expr}{env:PySem.Env}{pos:Pos}(h:nst e=true):((backTo pos (starEach [e] env)).all (fun x=>!x.1)&&(backToKw pos (keywordEach [] env)).all (fun x=>x.1.isSome)
  &&decide ([e].length+([]:List Keyword).length+(if([]:List Keyword).isEmpty then 0 else 1) < 30))=true:=by
 rw[zf3 h,keywordEach];rfl
inductive Kd where
 | ins (c:Str) (ks:List Str) | dint (ks:List Int)
inductive D where
 | non | bl (b:Bool) | int (i:Int) | str (x:Str) | tup (xs:List D) | lst (xs:List D) | dic (ks:List Str) (xs:List D) | exc (x:Str) | ob (k:Kd) (xs:List D)
structure zwI (K:W.Frag) (ks:List Str) (C:Addr):Prop where
 cls:Cls K C
 no:∀ f∈ks,zjQ K C f
 gc:W.findIn K (.ref C) "__class__"=some (some (.builtin "object.__class__"))
 gn:W.specialIn K (.builtin "object.__class__") "__get__"=some (some (.builtin "getset_descriptor.__get__"))
 tk:W.takesIn K (.builtin "object.__class__")=some true
 mo:W.mroIn K C (.type "object")=some true
 bt:∀ T∈zfP,W.kitOne K (.ref C) (.type T)=some false
def zup (K:W.Frag)(H:Hp):Kd->Addr->List V->Prop
 | .ins c ks,a,vs=>∃ C dx,W.nsIn K mainGlobals c=some (some (.ref C))/\zwI K ks C/\H a=some (.ins C dx (ks.zip vs))/\ks.length=vs.length
 | .dint ks,a,vs=>∃ kvs,Rd H a (.dK kvs)/\kvs=(ks.map Sum.inl).zip vs/\ks.length=vs.length
structure Exn where
 cls:Str
 flds:List (Str×D)
inductive Res (α:Type) where
 | ok (a:α) | exn (x:Exn) | stuck
def Res.bind {α β:Type}(r:Res α)(f:α->Res β):Res β:=match r with
 | .ok a=>f a
 | .exn x=>.exn x
 | .stuck=>.stuck
mutual
def Rep (K:W.Frag)(H:Hp):D->V->Prop
 | .non,v=>v=.non
 | .bl b,v=>v=.bl b
 | .int i,v=>v=.int i
 | .str x,v=>v=.str x
 | .tup ds,v=>∃ a vs,v=.ref a/\SqT K H a vs/\Reps K H ds vs
 | .lst ds,v=>∃ a vs,v=.ref a/\SqL K H a vs/\Reps K H ds vs
 | .dic ks ds,v=>∃ a kvs vs,v=.ref a/\Rd H a (.dK kvs)/\kvs=(ks.map Sum.inr).zip vs/\ks.length=vs.length/\Reps K H ds vs
 | .exc x,v=>∃ a C,v=.ref a/\XC K x C/\Rd H a (.ext (zpt a C))
 | .ob k ds,v=>∃ a vs,v=.ref a/\zup K H k a vs/\Reps K H ds vs
def Reps (K:W.Frag)(H:Hp):List D->List V->Prop
 | [],vs=>vs=[]
 | d::ds,vs=>∃ v r,vs=v::r/\Rep K H d v/\Reps K H ds r
end
theorem zaT.rd {H H':Hp}(e:zaT H H'){a:Addr}{o:HO}(h:Rd H a o):Rd H' a o:=by
 rcases h with h | ⟨o',h⟩
 ·exact .inl (e _ _ h)
 ·exact .inr ⟨o',e _ _ h⟩
theorem zaT.sqT {K:W.Frag}{H H':Hp}(e:zaT H H'){a:Addr}{xs:List V}(h:SqT K H a xs):SqT K H' a xs:=by
 rcases h with h | h
 ·exact .inl (zaT.rd e h)
 ·exact .inr h
theorem zaT.sqL {K:W.Frag}{H H':Hp}(e:zaT H H'){a:Addr}{xs:List V}(h:SqL K H a xs):SqL K H' a xs:=by
 rcases h with h | h
 ·exact .inl (zaT.rd e h)
 ·exact .inr h
theorem zup.mono {K:W.Frag}{H H':Hp}(e:zaT H H'):∀ {k:Kd}{a:Addr}{vs:List V},zup K H k a vs->zup K H' k a vs
 | .ins c ks,a,vs,⟨C,dx,h0,h1,h2,h3⟩=>⟨C,dx,h0,h1,e _ _ h2,h3⟩
 | .dint ks,a,vs,⟨kvs,h1,h2,h3⟩=>⟨kvs,zaT.rd e h1,h2,h3⟩
mutual
theorem Rep.mono {K:W.Frag}{H H':Hp}(e:zaT H H'):∀ {d:D}{v:V},Rep K H d v->Rep K H' d v
 | .non,_,h=>by unfold Rep at h ⊢;exact h
 | .bl _,_,h=>by unfold Rep at h ⊢;exact h
 | .int _,_,h=>by unfold Rep at h ⊢;exact h
 | .str _,_,h=>by unfold Rep at h ⊢;exact h
 | .tup ds,_,h=>by
  unfold Rep at h ⊢
  obtain⟨a,vs,e1,e2,e3⟩:=h
  exact⟨a,vs,e1,zaT.sqT e e2,Reps.mono e e3⟩
 | .lst ds,_,h=>by
  unfold Rep at h ⊢
  obtain⟨a,vs,e1,e2,e3⟩:=h
  exact⟨a,vs,e1,zaT.sqL e e2,Reps.mono e e3⟩
 | .dic ks ds,_,h=>by
  unfold Rep at h ⊢
  obtain⟨a,kvs,vs,e1,e2,e3,e4,e5⟩:=h
  exact⟨a,kvs,vs,e1,zaT.rd e e2,e3,e4,Reps.mono e e5⟩
 | .exc x,_,h=>by
  unfold Rep at h ⊢
  obtain⟨a,C,e1,e2,e3⟩:=h
  exact⟨a,C,e1,e2,zaT.rd e e3⟩
 | .ob k ds,_,h=>by
  unfold Rep at h ⊢
  obtain⟨a,vs,e1,e2,e3⟩:=h
  exact⟨a,vs,e1,e2.mono e,Reps.mono e e3⟩
theorem Reps.mono {K:W.Frag}{H H':Hp}(e:zaT H H'):∀ {ds:List D}{vs:List V},Reps K H ds vs->Reps K H' ds vs
 | [],_,h=>by unfold Reps at h ⊢;exact h
 | d::ds,_,h=>by
  unfold Reps at h ⊢
  obtain⟨v,r,e1,e2,e3⟩:=h
  exact⟨v,r,e1,Rep.mono e e2,Reps.mono e e3⟩
end
section
variable {K:W.Frag}{H:Hp}{v:V}{vs:List V}{d:D}{ds:List D}
theorem Rep.non_iff:Rep K H .non v↔v=.non:=by unfold Rep;exact Iff.rfl
theorem Rep.bl_iff {b}:Rep K H (.bl b) v↔v=.bl b:=by unfold Rep;exact Iff.rfl
theorem Rep.int_iff {i}:Rep K H (.int i) v↔v=.int i:=by unfold Rep;exact Iff.rfl
theorem Rep.str_iff {x}:Rep K H (.str x) v↔v=.str x:=by unfold Rep;exact Iff.rfl
theorem Rep.tup_iff:Rep K H (.tup ds) v↔∃ a vs,v=.ref a/\SqT K H a vs/\Reps K H ds vs:=by rw[Rep]
theorem Rep.lst_iff:Rep K H (.lst ds) v↔∃ a vs,v=.ref a/\SqL K H a vs/\Reps K H ds vs:=by rw[Rep]
theorem Rep.exc_iff {x}:Rep K H (.exc x) v↔∃ a C,v=.ref a/\XC K x C/\Rd H a (.ext (zpt a C)):=by rw[Rep]
theorem Rep.ob_iff {k}:Rep K H (.ob k ds) v↔∃ a vs,v=.ref a/\zup K H k a vs/\Reps K H ds vs:=by rw[Rep]
theorem Reps.nil_iff:Reps K H [] vs↔vs=[]:=by unfold Reps;exact Iff.rfl
theorem Reps.cons_iff:Reps K H (d::ds) vs↔∃ v r,vs=v::r/\Rep K H d v/\Reps K H ds r:=by rw[Reps]
theorem Reps.nil:Reps K H [] []:=Reps.nil_iff.mpr rfl
theorem Reps.cons (h:Rep K H d v)(h':Reps K H ds vs):Reps K H (d::ds) (v::vs):=Reps.cons_iff.mpr ⟨_,_,rfl,h,h'⟩
end
theorem Reps.length {K:W.Frag}{H:Hp}:∀ {ds:List D}{vs:List V},Reps K H ds vs->ds.length=vs.length
 | [],_,h=>by rw[Reps.nil_iff.mp h];rfl
 | d::ds,_,h=>by
  obtain⟨v,r,rfl,_,h⟩:=Reps.cons_iff.mp h
  simp [Reps.length h]
theorem Reps.get {K:W.Frag}{H:Hp}:∀ {ds:List D}{vs:List V}{i:Nat}{d:D},Reps K H ds vs->ds[i]?=some d->∃ v,vs[i]?=some v/\Rep K H d v
 | [],_,_,_,h,e=>by simp at e
 | x::ds,_,0,d,h,e=>by
  obtain⟨v,r,rfl,h1,_⟩:=Reps.cons_iff.mp h
  simp at e;subst e;exact⟨v,rfl,h1⟩
 | x::ds,_,i+1,d,h,e=>by
  obtain⟨v,r,rfl,_,h2⟩:=Reps.cons_iff.mp h
  obtain⟨u,e1,e2⟩:=Reps.get (i:=i) h2 (by simpa using e)
  exact⟨u,by simpa using e1,e2⟩
theorem Reps.app {K:W.Frag}{H:Hp}:∀ {ds es:List D}{vs us:List V},Reps K H ds vs->Reps K H es us->Reps K H (ds++es) (vs++us)
 | [],_,_,_,h,h'=>by rw[Reps.nil_iff.mp h];exact h'
 | d::ds,_,_,_,h,h'=>by
  obtain⟨v,r,rfl,h1,h2⟩:=Reps.cons_iff.mp h
  exact Reps.cons h1 (Reps.app h2 h')
theorem Reps.take {K:W.Frag}{H:Hp}:∀ {ds:List D}{vs:List V}(n:Nat),Reps K H ds vs->Reps K H (ds.take n) (vs.take n)
 | _,_,0,_=>by simp;exact Reps.nil
 | [],_,n+1,h=>by rw[Reps.nil_iff.mp h];exact Reps.nil
 | d::ds,_,n+1,h=>by
  obtain⟨v,r,rfl,h1,h2⟩:=Reps.cons_iff.mp h
  exact Reps.cons h1 (Reps.take n h2)
theorem Reps.drop {K:W.Frag}{H:Hp}:∀ {ds:List D}{vs:List V}(n:Nat),Reps K H ds vs->Reps K H (ds.drop n) (vs.drop n)
 | _,_,0,h=>by simpa using h
 | [],_,n+1,h=>by rw[Reps.nil_iff.mp h];exact Reps.nil
 | d::ds,_,n+1,h=>by
  obtain⟨v,r,rfl,h1,h2⟩:=Reps.cons_iff.mp h
  exact Reps.drop n h2
theorem Reps.ints {K:W.Frag}{H:Hp}:∀ (ns:List Int),Reps K H (ns.map D.int) (ns.map V.int)
 | []=>Reps.nil
 | n::r=>Reps.cons (Rep.int_iff.mpr rfl) (Reps.ints r)
structure zbp (H H₀ H' H₀':Hp):Prop where
 s:zaT H H'
 z:zaT H₀ H₀'
 sub:zaT H₀' H'
 nw:∀ a,H₀' a≠none->H₀ a=none->H a=none
theorem zbp.refl {H H₀:Hp}(h:zaT H₀ H):zbp H H₀ H H₀:=⟨zaT.refl _,zaT.refl _,h,fun a h1 h2=>absurd h2 h1⟩
theorem zbp.trans {H H₀ H1 H01 H2 H02:Hp}(a:zbp H H₀ H1 H01)(b:zbp H1 H01 H2 H02):zbp H H₀ H2 H02 :=
 ⟨a.s.trans b.s,a.z.trans b.z,b.sub,fun x h1 h2=>by
  cases q:H01 x with
  | none=>exact a.s.free (b.nw x h1 q)
  | some o=>exact a.nw x (by rw[q];simp) h2⟩
theorem zbp.alloc {H H₀:Hp}{p:Addr}{o:HO}(hs:zaT H₀ H)(hp:H p=none):zbp H H₀ (upd H p o) (upd H₀ p o) :=
 ⟨same_new hp o,same_new (hs.free hp) o,fun b u e=>by
  by_cases hb:b=p
  ·subst hb;rw[zas] at e ⊢;exact e
  ·rw[zat hb] at e ⊢;exact hs _ _ e,fun a h1 h2=>by
  by_cases hb:a=p
  ·subst hb;exact hp
  ·rw[zat hb] at h1;exact absurd h2 h1⟩
where
 same_new {H:Hp}{p:Addr}(h:H p=none) (o:HO):zaT H (upd H p o):=fun b u q=>by rw[zat (zaN q h)];exact q
inductive Sl where
 | no | sh (d:D) | ow (d:D) | ox (j:Nat) (ds:List D)
abbrev Ev:=List Sl
def zfV (K:W.Frag)(H₀:Hp)(σ:L2.St)(ρ:Ev):Prop:=∀ (i:Nat) (d:D),ρ[i]?=some (.sh d)->∃ v,σ[i]?=some (some v)/\Rep K H₀ d v
theorem zfV.mono {K:W.Frag}{H H':Hp}{σ:L2.St}{ρ:Ev}(e:zaT H H')(r:zfV K H σ ρ):zfV K H' σ ρ:=fun i d h =>
 let ⟨v,h1,h2⟩:=r i d h
 ⟨v,h1,h2.mono e⟩
def ExR (K:W.Frag)(H:Hp)(x:Exn)(C:Value)(ox:Option Addr):Prop :=
 (∃ c,C=.ref c/\XC K x.cls c)/\match ox with
  | none=>x.flds=[]
  | some a=>∃ fs,H a=some (.xd fs)/\∀ n d,x.flds.lookup n=some d->∃ v,fs.lookup n=some v/\Rep K H d v
def post (K:W.Frag)(E:XK)(H H₀:Hp)(r:Res D)(Q:VK):Prop:=match r with
 | .ok d=>∀ v H' H₀',zbp H H₀ H' H₀'->Rep K H₀' d v->Q v H'
 | .exn x=>∀ C ox H' H₀',zbp H H₀ H' H₀'->ExR K H₀' x C ox->E C ox H'
 | .stuck=>False
def zlT (K:W.Frag)(E:XK)(H H₀:Hp)(r:Res (List D))(Q:List V->Hp->Prop):Prop:=match r with
 | .ok ds=>∀ vs H' H₀',zbp H H₀ H' H₀'->Reps K H₀' ds vs->Q vs H'
 | .exn x=>∀ C ox H' H₀',zbp H H₀ H' H₀'->ExR K H₀' x C ox->E C ox H'
 | .stuck=>False
def zlU (K:W.Frag)(E:XK)(H H₀:Hp)(r:Res D)(Q:Bool->Hp->Prop):Prop:=match r with
 | .ok (.bl b)=>∀ H' H₀',zbp H H₀ H' H₀'->Q b H'
 | .ok _=>False
 | .exn x=>∀ C ox H' H₀',zbp H H₀ H' H₀'->ExR K H₀' x C ox->E C ox H'
 | .stuck=>False
section
variable {K:W.Frag}{E:XK}{H H₀ H1 H01:Hp}
theorem post.grow {r:Res D}{Q:VK}(h:post K E H H₀ r Q)(g:zbp H H₀ H1 H01):post K E H1 H01 r Q:=by
 cases r with
 | ok d=>exact fun v H' H₀' g'=>h v H' H₀' (g.trans g')
 | exn x=>exact fun C ox H' H₀' g'=>h C ox H' H₀' (g.trans g')
 | stuck=>exact h
theorem zlT.grow {r:Res (List D)}{Q:List V->Hp->Prop}(h:zlT K E H H₀ r Q)(g:zbp H H₀ H1 H01):zlT K E H1 H01 r Q:=by
 cases r with
 | ok d=>exact fun v H' H₀' g'=>h v H' H₀' (g.trans g')
 | exn x=>exact fun C ox H' H₀' g'=>h C ox H' H₀' (g.trans g')
 | stuck=>exact h
theorem zlU.grow {r:Res D}{Q:Bool->Hp->Prop}(h:zlU K E H H₀ r Q)(g:zbp H H₀ H1 H01):zlU K E H1 H01 r Q:=by
 cases r with
 | ok d =>
  cases d with
  | bl b=>exact fun H' H₀' g'=>h H' H₀' (g.trans g')
  | _=>exact h
 | exn x=>exact fun C ox H' H₀' g'=>h C ox H' H₀' (g.trans g')
 | stuck=>exact h
end
def tD (K:W.Frag)(E:XK)(f:Ev->Res D):TE:=fun σ H Q=>∃ H₀ ρ,zaT H₀ H/\zfV K H₀ σ ρ/\post K E H H₀ (f ρ) Q
def tDA (K:W.Frag)(E:XK)(f:Ev->Res (List D)):TA:=fun σ H Q=>∃ H₀ ρ,zaT H₀ H/\zfV K H₀ σ ρ/\zlT K E H H₀ (f ρ) Q
def tDT (K:W.Frag)(E:XK)(f:Ev->Res D):TT:=fun σ H Q=>∃ H₀ ρ,zaT H₀ H/\zfV K H₀ σ ρ/\zlU K E H H₀ (f ρ) Q
structure DE (X:Cx) (E:XK) (e:Expr) (f:Ev->Res D):Prop where
 o:PE X e (tD X.K E f)
structure DA (X:Cx) (E:XK) (es:List Expr) (f:Ev->Res (List D)):Prop where
 o:PA X es (tDA X.K E f)
structure DT (X:Cx) (E:XK) (e:Expr) (f:Ev->Res D):Prop where
 o:PT X e (tDT X.K E f)
structure DW (X:Cx) (E:XK) (e:Expr) (f:Ev->Res D):Prop where
 o:PW X e (tDT X.K E f)
section
variable {X:Cx}{E:XK}{e a b:Expr}{es:List Expr}{f g:Ev->Res D}{fa:Ev->Res (List D)}{pos:Pos}
theorem zaX {t t':TE}(h:PE X e t)(w:∀ σ H Q,t' σ H Q->t σ H Q):PE X e t':=fun pins s σ H Q I q=>h pins s σ H Q I (w σ H Q q)
theorem zoq {t t':TA}(h:PA X es t)(w:∀ σ H Q,t' σ H Q->t σ H Q):PA X es t':=fun pos pins s σ H Q I q=>h pos pins s σ H Q I (w σ H Q q)
theorem zj7 {t t':TT}(h:PT X e t)(w:∀ σ H Q,t' σ H Q->t σ H Q):PT X e t':=fun pins s σ H Q I q=>h pins s σ H Q I (w σ H Q q)
theorem zoc {t t':TT}(h:PW X e t)(w:∀ σ H Q,t' σ H Q->t σ H Q):PW X e t':=fun wh pins s σ H Q I q=>h wh pins s σ H Q I (w σ H Q q)
def zaf (i:Nat):Ev->Res D:=fun ρ=>match ρ[i]? with
 | some (.sh d)=>.ok d
 | _=>.stuck
def dC (d:D):Ev->Res D:=fun _=>.ok d
theorem zuc {i:Nat}{x:Str}(hN:X.N[i]?=some x)(hv:Vis X.env.scope x)(hd:(x==("__debug__" : Str))=false:=by decide)(hcd:(x==("__classdict__" : Str))=false:=by decide):DE X E (.Name x pos) (zaf i):=by
 refine⟨?_⟩
 refine zaX (ziL hN hv hd hcd) fun σ H Q ⟨H₀,ρ,hs,hr,q⟩=>?_
 unfold zaf at q
 cases e:ρ[i]? with
 | none=>rw[e] at q;exact q.elim
 | some s =>
  rw[e] at q
  cases s with
  | sh d =>
   obtain⟨v,e1,e2⟩:=hr i d e
   exact⟨v,e1,q v H H₀ (zbp.refl hs) e2⟩
  | no=>exact q.elim
  | ow d=>exact q.elim
  | ox j ds=>exact q.elim
theorem zae {i j}:DE X E (.Constant (.int i) j pos) (dC (.int i)):=⟨zaX zq9 fun σ H Q ⟨H₀,ρ,hs,hr,q⟩=>q _ H H₀ (zbp.refl hs) (Rep.int_iff.mpr rfl)⟩
theorem zdo {i j}:DE X E (.Constant (.bool i) j pos) (dC (.bl i)):=⟨zaX zvg fun σ H Q ⟨H₀,ρ,hs,hr,q⟩=>q _ H H₀ (zbp.refl hs) (Rep.bl_iff.mpr rfl)⟩
theorem zdL {j}:DE X E (.Constant .none j pos) (dC .non):=⟨zaX ztE fun σ H Q ⟨H₀,ρ,hs,hr,q⟩=>q _ H H₀ (zbp.refl hs) (Rep.non_iff.mpr rfl)⟩
theorem zbo {x j}:DE X E (.Constant (.str x) j pos) (dC (.str x)):=⟨zaX ztz fun σ H Q ⟨H₀,ρ,hs,hr,q⟩=>q _ H H₀ (zbp.refl hs) (Rep.str_iff.mpr rfl)⟩
theorem zsv {x:Str}{v:V}{u:Value}{d:D}(hg:Gl X x)(hm:X.mg x=some u)(r:zcz v u)(hr:∀ H,Rep X.K H d v)(hd:(x==("__debug__" : Str))=false:=by decide):DE X E (.Name x pos) (dC d) :=
 ⟨zaX (zon hg hm r hd) fun σ H Q ⟨H₀,ρ,hs,hr',q⟩=>q _ H H₀ (zbp.refl hs) (hr H₀)⟩
def zab (f g:Ev->Res D)(op:D->D->Res D):Ev->Res D:=fun ρ=>(f ρ).bind fun x=>(g ρ).bind fun y=>op x y
def zbi (f:Ev->Res D)(op:D->Res D):Ev->Res D:=fun ρ=>(f ρ).bind op
def OpD (K:W.Frag)(E:XK)(r:R2)(op:D->D->Res D):Prop:=∀ (x y:D) (v u:V) (H H₀:Hp) (Q:VK),zaT H₀ H->Rep K H₀ x v->Rep K H₀ y u->post K E H H₀ (op x y) Q->r v u H Q
theorem zgW {r:R2}{op:D->D->Res D}(ho:OpD X.K E r op)(σ:L2.St)(H:Hp)(Q:VK)(h:tD X.K E (zab f g op) σ H Q):tOp r (tD X.K E f) (tD X.K E g) σ H Q:=by
 obtain⟨H₀,ρ,hs,hr,q⟩:=h
 refine⟨H₀,ρ,hs,hr,?_⟩
 unfold zab at q
 cases e1:f ρ with
 | stuck=>rw[e1] at q;exact q
 | exn x=>rw[e1] at q;exact q
 | ok x =>
  rw[e1] at q
  intro v H1 H01 g1 r1
  refine⟨H01,ρ,g1.sub,hr.mono g1.z,?_⟩
  replace q:post X.K E H H₀ ((g ρ).bind fun y=>op x y) Q:=q
  replace q:=q.grow g1
  cases e2:g ρ with
  | stuck=>rw[e2] at q;exact q
  | exn x=>rw[e2] at q;exact q
  | ok y =>
   rw[e2] at q
   intro u H2 H02 g2 r2
   exact ho x y v u H2 H02 Q g2.sub (r1.mono g2.z) r2 (post.grow (r:=op x y) q g2)
theorem znD {op:Operator}{r:R2}{o:D->D->Res D}(h:OpR X (binaryOp op) r)(ho:OpD X.K E r o)(ha:DE X E a f)(hb:DE X E b g):DE X E (.BinOp a op b pos) (zab f g o) :=
 ⟨zaX (ztB h ha.o hb.o) (zgW ho)⟩
theorem zgt {op:CmpOp}{r:R2}{o:D->D->Res D}(h:OpR X (compareOp op) r)(ho:OpD X.K E r o)(ha:DE X E a f)(hb:DE X E b g)(hm:behindInMarks op b=false):DE X E (.Compare a [op] [b] pos) (zab f g o) :=
 ⟨zaX (zrW h ha.o hb.o hm) (zgW ho)⟩
theorem zvB {r:R2}{o:D->D->Res D}(h:IxR X r)(ho:OpD X.K E r o)(ha:DE X E a f)(hb:DE X E b g)(hs:zmp b):DE X E (.Subscript a b pos) (zab f g o) :=
 ⟨zaX (zvf h ha.o hb.o hs) (zgW ho)⟩
def UnD (K:W.Frag)(E:XK)(r:V->Hp->VK->Prop)(op:D->Res D):Prop:=∀ (x:D) (v:V) (H H₀:Hp) (Q:VK),zaT H₀ H->Rep K H₀ x v->post K E H H₀ (op x) Q->r v H Q
theorem zvz {op:UnaryOp}{r:V->Hp->VK->Prop}{o:D->Res D}(h:UnR X (unaryOp op) r)(ho:UnD X.K E r o)(ha:DE X E a f):DE X E (.UnaryOp op a pos) (zbi f o):=by
 refine⟨?_⟩
 refine zaX (ztx h ha.o) fun σ H Q ⟨H₀,ρ,hs,hr,q⟩=>⟨H₀,ρ,hs,hr,?_⟩
 unfold zbi at q
 cases e1:f ρ with
 | stuck=>rw[e1] at q;exact q
 | exn x=>rw[e1] at q;exact q
 | ok x =>
  rw[e1] at q
  intro v H1 H01 g1 r1
  exact ho x v H1 H01 Q g1.sub r1 (post.grow (r:=o x) q g1)
def zar:Ev->Res (List D):=fun _=>.ok []
def zad (f:Ev->Res D)(fa:Ev->Res (List D)):Ev->Res (List D):=fun ρ=>(f ρ).bind fun x=>(fa ρ).bind fun xs=>.ok (x::xs)
theorem zai:DA X E [] zar:=⟨zoq zgn fun σ H Q ⟨H₀,ρ,hs,hr,q⟩=>q [] H H₀ (zbp.refl hs) Reps.nil⟩
theorem zaa (ha:DE X E e f)(hr:DA X E es fa)(hs:starEach (e::es) X.env=(false,eval e X.env)::starEach es X.env:=by exact zaO rfl):DA X E (e::es) (zad f fa):=by
 refine⟨?_⟩
 refine zoq (zc7 ha.o hr.o hs) fun σ H Q ⟨H₀,ρ,hs,hr,q⟩=>⟨H₀,ρ,hs,hr,?_⟩
 unfold zad at q
 cases e1:f ρ with
 | stuck=>rw[e1] at q;exact q
 | exn x=>rw[e1] at q;exact q
 | ok x =>
  rw[e1] at q
  intro v H1 H01 g1 r1
  refine⟨H01,ρ,g1.sub,hr.mono g1.z,?_⟩
  replace q:zlT X.K E H H₀ ((fa ρ).bind fun xs=>.ok (x::xs)) Q:=q
  replace q:=q.grow g1
  cases e2:fa ρ with
  | stuck=>rw[e2] at q;exact q
  | exn x=>rw[e2] at q;exact q
  | ok xs =>
   rw[e2] at q
   intro us H2 H02 g2 r2
   exact q (v::us) H2 H02 g2 (Reps.cons (r1.mono g2.z) r2)
def line:Nat:=1000000
theorem zc9 {n:Nat}(h:n<=line):n<=sizeLine:=Nat.le_trans h (by decide)
def zal (fa:Ev->Res (List D))(m:List D->Res D):Ev->Res D:=fun ρ=>(fa ρ).bind m
def zjC:List D->Res D:=fun ds=>if ds.length<=line then .ok (.tup ds) else .stuck
def zdm:List D->Res D:=fun ds=>if ds.length<=line then .ok (.lst ds) else .stuck
theorem zhh {m:List D->Res D}{r:List V->Hp->VK->Prop}(ho:∀ (ds:List D) (vs:List V) (H H₀:Hp) (Q:VK),zaT H₀ H->Reps X.K H₀ ds vs->post X.K E H H₀ (m ds) Q->r vs H Q)
  (σ:L2.St)(H:Hp)(Q:VK)(h:tD X.K E (zal fa m) σ H Q):tDA X.K E fa σ H fun vs H1=>r vs H1 Q:=by
 obtain⟨H₀,ρ,hs,hr,q⟩:=h
 refine⟨H₀,ρ,hs,hr,?_⟩
 unfold zal at q
 cases e1:fa ρ with
 | stuck=>rw[e1] at q;exact q
 | exn x=>rw[e1] at q;exact q
 | ok x =>
  rw[e1] at q
  intro v H1 H01 g1 r1
  exact ho x v H1 H01 Q g1.sub r1 (post.grow (r:=m x) q g1)
theorem zdK {x1}(h:DA X E es fa):DE X E (.Tuple es x1 pos) (zal fa zjC):=by
 refine⟨?_⟩
 refine zaX (zty h.o) (zhh (r:=fun xs H1 Q=>xs.length<=sizeLine/\∀ p,H1 p=none->Q (.ref p) (upd H1 p (.tup xs))) fun ds vs H H₀ Q hs hr q=>?_)
 unfold zjC at q
 by_cases hl:ds.length<=line
 ·rw[if_pos hl] at q
  refine⟨by rw[← hr.length];exact zc9 hl,fun p hp=>q _ _ _ (zbp.alloc hs hp) (Rep.tup_iff.mpr ⟨p,vs,rfl,SqT.of zas,hr.mono (zbp.alloc hs hp).z⟩)⟩
 ·rw[if_neg hl] at q;exact q.elim
theorem zbI (h:DA X E es fa):DE X E (.List es pos) (zal fa zdm):=by
 refine⟨?_⟩
 refine zaX (zq8 h.o) (zhh (r:=fun xs H1 Q=>xs.length<=sizeLine/\∀ p,H1 p=none->Q (.ref p) (upd H1 p (.lst xs))) fun ds vs H H₀ Q hs hr q=>?_)
 unfold zdm at q
 by_cases hl:ds.length<=line
 ·rw[if_pos hl] at q
  refine⟨by rw[← hr.length];exact zc9 hl,fun p hp=>q _ _ _ (zbp.alloc hs hp) (Rep.lst_iff.mpr ⟨p,vs,rfl,SqL.of zas,hr.mono (zbp.alloc hs hp).z⟩)⟩
 ·rw[if_neg hl] at q;exact q.elim
def spD (K:W.Frag)(n:Nat)(m:List D->Res D):Sp:=fun vs H Q E=>vs.length=n/\∃ H₀ ds,zaT H₀ H/\Reps K H₀ ds vs/\post K E H H₀ (m ds) Q
theorem zax {CX:CXT}{k n:Nat}{fn:Addr}{fd:FuncData}{ps:List Str}{m:List D->Res D}{x:Str}{p:Pos}(F:zdy X.prog X.w X.K X.mg X.base CX k fn fd ps (spD X.K n m))(hr:zgV k X.A)(hg:Gl X x)(hm:X.mg x=some (.ref fn))
  (hk:W.keepIn X.K (.ref fn)=true)(hb:zbZ X.K fd ps [])(hx:zjP CX X E)(ha:DA X E (e::es) fa)(hn:(e::es).length=n:=by rfl)(hl:∀ ρ ds,fa ρ=.ok ds->ds.length=(e::es).length)
  (hdb:(x==("__debug__" : Str))=false:=by decide)(he:starEach (e::es) X.env=(false,eval e X.env)::starEach es X.env:=by exact zaO rfl)(hpl:(backTo pos (starEach es X.env)).any (·.1)=false:=by exact zbK rfl) :
  DE X E (.Call (.Name x p) (e::es) [] pos) (zal fa m):=by
 refine⟨?_⟩
 refine zaX (zrX F hr hg hm hk hb .nil hx ha.o hdb he hpl) fun σ H Q h=>?_
 obtain⟨H₀,ρ,hs,hr,q⟩:=h
 refine⟨H₀,ρ,hs,hr,?_⟩
 unfold zal at q
 cases e1:fa ρ with
 | stuck=>rw[e1] at q;exact q
 | exn x=>rw[e1] at q;exact q
 | ok ds =>
  rw[e1] at q
  intro v H1 H01 g1 r1
  refine⟨?_,H01,ds,g1.sub,by simpa using r1,post.grow (r:=m ds) q g1⟩
  have:=r1.length
  have:=hl ρ ds e1
  simp only[List.append_nil]
  omega
theorem zap {ρ:Ev}{ds:List D}(h:zar ρ=.ok ds):ds.length=0:=by cases h;rfl
theorem zah {ρ:Ev}{ds:List D}{n:Nat}(hr:∀ es,fa ρ=.ok es->es.length=n)(h:zad f fa ρ=.ok ds):ds.length=n+1:=by
 unfold zad at h
 cases e1:f ρ with
 | stuck=>rw[e1] at h;cases h
 | exn x=>rw[e1] at h;cases h
 | ok x =>
  rw[e1] at h
  replace h:((fa ρ).bind fun xs=>Res.ok (x::xs))=.ok ds:=h
  cases e2:fa ρ with
  | stuck=>rw[e2] at h;cases h
  | exn x=>rw[e2] at h;cases h
  | ok xs =>
   rw[e2] at h
   cases h
   simp [hr xs e2]
def zia (X:Cx)(E:XK)(r:List V->Hp->VK->Prop)(m:List D->Res D):Prop:=∀ (ds:List D) (vs:List V) (H H₀:Hp) (Q:VK),zaT H₀ H->Reps X.K H₀ ds vs->post X.K E H H₀ (m ds) Q->r vs H Q
theorem zaD {id:String}{r:List V->Hp->VK->Prop}{m:List D->Res D}{x:Str}{p:Pos}(hc:zhK X (.builtin id) r)(hd:zia X E r m)(hg:Gl X x)(hm:X.mg x=none)(hv:bootBuiltins x=some (.builtin id))(ha:DA X E (e::es) fa)(hn:x≠"__name__":=by decide)(hdb:(x==("__debug__" : Str))=false:=by decide)
  (he:starEach (e::es) X.env=(false,eval e X.env)::starEach es X.env:=by exact zaO rfl)(hpl:(backTo pos (starEach es X.env)).any (·.1)=false:=by exact zbK rfl):DE X E (.Call (.Name x p) (e::es) [] pos) (zal fa m) :=
 ⟨zaX (zj9 hc hg hm hv ha.o hn hdb he hpl) (zhh hd)⟩
theorem zqu (h:PT X e (tB (tD X.K E f))):DT X E e f:=by
 refine⟨?_⟩
 refine zj7 h fun σ H Q ⟨H₀,ρ,hs,hr,q⟩=>⟨H₀,ρ,hs,hr,?_⟩
 cases e1:f ρ with
 | stuck=>rw[e1] at q;exact q
 | exn x=>rw[e1] at q;exact q
 | ok d =>
  rw[e1] at q
  intro v H1 H01 g1 r1
  cases d with
  | bl b=>rw[Rep.bl_iff.mp r1];exact⟨b,rfl,q H1 H01 g1⟩
  | _=>exact q.elim
theorem zbR (h:DE X E e f)(he:∀ whole,isTrue e X.env whole=(do let v ← whole;standAt e.pos;holding [v] (truthy v)):=by intro _;rfl):DT X E e f:=zqu (ztq h.o he)
theorem zaG {op:CmpOp}{r:R2}{o:D->D->Res D}(h:OpR X (compareOp op) r)(ho:OpD X.K E r o)(ha:DE X E a f)(hb:DE X E b g)(hm:behindInMarks op b=false):DT X E (.Compare a [op] [b] pos) (zab f g o):=by
 refine⟨?_⟩
 refine zj7 (zrO h ha.o hb.o hm) fun σ H Q h=>?_
 have w:tD X.K E (zab f g o) σ H fun x H'=>∃ k,x=.bl k/\Q k H':=by
  obtain⟨H₀,ρ,hs,hr,q⟩:=h
  refine⟨H₀,ρ,hs,hr,?_⟩
  cases e1:zab f g o ρ with
  | stuck=>rw[e1] at q;exact q
  | exn x=>rw[e1] at q;exact q
  | ok d =>
   rw[e1] at q
   intro v H1 H01 g1 r1
   cases d with
   | bl b=>rw[Rep.bl_iff.mp r1];exact⟨b,rfl,q H1 H01 g1⟩
   | _=>exact q.elim
 exact zgW ho σ H _ w
def zc3 (f:Ev->Res D):Ev->Res D:=zbi f fun x=>match x with
 | .bl b=>.ok (.bl (!b))
 | _=>.stuck
def zhC (f g:Ev->Res D):Ev->Res D:=fun ρ=>(f ρ).bind fun x=>match x with
 | .bl true=>g ρ
 | .bl false=>.ok (.bl false)
 | _=>.stuck
def dOr (f g:Ev->Res D):Ev->Res D:=fun ρ=>(f ρ).bind fun x=>match x with
 | .bl true=>.ok (.bl true)
 | .bl false=>g ρ
 | _=>.stuck
theorem zbS (ha:DT X E a f):DT X E (.UnaryOp .Not a pos) (zc3 f):=by
 refine⟨?_⟩
 refine zj7 (ztr ha.o) fun σ H Q ⟨H₀,ρ,hs,hr,q⟩=>⟨H₀,ρ,hs,hr,?_⟩
 unfold zc3 zbi at q
 cases e1:f ρ with
 | stuck=>rw[e1] at q;exact q
 | exn x=>rw[e1] at q;exact q
 | ok d =>
  rw[e1] at q
  cases d with
  | bl b=>exact q
  | _=>exact q.elim
theorem zo7 (ha:DE X E a f):DE X E (.UnaryOp .Not a pos) (zc3 f):=by
 refine⟨?_⟩
 refine zaX (ztD ha.o) fun σ H Q ⟨H₀,ρ,hs,hr,q⟩=>⟨H₀,ρ,hs,hr,?_⟩
 unfold zc3 zbi at q
 cases e1:f ρ with
 | stuck=>rw[e1] at q;exact q
 | exn x=>rw[e1] at q;exact q
 | ok d =>
  rw[e1] at q
  intro v H1 H01 g1 r1
  cases d with
  | bl b=>rw[Rep.bl_iff.mp r1];exact⟨b,rfl,q (.bl !b) H1 H01 g1 (Rep.bl_iff.mpr rfl)⟩
  | _=>exact q.elim
variable {rest:List Expr}
theorem zdx (ha:DT X E a f):DW X E (.BoolOp .And [a] pos) f:=⟨zrN ha.o⟩
theorem za2 (ha:DT X E a f):DW X E (.BoolOp .Or [a] pos) f:=⟨ztm ha.o⟩
theorem zi5 (ha:DT X E a f)(hb:DW X E (.BoolOp .And (b::rest) pos) g):DW X E (.BoolOp .And (a::b::rest) pos) (zhC f g):=by
 refine⟨?_⟩
 refine zoc (ztn ha.o hb.o) fun σ H Q ⟨H₀,ρ,hs,hr,q⟩=>⟨H₀,ρ,hs,hr,?_⟩
 unfold zhC at q
 cases e1:f ρ with
 | stuck=>rw[e1] at q;exact q
 | exn x=>rw[e1] at q;exact q
 | ok d =>
  rw[e1] at q
  cases d with
  | bl b =>
   cases b with
   | true=>exact fun H1 H01 g1=>⟨H01,ρ,g1.sub,hr.mono g1.z,zlU.grow (r:=g ρ) q g1⟩
   | false=>exact fun H1 H01 g1=>q H1 H01 g1
  | _=>exact q.elim
theorem zdn (ha:DT X E a f)(hb:DW X E (.BoolOp .Or (b::rest) pos) g):DW X E (.BoolOp .Or (a::b::rest) pos) (dOr f g):=by
 refine⟨?_⟩
 refine zoc (zu7 ha.o hb.o) fun σ H Q ⟨H₀,ρ,hs,hr,q⟩=>⟨H₀,ρ,hs,hr,?_⟩
 unfold dOr at q
 cases e1:f ρ with
 | stuck=>rw[e1] at q;exact q
 | exn x=>rw[e1] at q;exact q
 | ok d =>
  rw[e1] at q
  cases d with
  | bl b =>
   cases b with
   | false=>exact fun H1 H01 g1=>⟨H01,ρ,g1.sub,hr.mono g1.z,zlU.grow (r:=g ρ) q g1⟩
   | true=>exact fun H1 H01 g1=>q H1 H01 g1
  | _=>exact q.elim
theorem DW.dt (h:DW X E e f):DT X E e f:=⟨PW.pt h.o⟩
theorem zgs {op}(h:DE X E a f):DE X E (.BoolOp op [a] pos) f:=⟨ztC h.o⟩
theorem zhf (ha:DE X E a f)(hb:DE X E (.BoolOp .And (b::rest) pos) g):DE X E (.BoolOp .And (a::b::rest) pos) (zhC f g):=by
 refine⟨?_⟩
 refine zaX (ztF ha.o hb.o) fun σ H Q ⟨H₀,ρ,hs,hr,q⟩=>⟨H₀,ρ,hs,hr,?_⟩
 unfold zhC at q
 cases e1:f ρ with
 | stuck=>rw[e1] at q;exact q
 | exn x=>rw[e1] at q;exact q
 | ok d =>
  rw[e1] at q
  intro v H1 H01 g1 r1
  cases d with
  | bl b =>
   rw[Rep.bl_iff.mp r1]
   cases b with
   | true=>exact⟨true,rfl,H01,ρ,g1.sub,hr.mono g1.z,post.grow (r:=g ρ) q g1⟩
   | false=>exact⟨false,rfl,q (.bl false) H1 H01 g1 (Rep.bl_iff.mpr rfl)⟩
  | _=>exact q.elim
theorem zvA (ha:DE X E a f)(hb:DE X E (.BoolOp .Or (b::rest) pos) g):DE X E (.BoolOp .Or (a::b::rest) pos) (dOr f g):=by
 refine⟨?_⟩
 refine zaX (zve ha.o hb.o) fun σ H Q ⟨H₀,ρ,hs,hr,q⟩=>⟨H₀,ρ,hs,hr,?_⟩
 unfold dOr at q
 cases e1:f ρ with
 | stuck=>rw[e1] at q;exact q
 | exn x=>rw[e1] at q;exact q
 | ok d =>
  rw[e1] at q
  intro v H1 H01 g1 r1
  cases d with
  | bl b =>
   rw[Rep.bl_iff.mp r1]
   cases b with
   | false=>exact⟨false,rfl,H01,ρ,g1.sub,hr.mono g1.z,post.grow (r:=g ρ) q g1⟩
   | true=>exact⟨true,rfl,q (.bl true) H1 H01 g1 (Rep.bl_iff.mpr rfl)⟩
  | _=>exact q.elim
def dIf (c f g:Ev->Res D):Ev->Res D:=fun ρ=>(c ρ).bind fun x=>match x with
 | .bl true=>f ρ
 | .bl false=>g ρ
 | _=>.stuck
end
def zwJ (K:W.Frag)(H₀ H:Hp)(a:Addr)(d:D):Prop:=match d with
 | .lst ds=>∃ vs,H a=some (.lst vs)/\Reps K H₀ ds vs
 | _=>False
def OXr (K:W.Frag)(He H₀ H:Hp)(a:Addr)(j:Nat)(ds:List D)(p:Addr):Prop:=∃ vs es us,He a=none/\H a=some (.tup vs)/\He p=none/\H₀ p=none/\ds[j]?=some (.lst es)/\vs[j]?=some (.ref p)/\H p=some (.lst us)/\Reps K H₀ es us/\ds.length=vs.length/\∀ k d v,k≠j->ds[k]?=some d->vs[k]?=some v->Rep K H₀ d v
def OX (K:W.Frag)(He H₀:Hp)(σ:L2.St)(H:Hp)(ρ:Ev):Prop:=∀ (i j:Nat) (ds:List D),ρ[i]?=some (.ox j ds)->∃ a p,σ[i]?=some (some (.ref a))/\OXr K He H₀ H a j ds p/\(∀ (k:Nat) (d:D),ρ[k]?=some (.ow d)->σ[k]?≠some (some (.ref p)))/\∀ (k j':Nat) (ds':List D),ρ[k]?=some (.ox j' ds')->k=i
theorem OX.upd {K:W.Frag}{He H₀ H₀' H H':Hp}{σ σ':L2.St}{ρ ρ':Ev}(h:OX K He H₀ σ H ρ)
  (hk:∀ (j:Nat) (s:Sl),ρ'[j]?=some s->(ρ[j]?=some s/\σ'[j]?=σ[j]?)∨(∃ d,s=.sh d)∨s=.no∨∃ d q,s=.ow d/\σ'[j]?=some (some (.ref q))/\∀ (i j:Nat) (ds:List D) (a p:Addr),ρ[i]?=some (.ox j ds)->σ[i]?=some (some (.ref a))->OXr K He H₀ H a j ds p->q≠p)
  (hz:zaT H₀ H₀')(ht:∀ a vs,He a=none->H a=some (.tup vs)->H' a=some (.tup vs))
  (hl:∀ p us,He p=none->H₀ p=none->H p=some (.lst us)->(∀ (k:Nat) (d:D),ρ[k]?=some (.ow d)->σ[k]?≠some (some (.ref p)))->H' p=some (.lst us)/\H₀' p=none):OX K He H₀' σ' H' ρ':=fun i j ds e=>by
 have old:ρ[i]?=some (.ox j ds)/\σ'[i]?=σ[i]?:=by
  rcases hk i _ e with h1 | ⟨d,h1⟩ | h1 | ⟨d,q,h1,_⟩
  ·exact h1
  ·cases h1
  ·cases h1
  ·cases h1
 obtain⟨a,p,h1,h2,h3,h4⟩:=h i j ds old.1
 have h2':=h2
 obtain⟨vs,es,us,r1,r2,r3,r4,r5,r6,r7,r8,r9,r10⟩:=h2
 obtain⟨l1,l2⟩:=hl p us r3 r4 r7 h3
 refine⟨a,p,old.2.trans h1,⟨vs,es,us,r1,ht a vs r1 r2,r3,l2,r5,r6,l1,r8.mono hz,r9,fun k d v hk e1 e2=>(r10 k d v hk e1 e2).mono hz⟩,fun k d ek z=>?_,fun k j' ds' ek=>?_⟩
 ·rcases hk k _ ek with h1' | ⟨d',h1'⟩ | h1' | ⟨d',q,h1',h2'',h3'⟩
  ·exact h3 k d h1'.1 (by rw[← h1'.2];exact z)
  ·cases h1'
  ·cases h1'
  ·rw[h2''] at z
   cases z
   exact h3' i j ds a p old.1 h1 h2' rfl
 ·rcases hk k _ ek with h1' | ⟨d',h1'⟩ | h1' | ⟨d',q,h1',_⟩
  ·exact h4 k j' ds' h1'.1
  ·cases h1'
  ·cases h1'
  ·cases h1'
theorem OX.none {K:W.Frag}{He H₀ H:Hp}{σ:L2.St}{ρ:Ev}(h:∀ (i j:Nat) (ds:List D),ρ[i]?≠some (.ox j ds)):OX K He H₀ σ H ρ:=fun i j ds e=>absurd e (h i j ds)
theorem zoa {K:W.Frag}{H:Hp}:∀ {ds:List D}{vs:List V},ds.length=vs.length->(∀ (k:Nat) (d:D) (v:V),ds[k]?=some d->vs[k]?=some v->Rep K H d v)->Reps K H ds vs
 | [],[],_,_=>Reps.nil
 | d::ds,v::vs,hl,h=>Reps.cons (h 0 d v rfl rfl) (zoa (by simpa using hl) fun k d' v' e1 e2=>h (k+1) d' v' e1 e2)
structure SRx (K:W.Frag) (He H0e H₀:Hp) (σ:L2.St) (H:Hp) (ρ:Ev):Prop where
 g:zbp He H0e H H₀
 rd:zfV K H₀ σ ρ
 ow:∀ (i:Nat) (d:D),ρ[i]?=some (.ow d)->∃ a,σ[i]?=some (some (.ref a))/\He a=none/\H₀ a=none/\zwJ K H₀ H a d
 ap:∀ (i j:Nat) (d d':D),i≠j->ρ[i]?=some (.ow d)->ρ[j]?=some (.ow d')->σ[i]?≠σ[j]?
 ln:ρ.length=σ.length
 ex:OX K He H₀ σ H ρ
inductive Fl where
 | nx (ρ:Ev) | rt (d:D) | bk (ρ:Ev) | ct (ρ:Ev)
def zcs (K:W.Frag)(E:XK)(He H0e H₀:Hp)(r:Res Fl)(D:zjU):Prop:=match r with
 | .ok (.nx ρ)=>∀ σ H H₀',zaT H₀ H₀'->SRx K He H0e H₀' σ H ρ->D.nx σ H
 | .ok (.rt d)=>∀ v H H₀',zbp He H0e H H₀'->Rep K H₀' d v->D.rt v H
 | .ok (.bk ρ)=>∀ σ H H₀',zaT H₀ H₀'->SRx K He H0e H₀' σ H ρ->D.bk σ H
 | .ok (.ct ρ)=>∀ σ H H₀',zaT H₀ H₀'->SRx K He H0e H₀' σ H ρ->D.ct σ H
 | .exn x=>∀ C ox H H₀',zbp He H0e H H₀'->ExR K H₀' x C ox->E C ox H
 | .stuck=>False
theorem zcs.grow {K:W.Frag}{E:XK}{He H0e H₀ H₁:Hp}{r:Res Fl}{D:zjU}(h:zcs K E He H0e H₀ r D)(s:zaT H₀ H₁):zcs K E He H0e H₁ r D:=by
 cases r with
 | ok f =>
  cases f with
  | nx ρ=>exact fun σ H H₀' s'=>h σ H H₀' (s.trans s')
  | rt d=>exact h
  | bk ρ=>exact fun σ H H₀' s'=>h σ H H₀' (s.trans s')
  | ct ρ=>exact fun σ H H₀' s'=>h σ H H₀' (s.trans s')
 | exn x=>exact h
 | stuck=>exact h
def tS (K:W.Frag)(E:XK)(He H0e:Hp)(g:Ev->Res Fl):TS:=fun D σ H=>∃ H₀ ρ,SRx K He H0e H₀ σ H ρ/\zcs K E He H0e H₀ (g ρ) D
structure DS (X:Cx) (E:XK) (He H0e:Hp) (st:Stmt) (g:Ev->Res Fl):Prop where
 o:PS X st (tS X.K E He H0e g)
structure DSs (X:Cx) (E:XK) (He H0e:Hp) (st:List Stmt) (g:Ev->Res Fl):Prop where
 o:PSs X st (tS X.K E He H0e g)
def shr (ρ:Ev):Ev:=ρ.map fun s=>match s with
 | .ow d=>.sh d
 | .ox _ ds=>.sh (.tup ds)
 | x=>x
def frz (He H₀ H:Hp):Hp:=fun a=>match He a with
 | none=>H a
 | some _=>H₀ a
section
variable {K:W.Frag}{E:XK}{He H0e H₀ H H1:Hp}{σ:L2.St}{ρ:Ev}
theorem SRx.same (h:SRx K He H0e H₀ σ H ρ)(s:zaT H H1):SRx K He H0e H₀ σ H1 ρ :=
 ⟨⟨h.g.s.trans s,h.g.z,h.g.sub.trans s,h.g.nw⟩,h.rd,fun i d e=>by
  obtain⟨a,h1,h2,h3,h4⟩:=h.ow i d e
  refine⟨a,h1,h2,h3,?_⟩
  cases d with
  | lst ds=>obtain⟨vs,h5,h6⟩:=h4;exact⟨vs,s _ _ h5,h6⟩
  | _=>exact h4,h.ap,h.ln,h.ex.upd (fun j s' e=>.inl ⟨e,rfl⟩) (zaT.refl _) (fun a vs _ e=>s _ _ e) fun p us _ h0 hp _=>⟨s _ _ hp,h0⟩⟩
theorem SRx.grow {H01:Hp}(h:SRx K He H0e H₀ σ H ρ)(s:zbp H H₀ H1 H01):SRx K He H0e H01 σ H1 ρ :=
 ⟨h.g.trans s,h.rd.mono s.z,fun i d e=>by
  obtain⟨a,h1,h2,h3,h4⟩:=h.ow i d e
  have ha:H01 a=none:=by
   cases q:H01 a with
   | none=>rfl
   | some o =>
    have:=s.nw a (by rw[q];simp) h3
    cases d with
    | lst ds=>obtain⟨vs,h5,_⟩:=h4;rw[h5] at this;cases this
    | _=>exact h4.elim
  refine⟨a,h1,h2,ha,?_⟩
  cases d with
  | lst ds=>obtain⟨vs,h5,h6⟩:=h4;exact⟨vs,s.s _ _ h5,h6.mono s.z⟩
  | _=>exact h4,h.ap,h.ln,h.ex.upd (fun j s' e=>.inl ⟨e,rfl⟩) s.z (fun a vs _ e=>s.s _ _ e) fun p us _ h0 hp _=>⟨s.s _ _ hp,by
   cases q:H01 p with
   | none=>rfl
   | some o=>have:=s.nw p (by rw[q];simp) h0;rw[hp] at this;cases this⟩⟩
theorem SRx.frz_sub (h:SRx K He H0e H₀ σ H ρ):zaT H₀ (frz He H₀ H):=fun b o e=>by
 unfold frz
 cases q:He b with
 | none=>exact h.g.sub _ _ e
 | some _=>exact e
theorem SRx.frz_le (h:SRx K He H0e H₀ σ H ρ):zaT (frz He H₀ H) H:=fun b o e=>by
 unfold frz at e
 cases q:He b with
 | none=>rw[q] at e;exact e
 | some _=>rw[q] at e;exact h.g.sub _ _ e
theorem SRx.frz_grow (h:SRx K He H0e H₀ σ H ρ):zbp He H0e H (frz He H₀ H) :=
 ⟨h.g.s,h.g.z.trans h.frz_sub,h.frz_le,fun a h1 h2=>by
  cases q:He a with
  | none=>rfl
  | some o =>
   unfold frz at h1
   rw[q] at h1
   have:=h.g.nw a h1 h2
   rw[q] at this;cases this⟩
theorem SRx.looks (h:SRx K He H0e H₀ σ H ρ):zfV K (frz He H₀ H) σ (shr ρ):=fun i d e=>by
 unfold shr at e
 rw[List.getElem?_map] at e
 cases q:ρ[i]? with
 | none=>rw[q] at e;cases e
 | some s =>
  rw[q] at e
  cases s with
  | no=>cases e
  | sh d' =>
   cases e
   obtain⟨v,h1,h2⟩:=h.rd i d q
   exact⟨v,h1,h2.mono h.frz_sub⟩
  | ow d' =>
   cases e
   obtain⟨a,h1,h2,h3,h4⟩:=h.ow i d q
   refine⟨_,h1,?_⟩
   cases d with
   | lst ds =>
    obtain⟨vs,h5,h6⟩:=h4
    exact Rep.lst_iff.mpr ⟨a,vs,rfl,SqL.of (by unfold frz;rw[h2];exact h5),h6.mono h.frz_sub⟩
   | _=>exact h4.elim
  | ox j ds =>
   cases e
   obtain⟨a,p,h1,⟨vs,es,us,r1,r2,r3,r4,r5,r6,r7,r8,r9,r10⟩,_⟩:=h.ex i j ds q
   refine⟨_,h1,Rep.tup_iff.mpr ⟨a,vs,rfl,SqT.of (by unfold frz;rw[r1];exact r2),zoa r9 fun k d v e1 e2=>?_⟩⟩
   by_cases hk:k=j
   ·subst hk
    rw[r5] at e1;cases e1
    rw[r6] at e2;cases e2
    exact Rep.lst_iff.mpr ⟨p,us,rfl,SqL.of (by unfold frz;rw[r3];exact r7),r8.mono h.frz_sub⟩
   ·exact(r10 k d v hk e1 e2).mono h.frz_sub
theorem SRx.put (h:SRx K He H0e H₀ σ H ρ){i:Nat}{d:D}{v:V}(r:Rep K H₀ d v):SRx K He H0e H₀ (σ.set i (some v)) H (ρ.set i (.sh d)):=by
 have key:∀ (j:Nat) (s:Sl),(ρ.set i (.sh d))[j]?=some s->(j=i/\s=.sh d/\i < σ.length)∨(j≠i/\ρ[j]?=some s):=fun j s e=>by
  by_cases hj:i=j
  ·subst hj
   rw[List.getElem?_set_self'] at e
   cases q:ρ[i]? with
   | none=>rw[q] at e;cases e
   | some s' =>
    rw[q] at e
    cases e
    refine .inl ⟨rfl,rfl,?_⟩
    rw[← h.ln]
    exact(List.getElem?_eq_some_iff.mp q).1
  ·rw[List.getElem?_set_ne hj] at e
   exact .inr ⟨fun z=>hj z.symm,e⟩
 refine⟨h.g,fun j d' e=>?_,fun j d' e=>?_,fun j k d1 d2 hn e1 e2=>?_,by simp [h.ln],h.ex.upd (fun j s e=>?_) (zaT.refl _) (fun a vs _ e=>e) fun p us _ h0 hp _=>⟨hp,h0⟩⟩
 rotate_left 3
 ·rcases key j _ e with⟨rfl,e',hl⟩ | ⟨hj,e'⟩
  ·exact .inr (.inl ⟨d,e'⟩)
  ·exact .inl ⟨e',by rw[List.getElem?_set_ne (Ne.symm hj)]⟩
 ·rcases key j _ e with⟨rfl,e',hl⟩ | ⟨hj,e'⟩
  ·cases e'
   exact⟨v,by rw[List.getElem?_set_self hl],r⟩
  ·obtain⟨v',h1,h2⟩:=h.rd j d' e'
   exact⟨v',by rw[List.getElem?_set_ne (Ne.symm hj)];exact h1,h2⟩
 ·rcases key j _ e with⟨rfl,e',hl⟩ | ⟨hj,e'⟩
  ·cases e'
  ·obtain⟨a,h1,h2⟩:=h.ow j d' e'
   exact⟨a,by rw[List.getElem?_set_ne (Ne.symm hj)];exact h1,h2⟩
 ·rcases key j _ e1 with⟨_,e',_⟩ | ⟨hj,e1'⟩
  ·cases e'
  rcases key k _ e2 with⟨_,e',_⟩ | ⟨hk,e2'⟩
  ·cases e'
  rw[List.getElem?_set_ne (Ne.symm hj),List.getElem?_set_ne (Ne.symm hk)]
  exact h.ap j k d1 d2 hn e1' e2'
theorem SRx.putOwn (h:SRx K He H0e H₀ σ H ρ){i:Nat}{ds:List D}{vs:List V}{p:Addr}(hp:∀ (j:Nat) (a:Addr),σ[j]?=some (some (V.ref a))->a=p->∀ d:D,ρ[j]?≠some (Sl.ow d))(he:He p=none)(h0:H₀ p=none)(hv:H p=some (.lst vs))(r:Reps K H₀ ds vs)(hx:∀ (i j:Nat) (ds:List D) (a q:Addr),ρ[i]?=some (.ox j ds)->σ[i]?=some (some (.ref a))->OXr K He H₀ H a j ds q->p≠q) :
  SRx K He H0e H₀ (σ.set i (some (.ref p))) H (ρ.set i (.ow (.lst ds))):=by
 have key:∀ (j:Nat) (s:Sl),(ρ.set i (.ow (.lst ds)))[j]?=some s->(j=i/\s=.ow (.lst ds)/\i < σ.length)∨(j≠i/\ρ[j]?=some s):=fun j s e=>by
  by_cases hj:i=j
  ·subst hj
   rw[List.getElem?_set_self'] at e
   cases q:ρ[i]? with
   | none=>rw[q] at e;cases e
   | some s' =>
    rw[q] at e
    cases e
    refine .inl ⟨rfl,rfl,?_⟩
    rw[← h.ln]
    exact(List.getElem?_eq_some_iff.mp q).1
  ·rw[List.getElem?_set_ne hj] at e
   exact .inr ⟨fun z=>hj z.symm,e⟩
 have other:∀ (k:Nat) (d2:D),k≠i->ρ[k]?=some (.ow d2)->some (some (V.ref p))≠σ[k]?:=fun k d2 hk e2 z=>by
  obtain⟨a,h1,_⟩:=h.ow k d2 e2
  rw[h1] at z
  cases z
  exact hp k p h1 rfl d2 e2
 refine⟨h.g,fun j d' e=>?_,fun j d' e=>?_,fun j k d1 d2 hn e1 e2=>?_,by simp [h.ln],h.ex.upd (fun j s e=>?_) (zaT.refl _) (fun a vs _ e=>e) fun p us _ h0 hp _=>⟨hp,h0⟩⟩
 rotate_left 3
 ·rcases key j _ e with⟨rfl,e',hl⟩ | ⟨hj,e'⟩
  ·exact .inr (.inr (.inr ⟨.lst ds,p,e',by rw[List.getElem?_set_self hl],hx⟩))
  ·exact .inl ⟨e',by rw[List.getElem?_set_ne (Ne.symm hj)]⟩
 ·rcases key j _ e with⟨rfl,e',hl⟩ | ⟨hj,e'⟩
  ·cases e'
  ·obtain⟨v',h1,h2⟩:=h.rd j d' e'
   exact⟨v',by rw[List.getElem?_set_ne (Ne.symm hj)];exact h1,h2⟩
 ·rcases key j _ e with⟨rfl,e',hl⟩ | ⟨hj,e'⟩
  ·cases e'
   exact⟨p,by rw[List.getElem?_set_self hl],he,h0,vs,hv,r⟩
  ·obtain⟨a,h1,h2⟩:=h.ow j d' e'
   exact⟨a,by rw[List.getElem?_set_ne (Ne.symm hj)];exact h1,h2⟩
 ·rcases key j _ e1 with⟨rfl,_,hl⟩ | ⟨hj,e1'⟩
  ·rcases key k _ e2 with⟨rfl,_,_⟩ | ⟨hk,e2'⟩
   ·exact absurd rfl hn
   ·rw[List.getElem?_set_self hl,List.getElem?_set_ne (Ne.symm hk)]
    exact other k d2 hk e2'
  ·rcases key k _ e2 with⟨rfl,_,hl⟩ | ⟨hk,e2'⟩
   ·rw[List.getElem?_set_self hl,List.getElem?_set_ne (Ne.symm hj)]
    exact fun z=>other j d1 hj e1' z.symm
   ·rw[List.getElem?_set_ne (Ne.symm hj),List.getElem?_set_ne (Ne.symm hk)]
    exact h.ap j k d1 d2 hn e1' e2'
theorem SRx.fresh_x {H01:Hp}{p:Addr}(h:SRx K He H0e H₀ σ H ρ)(s:zaT H H1)(hp:H p=none):∀ (i j:Nat) (ds:List D) (a q:Addr),ρ[i]?=some (.ox j ds)->σ[i]?=some (some (.ref a))->OXr K He H01 H1 a j ds q->p≠q:=fun i j ds a q x1 x2 x3=>by
 obtain⟨a2,p2,y1,⟨vs2,_,us2,_,z3,_,_,_,z4,z5,_⟩,_⟩:=h.ex i j ds x1
 rw[x2] at y1;cases y1
 obtain⟨vs1,_,_,_,z1,_,_,_,z2,_⟩:=x3
 have:=s _ _ z3
 rw[z1] at this;cases this
 rw[z2] at z4;cases z4
 intro z;subst z
 rw[hp] at z5;cases z5
theorem SRx.write (h:SRx K He H0e H₀ σ H ρ){i:Nat}{d:D}{p:Addr}{ds:List D}{vs:List V}(e:ρ[i]?=some (.ow d))(es:σ[i]?=some (some (.ref p)))(r:Reps K H₀ ds vs) :
  SRx K He H0e H₀ σ (upd H p (.lst vs)) (ρ.set i (.ow (.lst ds))):=by
 obtain⟨a,h1,h2,h3,h4⟩:=h.ow i d e
 rw[h1] at es;cases es
 have hil:i < ρ.length:=(List.getElem?_eq_some_iff.mp e).1
 have key:∀ (j:Nat) (s:Sl),(ρ.set i (.ow (.lst ds)))[j]?=some s->(j=i/\s=.ow (.lst ds))∨(j≠i/\ρ[j]?=some s):=fun j s e=>by
  by_cases hj:i=j
  ·subst hj
   rw[List.getElem?_set_self hil] at e
   cases e
   exact .inl ⟨rfl,rfl⟩
  ·rw[List.getElem?_set_ne hj] at e
   exact .inr ⟨fun z=>hj z.symm,e⟩
 refine⟨⟨fun b o eb=>?_,h.g.z,fun b o eb=>?_,h.g.nw⟩,fun j d' e'=>?_,fun j d' e'=>?_,fun j k d1 d2 hn e1 e2=>?_,by simp [h.ln],h.ex.upd (fun j s e'=>?_) (zaT.refl _) (fun b us _ eb=>?_) fun q us _ q0 hq hd=>?_⟩
 rotate_left 5
 ·rcases key j _ e' with⟨rfl,e''⟩ | ⟨hj,e''⟩
  ·exact .inr (.inr (.inr ⟨.lst ds,p,e'',h1,fun i' j' ds' a' p' x1 x2 x3=>by
    obtain⟨a2,p2,y1,y2,y3,_⟩:=h.ex i' j' ds' x1
    rw[x2] at y1;cases y1
    have:p2=p':=by
     obtain⟨vs1,_,_,_,z1,_,_,_,z2,_⟩:=x3
     obtain⟨vs2,_,_,_,z3,_,_,_,z4,_⟩:=y2
     rw[z1] at z3;cases z3
     rw[z2] at z4;cases z4;rfl
    subst this
    intro zz;subst zz
    exact y3 j d e h1⟩))
  ·exact .inl ⟨e'',rfl⟩
 ·rw[zat (by
   intro z;subst z
   cases d with
   | lst ds'=>obtain⟨vs',h5,_⟩:=h4;rw[h5] at eb;cases eb
   | _=>exact h4)];exact eb
 ·have hq':q≠p:=by
   intro z;subst z
   exact hd i d e h1
  exact⟨by rw[zat hq'];exact hq,q0⟩
 ·rw[zat (by intro z;subst z;rw[h2] at eb;cases eb)];exact h.g.s _ _ eb
 ·rw[zat (by intro z;subst z;rw[h3] at eb;cases eb)];exact h.g.sub _ _ eb
 ·rcases key j _ e' with⟨rfl,e''⟩ | ⟨hj,e''⟩
  ·cases e''
  ·exact h.rd j d' e''
 ·rcases key j _ e' with⟨rfl,e''⟩ | ⟨hj,e''⟩
  ·cases e''
   exact⟨p,h1,h2,h3,vs,zas,r⟩
  ·obtain⟨b,k1,k2,k3,k4⟩:=h.ow j d' e''
   refine⟨b,k1,k2,k3,?_⟩
   have hb:b≠p:=by
    intro z;subst z
    exact h.ap j i d' d hj e'' e (by rw[k1,h1])
   cases d' with
   | lst ds' =>
    obtain⟨vs',h5,h6⟩:=k4
    exact⟨vs',by rw[zat hb];exact h5,h6⟩
   | _=>exact k4.elim
 ·rcases key j _ e1 with⟨rfl,e1'⟩ | ⟨hj,e1'⟩
  ·rcases key k _ e2 with⟨rfl,_⟩ | ⟨hk,e2'⟩
   ·exact absurd rfl hn
   ·exact h.ap j k d d2 hn e e2'
  ·rcases key k _ e2 with⟨rfl,_⟩ | ⟨hk,e2'⟩
   ·exact h.ap j k d1 d hn e1' e
   ·exact h.ap j k d1 d2 hn e1' e2'
end
mutual
def zrc:D->Bool
 | .lst _=>false
 | .dic _ _=>false
 | .exc _=>false
 | .ob _ _=>false
 | .tup ds=>flats ds
 | _=>true
def flats:List D->Bool
 | []=>true
 | d::ds=>zrc d&&flats ds
end
section
variable {K:W.Frag}{E:XK}{He H0e H₀ H H1 J:Hp}{σ:L2.St}{ρ:Ev}
end
section
variable {X:Cx}{E:XK}{He H0e:Hp}{st:Stmt}{rest:List Stmt}{e a b:Expr}{es:List Expr}{f g:Ev->Res D}{fa:Ev->Res (List D)}{s t:Ev->Res Fl}{pos:Pos}
theorem zcO {t t':TS}(h:PS X st t)(w:∀ D σ H,t' D σ H->t D σ H):PS X st t':=fun pins s σ H D I q=>h pins s σ H D I (w D σ H q)
theorem zg0 {t t':TS}(h:PSs X rest t)(w:∀ D σ H,t' D σ H->t D σ H):PSs X rest t':=fun pins s σ H D I q=>h pins s σ H D I (w D σ H q)
def zaj:Ev->Res Fl:=fun ρ=>.ok (.nx ρ)
def zan (s t:Ev->Res Fl):Ev->Res Fl:=fun ρ=>(s ρ).bind fun r=>match r with
 | .nx ρ'=>t ρ'
 | r=>.ok r
theorem zag:DSs X E He H0e [] zaj:=⟨zg0 zoe fun D σ H ⟨H₀,ρ,h,q⟩=>q σ H H₀ (zaT.refl _) h⟩
theorem zac (h1:DS X E He H0e st s)(h2:DSs X E He H0e rest t):DSs X E He H0e (st::rest) (zan s t):=by
 refine⟨?_⟩
 refine zg0 (zii h1.o h2.o) fun D σ H ⟨H₀,ρ,h,q⟩=>⟨H₀,ρ,h,?_⟩
 unfold zan at q
 cases e1:s ρ with
 | stuck=>rw[e1] at q;exact q
 | exn x=>rw[e1] at q;exact q
 | ok r =>
  rw[e1] at q
  cases r with
  | nx ρ'=>exact fun σ' H' H₀' s' h'=>⟨H₀',ρ',h',zcs.grow (r:=t ρ') q s'⟩
  | rt d=>exact q
  | bk ρ'=>exact q
  | ct ρ'=>exact q
def zes:Ev->Res Fl:=fun _=>.stuck
theorem plain {K:W.Frag}{H₀ H:Hp}{σ:L2.St}{ρ:Ev}{k:D->Res Fl}{D':zjU}(h:SRx K He H0e H₀ σ H ρ){r:Res D}{Q:VK}
  (q:zcs K E He H0e H₀ (r.bind k) D')(hk:∀ d v H' H₀',r=.ok d->zbp H H₀ H' H₀'->Rep K H₀' d v->zcs K E He H0e H₀' (k d) D'->Q v H'):post K E H H₀ r Q:=by
 cases r with
 | stuck=>exact q
 | exn x=>exact fun C ox H' H₀' g ex=>q C ox H' H₀' (h.g.trans g) ex
 | ok d=>exact fun v H' H₀' g rp=>hk d v H' H₀' rfl g rp (zcs.grow (r:=k d) q g.z)
theorem look {K:W.Frag}{H₀ H:Hp}{σ:L2.St}{ρ:Ev}{k:D->Res Fl}{D':zjU}(h:SRx K He H0e H₀ σ H ρ){r:Res D}{Q:VK}
  (q:zcs K E He H0e H₀ (r.bind k) D')(hk:∀ d v H' J,r=.ok d->zbp H (frz He H₀ H) H' J->Rep K J d v->zcs K E He H0e H₀ (k d) D'->Q v H'):post K E H (frz He H₀ H) r Q:=by
 cases r with
 | stuck=>exact q
 | exn x=>exact fun C ox H' H₀' g ex=>q C ox H' H₀' (h.frz_grow.trans g) ex
 | ok d=>exact fun v H' J g rp=>hk d v H' J rfl g rp q
theorem ztS {K:W.Frag}{H₀ H:Hp}{σ:L2.St}{ρ:Ev}{k:Bool->Res Fl}{D':zjU}(h:SRx K He H0e H₀ σ H ρ){r:Res D}{Q:Bool->Hp->Prop}
  (q:zcs K E He H0e H₀ (r.bind fun x=>match x with | .bl b=>k b | _=>.stuck) D')(hk:∀ b H',zaT H H'->zcs K E He H0e H₀ (k b) D'->Q b H'):zlU K E H (frz He H₀ H) r Q:=by
 cases r with
 | stuck=>exact q
 | exn x=>exact fun C ox H' H₀' g ex=>q C ox H' H₀' (h.frz_grow.trans g) ex
 | ok d =>
  cases d with
  | bl b=>exact fun H' J g=>hk b H' g.s q
  | _=>exact q.elim
def zbc (i:Nat)(f:Ev->Res D):Ev->Res Fl:=fun ρ=>(f ρ).bind fun d=>.ok (.nx (ρ.set i (.sh d)))
def zuX (i:Nat)(f:Ev->Res D):Ev->Res Fl:=fun ρ=>(f (shr ρ)).bind fun d=>if zrc d=true then .ok (.nx (ρ.set i (.sh d))) else .stuck
def zcy (f:Ev->Res D):Ev->Res Fl:=fun ρ=>(f (shr ρ)).bind fun d=>.ok (.rt d)
def zj4 (f:Ev->Res D):Ev->Res Fl:=fun ρ=>(f (shr ρ)).bind fun _=>.ok (.nx ρ)
def sIf (c:Ev->Res D)(s t:Ev->Res Fl):Ev->Res Fl:=fun ρ=>(c (shr ρ)).bind fun x=>match x with
 | .bl b=>if b=true then s ρ else t ρ
 | _=>.stuck
theorem zaB {i:Nat}{x:Str}{pos':Pos}(hN:X.N.Nodup)(hi:X.N[i]?=some x)(hx:Loc X.env.scope x)(he:DE X E e f)(hs:swapsWith e (some (.Name x pos')) pos.line X.env=pure false:=by rfl)
  (hf:X.fn x=true∨X.env.scope.names.lookup x=some .local := by first | exact .inl rfl | exact .inr rfl | assumption):DS X E He H0e (.Assign [.Name x pos'] e pos) (zbc i f):=by
 refine⟨?_⟩
 refine zcO (zq6 hN hi hx he.o hs hf) fun D σ H ⟨H₀,ρ,h,q⟩=>⟨H₀,ρ,h.g.sub,h.rd,?_⟩
 refine plain h q fun d v H' H₀' _ g rp q'=>?_
 exact q' _ H' H₀' (zaT.refl _) ((h.grow g).put rp)
theorem zaK (he:DE X E e f):DS X E He H0e (.Return (some e) pos) (zcy f):=by
 refine⟨?_⟩
 refine zcO (zts he.o) fun D σ H ⟨H₀,ρ,h,q⟩=>⟨frz He H₀ H,shr ρ,h.frz_le,h.looks,?_⟩
 exact look h q fun d v H' J _ g rp q'=>q' v H' J (h.frz_grow.trans g) rp
def zuY:Ev->Res Fl:=fun _=>.ok (.rt .non)
theorem zmd (he:DE X E e f)(hs:swapsWith e none pos.line X.env=pure false:=by rfl):DS X E He H0e (.Expr e pos) (zj4 f):=by
 refine⟨?_⟩
 refine zcO (zlS he.o hs) fun D σ H ⟨H₀,ρ,h,q⟩=>⟨frz He H₀ H,shr ρ,h.frz_le,h.looks,?_⟩
 exact look h q fun d v H' J _ g rp q'=>q' σ H' H₀ (zaT.refl _) (h.same g.s)
theorem zbG {c:Expr}{fc:Ev->Res D}{sa sb:List Stmt}(hc:DT X E c fc)(ha:DSs X E He H0e sa s)(hb:DSs X E He H0e sb t):DS X E He H0e (.If c sa sb pos) (sIf fc s t):=by
 refine⟨?_⟩
 refine zcO (zvb hc.o ha.o hb.o) fun D σ H ⟨H₀,ρ,h,q⟩=>⟨frz He H₀ H,shr ρ,h.frz_le,h.looks,?_⟩
 refine ztS (k:=fun b=>if b=true then s ρ else t ρ) h q fun b H' hs q'=>?_
 cases b with
 | true=>rw[if_pos rfl] at q' ⊢;exact⟨H₀,ρ,h.same hs,q'⟩
 | false=>rw[if_neg Bool.false_ne_true] at q' ⊢;exact⟨H₀,ρ,h.same hs,q'⟩
def tF (K:W.Frag)(E:XK)(f:Ev->Res D):TE:=fun σ H Q=>∃ H₀ ρ,zaT H₀ H/\zfV K H₀ σ ρ/\match f ρ with
 | .ok (.lst ds)=>∀ p vs H' H₀',zbp H H₀ H' H₀'->H p=none->H₀' p=none->H' p=some (.lst vs)->Reps K H₀' ds vs->Q (.ref p) H'
 | .ok _=>False
 | .exn x=>∀ C ox H' H₀',zbp H H₀ H' H₀'->ExR K H₀' x C ox->E C ox H'
 | .stuck=>False
structure DF (X:Cx) (E:XK) (e:Expr) (f:Ev->Res D):Prop where
 o:PE X e (tF X.K E f)
def zsJ (i:Nat)(f:Ev->Res D):Ev->Res Fl:=fun ρ=>(f ρ).bind fun d=>match d with
 | .lst ds=>.ok (.nx (ρ.set i (.ow (.lst ds))))
 | _=>.stuck
theorem zo3 {i:Nat}{x:Str}{pos':Pos}(hN:X.N.Nodup)(hi:X.N[i]?=some x)(hx:Loc X.env.scope x)(he:DF X E e f)(hs:swapsWith e (some (.Name x pos')) pos.line X.env=pure false:=by rfl)
  (hf:X.fn x=true∨X.env.scope.names.lookup x=some .local := by first | exact .inl rfl | exact .inr rfl | assumption):DS X E He H0e (.Assign [.Name x pos'] e pos) (zsJ i f):=by
 refine⟨?_⟩
 refine zcO (zq6 hN hi hx he.o hs hf) fun D σ H ⟨H₀,ρ,h,q⟩=>⟨H₀,ρ,h.g.sub,h.rd,?_⟩
 unfold zsJ at q
 cases e1:f ρ with
 | stuck=>rw[e1] at q;exact q
 | exn x=>rw[e1] at q;exact fun C ox H' H₀' g ex=>q C ox H' H₀' (h.g.trans g) ex
 | ok d =>
  rw[e1] at q
  cases d with
  | lst ds =>
   intro p vs H' H₀' g hp h0 hv rp
   refine q _ H' H₀' g.z ((h.grow g).putOwn (fun j a ej ea d ed=>?_) (h.g.s.free hp) h0 hv rp (h.fresh_x g.s hp))
   subst ea
   obtain⟨a',k1,_,_,k4⟩:=h.ow j d ed
   rw[ej] at k1;cases k1
   cases d with
   | lst ds'=>obtain⟨vs',h5,_⟩:=k4;rw[hp] at h5;cases h5
   | _=>exact k4.elim
  | _=>exact q.elim
theorem zjK (h:DA X E es fa):DF X E (.List es pos) (zal fa zdm):=by
 refine⟨?_⟩
 refine zaX (zq8 h.o) fun σ H Q h=>?_
 obtain⟨H₀,ρ,hs,hr,q⟩:=h
 refine⟨H₀,ρ,hs,hr,?_⟩
 unfold zal at q
 cases e1:fa ρ with
 | stuck=>rw[e1] at q;exact q
 | exn x=>rw[e1] at q;exact q
 | ok ds =>
  rw[e1] at q
  intro vs H1 H01 g1 r1
  replace q:match zdm ds with
   | .ok (.lst ds)=>∀ p vs H' H₀',zbp H H₀ H' H₀'->H p=none->H₀' p=none->H' p=some (.lst vs)->Reps X.K H₀' ds vs->Q (.ref p) H'
   | .ok _=>False
   | .exn x=>∀ C ox H' H₀',zbp H H₀ H' H₀'->ExR X.K H₀' x C ox->E C ox H'
   | .stuck=>False:=q
  unfold zdm at q
  by_cases hl:ds.length<=line
  ·rw[if_pos hl] at q
   refine⟨by rw[← r1.length];exact zc9 hl,fun p hp=>?_⟩
   have h0:H01 p=none:=g1.sub.free hp
   refine q p vs _ H01 (g1.trans ⟨fun b o q=>by rw[zat (zaN q hp)];exact q,zaT.refl _,fun b o q=>?_,fun a h1 h2=>absurd h2 h1⟩) (g1.s.free hp) h0 zas r1
   rw[zat (by intro z;subst z;rw[h0] at q;cases q)];exact g1.sub _ _ q
  ·rw[if_neg hl] at q;exact q.elim
def zlX (ρ:Ev)(i:Nat)(k:List D->Res Fl):Res Fl:=match ρ[i]? with
 | some (.ow (.lst ds))=>k ds
 | _=>.stuck
def zc5 (i:Nat)(f:Ev->Res D):Ev->Res Fl:=fun ρ=>zlX ρ i fun ds=>(f ρ).bind fun d=>if ds.length < line then .ok (.nx (ρ.set i (.ow (.lst (ds++[d]))))) else .stuck
def zpR (i:Nat)(f:Ev->Res D):Ev->Res Fl:=fun ρ=>zlX ρ i fun ds=>(f (shr ρ)).bind fun d=>if zrc d=true/\ds.length < line then .ok (.nx (ρ.set i (.ow (.lst (ds++[d]))))) else .stuck
theorem zp5 {K:W.Frag}{H₀ H:Hp}{σ:L2.St}{ρ:Ev}{i:Nat}{k:List D->Res Fl}{D':zjU}(h:SRx K He H0e H₀ σ H ρ)(q:zcs K E He H0e H₀ (zlX ρ i k) D') :
  ∃ ds p vs,ρ[i]?=some (.ow (.lst ds))/\σ[i]?=some (some (.ref p))/\He p=none/\H₀ p=none/\H p=some (.lst vs)/\Reps K H₀ ds vs/\zcs K E He H0e H₀ (k ds) D':=by
 unfold zlX at q
 cases e:ρ[i]? with
 | none=>rw[e] at q;exact q.elim
 | some s =>
  rw[e] at q
  cases s with
  | no=>exact q.elim
  | sh d=>exact q.elim
  | ox j ds=>exact q.elim
  | ow d =>
   cases d with
   | lst ds =>
    obtain⟨p,h1,h2,h3,vs,h4,h5⟩:=h.ow i _ e
    exact⟨ds,p,vs,rfl,h1,h2,h3,h4,h5,q⟩
   | _=>exact q.elim
theorem zhd {i:Nat}{x:Str}{p1 p2 p3:Pos}(hN:X.N[i]?=some x)(hv:Vis X.env.scope x)(he:DE X E e f)
  (hd:(x==("__debug__" : Str))=false:=by decide)(hcd:(x==("__classdict__" : Str))=false:=by decide)
  (hbase:attributeBase (.Name x p1) "append" X.env (eval (.Name x p1) X.env)=eval (.Name x p1) X.env:=by rfl)
  (hfew:((backTo p3 (starEach [e] X.env)).all (fun x=>!x.1)&&(backToKw p3 (keywordEach [] X.env)).all (fun x=>x.1.isSome)
  &&decide ([e].length+([]:List Keyword).length+(if([]:List Keyword).isEmpty then 0 else 1) < 30))=true:=by exact zik rfl)
  (hline:(p2.endLine==p3.line)=true:=by rfl) (hs:starEach [e] X.env=(false,eval e X.env)::starEach [] X.env:=by exact zaO rfl) (hplain:(backTo p3 (starEach [] X.env)).any (·.1)=false:=by exact zbK rfl)
  (hw:swapsWith (.Call (.Attribute (.Name x p1) "append" p2) [e] [] p3) none pos.line X.env=pure false:=by rfl) :
  DS X E He H0e (.Expr (.Call (.Attribute (.Name x p1) "append" p2) [e] [] p3) pos) (zc5 i f):=by
 refine⟨?_⟩
 refine zcO (zlS (zp4 PySem.F.plainAttrs_list PySem.F.slot_list_append PySem.F.type_list_append zk4 (ziL hN hv hd hcd) (zc7 he.o zgn hs) hbase hfew hline hs hplain) hw) fun D σ H ⟨H₀,ρ,h,q⟩=>?_
 obtain⟨ds,p,vs,e1,e2,e3,e4,e5,e6,q⟩:=zp5 h q
 refine⟨.ref p,e2,.inl ⟨rfl,vs,SqL.of e5⟩,?_⟩
 refine⟨H₀,ρ,h.g.sub,h.rd,plain h q fun d v H' H₀' _ g rp q'=>?_⟩
 by_cases hl:ds.length < line
 ·rw[if_pos hl] at q'
  have e5':H' p=some (.lst vs):=g.s _ _ e5
  refine⟨p,vs,v,rfl,rfl,e5',by rw[← e6.length];exact Nat.lt_of_lt_of_le hl (by decide),?_⟩
  exact q' σ _ H₀' (zaT.refl _) ((h.grow g).write e1 e2 ((e6.mono g.z).app (Reps.cons rp Reps.nil)))
 ·rw[if_neg hl] at q';exact q'.elim
def putAt (ρ:Ev)(i:Nat)(ds:List D)(d:D)(j:D):Res Fl:=match j with
 | .int j=>match ixN ds.length j with
  | some n=>.ok (.nx (ρ.set i (.ow (.lst (ds.set n d)))))
  | none=>.stuck
 | _=>.stuck
def zwp (i:Nat)(f k:Ev->Res D):Ev->Res Fl:=fun ρ=>zlX ρ i fun ds=>(f ρ).bind fun d=>(k ρ).bind fun j=>putAt ρ i ds d j
def zuZ (i:Nat)(f k:Ev->Res D):Ev->Res Fl:=fun ρ=>zlX ρ i fun ds=>(f (shr ρ)).bind fun d=>(k (shr ρ)).bind fun j=>if zrc d=true then putAt ρ i ds d j else .stuck
section
variable {i:Nat}{x:Str}{p1 p2:Pos}{k:Ev->Res D}
end
def zcX (tg:Ev->D->Res Ev)(body:Ev->Res Fl):List D->Ev->Res Fl
 | [],ρ=>.ok (.nx ρ)
 | d::r,ρ=>(tg ρ d).bind fun ρ1=>(body ρ1).bind fun x=>match x with
  | .nx ρ2=>zcX tg body r ρ2
  | .ct ρ2=>zcX tg body r ρ2
  | .bk ρ2=>.ok (.nx ρ2)
  | .rt d=>.ok (.rt d)
def tG (K:W.Frag)(He H0e:Hp)(tg:Ev->D->Res Ev):TG:=fun v σ H Q=>∃ H₀ ρ d,SRx K He H0e H₀ σ H ρ/\Rep K H₀ d v/\match tg ρ d with
  | .ok ρ'=>∀ σ' H' H₀',zaT H₀ H₀'->SRx K He H0e H₀' σ' H' ρ'->Q σ' H'
  | _=>False
structure DG (X:Cx) (E:XK) (He H0e:Hp) (target:Expr) (tg:Ev->D->Res Ev):Prop where
 o:PG X target (tG X.K He H0e tg)
def zdW (i:Nat):Ev->D->Res Ev:=fun ρ d=>.ok (ρ.set i (.sh d))
theorem zlV {tgt:Expr}{t t':TG}(h:PG X tgt t)(w:∀ v σ H Q,t' v σ H Q->t v σ H Q):PG X tgt t':=fun pins s σ H v u Q I r q=>h pins s σ H v u Q I r (w v σ H Q q)
theorem zdJ {i:Nat}{x:Str}(hN:X.N.Nodup)(hi:X.N[i]?=some x)(hx:Loc X.env.scope x)(hf:X.fn x=true∨X.env.scope.names.lookup x=some .local := by first | exact .inl rfl | exact .inr rfl | assumption):DG X E He H0e (.Name x pos) (zdW i) :=
 ⟨zlV (zom hN hi hx hf) fun v σ H Q ⟨H₀,ρ,d,h,rp,q⟩=>q _ H H₀ (zaT.refl _) (h.put rp)⟩
def zgk (K:W.Frag)(E:XK)(He H0e H₁:Hp)(tg:Ev->D->Res Ev)(s:Ev->Res Fl)(ds:List D)(D':zjU)(i:Nat)(σ:L2.St)(H:Hp):Prop :=
 ∃ H₀ ρ,zaT H₁ H₀/\SRx K He H0e H₀ σ H ρ/\zcs K E He H0e H₀ (zcX tg s (ds.drop i) ρ) D'
theorem zgk.step {K:W.Frag}{H₁:Hp}{tg:Ev->D->Res Ev}{ds:List D}{D':zjU}{i:Nat}{σ:L2.St}{H:Hp}{d:D}{v:V}(h:zgk K E He H0e H₁ tg s ds D' i σ H)(hd:ds[i]?=some d)(rv:Rep K H₁ d v)
  (he:∀ ρ,tg ρ d=.stuck∨∃ ρ',tg ρ d=.ok ρ') :
  tG K He H0e tg v σ H fun σ2 H2=>tS K E He H0e s { D' with nx:=zgk K E He H0e H₁ tg s ds D' (i+1),ct:=zgk K E He H0e H₁ tg s ds D' (i+1),bk:=D'.nx } σ2 H2:=by
 obtain⟨H₀,ρ,z,h,q⟩:=h
 have hi:i < ds.length:=(List.getElem?_eq_some_iff.mp hd).1
 have hdr:ds.drop i=d::ds.drop (i+1):=by
  rw[List.drop_eq_getElem_cons hi]
  rw[List.getElem?_eq_getElem hi] at hd
  cases hd;rfl
 rw[hdr] at q
 refine⟨H₀,ρ,d,h,rv.mono z,?_⟩
 unfold zcX at q
 rcases he ρ with e1 | ⟨ρ1,e1⟩
 ·rw[e1] at q;exact q.elim
 ·rw[e1] at q ⊢
  intro σ' H' H₀' z' h'
  refine⟨H₀',ρ1,h',?_⟩
  replace q:=zcs.grow (r:=(s ρ1).bind fun x=>match x with
   | .nx ρ2=>zcX tg s (ds.drop (i+1)) ρ2
   | .ct ρ2=>zcX tg s (ds.drop (i+1)) ρ2
   | .bk ρ2=>.ok (.nx ρ2)
   | .rt d=>.ok (.rt d)) q z'
  cases e2:s ρ1 with
  | stuck=>rw[e2] at q;exact q
  | exn x=>rw[e2] at q;exact q
  | ok r =>
   rw[e2] at q
   cases r with
   | nx ρ2=>exact fun σ3 H3 H03 z3 h3=>⟨H03,ρ2,(z.trans z').trans z3,h3,zcs.grow (r:=zcX tg s (ds.drop (i+1)) ρ2) q z3⟩
   | ct ρ2=>exact fun σ3 H3 H03 z3 h3=>⟨H03,ρ2,(z.trans z').trans z3,h3,zcs.grow (r:=zcX tg s (ds.drop (i+1)) ρ2) q z3⟩
   | bk ρ2=>exact q
   | rt d=>exact q
theorem zgk.done {K:W.Frag}{H₁:Hp}{tg:Ev->D->Res Ev}{ds:List D}{D':zjU}{σ:L2.St}{H:Hp}(h:zgk K E He H0e H₁ tg s ds D' ds.length σ H):D'.nx σ H:=by
 obtain⟨H₀,ρ,z,h,q⟩:=h
 rw[List.drop_length] at q
 unfold zcX at q
 exact q σ H H₀ (zaT.refl _) h
def zpr (tg:Ev->D->Res Ev):Prop:=∀ ρ d,tg ρ d=.stuck∨∃ ρ',tg ρ d=.ok ρ'
theorem zen {i:Nat}:zpr (zdW i):=fun ρ d=>.inr ⟨_,rfl⟩
def zq1 (f:Ev->Res D)(tg:Ev->D->Res Ev)(s:Ev->Res Fl):Ev->Res Fl:=fun ρ=>(f ρ).bind fun d=>match d with
 | .lst ds=>zcX tg s ds ρ
 | _=>.stuck
theorem zre {tgt iter:Expr}{body:List Stmt}{tg:Ev->D->Res Ev}(hp:PassesOwn (model X.prog X.w) X.A X.env X.xe)(hc:X.calm=true)(hi:DE X E iter f)(hg:DG X E He H0e tgt tg)(ht:zpr tg)(hb:DSs X E He H0e body s)
  (hs:∀ x,foldedSetIterable iter X.env x=pure x:=by intro _;rfl):DS X E He H0e (.For tgt iter body [] pos) (zq1 f tg s):=by
 refine⟨?_⟩
 refine zcO (zof hp hc (zol hi.o) hg.o hb.o hs) fun D' σ H ⟨H₀,ρ,h,q⟩=>⟨H₀,ρ,h.g.sub,h.rd,?_⟩
 refine plain h q fun d v H1 H01 _ g rp q1=>?_
 cases d with
 | lst ds =>
  obtain⟨a,vs,rfl,hv,hr⟩:=Rep.lst_iff.mp rp
  refine⟨a,rfl,⟨vs,zaT.sqL g.sub hv⟩,?_⟩
  refine zqs (K:=X.K) (a:=a) (g:=tG X.K He H0e tg) (tb:=tS X.K E He H0e s) (D:=D') (xs:=vs) (zgk X.K E He H0e H01 tg s ds D') ⟨H01,ρ,zaT.refl _,h.grow g,q1⟩ ?_ ?_ ?_
  ·rintro i σ' H' _ ⟨H₀',ρ',z,h',_⟩
   exact zaT.sqL (z.trans h'.g.sub) hv
  ·intro i x σ' H' hx hI
   have hil:i < ds.length:=by rw[hr.length];exact(List.getElem?_eq_some_iff.mp hx).1
   obtain⟨u,e1,e2⟩:=hr.get (List.getElem?_eq_getElem hil)
   rw[hx] at e1;cases e1
   exact hI.step (List.getElem?_eq_getElem hil) e2 fun ρ=>ht ρ _
  ·intro σ' H' hI
   rw[← hr.length] at hI
   exact hI.done
 | _=>exact q1.elim
def intsFrom (lo:Int)(n:Nat):List D:=(List.range n).map fun(k:Nat)=>D.int (lo+(k:Int))
def zkT (f:Ev->Res D)(tg:Ev->D->Res Ev)(s:Ev->Res Fl):Ev->Res Fl:=fun ρ=>(f (shr ρ)).bind fun d=>match d with
 | .int j=>if -4611686018427387904<=j/\j < 4611686018427387904 then zcX tg s (intsFrom 0 j.toNat) ρ else .stuck
 | _=>.stuck
theorem zkn {tgt iter:Expr}{p pos2:Pos}{body:List Stmt}{tg:Ev->D->Res Ev}(hp:PassesOwn (model X.prog X.w) X.A X.env X.xe)(hc:X.calm=true)(hgl:Gl X "range")(hm:X.mg "range"=none)(hi:DE X E iter f)(hg:DG X E He H0e tgt tg)(ht:zpr tg)(hb:DSs X E He H0e body s)
  (hst:starEach [iter] X.env=[(false,eval iter X.env)]:=by exact zf3 rfl)(hs:∀ x,foldedSetIterable (.Call (.Name "range" p) [iter] [] pos2) X.env x=pure x:=by intro _;rfl):DS X E He H0e (.For tgt (.Call (.Name "range" p) [iter] [] pos2) body [] pos) (zkT f tg s):=by
 refine⟨?_⟩
 refine zcO (zof hp hc (zkZ hgl hm (zc7 hi.o zgn hst) hst) hg.o hb.o hs) fun D' σ H ⟨H₀,ρ,h,q⟩=>?_
 refine⟨frz He H₀ H,shr ρ,h.frz_le,h.looks,look h q fun d v H1 J _ g rp q1=>?_⟩
 cases d with
 | int j =>
  rw[Rep.int_iff.mp rp]
  replace q1:zcs X.K E He H0e H₀ (if -4611686018427387904<=j/\j < 4611686018427387904 then zcX tg s (intsFrom 0 j.toNat) ρ else .stuck) D':=q1
  by_cases hj:-4611686018427387904<=j/\j < 4611686018427387904
  ·rw[if_pos hj] at q1
   refine⟨j,rfl,by omega,by omega,?_⟩
   have hlen:(intsFrom 0 j.toNat).length=j.toNat:=by unfold intsFrom;simp
   refine zoS (lo:=0) (n:=j.toNat) (g:=tG X.K He H0e tg) (tb:=tS X.K E He H0e s) (D:=D') (zgk X.K E He H0e H₀ tg s (intsFrom 0 j.toNat) D') ⟨H₀,ρ,zaT.refl _,h.same g.s,q1⟩ ?_ ?_
   ·intro i σ' H' hlt hI
    refine hI.step (d:=.int (0+i)) ?_ (Rep.int_iff.mpr rfl) fun ρ=>ht ρ _
    unfold intsFrom
    simp [hlt]
   ·intro σ' H' hI
    exact zgk.done (ds:=intsFrom 0 j.toNat) (by rw[hlen];exact hI)
  ·rw[if_neg hj] at q1;exact q1.elim
 | _=>exact q1.elim
def zdY (c:Ev->Res D)(s:Ev->Res Fl):Nat->Ev->Res Fl
 | 0,_=>.stuck
 | n+1,ρ=>(c (shr ρ)).bind fun x=>match x with
  | .bl b=>if b=true then(s ρ).bind fun x=>match x with
    | .nx ρ2=>zdY c s n ρ2
    | .ct ρ2=>zdY c s n ρ2
    | .bk ρ2=>.ok (.nx ρ2)
    | .rt d=>.ok (.rt d)
   else .ok (.nx ρ)
  | _=>.stuck
def zkS (fuel:Ev->Nat)(c:Ev->Res D)(s:Ev->Res Fl):Ev->Res Fl:=fun ρ=>zdY c s (fuel ρ) ρ
theorem zmX (fuel:Ev->Nat){c:Expr}{body:List Stmt}{fc:Ev->Res D}(hp:PassesOwn (model X.prog X.w) X.A X.env X.xe)(hc:DT X E c fc)(hb:DSs X E He H0e body s):DS X E He H0e (.While c body [] pos) (zkS fuel fc s):=by
 refine⟨?_⟩
 refine zcO (zpY hp hc.o hb.o) fun D' σ H ⟨H₀,ρ,h,q⟩=>?_
 refine⟨fun m σ H=>∃ H₀ ρ,SRx X.K He H0e H₀ σ H ρ/\zcs X.K E He H0e H₀ (zdY fc s m ρ) D',⟨fuel ρ,H₀,ρ,h,q⟩,?_⟩
 rintro m σ1 H1 ⟨H01,ρ1,h1,q1⟩
 cases m with
 | zero=>exact q1.elim
 | succ m =>
  refine⟨frz He H01 H1,shr ρ1,h1.frz_le,h1.looks,?_⟩
  unfold zdY at q1
  refine ztS (k:=fun b=>if b=true then(s ρ1).bind fun x=>match x with
    | .nx ρ2=>zdY fc s m ρ2
    | .ct ρ2=>zdY fc s m ρ2
    | .bk ρ2=>.ok (.nx ρ2)
    | .rt d=>.ok (.rt d)
   else .ok (.nx ρ1)) h1 q1 fun b H2 hs q2=>?_
  cases b with
  | false =>
   rw[if_neg Bool.false_ne_true] at q2 ⊢
   exact q2 σ1 H2 H01 (zaT.refl _) (h1.same hs)
  | true =>
   rw[if_pos rfl] at q2 ⊢
   refine⟨fun σ' H'=>∃ m',m' < m+1/\∃ H₀ ρ,SRx X.K He H0e H₀ σ' H' ρ/\zcs X.K E He H0e H₀ (zdY fc s m' ρ) D',fun σ' H' z=>z,H01,ρ1,h1.same hs,?_⟩
   cases e2:s ρ1 with
   | stuck=>rw[e2] at q2;exact q2
   | exn x=>rw[e2] at q2;exact q2
   | ok r =>
    rw[e2] at q2
    cases r with
    | nx ρ2=>exact fun σ3 H3 H03 z3 h3=>⟨m,Nat.lt_succ_self _,H03,ρ2,h3,zcs.grow (r:=zdY fc s m ρ2) q2 z3⟩
    | ct ρ2=>exact fun σ3 H3 H03 z3 h3=>⟨m,Nat.lt_succ_self _,H03,ρ2,h3,zcs.grow (r:=zdY fc s m ρ2) q2 z3⟩
    | bk ρ2=>exact q2
    | rt d=>exact q2
end
def zc6 (n:Nat)(s:Ev->Res Fl)(ds:List D):Res D:=(s (ds.map Sl.sh++List.replicate (n-ds.length) .no)).bind fun r=>match r with
 | .nx _=>.ok .non
 | .rt d=>.ok d
 | _=>.stuck
theorem ziI {K:W.Frag}{H₀:Hp}{N:List Str}{ds:List D}{vs:List V}(h:Reps K H₀ ds vs):zfV K H₀ (start N vs) (ds.map Sl.sh++List.replicate (N.length-ds.length) .no):=by
 intro i d e
 have hl:=h.length
 by_cases hi:i < ds.length
 ·rw[List.getElem?_append_left (by simpa using hi),List.getElem?_map] at e
  cases q:ds[i]? with
  | none=>rw[q] at e;cases e
  | some d' =>
   rw[q] at e;cases e
   obtain⟨v,h1,h2⟩:=h.get q
   refine⟨v,?_,h2⟩
   unfold L2.start
   rw[List.getElem?_append_left (by simp;omega),List.getElem?_map,h1]
   rfl
 ·rw[List.getElem?_append_right (by simpa using hi),List.getElem?_replicate] at e
  split at e<;>cases e
theorem zkM {ds:List D}{n:Nat}(i j:Nat)(es:List D):(ds.map Sl.sh++List.replicate n Sl.no)[i]?≠some (.ox j es):=fun e=>by
 have:=List.mem_of_getElem? e
 rw[List.mem_append] at this
 rcases this with h | h
 ·obtain⟨_,_,h⟩:=List.mem_map.mp h;cases h
 ·have:=List.eq_of_mem_replicate h;cases this
theorem zaL {P:Program}{w:World}{K:W.Frag}{mg:Str->Option Value}{base:Heap}{x qual:Str}{st:Stmt}{f:Addr}{fd:FuncData}{N ps:List Str}{k:Nat}{s:Ev->Res Fl}(F:Fun K x qual st f fd)(S:zaM N ps (defScope st))
  (hbody:∀ (cdv:Value) (A:Around) (outer:List PySem.Env) (s0:Shared) (H H₀:Hp) (E:XK),zgV k (A.deeper (envOfC qual (defScope st) s0.heap.objs.size f cdv)) ->
   DSs (zgu CX0 P w K mg base N qual (defScope st) f cdv A outer s0 H E).nox E H H₀ (defBody st) s):zdy P w K mg base CX0 (k+1) f fd ps (spD K ps.length (zc6 N.length s)):=by
 have hpl:ps.length<=N.length:=by have:=congrArg List.length S.pre;rw[List.length_take] at this;omega
 refine F.ok S (fun vs H Q E h=>h.1) fun cdv A outer s0 H vs Q E hr h=>?_
 obtain⟨hn,H₀,ds,hs,hv,q⟩:=h
 refine⟨_,(hbody cdv A outer s0 H H₀ E hr).o,H₀,ds.map Sl.sh++List.replicate (N.length-ds.length) .no,?_,?_⟩
 ·refine⟨zbp.refl hs,ziI hv,fun i d e=>?_,fun i j d d' hij e=>?_,?_,OX.none zkM⟩
  ·by_cases hi:i < ds.length
   ·rw[List.getElem?_append_left (by simpa using hi),List.getElem?_map] at e
    cases q:ds[i]? with
    | none=>rw[q] at e;cases e
    | some d'=>rw[q] at e;cases e
   ·rw[List.getElem?_append_right (by simpa using hi),List.getElem?_replicate] at e
    split at e<;>cases e
  ·by_cases hi:i < ds.length
   ·rw[List.getElem?_append_left (by simpa using hi),List.getElem?_map] at e
    cases q:ds[i]? with
    | none=>rw[q] at e;cases e
    | some d'=>rw[q] at e;cases e
   ·rw[List.getElem?_append_right (by simpa using hi),List.getElem?_replicate] at e
    split at e<;>cases e
  ·unfold L2.start
   have:=hv.length
   simp only[List.length_append,List.length_map,List.length_replicate]
   omega
 ·unfold zc6 at q
  cases e1:s (ds.map Sl.sh++List.replicate (N.length-ds.length) .no) with
  | stuck=>rw[e1] at q;exact q
  | exn x=>rw[e1] at q;exact q
  | ok r =>
   rw[e1] at q
   cases r with
   | nx ρ'=>exact fun σ' H' H₀' _ h'=>q .non H' H₀' h'.g (Rep.non_iff.mpr rfl)
   | rt d=>exact fun v H' H₀' g rp=>q v H' H₀' g rp
   | bk ρ'=>exact q.elim
   | ct ρ'=>exact q.elim
mutual
def eqD:D->D->Bool
 | .non,.non=>true
 | .bl a,.bl b=>a==b
 | .bl a,.int b=>(if a then 1 else 0)==b
 | .int a,.bl b=>a==(if b then 1 else 0)
 | .int a,.int b=>a==b
 | .str a,.str b=>a==b
 | .tup xs,.tup ys=>eqDs xs ys
 | .lst xs,.lst ys=>eqDs xs ys
 | _,_=>false
def eqDs:List D->List D->Bool
 | [],[]=>true
 | x::xs,y::ys=>eqD x y&&eqDs xs ys
 | _,_=>false
end
def zba:Nat->D->Bool
 | _,.non=>true
 | _,.bl _=>true
 | _,.int _=>true
 | _,.str _=>true
 | n+1,.tup ds=>ds.all (zba n)
 | n+1,.lst ds=>ds.all (zba n)
 | _,_=>false
theorem zlg {ds:List D}(h:∀ d∈ds,eqD d d=true):eqDs ds ds=true:=by
 induction ds with
 | nil=>simp [eqDs]
 | cons d r ih =>
  unfold eqDs
  rw[h d List.mem_cons_self,ih fun x hx=>h x (List.mem_cons_of_mem _ hx)]
  rfl
theorem zeR:∀ (n:Nat) (d:D),zba n d=true->eqD d d=true
 | _,.non,_=>by simp [eqD]
 | _,.bl b,_=>by simp [eqD]
 | _,.int b,_=>by simp [eqD]
 | _,.str b,_=>by simp [eqD]
 | n+1,.tup ds,h=>by
  unfold zba at h
  unfold eqD
  exact zlg fun d hd=>zeR n d (List.all_eq_true.mp h d hd)
 | n+1,.lst ds,h=>by
  unfold zba at h
  unfold eqD
  exact zlg fun d hd=>zeR n d (List.all_eq_true.mp h d hd)
 | 0,.tup ds,h=>by unfold zba at h;cases h
 | 0,.lst ds,h=>by unfold zba at h;cases h
 | 0,.dic ks ds,h=>by unfold zba at h;cases h
 | n+1,.dic ks ds,h=>by unfold zba at h;cases h
 | 0,.exc x,h=>by unfold zba at h;cases h
 | 0,.ob k x,h=>by unfold zba at h;cases h
 | n+1,.ob k x,h=>by unfold zba at h;cases h
 | n+1,.exc x,h=>by unfold zba at h;cases h
theorem zsr {xs ys:List D}:eqD (.tup xs) (.tup ys)=eqDs xs ys:=by rw[eqD]
theorem zmc {xs ys:List D}:eqD (.lst xs) (.lst ys)=eqDs xs ys:=by rw[eqD]
theorem zhv:∀ (xs ys:List D),xs.length=ys.length->eqDs xs ys=(List.range xs.length).all fun j=>eqD (xs.getD j .non) (ys.getD j .non)
 | [],[],_=>by simp [eqDs]
 | x::xs,y::ys,h=>by
  have ih:=zhv xs ys (by simpa using h)
  unfold eqDs
  rw[ih,List.length_cons,List.range_succ_eq_map,List.all_cons,List.all_map]
  rfl
 | [],_::_,h=>by simp at h
 | _::_,[],h=>by simp at h
theorem zil:∀ (xs ys:List D),xs.length≠ys.length->eqDs xs ys=false
 | [],[],h=>absurd rfl h
 | x::xs,y::ys,h=>by
  unfold eqDs
  rw[zil xs ys (by simpa using h),Bool.and_false]
 | [],_::_,h=>by simp [eqDs]
 | _::_,[],h=>by simp [eqDs]
section
variable {X:Cx}{pins:List (Addr×Obj)}{σ:L2.St}{H:Hp}{s:Shared}
theorem Rep.tup_get (I:Inv X pins σ H s){ds:List D}{v:V}{u:Value}(r:Rep X.K H (.tup ds) v)(rv:zcz v u):∃ a vs its,v=.ref a/\u=.ref a/\SqT X.K H a vs/\Reps X.K H ds vs/\zb0 vs its/\IsTup s.heap a its.toArray/\ds.length=its.length:=by
 obtain⟨a,vs,rfl,h1,h2⟩:=Rep.tup_iff.mp r
 obtain rfl:u=Value.ref a:=rv
 obtain⟨its,h3,h4,_⟩:=I.tuple h1
 exact⟨a,vs,its,rfl,rfl,h1,h2,h3,h4,h2.length.trans h3.length⟩
theorem Rep.lst_get (I:Inv X pins σ H s){ds:List D}{v:V}{u:Value}(r:Rep X.K H (.lst ds) v)(rv:zcz v u):∃ a vs its,v=.ref a/\u=.ref a/\SqL X.K H a vs/\Reps X.K H ds vs/\zb0 vs its/\s.heap.IsList a its.toArray/\ds.length=its.length:=by
 obtain⟨a,vs,rfl,h1,h2⟩:=Rep.lst_iff.mp r
 obtain rfl:u=Value.ref a:=rv
 obtain⟨its,h3,h4,_⟩:=I.list h1
 exact⟨a,vs,its,rfl,rfl,h1,h2,h3,h4.isList,h2.length.trans h3.length⟩
theorem zj5 {n:Nat}(ih:∀ (d d':D) (v:V),zba n d=true->zba n d'=true->Rep X.K H d v->Rep X.K H d' v->d=d'):∀ (ds ds':List D) (vs:List V),ds.all (zba n)=true->ds'.all (zba n)=true->Reps X.K H ds vs->Reps X.K H ds' vs->ds=ds'
 | [],ds',vs,_,_,h,h'=>by
  rw[Reps.nil_iff.mp h] at h'
  cases ds' with
  | nil=>rfl
  | cons d r=>obtain⟨_,_,e,_⟩:=Reps.cons_iff.mp h';cases e
 | d::ds,ds',vs,a,a',h,h'=>by
  obtain⟨v,r,rfl,h1,h2⟩:=Reps.cons_iff.mp h
  cases ds' with
  | nil=>cases Reps.nil_iff.mp h'
  | cons d' ds' =>
   obtain⟨v',r',e,h1',h2'⟩:=Reps.cons_iff.mp h'
   cases e
   rw[List.all_cons,Bool.and_eq_true] at a a'
   rw[ih d d' v a.1 a'.1 h1 h1',zj5 ih ds ds' r a.2 a'.2 h2 h2']
theorem Rep.inj (I:Inv X pins σ H s):∀ (n:Nat) (d d':D) (v:V),zba n d=true->zba n d'=true->Rep X.K H d v->Rep X.K H d' v->d=d':=by
 have atom:∀ (n:Nat) (d d':D) (v:V),(∀ ds,d≠.tup ds)->(∀ ds,d≠.lst ds)->zba n d=true->zba n d'=true->Rep X.K H d v->Rep X.K H d' v->d=d':=by
  intro n d d' v n1 n2 s1 s2 h h'
  have nd:∀ m ks ds,zba m (.dic ks ds)=true->False:=fun m ks ds h=>by cases m<;>(unfold zba at h;cases h)
  have nx:∀ m x,zba m (.exc x)=true->False:=fun m x h=>by cases m<;>(unfold zba at h;cases h)
  have nb:∀ m k x,zba m (.ob k x)=true->False:=fun m k x h=>by cases m<;>(unfold zba at h;cases h)
  cases d with
  | tup ds=>exact absurd rfl (n1 ds)
  | lst ds=>exact absurd rfl (n2 ds)
  | dic ks ds=>exact(nd _ _ _ s1).elim
  | exc x=>exact(nx _ _ s1).elim
  | ob k x=>exact(nb _ _ _ s1).elim
  | non =>
   rw[Rep.non_iff.mp h] at h'
   cases d' with
   | non=>rfl
   | bl b=>cases Rep.bl_iff.mp h'
   | int b=>cases Rep.int_iff.mp h'
   | str b=>cases Rep.str_iff.mp h'
   | tup ds=>obtain⟨_,_,e,_⟩:=Rep.tup_iff.mp h';cases e
   | lst ds=>obtain⟨_,_,e,_⟩:=Rep.lst_iff.mp h';cases e
   | dic ks ds=>exact(nd _ _ _ s2).elim
   | exc x=>exact(nx _ _ s2).elim
   | ob k x=>exact(nb _ _ _ s2).elim
  | bl x =>
   rw[Rep.bl_iff.mp h] at h'
   cases d' with
   | non=>cases Rep.non_iff.mp h'
   | bl b=>cases Rep.bl_iff.mp h';rfl
   | int b=>cases Rep.int_iff.mp h'
   | str b=>cases Rep.str_iff.mp h'
   | tup ds=>obtain⟨_,_,e,_⟩:=Rep.tup_iff.mp h';cases e
   | lst ds=>obtain⟨_,_,e,_⟩:=Rep.lst_iff.mp h';cases e
   | dic ks ds=>exact(nd _ _ _ s2).elim
   | exc x=>exact(nx _ _ s2).elim
   | ob k x=>exact(nb _ _ _ s2).elim
  | int x =>
   rw[Rep.int_iff.mp h] at h'
   cases d' with
   | non=>cases Rep.non_iff.mp h'
   | bl b=>cases Rep.bl_iff.mp h'
   | int b=>cases Rep.int_iff.mp h';rfl
   | str b=>cases Rep.str_iff.mp h'
   | tup ds=>obtain⟨_,_,e,_⟩:=Rep.tup_iff.mp h';cases e
   | lst ds=>obtain⟨_,_,e,_⟩:=Rep.lst_iff.mp h';cases e
   | dic ks ds=>exact(nd _ _ _ s2).elim
   | exc x=>exact(nx _ _ s2).elim
   | ob k x=>exact(nb _ _ _ s2).elim
  | str x =>
   rw[Rep.str_iff.mp h] at h'
   cases d' with
   | non=>cases Rep.non_iff.mp h'
   | bl b=>cases Rep.bl_iff.mp h'
   | int b=>cases Rep.int_iff.mp h'
   | str b=>cases Rep.str_iff.mp h';rfl
   | tup ds=>obtain⟨_,_,e,_⟩:=Rep.tup_iff.mp h';cases e
   | lst ds=>obtain⟨_,_,e,_⟩:=Rep.lst_iff.mp h';cases e
   | dic ks ds=>exact(nd _ _ _ s2).elim
   | exc x=>exact(nx _ _ s2).elim
   | ob k x=>exact(nb _ _ _ s2).elim
 intro n
 induction n with
 | zero =>
  intro d d' v s1 s2 h h'
  exact atom 0 d d' v (fun ds e=>by subst e;unfold zba at s1;cases s1) (fun ds e=>by subst e;unfold zba at s1;cases s1) s1 s2 h h'
 | succ n ih =>
  intro d d' v s1 s2 h h'
  by_cases t1:∃ ds,d=.tup ds
  ·obtain⟨ds,rfl⟩:=t1
   by_cases t2:∃ ds',d'=.tup ds'
   ·obtain⟨ds',rfl⟩:=t2
    obtain⟨a,vs,rfl,h1,h2⟩:=Rep.tup_iff.mp h
    obtain⟨a',vs',e,h1',h2'⟩:=Rep.tup_iff.mp h'
    cases e
    rw[I.tuple_inj h1' h1] at h2'
    unfold zba at s1 s2
    rw[zj5 ih ds ds' vs s1 s2 h2 h2']
   ·by_cases t3:∃ ds',d'=.lst ds'
    ·obtain⟨ds',rfl⟩:=t3
     obtain⟨a0,_,ev,_,_⟩:=Rep.tup_iff.mp h;subst ev
     obtain⟨a,vs,its,ea,_,h1,h2,h3,h4,_⟩:=Rep.tup_get I h rfl;cases ea
     obtain⟨a',vs',its',e,_,h1',h2',h3',h4',_⟩:=Rep.lst_get I h' rfl
     cases e
     exact absurd rfl (SeqAt.ne_of_list_tuple h4' h4)
    ·exact(atom (n+1) d' _ v (fun ds e=>t2 ⟨ds,e⟩) (fun ds e=>t3 ⟨ds,e⟩) s2 s1 h' h).symm
  ·by_cases t1':∃ ds,d=.lst ds
   ·obtain⟨ds,rfl⟩:=t1'
    by_cases t2:∃ ds',d'=.lst ds'
    ·obtain⟨ds',rfl⟩:=t2
     obtain⟨a,vs,rfl,h1,h2⟩:=Rep.lst_iff.mp h
     obtain⟨a',vs',e,h1',h2'⟩:=Rep.lst_iff.mp h'
     cases e
     rw[I.list_inj h1' h1] at h2'
     unfold zba at s1 s2
     rw[zj5 ih ds ds' vs s1 s2 h2 h2']
    ·by_cases t3:∃ ds',d'=.tup ds'
     ·obtain⟨ds',rfl⟩:=t3
      obtain⟨a0,_,ev,_,_⟩:=Rep.lst_iff.mp h;subst ev
      obtain⟨a,vs,its,ea,_,h1,h2,h3,h4,_⟩:=Rep.lst_get I h rfl;cases ea
      obtain⟨a',vs',its',e,_,h1',h2',h3',h4',_⟩:=Rep.tup_get I h' rfl
      cases e
      exact absurd rfl (SeqAt.ne_of_list_tuple h4 h4')
     ·exact(atom (n+1) d' _ v (fun ds e=>t3 ⟨ds,e⟩) (fun ds e=>t2 ⟨ds,e⟩) s2 s1 h' h).symm
   ·exact atom (n+1) d d' v (fun ds e=>t1 ⟨ds,e⟩) (fun ds e=>t1' ⟨ds,e⟩) s1 s2 h h'
theorem zmL {n:Nat}{A:Around}{xs ys:List D}{vs us:List V}{is js:List Value}
  (ih:∀ (x y:D) (v u:V) (a b:Value),zba n x=true->zba n y=true->Rep X.K H x v->Rep X.K H y u->zcz v a->zcz u b->SeqAt.EqAt A.in1 s a b (eqD x y))
  (sx:xs.all (zba n)=true)(sy:ys.all (zba n)=true)(rx:Reps X.K H xs vs)(ry:Reps X.K H ys us)(qx:zb0 vs is)(qy:zb0 us js) :
  ∀ j (h1:j < is.toArray.size) (h2:j < js.toArray.size),SeqAt.EqAt A.in1 s is.toArray[j] js.toArray[j] (eqD (xs.getD j .non) (ys.getD j .non)):=by
 intro j h1 h2
 have lx:=rx.length
 have ly:=ry.length
 have kx:=qx.length
 have ky:=qy.length
 have h1':j < is.length:=by simpa using h1
 have h2':j < js.length:=by simpa using h2
 have hx:j < xs.length:=by omega
 have hy:j < ys.length:=by omega
 obtain⟨v,e1,r1⟩:=rx.get (List.getElem?_eq_getElem hx)
 obtain⟨u,e2,r2⟩:=ry.get (List.getElem?_eq_getElem hy)
 obtain⟨a,e3,r3⟩:=qx.get e1
 obtain⟨b,e4,r4⟩:=qy.get e2
 have ea:is.toArray[j]=a:=by
  rw[List.getElem?_eq_getElem h1'] at e3
  simpa using Option.some.inj e3
 have eb:js.toArray[j]=b:=by
  rw[List.getElem?_eq_getElem h2'] at e4
  simpa using Option.some.inj e4
 rw[ea,eb]
 have gx:xs.getD j .non=xs[j]:=by simp [List.getD,List.getElem?_eq_getElem hx]
 have gy:ys.getD j .non=ys[j]:=by simp [List.getD,List.getElem?_eq_getElem hy]
 rw[gx,gy]
 exact ih _ _ v u a b (List.all_eq_true.mp sx _ (List.getElem_mem hx)) (List.all_eq_true.mp sy _ (List.getElem_mem hy)) r1 r2 r3 r4
theorem zmz (I:Inv X pins σ H s){A:Around}(hu:A.units < cLine){x y:D}{v u:V}{a b:Value}(rx:Rep X.K H x v)(ry:Rep X.K H y u)(qx:zcz v a)(qy:zcz u b)
  (n1:∀ ds ds',¬ (x=.lst ds/\y=.lst ds'))(n2:∀ ds ds',¬ (x=.tup ds/\y=.tup ds'))(d1:∀ ks ds,x≠.dic ks ds)(d2:∀ ks ds,y≠.dic ks ds)(x1:∀ c,x≠.exc c)(x2:∀ c,y≠.exc c)(o1:∀ k c,x≠.ob k c)(o2:∀ k c,y≠.ob k c) :
  SeqAt.RcAt A s a b (eqD x y)/\SeqAt.EqAt A s a b (eqD x y)/\SeqAt.RcNeAt A s a b (!(eqD x y)):=by
 cases x with
 | non =>
  cases y with
  | non =>
   obtain rfl:=Rep.non_iff.mp rx;obtain rfl:a=Value.none:=qx
   obtain rfl:=Rep.non_iff.mp ry;obtain rfl:b=Value.none:=qy
   unfold eqD
   exact⟨SeqAt.RcAt.none_none ,SeqAt.EqAt.same _,SeqAt.RcNeAt.none_none ⟩
  | bl y =>
   obtain rfl:=Rep.non_iff.mp rx;obtain rfl:a=Value.none:=qx
   obtain rfl:=Rep.bl_iff.mp ry;obtain rfl:b=Value.bool _:=qy
   unfold eqD
   exact⟨SeqAt.RcAt.none_bool _,SeqAt.EqAt.none_bool _,SeqAt.RcNeAt.none_bool _⟩
  | int y =>
   obtain rfl:=Rep.non_iff.mp rx;obtain rfl:a=Value.none:=qx
   obtain rfl:=Rep.int_iff.mp ry;obtain⟨ty,rfl⟩:∃ t,b=Value.int _ t:=qy
   unfold eqD
   exact⟨SeqAt.RcAt.none_int _ _,SeqAt.EqAt.none_int _ _,SeqAt.RcNeAt.none_int _ _⟩
  | str y =>
   obtain rfl:=Rep.non_iff.mp rx;obtain rfl:a=Value.none:=qx
   obtain rfl:=Rep.str_iff.mp ry;obtain⟨ty,rfl⟩:∃ t,b=Value.str _ t:=qy
   unfold eqD
   exact⟨SeqAt.RcAt.none_str _ _,SeqAt.EqAt.none_str _ _,SeqAt.RcNeAt.none_str _ _⟩
  | lst y =>
   obtain rfl:=Rep.non_iff.mp rx;obtain rfl:a=Value.none:=qx
   obtain⟨ly,_,_,rfl,rfl,_,_,_,hy,_⟩:=Rep.lst_get I ry qy
   unfold eqD
   exact⟨SeqAt.RcAt.none_list  hy hu,SeqAt.EqAt.none_list  hy hu,SeqAt.RcNeAt.none_list  hy hu⟩
  | tup y =>
   obtain rfl:=Rep.non_iff.mp rx;obtain rfl:a=Value.none:=qx
   obtain⟨ly,_,_,rfl,rfl,_,_,_,hy,_⟩:=Rep.tup_get I ry qy
   unfold eqD
   exact⟨SeqAt.RcAt.none_tuple  hy hu,SeqAt.EqAt.none_tuple  hy hu,SeqAt.RcNeAt.none_tuple  hy hu⟩
  | dic ks ds=>exact absurd rfl (d2 ks ds)
  | exc c=>exact absurd rfl (x2 c)
  | ob k c=>exact absurd rfl (o2 k c)
 | bl x =>
  cases y with
  | non =>
   obtain rfl:=Rep.bl_iff.mp rx;obtain rfl:a=Value.bool _:=qx
   obtain rfl:=Rep.non_iff.mp ry;obtain rfl:b=Value.none:=qy
   unfold eqD
   exact⟨SeqAt.RcAt.bool_none _,SeqAt.EqAt.bool_none _,SeqAt.RcNeAt.bool_none _⟩
  | bl y =>
   obtain rfl:=Rep.bl_iff.mp rx;obtain rfl:a=Value.bool _:=qx
   obtain rfl:=Rep.bl_iff.mp ry;obtain rfl:b=Value.bool _:=qy
   unfold eqD
   exact⟨SeqAt.RcAt.bool_bool _ _,SeqAt.EqAt.bool_bool _ _,SeqAt.RcNeAt.bool_bool _ _⟩
  | int y =>
   obtain rfl:=Rep.bl_iff.mp rx;obtain rfl:a=Value.bool _:=qx
   obtain rfl:=Rep.int_iff.mp ry;obtain⟨ty,rfl⟩:∃ t,b=Value.int _ t:=qy
   unfold eqD
   exact⟨SeqAt.RcAt.bool_int _ _ _,SeqAt.EqAt.bool_int _ _ _,SeqAt.RcNeAt.bool_int _ _ _⟩
  | str y =>
   obtain rfl:=Rep.bl_iff.mp rx;obtain rfl:a=Value.bool _:=qx
   obtain rfl:=Rep.str_iff.mp ry;obtain⟨ty,rfl⟩:∃ t,b=Value.str _ t:=qy
   unfold eqD
   exact⟨SeqAt.RcAt.bool_str _ _ _,SeqAt.EqAt.bool_str _ _ _,SeqAt.RcNeAt.bool_str _ _ _⟩
  | lst y =>
   obtain rfl:=Rep.bl_iff.mp rx;obtain rfl:a=Value.bool _:=qx
   obtain⟨ly,_,_,rfl,rfl,_,_,_,hy,_⟩:=Rep.lst_get I ry qy
   unfold eqD
   exact⟨SeqAt.RcAt.bool_list _ hy hu,SeqAt.EqAt.bool_list _ hy hu,SeqAt.RcNeAt.bool_list _ hy hu⟩
  | tup y =>
   obtain rfl:=Rep.bl_iff.mp rx;obtain rfl:a=Value.bool _:=qx
   obtain⟨ly,_,_,rfl,rfl,_,_,_,hy,_⟩:=Rep.tup_get I ry qy
   unfold eqD
   exact⟨SeqAt.RcAt.bool_tuple _ hy hu,SeqAt.EqAt.bool_tuple _ hy hu,SeqAt.RcNeAt.bool_tuple _ hy hu⟩
  | dic ks ds=>exact absurd rfl (d2 ks ds)
  | exc c=>exact absurd rfl (x2 c)
  | ob k c=>exact absurd rfl (o2 k c)
 | int x =>
  cases y with
  | non =>
   obtain rfl:=Rep.int_iff.mp rx;obtain⟨tx,rfl⟩:∃ t,a=Value.int _ t:=qx
   obtain rfl:=Rep.non_iff.mp ry;obtain rfl:b=Value.none:=qy
   unfold eqD
   exact⟨SeqAt.RcAt.int_none _ _,SeqAt.EqAt.int_none _ _,SeqAt.RcNeAt.int_none _ _⟩
  | bl y =>
   obtain rfl:=Rep.int_iff.mp rx;obtain⟨tx,rfl⟩:∃ t,a=Value.int _ t:=qx
   obtain rfl:=Rep.bl_iff.mp ry;obtain rfl:b=Value.bool _:=qy
   unfold eqD
   exact⟨SeqAt.RcAt.int_bool _ _ _,SeqAt.EqAt.int_bool _ _ _,SeqAt.RcNeAt.int_bool _ _ _⟩
  | int y =>
   obtain rfl:=Rep.int_iff.mp rx;obtain⟨tx,rfl⟩:∃ t,a=Value.int _ t:=qx
   obtain rfl:=Rep.int_iff.mp ry;obtain⟨ty,rfl⟩:∃ t,b=Value.int _ t:=qy
   unfold eqD
   exact⟨SeqAt.RcAt.int_int _ _ _ _,SeqAt.EqAt.int_int _ _ _ _,SeqAt.RcNeAt.int_int _ _ _ _⟩
  | str y =>
   obtain rfl:=Rep.int_iff.mp rx;obtain⟨tx,rfl⟩:∃ t,a=Value.int _ t:=qx
   obtain rfl:=Rep.str_iff.mp ry;obtain⟨ty,rfl⟩:∃ t,b=Value.str _ t:=qy
   unfold eqD
   exact⟨SeqAt.RcAt.int_str _ _ _ _,SeqAt.EqAt.int_str _ _ _ _,SeqAt.RcNeAt.int_str _ _ _ _⟩
  | lst y =>
   obtain rfl:=Rep.int_iff.mp rx;obtain⟨tx,rfl⟩:∃ t,a=Value.int _ t:=qx
   obtain⟨ly,_,_,rfl,rfl,_,_,_,hy,_⟩:=Rep.lst_get I ry qy
   unfold eqD
   exact⟨SeqAt.RcAt.int_list _ _ hy hu,SeqAt.EqAt.int_list _ _ hy hu,SeqAt.RcNeAt.int_list _ _ hy hu⟩
  | tup y =>
   obtain rfl:=Rep.int_iff.mp rx;obtain⟨tx,rfl⟩:∃ t,a=Value.int _ t:=qx
   obtain⟨ly,_,_,rfl,rfl,_,_,_,hy,_⟩:=Rep.tup_get I ry qy
   unfold eqD
   exact⟨SeqAt.RcAt.int_tuple _ _ hy hu,SeqAt.EqAt.int_tuple _ _ hy hu,SeqAt.RcNeAt.int_tuple _ _ hy hu⟩
  | dic ks ds=>exact absurd rfl (d2 ks ds)
  | exc c=>exact absurd rfl (x2 c)
  | ob k c=>exact absurd rfl (o2 k c)
 | str x =>
  cases y with
  | non =>
   obtain rfl:=Rep.str_iff.mp rx;obtain⟨tx,rfl⟩:∃ t,a=Value.str _ t:=qx
   obtain rfl:=Rep.non_iff.mp ry;obtain rfl:b=Value.none:=qy
   unfold eqD
   exact⟨SeqAt.RcAt.str_none _ _,SeqAt.EqAt.str_none _ _,SeqAt.RcNeAt.str_none _ _⟩
  | bl y =>
   obtain rfl:=Rep.str_iff.mp rx;obtain⟨tx,rfl⟩:∃ t,a=Value.str _ t:=qx
   obtain rfl:=Rep.bl_iff.mp ry;obtain rfl:b=Value.bool _:=qy
   unfold eqD
   exact⟨SeqAt.RcAt.str_bool _ _ _,SeqAt.EqAt.str_bool _ _ _,SeqAt.RcNeAt.str_bool _ _ _⟩
  | int y =>
   obtain rfl:=Rep.str_iff.mp rx;obtain⟨tx,rfl⟩:∃ t,a=Value.str _ t:=qx
   obtain rfl:=Rep.int_iff.mp ry;obtain⟨ty,rfl⟩:∃ t,b=Value.int _ t:=qy
   unfold eqD
   exact⟨SeqAt.RcAt.str_int _ _ _ _,SeqAt.EqAt.str_int _ _ _ _,SeqAt.RcNeAt.str_int _ _ _ _⟩
  | str y =>
   obtain rfl:=Rep.str_iff.mp rx;obtain⟨tx,rfl⟩:∃ t,a=Value.str _ t:=qx
   obtain rfl:=Rep.str_iff.mp ry;obtain⟨ty,rfl⟩:∃ t,b=Value.str _ t:=qy
   unfold eqD
   exact⟨SeqAt.RcAt.str_str _ _ _ _,SeqAt.EqAt.str_str _ _ _ _,SeqAt.RcNeAt.str_str _ _ _ _⟩
  | lst y =>
   obtain rfl:=Rep.str_iff.mp rx;obtain⟨tx,rfl⟩:∃ t,a=Value.str _ t:=qx
   obtain⟨ly,_,_,rfl,rfl,_,_,_,hy,_⟩:=Rep.lst_get I ry qy
   unfold eqD
   exact⟨SeqAt.RcAt.str_list _ _ hy hu,SeqAt.EqAt.str_list _ _ hy hu,SeqAt.RcNeAt.str_list _ _ hy hu⟩
  | tup y =>
   obtain rfl:=Rep.str_iff.mp rx;obtain⟨tx,rfl⟩:∃ t,a=Value.str _ t:=qx
   obtain⟨ly,_,_,rfl,rfl,_,_,_,hy,_⟩:=Rep.tup_get I ry qy
   unfold eqD
   exact⟨SeqAt.RcAt.str_tuple _ _ hy hu,SeqAt.EqAt.str_tuple _ _ hy hu,SeqAt.RcNeAt.str_tuple _ _ hy hu⟩
  | dic ks ds=>exact absurd rfl (d2 ks ds)
  | exc c=>exact absurd rfl (x2 c)
  | ob k c=>exact absurd rfl (o2 k c)
 | lst x =>
  cases y with
  | non =>
   obtain⟨lx,_,_,rfl,rfl,_,_,_,hx,_⟩:=Rep.lst_get I rx qx
   obtain rfl:=Rep.non_iff.mp ry;obtain rfl:b=Value.none:=qy
   unfold eqD
   exact⟨SeqAt.RcAt.list_none  hx hu,SeqAt.EqAt.list_none  hx hu,SeqAt.RcNeAt.list_none  hx hu⟩
  | bl y =>
   obtain⟨lx,_,_,rfl,rfl,_,_,_,hx,_⟩:=Rep.lst_get I rx qx
   obtain rfl:=Rep.bl_iff.mp ry;obtain rfl:b=Value.bool _:=qy
   unfold eqD
   exact⟨SeqAt.RcAt.list_bool _ hx hu,SeqAt.EqAt.list_bool _ hx hu,SeqAt.RcNeAt.list_bool _ hx hu⟩
  | int y =>
   obtain⟨lx,_,_,rfl,rfl,_,_,_,hx,_⟩:=Rep.lst_get I rx qx
   obtain rfl:=Rep.int_iff.mp ry;obtain⟨ty,rfl⟩:∃ t,b=Value.int _ t:=qy
   unfold eqD
   exact⟨SeqAt.RcAt.list_int _ _ hx hu,SeqAt.EqAt.list_int _ _ hx hu,SeqAt.RcNeAt.list_int _ _ hx hu⟩
  | str y =>
   obtain⟨lx,_,_,rfl,rfl,_,_,_,hx,_⟩:=Rep.lst_get I rx qx
   obtain rfl:=Rep.str_iff.mp ry;obtain⟨ty,rfl⟩:∃ t,b=Value.str _ t:=qy
   unfold eqD
   exact⟨SeqAt.RcAt.list_str _ _ hx hu,SeqAt.EqAt.list_str _ _ hx hu,SeqAt.RcNeAt.list_str _ _ hx hu⟩
  | lst y =>
   exact absurd ⟨rfl,rfl⟩ (n1 x y)
  | tup y =>
   obtain⟨lx,_,_,rfl,rfl,_,_,_,hx,_⟩:=Rep.lst_get I rx qx
   obtain⟨ly,_,_,rfl,rfl,_,_,_,hy,_⟩:=Rep.tup_get I ry qy
   unfold eqD
   exact⟨SeqAt.RcAt.list_tuple  hx hy hu,SeqAt.EqAt.list_tuple  hx hy hu,SeqAt.RcNeAt.list_tuple  hx hy hu⟩
  | dic ks ds=>exact absurd rfl (d2 ks ds)
  | exc c=>exact absurd rfl (x2 c)
  | ob k c=>exact absurd rfl (o2 k c)
 | tup x =>
  cases y with
  | non =>
   obtain⟨lx,_,_,rfl,rfl,_,_,_,hx,_⟩:=Rep.tup_get I rx qx
   obtain rfl:=Rep.non_iff.mp ry;obtain rfl:b=Value.none:=qy
   unfold eqD
   exact⟨SeqAt.RcAt.tuple_none  hx hu,SeqAt.EqAt.tuple_none  hx hu,SeqAt.RcNeAt.tuple_none  hx hu⟩
  | bl y =>
   obtain⟨lx,_,_,rfl,rfl,_,_,_,hx,_⟩:=Rep.tup_get I rx qx
   obtain rfl:=Rep.bl_iff.mp ry;obtain rfl:b=Value.bool _:=qy
   unfold eqD
   exact⟨SeqAt.RcAt.tuple_bool _ hx hu,SeqAt.EqAt.tuple_bool _ hx hu,SeqAt.RcNeAt.tuple_bool _ hx hu⟩
  | int y =>
   obtain⟨lx,_,_,rfl,rfl,_,_,_,hx,_⟩:=Rep.tup_get I rx qx
   obtain rfl:=Rep.int_iff.mp ry;obtain⟨ty,rfl⟩:∃ t,b=Value.int _ t:=qy
   unfold eqD
   exact⟨SeqAt.RcAt.tuple_int _ _ hx hu,SeqAt.EqAt.tuple_int _ _ hx hu,SeqAt.RcNeAt.tuple_int _ _ hx hu⟩
  | str y =>
   obtain⟨lx,_,_,rfl,rfl,_,_,_,hx,_⟩:=Rep.tup_get I rx qx
   obtain rfl:=Rep.str_iff.mp ry;obtain⟨ty,rfl⟩:∃ t,b=Value.str _ t:=qy
   unfold eqD
   exact⟨SeqAt.RcAt.tuple_str _ _ hx hu,SeqAt.EqAt.tuple_str _ _ hx hu,SeqAt.RcNeAt.tuple_str _ _ hx hu⟩
  | lst y =>
   obtain⟨lx,_,_,rfl,rfl,_,_,_,hx,_⟩:=Rep.tup_get I rx qx
   obtain⟨ly,_,_,rfl,rfl,_,_,_,hy,_⟩:=Rep.lst_get I ry qy
   unfold eqD
   exact⟨SeqAt.RcAt.tuple_list  hx hy hu,SeqAt.EqAt.tuple_list  hx hy hu,SeqAt.RcNeAt.tuple_list  hx hy hu⟩
  | tup y =>
   exact absurd ⟨rfl,rfl⟩ (n2 x y)
  | dic ks ds=>exact absurd rfl (d2 ks ds)
  | exc c=>exact absurd rfl (x2 c)
  | ob k c=>exact absurd rfl (o2 k c)
 | dic ks ds=>exact absurd rfl (d1 ks ds)
 | exc c=>exact absurd rfl (x1 c)
 | ob k c=>exact absurd rfl (o1 k c)
theorem zu2 (I:Inv X pins σ H s):∀ (n:Nat) (A:Around),A.units+n < cLine->∀ (x y:D) (v u:V) (a b:Value),zba n x=true->zba n y=true->Rep X.K H x v->Rep X.K H y u->zcz v a->zcz u b ->
  SeqAt.RcAt A s a b (eqD x y)/\SeqAt.EqAt A s a b (eqD x y)/\SeqAt.RcNeAt A s a b (!(eqD x y)):=by
 have nd:∀ m ks ds,zba m (.dic ks ds)=true->False:=fun m ks ds h=>by cases m<;>(unfold zba at h;cases h)
 have nx:∀ m x,zba m (.exc x)=true->False:=fun m x h=>by cases m<;>(unfold zba at h;cases h)
 have nb:∀ m k x,zba m (.ob k x)=true->False:=fun m k x h=>by cases m<;>(unfold zba at h;cases h)
 intro n
 induction n with
 | zero =>
  intro A hu x y v u a b sx sy rx ry qa qb
  refine zmz I (by omega) rx ry qa qb (fun ds ds' z=>?_) (fun ds ds' z=>?_) (fun ks ds z=>?_) (fun ks ds z=>?_) (fun c z=>nx _ _ (z▸sx)) (fun c z=>nx _ _ (z▸sy)) (fun k c z=>nb _ _ _ (z▸sx)) (fun k c z=>nb _ _ _ (z▸sy))
  ·rw[z.1] at sx;unfold zba at sx;cases sx
  ·rw[z.1] at sx;unfold zba at sx;cases sx
  ·rw[z] at sx;exact nd _ _ _ sx
  ·rw[z] at sy;exact nd _ _ _ sy
 | succ n ih =>
  intro A hu x y v u a b sx sy rx ry qa qb
  have ih':∀ (x y:D) (v u:V) (a b:Value),zba n x=true->zba n y=true->Rep X.K H x v->Rep X.K H y u->zcz v a->zcz u b->SeqAt.EqAt A.in1 s a b (eqD x y) :=
   fun x y v u a b s1 s2 r1 r2 q1 q2=>(ih A.in1 (by show A.units+1+n < cLine;omega) x y v u a b s1 s2 r1 r2 q1 q2).2.1
  by_cases t1:∃ ds ds',x=.tup ds/\y=.tup ds'
  ·obtain⟨xs,ys,rfl,rfl⟩:=t1
   obtain⟨l,vs,is,rfl,rfl,h1,h2,h3,h4,h5⟩:=Rep.tup_get I rx qa
   obtain⟨m,us,js,rfl,rfl,k1,k2,k3,k4,k5⟩:=Rep.tup_get I ry qb
   have hsx:=sx
   have hsy:=sy
   unfold zba at sx sy
   have each:=zmL (A:=A) ih' sx sy h2 k2 h3 k3
   have eall:eqD (.tup xs) (.tup ys)=((List.range (min is.toArray.size js.toArray.size)).all (fun j=>eqD (xs.getD j .non) (ys.getD j .non))&&is.toArray.size==js.toArray.size):=by
    rw[zsr]
    simp only[List.size_toArray,← h5,← k5]
    by_cases hl:xs.length=ys.length
    ·rw[zhv xs ys hl,← hl,Nat.min_self,beq_self_eq_true,Bool.and_true]
    ·rw[zil xs ys hl,beq_eq_false_iff_ne.mpr hl,Bool.and_false]
   refine⟨?_,?_,?_⟩
   ·rw[eall];exact SeqAt.RcAt.tuples h4 k4 (by omega) each
   ·by_cases hlm:l=m
    ·subst hlm
     rw[Rep.inj I (n+1) _ _ _ hsx hsy rx ry,zeR (n+1) _ hsy]
     exact SeqAt.EqAt.same _
    ·refine SeqAt.EqAt.of_refs hlm ?_
     rw[eall];exact SeqAt.RcAt.tuples h4 k4 (by omega) each
   ·rw[eall];exact SeqAt.RcNeAt.tuples h4 k4 (by omega) each
  ·by_cases t2:∃ ds ds',x=.lst ds/\y=.lst ds'
   ·obtain⟨xs,ys,rfl,rfl⟩:=t2
    obtain⟨l,vs,is,rfl,rfl,h1,h2,h3,h4,h5⟩:=Rep.lst_get I rx qa
    obtain⟨m,us,js,rfl,rfl,k1,k2,k3,k4,k5⟩:=Rep.lst_get I ry qb
    have hsx:=sx
    have hsy:=sy
    unfold zba at sx sy
    have each:=zmL (A:=A) ih' sx sy h2 k2 h3 k3
    by_cases hl:xs.length=ys.length
    ·have hsz:is.toArray.size=js.toArray.size:=by simp only[List.size_toArray];omega
     have eall:eqD (.lst xs) (.lst ys)=(List.range is.toArray.size).all (fun j=>eqD (xs.getD j .non) (ys.getD j .non)):=by
      rw[zmc]
      simp only[List.size_toArray,← h5]
      exact zhv xs ys hl
     refine⟨?_,?_,?_⟩
     ·rw[eall];exact SeqAt.RcAt.lists h4 k4 hsz (by omega) each
     ·by_cases hlm:l=m
      ·subst hlm
       rw[Rep.inj I (n+1) _ _ _ hsx hsy rx ry,zeR (n+1) _ hsy]
       exact SeqAt.EqAt.same _
      ·refine SeqAt.EqAt.of_refs hlm ?_
       rw[eall];exact SeqAt.RcAt.lists h4 k4 hsz (by omega) each
     ·rw[eall];exact SeqAt.RcNeAt.lists h4 k4 hsz (by omega) each
    ·have hsz:(is.toArray.size != js.toArray.size)=true:=by simp only[List.size_toArray,bne_iff_ne,ne_eq];omega
     have eall:eqD (.lst xs) (.lst ys)=false:=by rw[zmc];exact zil xs ys hl
     rw[eall]
     refine⟨SeqAt.RcAt.lists_lengths h4 k4 hsz (by omega),?_,SeqAt.RcNeAt.lists_lengths h4 k4 hsz (by omega)⟩
     refine SeqAt.EqAt.of_refs (fun e=>?_) (SeqAt.RcAt.lists_lengths h4 k4 hsz (by omega))
     subst e
     have:=Rep.inj I (n+1) _ _ _ hsx hsy rx ry
     cases this
     exact hl rfl
   ·exact zmz I (by omega) rx ry qa qb (fun ds ds' z=>t2 ⟨ds,ds',z⟩) (fun ds ds' z=>t1 ⟨ds,ds',z⟩) (fun ks ds z=>by rw[z] at sx;exact nd _ _ _ sx) (fun ks ds z=>by rw[z] at sy;exact nd _ _ _ sy) (fun c z=>nx _ _ (z▸sx)) (fun c z=>nx _ _ (z▸sy)) (fun k c z=>nb _ _ _ (z▸sx)) (fun k c z=>nb _ _ _ (z▸sy))
end
section
variable {X:Cx}{E:XK}
def dEq (x y:D):Res D:=if zba 40 x=true/\zba 40 y=true then .ok (.bl (eqD x y)) else .stuck
def dNe (x y:D):Res D:=if zba 40 x=true/\zba 40 y=true then .ok (.bl (!(eqD x y))) else .stuck
def zvT (K:W.Frag):R2:=fun v u H Q=>∃ x y,Rep K H x v/\Rep K H y u/\zba 40 x=true/\zba 40 y=true/\Q (.bl (eqD x y)) H
def zu4 (K:W.Frag):R2:=fun v u H Q=>∃ x y,Rep K H x v/\Rep K H y u/\zba 40 x=true/\zba 40 y=true/\Q (.bl (!(eqD x y))) H
theorem zcU (hu:X.A.units+64 < cLine):OpR X (compareOp .Eq) (zvT X.K):=by
 intro pins s σ H x y v u Q I rx ry h
 obtain⟨d,d',h1,h2,s1,s2,q⟩:=h
 exact(zu2 I 40 X.A (by omega) d d' x y v u s1 s2 h1 h2 rx ry).1 _ _ _ _ ⟨.bl _,H,I,rfl,q⟩
theorem zfq (hu:X.A.units+64 < cLine):OpR X (compareOp .NotEq) (zu4 X.K):=by
 intro pins s σ H x y v u Q I rx ry h
 obtain⟨d,d',h1,h2,s1,s2,q⟩:=h
 exact(zu2 I 40 X.A (by omega) d d' x y v u s1 s2 h1 h2 rx ry).2.2 _ _ _ _ ⟨.bl _,H,I,rfl,q⟩
theorem zft:OpD X.K E (zvT X.K) dEq:=by
 intro x y v u H H₀ Q hs r1 r2 q
 unfold dEq at q
 by_cases c:zba 40 x=true/\zba 40 y=true
 ·rw[if_pos c] at q
  exact⟨x,y,r1.mono hs,r2.mono hs,c.1,c.2,q _ H H₀ (zbp.refl hs) (Rep.bl_iff.mpr rfl)⟩
 ·rw[if_neg c] at q;exact q.elim
theorem ziQ:OpD X.K E (zu4 X.K) dNe:=by
 intro x y v u H H₀ Q hs r1 r2 q
 unfold dNe at q
 by_cases c:zba 40 x=true/\zba 40 y=true
 ·rw[if_pos c] at q
  exact⟨x,y,r1.mono hs,r2.mono hs,c.1,c.2,q _ H H₀ (zbp.refl hs) (Rep.bl_iff.mpr rfl)⟩
 ·rw[if_neg c] at q;exact q.elim
open Classical in
noncomputable def zjo (K:W.Frag) (H:Hp) (ds:List D) (x:D) (u:Value):Bool :=
 if h:∃ d,d∈ds/\∃ v,Rep K H d v/\zcz v u then eqD h.choose x else false
theorem zkm {pins:List (Addr×Obj)}{σ:L2.St}{H:Hp}{s:Shared}(I:Inv X pins σ H s){ds:List D}{x d:D}{v:V}{u:Value}(sd:ds.all (zba 40)=true)(hd:d∈ds)(r:Rep X.K H d v)(q:zcz v u):zjo X.K H ds x u=eqD d x:=by
 have h:∃ d,d∈ds/\∃ v,Rep X.K H d v/\zcz v u:=⟨d,hd,v,r,q⟩
 unfold zjo
 rw[dif_pos h]
 obtain⟨h1,v',h2,h3⟩:=h.choose_spec
 have e:v'=v:=h3.inj q
 subst e
 rw[Rep.inj I 40 _ _ _ (List.all_eq_true.mp sd _ h1) (List.all_eq_true.mp sd _ hd) h2 r]
def zrL (K:W.Frag)(neg:Bool):R2:=fun v u H Q=>∃ x ds,Rep K H x v/\(Rep K H (.lst ds) u∨Rep K H (.tup ds) u)/\zba 40 x=true/\ds.all (zba 40)=true/\Q (.bl (if neg then !(ds.any fun d=>eqD d x) else ds.any fun d=>eqD d x)) H
theorem zhi {pins:List (Addr×Obj)}{σ:L2.St}{H:Hp}{s:Shared}(I:Inv X pins σ H s){x:D}{es:List D}(se:es.all (zba 40)=true):∀ {ds:List D}{vs:List V}{us:List Value},(∀ d∈ds,d∈es)->Reps X.K H ds vs->zb0 vs us->us.any (zjo X.K H es x)=ds.any fun d=>eqD d x
 | [],_,_,_,h,q=>by
  rw[Reps.nil_iff.mp h] at q
  cases q
  rfl
 | d::ds,_,_,hm,h,q=>by
  obtain⟨v,r,rfl,h1,h2⟩:=Reps.cons_iff.mp h
  cases q with
  | cons q1 q2 =>
   rw[List.any_cons,List.any_cons,zkm I se (hm d List.mem_cons_self) h1 q1,zhi I se (fun x hx=>hm x (List.mem_cons_of_mem _ hx)) h2 q2]
theorem zdH {pins:List (Addr×Obj)}{σ:L2.St}{H:Hp}{s:Shared}(I:Inv X pins σ H s)(hu:X.A.units+64 < cLine){x:D}{v:V}{u:Value}(sx:zba 40 x=true)(rx:Rep X.K H x v)(qx:zcz v u){es:List D}(se:es.all (zba 40)=true):∀ {ds:List D}{vs:List V}{us:List Value},(∀ d∈ds,d∈es)->Reps X.K H ds vs->zb0 vs us->∀ y∈us,SeqAt.EqAt X.A.in1 s y u (zjo X.K H es x y)
 | [],_,_,_,h,q=>fun y hy=>by
  rw[Reps.nil_iff.mp h] at q
  cases q
  cases hy
 | d::ds,_,_,hm,h,q=>fun y hy=>by
  obtain⟨w,r,rfl,h1,h2⟩:=Reps.cons_iff.mp h
  cases q with
  | cons q1 q2 =>
   rcases List.mem_cons.mp hy with rfl | hy
   ·rw[zkm I se (hm d List.mem_cons_self) h1 q1]
    exact(zu2 I 40 X.A.in1 (by show X.A.units+1+40 < cLine;omega) d x w v _ u (List.all_eq_true.mp se _ (hm d List.mem_cons_self)) sx h1 rx q1 qx).2.1
   ·exact zdH I hu sx rx qx se (fun x hx=>hm x (List.mem_cons_of_mem _ hx)) h2 q2 y hy
theorem ztL (hu:X.A.units+64 < cLine):OpR X (compareOp .In) (zrL X.K false):=by
 intro pins s σ H x y v u Q I rx ry h
 obtain⟨d,ds,h1,h2,s1,s2,q⟩:=h
 rcases h2 with h2 | h2
 ·obtain⟨a,vs,its,rfl,rfl,k1,k2,k3,k4,k5⟩:=Rep.lst_get I h2 ry
  refine SeqAt.in_listAt (zjo X.K H ds d) k4 (fun w hw=>zdH I hu s1 h1 rx s2 (fun _ z=>z) k2 k3 w (by simpa using hw)) ⟨.bl _,H,I,rfl,?_⟩
  rw[show its.toArray.any (zjo X.K H ds d)=its.any (zjo X.K H ds d) by simp,zhi I s2 (fun _ z=>z) k2 k3]
  exact q
 ·obtain⟨a,vs,its,rfl,rfl,k1,k2,k3,k4,k5⟩:=Rep.tup_get I h2 ry
  refine SeqAt.in_tupleAt (zjo X.K H ds d) k4 (fun w hw=>zdH I hu s1 h1 rx s2 (fun _ z=>z) k2 k3 w (by simpa using hw)) ⟨.bl _,H,I,rfl,?_⟩
  rw[show its.toArray.any (zjo X.K H ds d)=its.any (zjo X.K H ds d) by simp,zhi I s2 (fun _ z=>z) k2 k3]
  exact q
theorem zos (hu:X.A.units+64 < cLine):OpR X (compareOp .NotIn) (zrL X.K true):=by
 intro pins s σ H x y v u Q I rx ry h
 obtain⟨d,ds,h1,h2,s1,s2,q⟩:=h
 rcases h2 with h2 | h2
 ·obtain⟨a,vs,its,rfl,rfl,k1,k2,k3,k4,k5⟩:=Rep.lst_get I h2 ry
  refine SeqAt.notIn_listAt (zjo X.K H ds d) k4 (fun w hw=>zdH I hu s1 h1 rx s2 (fun _ z=>z) k2 k3 w (by simpa using hw)) ⟨.bl _,H,I,rfl,?_⟩
  rw[show its.toArray.any (zjo X.K H ds d)=its.any (zjo X.K H ds d) by simp,zhi I s2 (fun _ z=>z) k2 k3]
  exact q
 ·obtain⟨a,vs,its,rfl,rfl,k1,k2,k3,k4,k5⟩:=Rep.tup_get I h2 ry
  refine SeqAt.notIn_tupleAt (zjo X.K H ds d) k4 (fun w hw=>zdH I hu s1 h1 rx s2 (fun _ z=>z) k2 k3 w (by simpa using hw)) ⟨.bl _,H,I,rfl,?_⟩
  rw[show its.toArray.any (zjo X.K H ds d)=its.any (zjo X.K H ds d) by simp,zhi I s2 (fun _ z=>z) k2 k3]
  exact q
def occ (i j:Str):Bool:=!(Builtin.Str.occurrences j i 0 j.length 1).isEmpty
def inD (x y:D):Option Bool:=match y with
 | .lst ds=>if zba 40 x=true/\ds.all (zba 40)=true then some (ds.any fun d=>eqD d x) else none
 | .tup ds=>if zba 40 x=true/\ds.all (zba 40)=true then some (ds.any fun d=>eqD d x) else none
 | .str j=>match x with
  | .str i=>some (occ i j)
  | _=>none
 | _=>none
def dIn (x y:D):Res D:=match inD x y with
 | some b=>.ok (.bl b)
 | none=>.stuck
def ze2 (x y:D):Res D:=match inD x y with
 | some b=>.ok (.bl (!b))
 | none=>.stuck
def ztk (neg:Bool):R2:=fun x y H Q=>∃ i j,x=.str i/\y=.str j/\Q (.bl (if neg then !(occ i j) else occ i j)) H
theorem zr0 (hu:X.A.units+64 < cLine):OpR X (compareOp .In) (fun v u H Q=>zrL X.K false v u H Q∨ztk false v u H Q):=OpR.or (ztL hu) (by
 intro pins s σ H x y v u Q I rx ry h
 obtain⟨i,j,rfl,rfl,q⟩:=h
 exact zot pins s σ H _ _ v u Q I rx ry ⟨i,j,rfl,rfl,q⟩)
theorem zka (hu:X.A.units+64 < cLine):OpR X (compareOp .NotIn) (fun v u H Q=>zrL X.K true v u H Q∨ztk true v u H Q):=OpR.or (zos hu) (by
 intro pins s σ H x y v u Q I rx ry h
 obtain⟨i,j,rfl,rfl,q⟩:=h
 exact zk0 pins s σ H _ _ v u Q I rx ry ⟨i,j,rfl,rfl,q⟩)
theorem zmF {neg:Bool}{x y:D}{v u:V}{H H₀:Hp}{Q:VK}(hs:zaT H₀ H)(r1:Rep X.K H₀ x v)(r2:Rep X.K H₀ y u)
  (q:post X.K E H H₀ (match inD x y with | some b=>.ok (.bl (if neg then !b else b)) | none=>.stuck) Q):zrL X.K neg v u H Q∨ztk neg v u H Q:=by
 cases y with
 | lst ds =>
  simp only[inD] at q
  by_cases c:zba 40 x=true/\ds.all (zba 40)=true
  ·rw[if_pos c] at q
   exact .inl ⟨x,ds,r1.mono hs,.inl (r2.mono hs),c.1,c.2,q _ H H₀ (zbp.refl hs) (Rep.bl_iff.mpr rfl)⟩
  ·rw[if_neg c] at q;exact q.elim
 | tup ds =>
  simp only[inD] at q
  by_cases c:zba 40 x=true/\ds.all (zba 40)=true
  ·rw[if_pos c] at q
   exact .inl ⟨x,ds,r1.mono hs,.inr (r2.mono hs),c.1,c.2,q _ H H₀ (zbp.refl hs) (Rep.bl_iff.mpr rfl)⟩
  ·rw[if_neg c] at q;exact q.elim
 | str j =>
  cases x with
  | str i=>exact .inr ⟨i,j,Rep.str_iff.mp r1,Rep.str_iff.mp r2,q _ H H₀ (zbp.refl hs) (Rep.bl_iff.mpr rfl)⟩
  | _=>exact q.elim
 | _=>exact q.elim
theorem zr5:OpD X.K E (fun v u H Q=>zrL X.K false v u H Q∨ztk false v u H Q) dIn:=fun x y v u H H₀ Q hs r1 r2 q=>zmF (neg:=false) (E:=E) hs r1 r2 (by
 unfold dIn at q
 cases e:inD x y with
 | none=>rw[e] at q;exact q
 | some b=>rw[e] at q;exact q)
theorem zkd:OpD X.K E (fun v u H Q=>zrL X.K true v u H Q∨ztk true v u H Q) ze2:=fun x y v u H H₀ Q hs r1 r2 q=>zmF (neg:=true) (E:=E) hs r1 r2 (by
 unfold ze2 at q
 cases e:inD x y with
 | none=>rw[e] at q;exact q
 | some b=>rw[e] at q;exact q)
end
@[irreducible] def B9:Nat:=2 ^ 9000
@[irreducible] def B13:Nat:=2 ^ 13500
@[irreducible] def B60:Nat:=2 ^ 60000
theorem zqR:B9=2 ^ 9000:=by unfold B9;rfl
theorem zrp:B13=2 ^ 13500:=by unfold B13;rfl
theorem zro:B60=2 ^ 60000:=by unfold B60;rfl
theorem zjD {n k:Nat}(h:n < 2 ^ k)(hk:0 < k):n.log2 < k:=by
 by_cases h0:n=0
 ·rw[h0]
  have:Nat.log2 0=0:=by decide
  omega
 ·exact(Nat.log2_lt h0).mpr h
theorem zvj {x y:Int}(h:y.natAbs < B9):Builtin.divisionGoesByPylong x y=false:=by
 rw[zqR] at h
 exact PyProof.noPylong_of_log2 (zjD h (by omega))
theorem ztR {x y:Int}(h:x.natAbs < B13):Builtin.divisionGoesByPylong x y=false:=by
 rw[zrp] at h
 have hx:x.natAbs.log2 < 13500:=zjD h (by omega)
 show(decide ((if y==0 then 0 else y.natAbs.log2 / 30+1) > 300)&&decide ((if x==0 then 0 else x.natAbs.log2 / 30+1) > (if y==0 then 0 else y.natAbs.log2 / 30+1)+150))=false
 have k:(if x==0 then 0 else x.natAbs.log2 / 30+1)<=450:=by
  by_cases hx0:(x==0)=true
  ·rw[if_pos hx0];omega
  ·rw[if_neg hx0];omega
 by_cases c:(if y==0 then 0 else y.natAbs.log2 / 30+1) > 300
 ·rw[Bool.and_eq_false_iff];right;exact decide_eq_false (by omega)
 ·rw[Bool.and_eq_false_iff];left;exact decide_eq_false c
def zh8 (i j:Int):Bool:=decide (j≠0)&&(decide (j.natAbs < B9)||decide (i.natAbs < B13))
def zh3 (i j:Int):Bool:=decide (i.natAbs < B60)&&decide (j.natAbs < B60)
theorem zh8.ok {i j:Int}(h:zh8 i j=true):j≠0/\Builtin.divisionGoesByPylong i j=false:=by
 unfold zh8 at h
 rw[Bool.and_eq_true,Bool.or_eq_true] at h
 refine⟨of_decide_eq_true h.1,?_⟩
 rcases h.2 with h | h
 ·exact zvj (of_decide_eq_true h)
 ·exact ztR (of_decide_eq_true h)
theorem zh3.ok {i j:Int}(h:zh3 i j=true):IntMulOk i j:=by
 unfold zh3 at h
 rw[Bool.and_eq_true] at h
 have h1:=of_decide_eq_true h.1
 have h2:=of_decide_eq_true h.2
 rw[zro] at h1 h2
 exact PyProof.Rows.mulOk_of_bits (m:=60000) (n:=60000) (PySem.intBits_le_iff.mpr h1) (PySem.intBits_le_iff.mpr h2) (by decide)
section
variable {X:Cx}{E:XK}{e a b c:Expr}{es:List Expr}{f g k:Ev->Res D}{fa:Ev->Res (List D)}{pos:Pos}
theorem za8 {K:W.Frag}{H H₀:Hp}{d:D}{v:V}{Q:VK}(hs:zaT H₀ H)(q:post K E H H₀ (.ok d) Q)(r:Rep K H₀ d v):Q v H:=q v H H₀ (zbp.refl hs) r
def iop (c:Int->Int->Bool)(g:Int->Int->D)(x y:D):Res D:=match x,y with
 | .int i,.int j=>if c i j=true then .ok (g i j) else .stuck
 | _,_=>.stuck
theorem zoy {C:Int->Int->Prop}{c:Int->Int->Bool}{gv:Int->Int->V}{g:Int->Int->D}(hc:∀ i j,c i j=true->C i j)(hg:∀ K H i j,Rep K H (g i j) (gv i j)):OpD X.K E (rI C gv) (iop c g):=by
 intro x y v u H H₀ Q hs r1 r2 q
 unfold iop at q
 cases x with
 | int i =>
  cases y with
  | int j =>
   by_cases h:c i j=true
   ·simp only[if_pos h] at q
    exact⟨i,j,Rep.int_iff.mp r1,Rep.int_iff.mp r2,hc i j h,za8 hs q (hg _ _ i j)⟩
   ·simp only[if_neg h] at q;exact q.elim
  | _=>exact q.elim
 | _=>exact q.elim
theorem zbq {gv:Int->Int->V}{g:Int->Int->D}(hg:∀ K H i j,Rep K H (g i j) (gv i j)):OpD X.K E (rI0 gv) (iop (fun _ _=>true) g):=by
 intro x y v u H H₀ Q hs r1 r2 q
 unfold iop at q
 cases x with
 | int i =>
  cases y with
  | int j=>simp only[if_pos] at q;exact⟨i,j,Rep.int_iff.mp r1,Rep.int_iff.mp r2,za8 hs q (hg _ _ i j)⟩
  | _=>exact q.elim
 | _=>exact q.elim
theorem ri {K:W.Frag}{H:Hp}(n:Int):Rep K H (.int n) (.int n):=Rep.int_iff.mpr rfl
theorem rb {K:W.Frag}{H:Hp}(n:Bool):Rep K H (.bl n) (.bl n):=Rep.bl_iff.mpr rfl
abbrev zhg:=iop (fun _ _=>true) fun i j=>.int (i-j)
abbrev zmf:=iop zh8 fun i j=>.int (i.fdiv j)
abbrev zdV:=iop (fun _ j=>decide (j≠0)) fun i j=>.int (i.fmod j)
abbrev zjN:=iop (fun i j=>decide (0<=j)&&decide (j<=1000000)&&decide (i.natAbs < 18446744073709551616)) fun i j=>.int (i ^ j.toNat)
abbrev dLt:=iop (fun _ _=>true) fun i j=>.bl (decide (i < j))
abbrev dLe:=iop (fun _ _=>true) fun i j=>.bl (decide (i<=j))
abbrev dGt:=iop (fun _ _=>true) fun i j=>.bl (decide (j < i))
abbrev dGe:=iop (fun _ _=>true) fun i j=>.bl (decide (j<=i))
theorem zrY:OpR X (binaryOp .Mult) (rI IntMulOk fun i j=>.int (i*j)):=opI fun _ _ _ _ _ _ _ hc q=>mul_int q hc
theorem zr1:OpR X (binaryOp .FloorDiv) (rI (fun i j=>j≠0/\Builtin.divisionGoesByPylong i j=false) fun i j=>.int (i.fdiv j)):=opI fun _ _ _ _ _ _ _ hc q=>floordiv_int hc.1 q (.inl hc.2)
theorem zfE (ha:DE X E a f)(hb:DE X E b g):DE X E (.BinOp a .Sub b pos) (zab f g zhg):=znD ztH (zbq fun _ _ _ _=>ri _) ha hb
theorem zli (ha:DE X E a f)(hb:DE X E b g):DE X E (.BinOp a .FloorDiv b pos) (zab f g zmf):=znD zr1 (zoy (fun _ _ h=>zh8.ok h) fun _ _ _ _=>ri _) ha hb
theorem zcu (ha:DE X E a f)(hb:DE X E b g):DE X E (.BinOp a .Mod b pos) (zab f g zdV):=znD zrZ (zoy (fun _ _ h=>of_decide_eq_true h) fun _ _ _ _=>ri _) ha hb
theorem zjL (ha:DE X E a f)(hb:DE X E b g):DE X E (.BinOp a .Pow b pos) (zab f g zjN):=znD ztJ (zoy (fun i j h=>by
 rw[Bool.and_eq_true,Bool.and_eq_true] at h
 exact⟨of_decide_eq_true h.1.1,of_decide_eq_true h.1.2,of_decide_eq_true h.2⟩) fun _ _ _ _=>ri _) ha hb
theorem nm {op:CmpOp}{b:Expr}(h1:op≠.In:=by decide)(h2:op≠.NotIn:=by decide):behindInMarks op b=false:=zmG _ h1 h2
def zpu (x:D):Res D:=match x with
 | .int i=>.ok (.int (-i))
 | _=>.stuck
theorem zjM (ha:DE X E a f):DE X E (.UnaryOp .USub a pos) (zbi f zpu):=zvz zqU (by
 intro x v H H₀ Q hs r q
 cases x with
 | int i=>exact⟨i,Rep.int_iff.mp r,za8 hs q (ri _)⟩
 | _=>exact q.elim) ha
theorem zr3:OpR X (binaryOp .Add) (fun x y H Q=>∃ l b xs zs,x=.ref l/\y=.ref b/\SqL X.K H l xs/\SqL X.K H b zs/\xs.length+zs.length<=sizeLine/\∀ p,H p=none->Q (.ref p) (upd H p (.lst (xs++zs)))):=by
 intro pins s σ H x y v u Q I rx ry h
 obtain⟨l,b,xs,zs,rfl,rfl,hH,hB,hz,q⟩:=h
 cases rx
 cases ry
 obtain⟨its,r,pl,z⟩:=I.list hH
 obtain⟨its2,r2,pl2,z2⟩:=I.list hB
 obtain⟨⟨cls,dd,data,sl⟩,ho,hc,n,hd⟩:=pl.isList
 obtain⟨⟨cls2,dd2,data2,sl2⟩,ho2,hc2,n2,hd2⟩:=pl2.isList
 simp only at hc hd hc2 hd2
 subst hc hd hc2 hd2
 have e:its.toArray++its2.toArray=(its++its2).toArray:=by simp
 have l1:=r.length
 have l2:=r2.length
 refine concat_meets ⟨_,ho,rfl⟩ ⟨_,ho2,rfl⟩ noFill_list_add seq_list_add PySem.F.slot_list_add PySem.F.entry_list_add (PySem.F.args_list_add_2 _ _) (list_addW l b its.toArray its2.toArray n n2 dd dd2 sl sl2 (by simp only[List.size_toArray];omega)) ⟨ho,ho2,?_⟩
 rw[e]
 exact⟨.ref _,_,I.lnew (t':=s.toks) (r.append r2) (by rw[List.length_append];omega),rfl,q _ I.fresh⟩
def zbe (x y:D):Res D:=match x,y with
 | .int i,.int j=>.ok (.int (i+j))
 | .str i,.str j=>if i.length+j.length<=line then .ok (.str (i++j)) else .stuck
 | .lst ds,.lst es=>if ds.length+es.length<=line then .ok (.lst (ds++es)) else .stuck
 | .tup ds,.tup es=>if ds.isEmpty=false/\ds.length+es.length<=line then .ok (.tup (ds++es)) else .stuck
 | _,_=>.stuck
theorem zaE (ha:DE X E a f)(hb:DE X E b g):DE X E (.BinOp a .Add b pos) (zab f g zbe):=znD (OpR.or ztM (OpR.or znl (OpR.or zr3 zr2))) (by
 intro x y v u H H₀ Q hs r1 r2 q
 unfold zbe at q
 cases x with
 | int i =>
  cases y with
  | int j=>exact .inl ⟨i,j,Rep.int_iff.mp r1,Rep.int_iff.mp r2,za8 hs q (ri _)⟩
  | _=>exact q.elim
 | str i =>
  cases y with
  | str j =>
   by_cases h:i.length+j.length<=line
   ·simp only[if_pos h] at q
    exact .inr (.inl ⟨i,j,Rep.str_iff.mp r1,Rep.str_iff.mp r2,zc9 h,za8 hs q (Rep.str_iff.mpr rfl)⟩)
   ·simp only[if_neg h] at q;exact q.elim
  | _=>exact q.elim
 | lst ds =>
  cases y with
  | lst es =>
   by_cases h:ds.length+es.length<=line
   ·simp only[if_pos h] at q
    obtain⟨l,vs,rfl,h1,h2⟩:=Rep.lst_iff.mp r1
    obtain⟨m,us,rfl,k1,k2⟩:=Rep.lst_iff.mp r2
    refine .inr (.inr (.inl ⟨l,m,vs,us,rfl,rfl,zaT.sqL hs h1,zaT.sqL hs k1,by rw[← h2.length,← k2.length];exact zc9 h,fun p hp=>?_⟩))
    exact q _ _ _ (zbp.alloc hs hp) (Rep.lst_iff.mpr ⟨p,_,rfl,SqL.of zas,(h2.app k2).mono (zbp.alloc hs hp).z⟩)
   ·simp only[if_neg h] at q;exact q.elim
  | _=>exact q.elim
 | tup ds =>
  cases y with
  | tup es =>
   by_cases h:ds.isEmpty=false/\ds.length+es.length<=line
   ·simp only[if_pos h] at q
    obtain⟨l,vs,rfl,h1,h2⟩:=Rep.tup_iff.mp r1
    obtain⟨m,us,rfl,k1,k2⟩:=Rep.tup_iff.mp r2
    refine .inr (.inr (.inr ⟨l,m,vs,us,rfl,rfl,zaT.sqT hs h1,zaT.sqT hs k1,fun z=>?_,by rw[← h2.length,← k2.length];exact zc9 h.2,fun z=>?_,fun z p hp=>?_⟩))
    ·have:=h2.length
     rw[z] at this
     have e:ds=[]:=List.length_eq_zero_iff.mp this
     rw[e] at h;exact absurd h.1 (by decide)
    ·have:=k2.length
     rw[z] at this
     have e:es=[]:=List.length_eq_zero_iff.mp this
     rw[e,List.append_nil] at q
     exact za8 hs q r1
    ·exact q _ _ _ (zbp.alloc hs hp) (Rep.tup_iff.mpr ⟨p,_,rfl,SqT.of zas,(h2.app k2).mono (zbp.alloc hs hp).z⟩)
   ·simp only[if_neg h] at q;exact q.elim
  | _=>exact q.elim
 | _=>exact q.elim) ha hb
def dIx (x y:D):Res D:=match y with
 | .int i=>match x with
  | .lst ds=>match atI ds i with
   | some d=>.ok d
   | none=>.stuck
  | .tup ds=>match atI ds i with
   | some d=>.ok d
   | none=>.stuck
  | .str z=>if z.length<=line then match atI z.cps.toList i with
   | some c=>.ok (.str ⟨#[c]⟩)
   | none=>.stuck else .stuck
  | _=>.stuck
 | _=>.stuck
theorem Reps.atI {K:W.Frag}{H:Hp}{ds:List D}{vs:List V}{i:Int}{d:D}(h:Reps K H ds vs)(e:atI ds i=some d):∃ v,L2.atI vs i=some v/\Rep K H d v:=by
 unfold L2.atI at e ⊢
 rw[← h.length]
 cases q:ixN ds.length i with
 | none=>rw[q] at e;cases e
 | some j =>
  rw[q] at e
  exact h.get e
theorem zvi:OpD X.K E (rIx X.K) dIx:=by
 intro x y v u H H₀ Q hs r1 r2 q
 unfold dIx at q
 cases y with
 | int i =>
  cases x with
  | lst ds =>
   obtain⟨l,vs,rfl,h1,h2⟩:=Rep.lst_iff.mp r1
   cases e:atI ds i with
   | none=>simp only[e] at q;exact q.elim
   | some d =>
    simp only[e] at q
    obtain⟨w,e1,e2⟩:=h2.atI e
    exact .inl ⟨l,vs,i,w,rfl,Rep.int_iff.mp r2,zaT.sqL hs h1,e1,za8 hs q e2⟩
  | tup ds =>
   obtain⟨l,vs,rfl,h1,h2⟩:=Rep.tup_iff.mp r1
   cases e:atI ds i with
   | none=>simp only[e] at q;exact q.elim
   | some d =>
    simp only[e] at q
    obtain⟨w,e1,e2⟩:=h2.atI e
    exact .inr (.inl ⟨l,vs,i,w,rfl,Rep.int_iff.mp r2,zaT.sqT hs h1,e1,za8 hs q e2⟩)
  | str z =>
   by_cases hz:z.length<=line
   ·simp only[if_pos hz] at q
    cases e:atI z.cps.toList i with
    | none=>simp only[e] at q;exact q.elim
    | some c =>
     simp only[e] at q
     exact .inr (.inr ⟨z,i,c,Rep.str_iff.mp r1,Rep.int_iff.mp r2,zc9 hz,e,za8 hs q (Rep.str_iff.mpr rfl)⟩)
   ·simp only[if_neg hz] at q;exact q.elim
  | _=>exact q.elim
 | _=>exact q.elim
theorem zak (ha:DE X E a f)(hb:DE X E b g)(hs:zmp b:=by intro _ _;rfl):DE X E (.Subscript a b pos) (zab f g dIx):=zvB zt1 zvi ha hb hs
def zeN:Ev->Res (Option Int):=fun _=>.ok none
def zbh (f:Ev->Res D):Ev->Res (Option Int):=fun ρ=>(f ρ).bind fun x=>match x with
 | .int i=>.ok (some i)
 | _=>.stuck
def tDO (K:W.Frag)(E:XK)(f:Ev->Res (Option Int)):TO:=fun σ H Q=>∃ H₀ ρ,zaT H₀ H/\zfV K H₀ σ ρ/\match f ρ with
 | .ok o=>∀ H' H₀',zbp H H₀ H' H₀'->Q o H'
 | .exn x=>∀ C ox H' H₀',zbp H H₀ H' H₀'->ExR K H₀' x C ox->E C ox H'
 | .stuck=>False
structure DO (X:Cx) (E:XK) (e:Option Expr) (f:Ev->Res (Option Int)):Prop where
 o:PO X e (tDO X.K E f)
theorem zoi {eo:Option Expr}{t t':TO}(h:PO X eo t)(w:∀ σ H Q,t' σ H Q->t σ H Q):PO X eo t':=fun pins s σ H Q I q=>h pins s σ H Q I (w σ H Q q)
theorem zda:DO X E none zeN:=⟨zoi zrQ fun σ H Q ⟨H₀,ρ,hs,hr,q⟩=>q H H₀ (zbp.refl hs)⟩
theorem zaZ (ha:DE X E a f):DO X E (some a) (zbh f):=by
 refine⟨?_⟩
 refine zoi (zrP ha.o) fun σ H Q ⟨H₀,ρ,hs,hr,q⟩=>⟨H₀,ρ,hs,hr,?_⟩
 unfold zbh at q
 cases e1:f ρ with
 | stuck=>rw[e1] at q;exact q
 | exn x=>rw[e1] at q;exact q
 | ok d =>
  rw[e1] at q
  intro v H1 H01 g1 r1
  cases d with
  | int i=>exact⟨i,Rep.int_iff.mp r1,q H1 H01 g1⟩
  | _=>exact q.elim
def zcA (xs:List D)(lo hi:Option Int):List D:=(xs.drop (HT.sIx xs.length 0 lo)).take (HT.sIx xs.length xs.length hi-HT.sIx xs.length 0 lo)
theorem Reps.cut {K:W.Frag}{H:Hp}{ds:List D}{vs:List V}(h:Reps K H ds vs)(lo hi:Option Int):Reps K H (zcA ds lo hi) (zrj vs lo hi):=by
 unfold zcA zrj
 rw[← h.length]
 exact(h.drop _).take _
theorem zlK {r:V->Option Int->Option Int->Hp->VK->Prop}{lo hi:Ev->Res (Option Int)}{m:D->Option Int->Option Int->Res D}
  (ho:∀ x v l h H H₀ Q,zaT H₀ H->Rep X.K H₀ x v->post X.K E H H₀ (m x l h) Q->r v l h H Q)(σ:L2.St)(H:Hp)(Q:VK)
  (h:tD X.K E (fun ρ=>(f ρ).bind fun x=>(lo ρ).bind fun l=>(hi ρ).bind fun h=>m x l h) σ H Q):tSl r (tD X.K E f) (tDO X.K E lo) (tDO X.K E hi) σ H Q:=by
 obtain⟨H₀,ρ,hs,hr,q⟩:=h
 refine⟨H₀,ρ,hs,hr,?_⟩
 replace q:post X.K E H H₀ ((f ρ).bind fun x=>(lo ρ).bind fun l=>(hi ρ).bind fun h=>m x l h) Q:=q
 cases e1:f ρ with
 | stuck=>rw[e1] at q;exact q
 | exn x=>rw[e1] at q;exact q
 | ok x =>
  rw[e1] at q
  intro v H1 H01 g1 r1
  refine⟨H01,ρ,g1.sub,hr.mono g1.z,?_⟩
  replace q:post X.K E H H₀ ((lo ρ).bind fun l=>(hi ρ).bind fun h=>m x l h) Q:=q
  replace q:=q.grow g1
  cases e2:lo ρ with
  | stuck=>rw[e2] at q;exact q
  | exn x=>rw[e2] at q;exact q
  | ok l =>
   rw[e2] at q
   intro H2 H02 g2
   refine⟨H02,ρ,g2.sub,(hr.mono g1.z).mono g2.z,?_⟩
   replace q:post X.K E H1 H01 ((hi ρ).bind fun h=>m x l h) Q:=q
   replace q:=q.grow g2
   cases e3:hi ρ with
   | stuck=>rw[e3] at q;exact q
   | exn x=>rw[e3] at q;exact q
   | ok h =>
    rw[e3] at q
    intro H3 H03 g3
    exact ho x v l h H3 H03 Q g3.sub ((r1.mono g2.z).mono g3.z) (post.grow (r:=m x l h) q g3)
def m1 (m:D->Res D)(ds:List D):Res D:=match ds with
 | [x]=>m x
 | _=>.stuck
def m2 (m:D->D->Res D)(ds:List D):Res D:=match ds with
 | [x,y]=>m x y
 | _=>.stuck
theorem zmj {r:List V->Hp->VK->Prop}{m:D->Res D}(h:∀ x v H H₀ Q,zaT H₀ H->Rep X.K H₀ x v->post X.K E H H₀ (m x) Q->r [v] H Q):zia X E r (m1 m):=by
 intro ds vs H H₀ Q hs hr q
 unfold m1 at q
 match ds,hr,q with
 | [x],hr,q =>
  obtain⟨v,r',rfl,h1,h2⟩:=Reps.cons_iff.mp hr
  rw[Reps.nil_iff.mp h2]
  exact h x v H H₀ Q hs h1 q
 | [],_,q=>exact q.elim
 | _::_::_,_,q=>exact q.elim
theorem zvG {r:List V->Hp->VK->Prop}{m:D->D->Res D}(h:∀ x y v u H H₀ Q,zaT H₀ H->Rep X.K H₀ x v->Rep X.K H₀ y u->post X.K E H H₀ (m x y) Q->r [v,u] H Q):zia X E r (m2 m):=by
 intro ds vs H H₀ Q hs hr q
 unfold m2 at q
 match ds,hr,q with
 | [x,y],hr,q =>
  obtain⟨v,r',rfl,h1,h2⟩:=Reps.cons_iff.mp hr
  obtain⟨u,r'',rfl,h3,h4⟩:=Reps.cons_iff.mp h2
  rw[Reps.nil_iff.mp h4]
  exact h x y v u H H₀ Q hs h1 h3 q
 | [],_,q=>exact q.elim
 | [_],_,q=>exact q.elim
 | _::_::_::_,_,q=>exact q.elim
def zuz (x:D):Res D:=match x with
 | .int i=>.ok (.int (if i < 0 then -i else i))
 | _=>.stuck
def zvD (x y:D):Res D:=match x,y with
 | .int i,.int j=>.ok (.int (if j > i then j else i))
 | _,_=>.stuck
def zey (x:D):Res D:=match x with
 | .lst ds=>.ok (.int ds.length)
 | .tup ds=>.ok (.int ds.length)
 | .str z=>if z.length<=line then .ok (.int z.length) else .stuck
 | _=>.stuck
def zcY (x:D):Res D:=match x with
 | .int i=>.ok (.int i)
 | .bl b=>.ok (.int (if b then 1 else 0))
 | _=>.stuck
def zkq (x:D):Res D:=match x with
 | .lst ds=>.ok (.lst ds)
 | .tup ds=>.ok (.lst ds)
 | _=>.stuck
theorem zpl:zia X E (fun xs H Q=>∃ i,xs=[.int i]/\Q (.int (if i < 0 then -i else i)) H) (m1 zuz):=zmj fun x v H H₀ Q hs r q=>by
 cases x with
 | int i=>exact⟨i,by rw[Rep.int_iff.mp r],za8 hs q (ri _)⟩
 | _=>exact q.elim
theorem zug:zia X E (fun xs H Q=>∃ i j,xs=[.int i,.int j]/\Q (.int (if j > i then j else i)) H) (m2 zvD):=zvG fun x y v u H H₀ Q hs r r' q=>by
 cases x with
 | int i =>
  cases y with
  | int j=>exact⟨i,j,by rw[Rep.int_iff.mp r,Rep.int_iff.mp r'],za8 hs q (ri _)⟩
  | _=>exact q.elim
 | _=>exact q.elim
theorem zbT:zia X E (fun xs H Q=>∃ x n,xs=[x]/\zv7 X.K x H n/\Q (.int n) H) (m1 zey):=zmj fun x v H H₀ Q hs r q=>by
 cases x with
 | lst ds =>
  obtain⟨p,vs,rfl,h1,h2⟩:=Rep.lst_iff.mp r
  refine⟨_,vs.length,rfl,.inl ⟨vs,zaT.sqL hs h1,rfl⟩,?_⟩
  rw[← h2.length];exact za8 hs q (ri _)
 | tup ds =>
  obtain⟨p,vs,rfl,h1,h2⟩:=Rep.tup_iff.mp r
  refine⟨_,vs.length,rfl,.inr ⟨vs,zaT.sqT hs h1,rfl⟩,?_⟩
  rw[← h2.length];exact za8 hs q (ri _)
 | str z =>
  unfold zey at q
  by_cases hz:z.length<=line
  ·simp only[if_pos hz] at q
   rw[Rep.str_iff.mp r]
   exact⟨_,z.length,rfl,⟨zc9 hz,rfl⟩,za8 hs q (ri _)⟩
  ·simp only[if_neg hz] at q;exact q.elim
 | _=>exact q.elim
theorem zpk:zia X E (fun xs H Q=>(∃ i,xs=[.int i]/\Q (.int i) H)∨∃ k,xs=[.bl k]/\Q (.int (if k then 1 else 0)) H) (m1 zcY):=zmj fun x v H H₀ Q hs r q=>by
 cases x with
 | int i=>exact .inl ⟨i,by rw[Rep.int_iff.mp r],za8 hs q (ri _)⟩
 | bl i=>exact .inr ⟨i,by rw[Rep.bl_iff.mp r],za8 hs q (ri _)⟩
 | _=>exact q.elim
theorem zmi:zia X E (fun xs H Q=>∃ p ys,xs=[.ref p]/\(SqL X.K H p ys∨SqT X.K H p ys)/\∀ l,H l=none->Q (.ref l) (upd H l (.lst ys))) (m1 zkq):=zmj fun x v H H₀ Q hs r q=>by
 cases x with
 | lst ds =>
  obtain⟨p,vs,rfl,h1,h2⟩:=Rep.lst_iff.mp r
  exact⟨p,vs,rfl,.inl (zaT.sqL hs h1),fun n hn=>q _ _ _ (zbp.alloc hs hn) (Rep.lst_iff.mpr ⟨n,_,rfl,SqL.of zas,h2.mono (zbp.alloc hs hn).z⟩)⟩
 | tup ds =>
  obtain⟨p,vs,rfl,h1,h2⟩:=Rep.tup_iff.mp r
  exact⟨p,vs,rfl,.inr (zaT.sqT hs h1),fun n hn=>q _ _ _ (zbp.alloc hs hn) (Rep.lst_iff.mpr ⟨n,_,rfl,SqL.of zas,h2.mono (zbp.alloc hs hn).z⟩)⟩
 | _=>exact q.elim
theorem zeT {T:String}{r:List V->Hp->VK->Prop}{m:List D->Res D}{x:Str}{p:Pos}(hc:zhK X (.type T) r)(hd:zia X E r m)(hg:Gl X x)(hm:X.mg x=none)(hv:bootBuiltins x=some (.type T))(ha:DA X E (e::es) fa)(hn:x≠"__name__":=by decide)(hdb:(x==("__debug__" : Str))=false:=by decide)
  (he:starEach (e::es) X.env=(false,eval e X.env)::starEach es X.env:=by exact zaO rfl)(hpl:(backTo pos (starEach es X.env)).any (·.1)=false:=by exact zbK rfl):DE X E (.Call (.Name x p) (e::es) [] pos) (zal fa m) :=
 ⟨zaX (zoo hc hg hm hv ha.o hn hdb he hpl) (zhh hd)⟩
def zsj:D->Bool
 | .non=>true
 | _=>false
def zly (x y:D):Res D:=match y with
 | .non=>.ok (.bl (zsj x))
 | _=>.stuck
def zh9 (x y:D):Res D:=match y with
 | .non=>.ok (.bl (!(zsj x)))
 | _=>.stuck
theorem Rep.is_non {K:W.Frag}{H:Hp}{x:D}{v:V}(r:Rep K H x v):decide (v=.non)=zsj x:=by
 cases x with
 | non=>rw[Rep.non_iff.mp r];rfl
 | bl b=>rw[Rep.bl_iff.mp r];rfl
 | int b=>rw[Rep.int_iff.mp r];rfl
 | str b=>rw[Rep.str_iff.mp r];rfl
 | tup ds=>obtain⟨_,_,e,_⟩:=Rep.tup_iff.mp r;rw[e];rfl
 | lst ds=>obtain⟨_,_,e,_⟩:=Rep.lst_iff.mp r;rw[e];rfl
 | dic ks ds=>rw[Rep] at r;obtain⟨_,_,_,e,_⟩:=r;rw[e];rfl
 | exc x=>obtain⟨_,_,e,_⟩:=Rep.exc_iff.mp r;rw[e];rfl
 | ob k x=>obtain⟨_,_,e,_⟩:=Rep.ob_iff.mp r;rw[e];rfl
theorem zmE:OpD X.K E (fun x y H Q=>y=.non/\Q (.bl (decide (x=.non))) H) zly:=by
 intro x y v u H H₀ Q hs r1 r2 q
 unfold zly at q
 cases y with
 | non=>exact⟨Rep.non_iff.mp r2,by rw[r1.is_non];exact za8 hs q (rb _)⟩
 | _=>exact q.elim
theorem zox:OpD X.K E (fun x y H Q=>y=.non/\Q (.bl (!decide (x=.non))) H) zh9:=by
 intro x y v u H H₀ Q hs r1 r2 q
 unfold zh9 at q
 cases y with
 | non =>
  refine⟨Rep.non_iff.mp r2,?_⟩
  rw[r1.is_non]
  exact za8 hs q (rb _)
 | _=>exact q.elim
def tyD:D->String
 | .non=>"NoneType"
 | .bl _=>"bool"
 | .int _=>"int"
 | .str _=>"str"
 | .tup _=>"tuple"
 | .lst _=>"list"
 | .dic _ _=>"dict"
 | .exc _=>"<exc>"
 | .ob (.ins _ _) _=>"<exc>"
 | .ob (.dint _) _=>"dict"
def zcq (T:String)(x:D):Res D:=.ok (.bl (tyD x==T||(tyD x=="bool"&&T=="int")))
def zmr (K:W.Frag)(T:String):Prop:=∀ S,S∈["NoneType","bool","int","str","tuple","list","dict"]->W.kitOne K (.type S) (.type T)=some (S==T||(S=="bool"&&T=="int"))
theorem zqj {pins:List (Addr×Obj)}{σ:L2.St}{H:Hp}{s:Shared}{A:Around}{Q:Value->Shared->Prop}{x:D}{v:V}{u:Value}{T:String}(I:Inv X pins σ H s)(r:Rep X.K H x v)(q:zcz v u)(hk:zmr X.K T)(hT:T∈zfP)(h:∀ tk,Q (.bool (tyD x==T||(tyD x=="bool"&&T=="int"))) { s with toks:=tk }) :
  wpAny (model X.prog X.w) A (call (.builtin "isinstance") [u,.type T]) Q X.xe s:=by
 cases x with
 | non=>rw[Rep.non_iff.mp r] at q;exact zg7 I q .non (hk _ (by simp)) h
 | bl b=>rw[Rep.bl_iff.mp r] at q;exact zg7 I q (.bl b) (hk _ (by simp)) h
 | int b=>rw[Rep.int_iff.mp r] at q;exact zg7 I q (.int b) (hk _ (by simp)) h
 | str b=>rw[Rep.str_iff.mp r] at q;exact zg7 I q (.str b) (hk _ (by simp)) h
 | tup ds =>
  obtain⟨a,vs,its,rfl,rfl,h1,h2,h3,h4,_⟩:=Rep.tup_get I r q
  obtain⟨o,k1,k2,_⟩:=h4
  exact W.kia_one W.kitx_tuple I.kIn ⟨o,k1,k2⟩ (hk _ (by simp)) (fun z=>nomatch z) h
 | lst ds =>
  obtain⟨a,vs,its,rfl,rfl,h1,h2,h3,h4,_⟩:=Rep.lst_get I r q
  obtain⟨o,k1,k2,_⟩:=h4
  exact W.kia_one W.kitx_list I.kIn ⟨o,k1,k2⟩ (hk _ (by simp)) (fun z=>nomatch z) h
 | dic ks ds =>
  rw[Rep] at r
  obtain⟨a,kvs,vs,rfl,h1,h2,_⟩:=r
  cases (show u=Value.ref a from q)
  obtain⟨_,_,vs',_,p⟩:=h1.ok I.hok
  obtain⟨o,es,ep,k1,k2,_⟩:=p
  exact W.kia_one W.kitx_dict I.kIn ⟨o,k1,k2.1⟩ (hk _ (by simp)) (fun z=>nomatch z) h
 | exc x =>
  obtain⟨a,C,rfl,hc,h1⟩:=Rep.exc_iff.mp r
  cases (show u=Value.ref a from q)
  obtain⟨p,_,_⟩:=h1.ok I.hok
  have e:(tyD (.exc x)==T||(tyD (.exc x)=="bool"&&T=="int"))=false:=by
   have:∀ T∈zfP,(tyD (.exc x)==T||(tyD (.exc x)=="bool"&&T=="int"))=false:=by show ∀ T∈zfP,("<exc>"==T||("<exc>"=="bool"&&T=="int"))=false;decide
   exact this T hT
  rw[e] at h
  exact W.kia_one (zmK hc.ek hc.ek.isCls) I.kIn p (hc.bt T hT) (fun z=>nomatch z) h
 | ob k xs =>
  obtain⟨a,vs,rfl,h1,_⟩:=Rep.ob_iff.mp r
  cases (show u=Value.ref a from q)
  cases k with
  | ins c ks =>
   obtain⟨C,dx,_,hc,h2,_⟩:=h1
   obtain⟨mA,O,_⟩:=zoM I.hok h2
   obtain⟨od,O',_⟩:=O.look
   have e:(tyD (.ob (.ins c ks) xs)==T||(tyD (.ob (.ins c ks) xs)=="bool"&&T=="int"))=false:=by
    have:∀ T∈zfP,(tyD (.ob (.ins c ks) xs)==T||(tyD (.ob (.ins c ks) xs)=="bool"&&T=="int"))=false:=by show ∀ T∈zfP,("<exc>"==T||("<exc>"=="bool"&&T=="int"))=false;decide
    exact this T hT
   rw[e] at h
   exact W.kia_one (W.kitx_own (hc.cls.get _) hc.cls.hd hc.gc hc.gn hc.tk hc.mo) I.kIn O' (hc.bt T hT) (fun z=>nomatch z) h
  | dint ks =>
   obtain⟨kvs,h2,_⟩:=h1
   obtain⟨_,_,vs',_,p⟩:=h2.ok I.hok
   obtain⟨o,es,ep,k1,k2,_⟩:=p
   exact W.kia_one W.kitx_dict I.kIn ⟨o,k1,k2.1⟩ (hk _ (by simp)) (fun z=>nomatch z) h
theorem zbm {T:String}{x:Str}{p1 p2:Pos}(hk:zmr X.K T)(hgi:Gl X "isinstance")(hmi:X.mg "isinstance"=none)(hg:Gl X x)(hm:X.mg x=none)(hv:bootBuiltins x=some (.type T))(ha:DE X E a f)
  (hn:x≠"__name__":=by decide)(hdb:(x==("__debug__" : Str))=false:=by decide)(hT:T∈zfP:=by decide)
  (he:starEach [a,.Name x p2] X.env=(false,eval a X.env)::starEach [.Name x p2] X.env:=by exact zaO rfl)(he2:starEach [.Name x p2] X.env=(false,eval (.Name x p2) X.env)::starEach [] X.env:=by exact zaO rfl)(hpl:(backTo pos (starEach [.Name x p2] X.env)).any (·.1)=false:=by exact zbK rfl) :
  DE X E (.Call (.Name "isinstance" p1) [a,.Name x p2] [] pos) (zbi f (zcq T)):=by
 refine⟨?_⟩
 refine zaX (zj9 (r:=fun vs H Q=>∃ d v,vs=[v,.ty T]/\Rep X.K H d v/\Q (.bl (tyD d==T||(tyD d=="bool"&&T=="int"))) H) ?_ hgi hmi PyProof.Rows.Boot.«isinstance» (zc7 ha.o (zc7 (zop (v:=.ty T) hg hm hv rfl hn hdb) zgn he2) he) (by decide) (by decide) he hpl) fun σ H Q ⟨H₀,ρ,hs,hr,q⟩=>⟨H₀,ρ,hs,hr,?_⟩
 ·intro pins s σ H xs us Q I r h
  obtain⟨d,v,rfl,h1,q⟩:=h
  cases r with
  | cons r1 r2 =>
   cases r2 with
   | cons r3 r4 =>
    cases r4
    rename_i u1 u2
    obtain rfl:u2=Value.type T:=r3
    exact zqj I h1 r1 hk hT fun tk=>⟨.bl _,H,I.tok _,rfl,q⟩
 ·unfold zbi at q
  cases e1:f ρ with
  | stuck=>rw[e1] at q;exact q
  | exn x=>rw[e1] at q;exact q
  | ok d =>
   rw[e1] at q
   intro v H1 H01 g1 r1
   exact⟨d,v,rfl,r1.mono g1.sub,q _ H1 H01 g1 (rb _)⟩
end
theorem zlh {prog:Program}{w:World}{A:Around}{E:Value->Shared->Prop}{it t:Addr}{items:Array Value}(hne:t≠it):∀ (n i:Nat) (s:Shared) (Q:List Value->Shared->Prop),s.heap.IsListIter it t i->s.heap.IsList t items->i+n<=items.size ->
  (∀ h',h'.IsListIter it t (i+n)->Heap.SameBut it s.heap h'->Q ((items.toList.drop i).take n) { s with heap:=h' })->wpAny (model prog w) A (draw (.ref it) n) Q E s
 | 0,i,s,Q,hit,_,_,hQ=>by
  show wpAny _ _ (pure []) Q E s
  exact wpAny_pure (by simpa using hQ s.heap hit (Heap.SameBut.refl ..))
 | n+1,i,s,Q,hit,ht,hle,hQ=>by
  have hlt:i < items.size:=by omega
  show wpAny _ _ (pyNext (.ref it) >>= _) Q E s
  refine wpAny_bind (wpAny_pyNext_list_item hit ht (x:=items[i]) (by simp [hlt]) fun h₁ hit₁ hs₁=>?_)
  have ht₁:h₁.IsList t items:=by
   obtain⟨o,k1,k2⟩:=ht
   exact⟨o,(hs₁.2 t hne).trans k1,k2⟩
  refine wpAny_bind (wpAny_holding (zlh hne n (i+1) _ _ hit₁ ht₁ (by omega) fun h₂ hit₂ hs₂=>wpAny_pure ?_))
  have hd:items.toList.drop i=items[i]::items.toList.drop (i+1):=by simp [List.drop_eq_getElem_cons,hlt]
  have:=hQ h₂ (by rw[show i+(n+1)=i+1+n by omega];exact hit₂) (hs₁.trans hs₂)
  rw[hd,List.take_succ_cons] at this
  exact this
theorem zhU {prog:Program}{w:World}{A:Around}{E:Value->Shared->Prop}{s:Shared}{t:Addr}{items:Array Value}{Q:List Value->Shared->Prop}(hh:A.handled=none)(ht:s.heap.IsList t items)
  (hQ:∀ h',Heap.ExtBut s.heap.objs.size s.heap h'->Q items.toList { s with heap:=h' }):wpAny (model prog w) A (unpackItems (.ref t) items.size none) Q E s:=by
 have hlt:t≠s.heap.objs.size:=by obtain⟨o,ho,_⟩:=ht;exact Nat.ne_of_lt (Heap.lt_size ho)
 unfold unpackItems
 refine wpAny_bind ?_
 ·unfold notIterableAtAll
  refine wpAny_bind (wpAny_specialOf ht.typeIs slot_list_iter.lookup ?_)
  refine wpAny_pure ?_
  simp only[Bool.false_eq_true,if_false]
  refine wpAny_bind (wpAny_holding (wpAny_pyIter_list ht ?_))
  have ht0:(s.heap.push { cls:=.type "list_iterator",data:=.fields #[.ref t,.int 0 0] }).IsList t items:=by
   obtain⟨o,k1,k2⟩:=ht
   exact⟨o,Heap.get?_push_of_some _ k1,k2⟩
  refine wpAny_bind (wpAny_holding (zlh hlt items.size 0 _ _ ⟨_,Heap.get?_push_size _ rfl,rfl,rfl⟩ ht0 (by omega) fun h₁ hit₁ hs₁=>?_))
  have hall:List.take items.size (List.drop 0 items.toList)=items.toList:=by
   rw[List.drop_zero];exact List.take_of_length_le (by simp)
  rw[hall]
  rw[if_neg (by simp)]
  have ht₁:h₁.IsList t items:=by
   obtain⟨o,k1,k2⟩:=ht0
   exact⟨o,(hs₁.2 t hlt).trans k1,k2⟩
  refine wpAny_bind (wpAny_holding (wpAny_pyNext_list_end hh hit₁ ht₁ (by simp) fun h₂ he₂=>?_))
  simp only[Option.isSome_none,Bool.false_eq_true,if_false]
  refine wpAny_pure (hQ h₂ fun b o hb e=>he₂ b o hb (hs₁.extBut b o hb (Heap.get?_push_of_some _ e)))
def zrJ (σ:L2.St):List Nat->List V->L2.St
 | i::is,v::vs=>zrJ (σ.set i (some v)) is vs
 | _,_=>σ
def zdj (ρ:Ev):List Nat->List D->Ev
 | i::is,d::ds=>zdj (ρ.set i (.sh d)) is ds
 | _,_=>ρ
theorem SRx.putAll {K:W.Frag}{He H0e H₀ H:Hp}:∀ {is:List Nat}{ds:List D}{vs:List V}{σ:L2.St}{ρ:Ev},SRx K He H0e H₀ σ H ρ->Reps K H₀ ds vs->SRx K He H0e H₀ (zrJ σ is vs) H (zdj ρ is ds)
 | [],_,_,_,_,h,_=>by unfold zrJ zdj;exact h
 | _::_,[],_,_,_,h,r=>by rw[Reps.nil_iff.mp r];unfold zrJ zdj;exact h
 | i::is,d::ds,_,_,_,h,r=>by
  obtain⟨v,vs,rfl,h1,h2⟩:=Reps.cons_iff.mp r
  unfold zrJ zdj
  exact SRx.putAll (h.put h1) h2
section
variable {X:Cx}{E:XK}{He H0e:Hp}{e a b:Expr}{es:List Expr}{f g:Ev->Res D}{fa:Ev->Res (List D)}{pos:Pos}{is:List Nat}
def tVs (is:List Nat):TGs:=fun vs σ H Q=>vs.length=is.length/\Q (zrJ σ is vs) H
theorem zmB {t t':TGs}(h:PGs X es t)(w:∀ vs σ H Q,t' vs σ H Q->t vs σ H Q):PGs X es t':=fun pins s σ H vs us Q I r q=>h pins s σ H vs us Q I r (w vs σ H Q q)
theorem zko:PGs X [] (tVs []):=zmB zrU fun vs σ H Q ⟨h,q⟩=>by
 have e:vs=[]:=List.length_eq_zero_iff.mp h
 subst e
 exact⟨rfl,q⟩
theorem zcK {i:Nat}{x:Str}{p:Pos}(hN:X.N.Nodup)(hi:X.N[i]?=some x)(hx:Loc X.env.scope x)(h:PGs X es (tVs is))(hf:X.fn x=true∨X.env.scope.names.lookup x=some .local := by first | exact .inl rfl | exact .inr rfl | assumption)
  (hs:(assignEach (.Name x p::es) X.env).map (·.2)=assign (.Name x p) X.env::(assignEach es X.env).map (·.2):=by rfl):PGs X (.Name x p::es) (tVs (i::is)) :=
 zmB (zp1 (zom hN hi hx hf) h hs) fun vs σ H Q ⟨h,q⟩=>by
  cases vs with
  | nil=>simp at h
  | cons v vs=>exact⟨v,vs,rfl,by simpa using h,q⟩
theorem zrV {k:Nat}{t:TGs}{n:Nat}(hc:X.calm=true)(h:PGs X es t)
  (hn:(assignEach es X.env).length=n:=by rfl)(hst:(assignEach es X.env).findIdx? (·.1)=none:=by rfl):PG X (.Tuple es k pos) (fun v σ H Q=>∃ a xs,v=.ref a/\SqL X.K H a xs/\xs.length=n/\t xs σ H Q):=by
 intro pins s σ H v u Q I r hw
 obtain⟨a,xs,e1,hq,hl,hw⟩:=hw
 subst e1
 cases r
 obtain⟨its,rv,ht,hz⟩:=I.list hq
 rw[assign_Tuple]
 refine wpAny_bind (wpAny_standAt ?_)
 unfold unpack
 rw[hn,hst]
 have hsz:n=its.toArray.size:=by rw[List.size_toArray,← rv.length,hl]
 rw[hsz]
 refine wpAny_bind (wpAny_holding (zhU (I.ok.hd hc) ht.isList fun h' hx=>?_))
 have I1:Inv X pins σ H { s with heap:=h' }:=I.kept (t':=s.toks) fun b o e=>hx b o (Nat.ne_of_lt (Heap.lt_size e)) e
 exact h pins _ σ H xs _ Q I1 (by simpa using rv) hw
theorem zvc {tgt:Expr}{t t':TG}(h:PG X tgt t)(h':PG X tgt t'):PG X tgt (fun v σ H Q=>t v σ H Q∨t' v σ H Q):=fun pins s σ H v u Q I r q=>q.elim (h pins s σ H v u Q I r) (h' pins s σ H v u Q I r)
theorem zq7 {k:Nat}(hc:X.calm=true)(h:PGs X es (tVs is))(hn:(assignEach es X.env).length=is.length:=by rfl)(hst:(assignEach es X.env).findIdx? (·.1)=none:=by rfl) :
  PG X (.Tuple es k pos) (fun v σ H Q=>∃ a xs,v=.ref a/\(SqT X.K H a xs∨SqL X.K H a xs)/\xs.length=is.length/\Q (zrJ σ is xs) H) :=
 zlV (zvc (ztw hc h hn hst) (zrV hc h hn hst)) fun v σ H Q ⟨a,xs,e,hq,hl,q⟩=>hq.elim (fun z=>.inl ⟨a,xs,e,z,hl,hl,q⟩) fun z=>.inr ⟨a,xs,e,z,hl,hl,q⟩
def zdD (n:Nat)(d:D):Option (List D):=match d with
 | .tup ds=>if ds.length=n then some ds else none
 | .lst ds=>if ds.length=n then some ds else none
 | _=>none
theorem ziM {K:W.Frag}{H:Hp}{n:Nat}{d:D}{ds:List D}{v:V}(h:zdD n d=some ds)(r:Rep K H d v):∃ a vs,v=.ref a/\(SqT K H a vs∨SqL K H a vs)/\vs.length=n/\Reps K H ds vs:=by
 unfold zdD at h
 cases d with
 | tup es =>
  by_cases c:es.length=n
  ·simp only[if_pos c] at h;cases h
   obtain⟨a,vs,rfl,h1,h2⟩:=Rep.tup_iff.mp r
   exact⟨a,vs,rfl,.inl h1,by rw[← h2.length];exact c,h2⟩
  ·simp only[if_neg c] at h;cases h
 | lst es =>
  by_cases c:es.length=n
  ·simp only[if_pos c] at h;cases h
   obtain⟨a,vs,rfl,h1,h2⟩:=Rep.lst_iff.mp r
   exact⟨a,vs,rfl,.inr h1,by rw[← h2.length];exact c,h2⟩
  ·simp only[if_neg c] at h;cases h
 | _=>cases h
theorem zmx {K:W.Frag}{H H':Hp}{a:Addr}{vs:List V}(hs:zaT H H')(h:SqT K H a vs∨SqL K H a vs):SqT K H' a vs∨SqL K H' a vs:=h.elim (fun z=>.inl (zaT.sqT hs z)) fun z=>.inr (zaT.sqL hs z)
def zuu (is:List Nat)(f:Ev->Res D):Ev->Res Fl:=fun ρ=>(f ρ).bind fun d=>match zdD is.length d with
 | some ds=>.ok (.nx (zdj ρ is ds))
 | none=>.stuck
theorem zrd {k:Nat}{tp:Pos}(hc:X.calm=true)(he:DE X E e f)(h:PGs X es (tVs is))(hs:swapsWithSole [.Tuple es k tp] e pos.line X.env=pure false:=by rfl)(hw:swappedStores [.Tuple es k tp] e X.env=pure none:=by rfl)
  (h1:(assignEach [.Tuple es k tp] X.env).map (·.2)=[assign (.Tuple es k tp) X.env]:=by rfl)(hn:(assignEach es X.env).length=is.length:=by rfl)(hst:(assignEach es X.env).findIdx? (·.1)=none:=by rfl) :
  DS X E He H0e (.Assign [.Tuple es k tp] e pos) (zuu is f):=by
 refine⟨?_⟩
 refine zcO (ztu he.o (zq7 hc h hn hst) hs hw h1) fun D σ H ⟨H₀,ρ,h,q⟩=>⟨H₀,ρ,h.g.sub,h.rd,?_⟩
 refine plain (k:=fun d=>match zdD is.length d with
  | some ds=>.ok (.nx (zdj ρ is ds))
  | none=>.stuck) h q fun d v H' H₀' _ g rp q'=>?_
 cases e1:zdD is.length d with
 | none=>rw[e1] at q';exact q'.elim
 | some ds =>
  rw[e1] at q'
  obtain⟨a,vs,rfl,k1,k2,k3⟩:=ziM e1 rp
  exact⟨a,vs,rfl,zmx g.sub k1,k2,q' _ H' H₀' (zaT.refl _) ((h.grow g).putAll k3)⟩
def zoP (is:List Nat):Ev->D->Res Ev:=fun ρ d=>match zdD is.length d with
 | some ds=>.ok (zdj ρ is ds)
 | none=>.stuck
theorem zkJ:zpr (zoP is):=fun ρ d=>by
 unfold zoP
 cases zdD is.length d with
 | none=>exact .inl rfl
 | some ds=>exact .inr ⟨_,rfl⟩
theorem zrg {k:Nat}(hc:X.calm=true)(h:PGs X es (tVs is))(hn:(assignEach es X.env).length=is.length:=by rfl)(hst:(assignEach es X.env).findIdx? (·.1)=none:=by rfl):DG X E He H0e (.Tuple es k pos) (zoP is) :=
 ⟨zlV (zq7 hc h hn hst) fun v σ H Q ⟨H₀,ρ,d,h,rp,q⟩=>by
  unfold zoP at q
  cases e1:zdD is.length d with
  | none=>rw[e1] at q;exact q.elim
  | some ds =>
   rw[e1] at q
   obtain⟨a,vs,rfl,k1,k2,k3⟩:=ziM e1 rp
   exact⟨a,vs,rfl,zmx h.g.sub k1,k2,q _ H H₀ (zaT.refl _) (h.putAll k3)⟩⟩
def zq0 (i j:Nat)(fa:Ev->Res (List D)):Ev->Res Fl:=fun ρ=>(fa ρ).bind fun ds=>match ds with
 | [x,y]=>.ok (.nx ((ρ.set i (.sh x)).set j (.sh y)))
 | _=>.stuck
theorem zt9 {i j:Nat}{x y:Str}{px py pt pt2:Pos}{kt k2}(hc:X.calm=true)(hN:X.N.Nodup)(hi:X.N[i]?=some x)(hj:X.N[j]?=some y)(hij:i≠j)
  (hx:X.env.scope.names.lookup x=some .local)(hy:X.env.scope.names.lookup y=some .local)(ha:DA X E [a,b] fa)
  (hw:swappedStores [.Tuple [.Name x px,.Name y py] kt pt] (.Tuple [a,b] k2 pt2) X.env=pure (some [x,y]))
  (hs:swapsWithSole [.Tuple [.Name x px,.Name y py] kt pt] (.Tuple [a,b] k2 pt2) pos.line X.env=pure false:=by rfl) :
  DS X E He H0e (.Assign [.Tuple [.Name x px,.Name y py] kt pt] (.Tuple [a,b] k2 pt2) pos) (zq0 i j fa):=by
 refine⟨?_⟩
 refine zcO (ztt hc hN hi hj hij hx hy ha.o hw hs) fun D σ H ⟨H₀,ρ,h,q⟩=>⟨H₀,ρ,h.g.sub,h.rd,?_⟩
 unfold zq0 at q
 cases e1:fa ρ with
 | stuck=>rw[e1] at q;exact q
 | exn x=>rw[e1] at q;exact fun C ox H' H₀' g ex=>q C ox H' H₀' (h.g.trans g) ex
 | ok ds =>
  rw[e1] at q
  intro vs H1 H01 g1 r1
  match ds,r1,q with
  | [x,y],r1,q =>
   obtain⟨v,r',rfl,h1,h2⟩:=Reps.cons_iff.mp r1
   obtain⟨u,r'',rfl,h3,h4⟩:=Reps.cons_iff.mp h2
   rw[Reps.nil_iff.mp h4]
   exact⟨v,u,rfl,q _ H1 H01 g1.z (((h.grow g1).put h1).put h3)⟩
  | [],_,q=>exact q.elim
  | [_],_,q=>exact q.elim
  | _::_::_::_,_,q=>exact q.elim
end
theorem zjF {K:W.Frag}:zmr K "int":=by
 intro S hS
 simp only[List.mem_cons,List.mem_nil_iff,or_false] at hS
 rcases hS with rfl | rfl | rfl | rfl | rfl | rfl | rfl<;>first | rfl | decide +kernel
theorem ziT {K:W.Frag}:zmr K "bool":=by
 intro S hS
 simp only[List.mem_cons,List.mem_nil_iff,or_false] at hS
 rcases hS with rfl | rfl | rfl | rfl | rfl | rfl | rfl<;>first | rfl | decide +kernel
theorem zjE {K:W.Frag}:zmr K "str":=by
 intro S hS
 simp only[List.mem_cons,List.mem_nil_iff,or_false] at hS
 rcases hS with rfl | rfl | rfl | rfl | rfl | rfl | rfl<;>first | rfl | decide +kernel
theorem zd3 {K:W.Frag}:zmr K "tuple":=by
 intro S hS
 simp only[List.mem_cons,List.mem_nil_iff,or_false] at hS
 rcases hS with rfl | rfl | rfl | rfl | rfl | rfl | rfl<;>first | rfl | decide +kernel
theorem zdF {K:W.Frag}:zmr K "list":=by
 intro S hS
 simp only[List.mem_cons,List.mem_nil_iff,or_false] at hS
 rcases hS with rfl | rfl | rfl | rfl | rfl | rfl | rfl<;>first | rfl | decide +kernel
section
variable {X:Cx}{E:XK}{He H0e:Hp}{e a b c:Expr}{f g h:Ev->Res D}{pos:Pos}
theorem dv (i:Nat){x:Str}(hN:X.N[i]?=some x:=by rfl)(hv:Vis X.env.scope x:=by first | exact Or.inl rfl | exact Or.inr (Or.inl rfl) | exact Or.inr (Or.inr rfl))(hd:(x==("__debug__" : Str))=false:=by decide)
  (hcd:(x==("__classdict__" : Str))=false:=by decide):DE X E (.Name x pos) (zaf i):=zuc hN hv hd hcd
def Kon (K:W.Frag)(mg:Str->Option Value)(x:Str)(d:D):Prop:=∃ v u,mg x=some u/\zcz v u/\∀ H,Rep K H d v
theorem zbJ {x:Str}{d:D}(k:Kon X.K X.mg x d)(hg:Gl X x)(hd:(x==("__debug__" : Str))=false:=by decide):DE X E (.Name x pos) (dC d):=by
 obtain⟨v,u,h1,h2,h3⟩:=k
 exact zsv hg h1 h2 h3 hd
theorem zcQ {K:W.Frag}{mg:Str->Option Value}{x:Str}{i:Int}{t:Tok}(h:mg x=some (.int i t)):Kon K mg x (.int i):=⟨.int i,_,h,⟨t,rfl⟩,fun _=>ri _⟩
theorem zsf {K:W.Frag}{mg:Str->Option Value}{x:Str}{i:Str}{t:Tok}(h:mg x=some (.str i t)):Kon K mg x (.str i):=⟨.str i,_,h,⟨t,rfl⟩,fun _=>Rep.str_iff.mpr rfl⟩
theorem zse {K:W.Frag}{mg:Str->Option Value}{x:Str}{a:Addr}{od:Option Addr}{its:Array Value}{n:Nat}{sl:Array (Option Value)}{ds:List D}{vs:List V}(h:mg x=some (.ref a))(l:K.lookup a=some ⟨.type "tuple",od,.seq its n,sl⟩)
  (hv:zb0 vs its.toList)(hz:its.size<=sizeLine)(hd:∀ H,Reps K H ds vs):Kon K mg x (.tup ds):=⟨.ref a,_,h,rfl,fun H=>Rep.tup_iff.mpr ⟨a,vs,rfl,.inr ⟨_,its,n,l,rfl,rfl,hz,hv⟩,hd H⟩⟩
def zfK (op op':D->D->Res D)(f g h:Ev->Res D):Ev->Res D:=fun ρ=>(f ρ).bind fun x=>(g ρ).bind fun y=>(op x y).bind fun z=>match z with
 | .bl true=>(h ρ).bind fun w=>op' y w
 | .bl false=>.ok (.bl false)
 | _=>.stuck
def zmo (r:R2)(o:D->D->Res D):Prop:=∀ (K:W.Frag) (x y:D) (v u:V) (H H₀:Hp) (Q:VK) (d:D),zaT H₀ H->Rep K H₀ x v->Rep K H₀ y u->o x y=.ok d->(∀ w,Rep K H₀ d w->Q w H)->r v u H Q
theorem zet {gv:Int->Int->V}{g:Int->Int->D}(hg:∀ K H i j,Rep K H (g i j) (gv i j)):zmo (rI0 gv) (iop (fun _ _=>true) g):=by
 intro K x y v u H H₀ Q d hs r1 r2 e q
 unfold iop at e
 cases x with
 | int i =>
  cases y with
  | int j=>simp only[if_pos] at e;cases e;exact⟨i,j,Rep.int_iff.mp r1,Rep.int_iff.mp r2,q _ (hg _ _ i j)⟩
  | _=>cases e
 | _=>cases e
def zmq (o:D->D->Res D):Prop:=∀ x y,∀ z,o x y≠.exn z
theorem zjg {r r':R2}{o o':D->D->Res D}(p:zmo r o)(p':zmo r' o')(n:zmq o)(n':zmq o')(σ:L2.St)(H:Hp)(Q:VK)(q:tD X.K E (zfK o o' f g h) σ H Q) :
  znZ r r' (tD X.K E f) (tD X.K E g) (tD X.K E h) σ H Q:=by
 obtain⟨H₀,ρ,hs,hr,q⟩:=q
 refine⟨H₀,ρ,hs,hr,?_⟩
 unfold zfK at q
 cases e1:f ρ with
 | stuck=>rw[e1] at q;exact q
 | exn x=>rw[e1] at q;exact q
 | ok x =>
  rw[e1] at q
  intro v H1 H01 g1 r1
  refine⟨H01,ρ,g1.sub,hr.mono g1.z,?_⟩
  replace q:=post.grow (r:=(g ρ).bind fun y=>(o x y).bind fun z=>match z with
   | .bl true=>(h ρ).bind fun w=>o' y w
   | .bl false=>.ok (.bl false)
   | _=>.stuck) q g1
  cases e2:g ρ with
  | stuck=>rw[e2] at q;exact q
  | exn x=>rw[e2] at q;exact q
  | ok y =>
   rw[e2] at q
   intro u H2 H02 g2 r2
   replace q:=post.grow (r:=(o x y).bind fun z=>match z with
    | .bl true=>(h ρ).bind fun w=>o' y w
    | .bl false=>.ok (.bl false)
    | _=>.stuck) q g2
   cases e3:o x y with
   | stuck=>rw[e3] at q;exact q.elim
   | exn z=>exact absurd e3 (n x y z)
   | ok z =>
    rw[e3] at q
    refine p X.K x y v u H2 H02 _ z g2.sub (r1.mono g2.z) r2 e3 fun w rw'=>?_
    cases z with
    | bl b =>
     rw[Rep.bl_iff.mp rw']
     refine⟨b,rfl,?_⟩
     cases b with
     | false=>rw[if_neg Bool.false_ne_true];exact q _ H2 H02 (zbp.refl g2.sub) (rb _)
     | true =>
      rw[if_pos rfl]
      refine⟨H02,ρ,g2.sub,(hr.mono g1.z).mono g2.z,?_⟩
      replace q:post X.K E H2 H02 ((h ρ).bind fun w=>o' y w) Q:=q
      cases e4:h ρ with
      | stuck=>rw[e4] at q;exact q
      | exn x=>rw[e4] at q;exact q
      | ok w2 =>
       rw[e4] at q
       intro v3 H3 H03 g3 r3
       replace q:=post.grow (r:=o' y w2) q g3
       cases e5:o' y w2 with
       | stuck=>rw[e5] at q;exact q.elim
       | exn z=>exact absurd e5 (n' y w2 z)
       | ok d =>
        rw[e5] at q
        exact p' X.K y w2 u v3 H3 H03 Q d g3.sub (r2.mono g3.z) r3 e5 fun w3 r5=>q w3 H3 H03 (zbp.refl g3.sub) r5
    | _=>exact q.elim
theorem zqC {op op':CmpOp}{r r':R2}{o o':D->D->Res D}(ho:OpR X (compareOp op) r)(ho':OpR X (compareOp op') r')(p:zmo r o)(p':zmo r' o')(n:zmq o)(n':zmq o')(ha:DE X E a f)(hb:DE X E b g)(hc:DE X E c h)
  (hm:lastMarks [op,op'] [b,c]=false:=by with_unfolding_all rfl):DE X E (.Compare a [op,op'] [b,c] pos) (zfK o o' f g h):=⟨zaX (zp3 ho ho' ha.o hb.o hc.o hm) (zjg p p' n n')⟩
theorem zmW {op op':CmpOp}{r r':R2}{o o':D->D->Res D}(ho:OpR X (compareOp op) r)(ho':OpR X (compareOp op') r')(p:zmo r o)(p':zmo r' o')(n:zmq o)(n':zmq o')(ha:DE X E a f)(hb:DE X E b g)(hc:DE X E c h)
  (hm:lastMarks [op,op'] [b,c]=false:=by with_unfolding_all rfl):DT X E (.Compare a [op,op'] [b,c] pos) (zfK o o' f g h):=by
 refine⟨?_⟩
 refine zj7 (zpX ho ho' ha.o hb.o hc.o hm) fun σ H Q q=>?_
 have w:tD X.K E (zfK o o' f g h) σ H fun x H'=>∃ k,x=.bl k/\Q k H':=by
  obtain⟨H₀,ρ,hs,hr,q⟩:=q
  refine⟨H₀,ρ,hs,hr,?_⟩
  cases e1:zfK o o' f g h ρ with
  | stuck=>rw[e1] at q;exact q
  | exn x=>rw[e1] at q;exact q
  | ok d =>
   rw[e1] at q
   intro v H1 H01 g1 r1
   cases d with
   | bl b=>rw[Rep.bl_iff.mp r1];exact⟨b,rfl,q H1 H01 g1⟩
   | _=>exact q.elim
 exact zjg p p' n n' σ H _ w
theorem zeu {c:Int->Int->Bool}{g:Int->Int->D}:zmq (iop c g):=by
 intro x y z
 unfold iop
 cases x<;>cases y<;>simp<;>split<;>simp
end
def zkj (i:Nat):Ev->Nat:=fun ρ=>match ρ[i]? with
 | some (.sh (.int j))=>j.natAbs+1
 | _=>0
section
variable {X:Cx}{E:XK}{a b:Expr}{f g:Ev->Res D}{pos:Pos}
def zcv (x y:D):Res D:=match x,y with
 | .int i,.int j=>if zh3 i j=true then .ok (.int (i*j)) else .stuck
 | _,_=>.stuck
theorem zhe (ha:DE X E a f)(hb:DE X E b g):DE X E (.BinOp a .Mult b pos) (zab f g zcv):=znD zrY (by
 intro x y v u H H₀ Q hs r1 r2 q
 unfold zcv at q
 cases x with
 | int i =>
  cases y with
  | int j =>
   by_cases h:zh3 i j=true
   ·simp only[if_pos h] at q
    exact⟨i,j,Rep.int_iff.mp r1,Rep.int_iff.mp r2,zh3.ok h,za8 hs q (ri _)⟩
   ·simp only[if_neg h] at q;exact q.elim
  | _=>exact q.elim
 | _=>exact q.elim) ha hb
end
def zvt (K:W.Frag)(tg:Ev->D->Res Ev):TG:=fun v σ H Q=>∃ He H0e,tG K He H0e tg v σ H Q
theorem Reps.rep {K:W.Frag}{H:Hp}{ds:List D}{vs:List V}(h:Reps K H ds vs):∀ k:Nat,Reps K H (List.replicate k ds).flatten (List.replicate k vs).flatten
 | 0=>by simp;exact Reps.nil
 | k+1=>by
  rw[List.replicate_succ,List.replicate_succ,List.flatten_cons,List.flatten_cons]
  exact h.app (Reps.rep h k)
section
variable {X:Cx}{E:XK}{a b:Expr}{f g:Ev->Res D}{pos:Pos}
def zqF (x y:D):Res D:=match x,y with
 | .lst ds,.int k=>if ds.length*k.toNat<=line/\-9223372036854775808<=k/\k < 9223372036854775808 then .ok (.lst (List.replicate k.toNat ds).flatten) else .stuck
 | _,_=>.stuck
def zq2 (f g:Ev->Res D):Ev->Res D:=fun ρ=>(f ρ).bind fun x=>match x with
 | .lst ds=>(g ρ).bind fun y=>zqF (.lst ds) y
 | _=>.stuck
theorem zmZ (ha:DF X E a f)(hb:DE X E b g):DE X E (.BinOp a .Mult b pos) (zq2 f g):=by
 refine⟨?_⟩
 refine zaX (ztB ztI ha.o hb.o) fun σ H Q ⟨H₀,ρ,hs,hr,q⟩=>⟨H₀,ρ,hs,hr,?_⟩
 unfold zq2 at q
 cases e1:f ρ with
 | stuck=>rw[e1] at q;exact q
 | exn x=>rw[e1] at q;exact q
 | ok x =>
  rw[e1] at q
  cases x with
  | lst ds =>
   replace q:post X.K E H H₀ ((g ρ).bind fun y=>zqF (.lst ds) y) Q:=q
   intro p vs H1 H01 g1 hp h0 hv rp
   refine⟨H01,ρ,g1.sub,hr.mono g1.z,?_⟩
   replace q:=q.grow g1
   cases e2:g ρ with
   | stuck=>rw[e2] at q;exact q
   | exn x=>rw[e2] at q;exact q
   | ok y =>
    rw[e2] at q
    intro u H2 H02 g2 r2
    replace q:=post.grow (r:=zqF (.lst ds) y) q g2
    cases y with
    | int k =>
     unfold zqF at q
     by_cases c:ds.length*k.toNat<=line/\-9223372036854775808<=k/\k < 9223372036854775808
     ·simp only[if_pos c] at q
      refine⟨p,k,vs,rfl,Rep.int_iff.mp r2,g2.s _ _ hv,by omega,by omega,by rw[← rp.length];exact zc9 c.1,fun n hn=>?_⟩
      exact q _ _ _ (zbp.alloc g2.sub hn) (Rep.lst_iff.mpr ⟨n,_,rfl,SqL.of zas,((rp.mono g2.z).rep _).mono (zbp.alloc g2.sub hn).z⟩)
     ·simp only[if_neg c] at q;exact q.elim
    | _=>exact q.elim
  | _=>exact q.elim
def zpa (x:D):Res D:=match x with
 | .lst ds=>.ok (.tup ds)
 | .tup ds=>.ok (.tup ds)
 | _=>.stuck
theorem zqJ:zia X E (fun xs H Q=>∃ p ys,xs=[.ref p]/\((SqL X.K H p ys/\∀ l,H l=none->Q (.ref l) (upd H l (.tup ys)))∨(SqT X.K H p ys/\Q (.ref p) H))) (m1 zpa):=zmj fun x v H H₀ Q hs r q=>by
 cases x with
 | lst ds =>
  obtain⟨p,vs,rfl,h1,h2⟩:=Rep.lst_iff.mp r
  exact⟨p,vs,rfl,.inl ⟨zaT.sqL hs h1,fun n hn=>q _ _ _ (zbp.alloc hs hn) (Rep.tup_iff.mpr ⟨n,_,rfl,SqT.of zas,h2.mono (zbp.alloc hs hn).z⟩)⟩⟩
 | tup ds =>
  obtain⟨p,vs,e,h1,h2⟩:=Rep.tup_iff.mp r
  subst e
  exact⟨p,vs,rfl,.inr ⟨zaT.sqT hs h1,za8 hs q r⟩⟩
 | _=>exact q.elim
end
def zgl:List D->Option (List Str)
 | []=>some []
 | .str x::r=>(zgl r).map (x::·)
 | _=>none
theorem zmv {K:W.Frag}{H:Hp}:∀ {ds:List D}{ys:List Str}{vs:List V}{us:List Value},zgl ds=some ys->Reps K H ds vs->zb0 vs us->StrsAre us ys
 | [],ys,vs,us,h,r,q=>by
  cases h
  rw[Reps.nil_iff.mp r] at q
  cases q
  exact .nil
 | d::ds,ys,vs,us,h,r,q=>by
  obtain⟨v,r',rfl,h1,h2⟩:=Reps.cons_iff.mp r
  cases q with
  | cons q1 q2 =>
   cases d with
   | str x =>
    unfold zgl at h
    cases e:zgl ds with
    | none=>rw[e] at h;cases h
    | some zs =>
     rw[e] at h
     cases h
     rw[Rep.str_iff.mp h1] at q1
     obtain⟨t,rfl⟩:=q1
     exact .cons _ _ (zmv e h2 q2)
   | _=>cases h
section
variable {X:Cx}{E:XK}{o e:Expr}{fo:Ev->Res D}{fa:Ev->Res (List D)}
def zfB (z:Str)(ys:List Str):Bool:=decide (z.length<=16)&&decide ((ys.map (·.length)).sum+ys.length<=1048576)
def zu5 (K:W.Frag):V->List V->Hp->VK->Prop:=fun x xs H Q=>∃ z p ds ys,x=.str z/\xs=[.ref p]/\Rep K H (.lst ds) (.ref p)/\zgl ds=some ys/\zfB z ys=true/\Q (.str (Txt.join z ys)) H
theorem zr8:MtR X "str.join" (zu5 X.K):=by
 intro pins s σ H x xs v us Q I rx rs h
 obtain⟨z,p,ds,ys,rfl,rfl,hr,hy,hf,q⟩:=h
 obtain⟨t,rfl⟩:=rx
 obtain⟨u,rfl,ru⟩:=rs.one
 obtain⟨a,vs,its,ea,rfl,h1,h2,h3,h4,_⟩:=Rep.lst_get I hr ru
 unfold zfB at hf
 rw[Bool.and_eq_true] at hf
 exact join_listW h4 (by simpa using zmv hy h2 h3) (of_decide_eq_true hf.1) (of_decide_eq_true hf.2) fun t' k=>⟨.str (Txt.join z ys),H,I.tok _,⟨_,rfl⟩,q⟩
def zl7 (z:Str)(xs:List D):Res D:=match xs with
 | [.lst ds]=>match zgl ds with
  | some ys=>if zfB z ys=true then .ok (.str (Txt.join z ys)) else .stuck
  | none=>.stuck
 | _=>.stuck
def zqG (fo:Ev->Res D)(fa:Ev->Res (List D)):Ev->Res D:=fun ρ=>(fo ρ).bind fun x=>match x with
 | .str z=>(fa ρ).bind fun xs=>zl7 z xs
 | _=>.stuck
theorem zsu {apos cpos:Pos}(ho:DE X E o fo)(ha:DA X E [e] fa)
  (hbase:attributeBase o "join" X.env (eval o X.env)=eval o X.env:=by rfl)
  (hfew:((backTo cpos (starEach [e] X.env)).all (fun x=>!x.1)&&(backToKw cpos (keywordEach [] X.env)).all (fun x=>x.1.isSome)
  &&decide ([e].length+([]:List Keyword).length+(if([]:List Keyword).isEmpty then 0 else 1) < 30))=true:=by exact zik rfl)
  (hline:(apos.endLine==cpos.line)=true:=by rfl) (hs:starEach [e] X.env=(false,eval e X.env)::starEach [] X.env:=by exact zaO rfl) (hplain:(backTo cpos (starEach [] X.env)).any (·.1)=false:=by exact zbK rfl) :
  DE X E (.Call (.Attribute o "join" apos) [e] [] cpos) (zqG fo fa):=by
 refine⟨?_⟩
 refine zaX (zp4 PySem.F.plainAttrs_str PySem.F.slot_str_join PySem.F.type_str_join zr8 ho.o ha.o hbase hfew hline hs hplain) fun σ H Q ⟨H₀,ρ,hs,hr,q⟩=>⟨H₀,ρ,hs,hr,?_⟩
 unfold zqG at q
 cases e1:fo ρ with
 | stuck=>rw[e1] at q;exact q
 | exn x=>rw[e1] at q;exact q
 | ok x =>
  rw[e1] at q
  intro v H1 H01 g1 r1
  cases x with
  | str z =>
   rw[Rep.str_iff.mp r1]
   refine⟨rfl,H01,ρ,g1.sub,hr.mono g1.z,?_⟩
   replace q:=post.grow (r:=(fa ρ).bind fun xs=>zl7 z xs) q g1
   cases e2:fa ρ with
   | stuck=>rw[e2] at q;exact q
   | exn x=>rw[e2] at q;exact q
   | ok xs =>
    rw[e2] at q
    intro us H2 H02 g2 r2
    replace q:=post.grow (r:=zl7 z xs) q g2
    unfold zl7 at q
    match xs,r2,q with
    | [.lst ds],r2,q =>
     obtain⟨w,r',rfl,k1,k2⟩:=Reps.cons_iff.mp r2
     rw[Reps.nil_iff.mp k2]
     obtain⟨p,vs,rfl,k3,k4⟩:=Rep.lst_iff.mp k1
     cases e3:zgl ds with
     | none=>simp only[e3] at q;exact q.elim
     | some ys =>
      simp only[e3] at q
      by_cases c:zfB z ys=true
      ·rw[if_pos c] at q
       exact⟨z,p,ds,ys,rfl,rfl,k1.mono g2.sub,e3,c,za8 g2.sub q (Rep.str_iff.mpr rfl)⟩
      ·rw[if_neg c] at q;exact q.elim
    | [],_,q=>exact q.elim
    | d1::_::_,_,q=>cases d1<;>exact False.elim q
    | [.non],_,q=>exact q.elim
    | [.bl _],_,q=>exact q.elim
    | [.int _],_,q=>exact q.elim
    | [.str _],_,q=>exact q.elim
    | [.tup _],_,q=>exact q.elim
    | [.dic _ _],_,q=>exact q.elim
    | [.exc _],_,q=>exact q.elim
    | [.ob _ _],_,q=>exact q.elim
  | _=>exact q.elim
end
section
variable {X:Cx}{E:XK}{a:Expr}{f:Ev->Res D}{pos:Pos}
def zws:V->Option Int->Option Int->Hp->VK->Prop:=fun x lo hi H Q=>∃ z,x=.str z/\z.length<=sizeLine/\Q (.str (Txt.slice z lo hi)) H
theorem zta:SlR X zws:=by
 intro pins s σ H x v vl vu lo hi sl Q I rx hs pl pu h
 obtain⟨z,rfl,hz,q⟩:=h
 obtain⟨t,rfl⟩:=rx
 have fin:∀ t' k,EP X pins σ Q (.str (Txt.slice z lo hi) t') { s with toks:=k }:=fun t' k=>⟨.str (Txt.slice z lo hi),H,I.tok _,⟨_,rfl⟩,q⟩
 refine⟨"str",_,PySem.F.slot_str_getitem.lookup,typeIs_str s z t,?_⟩
 cases pl with
 | none =>
  cases pu with
  | none=>exact wpAny_getItem_str_slice (l:=none) (u:=none) (st:=none) hs rfl (post_val_or_str ⟨Nat.le_trans (Txt.slice_le z _ _) hz,fin⟩)
  | int j uj=>exact wpAny_getItem_str_slice (l:=none) (u:=some (j,uj)) (st:=none) hs rfl (post_val_or_str ⟨Nat.le_trans (Txt.slice_le z _ _) hz,fin⟩)
 | int i ui =>
  cases pu with
  | none=>exact wpAny_getItem_str_slice (l:=some (i,ui)) (u:=none) (st:=none) hs rfl (post_val_or_str ⟨Nat.le_trans (Txt.slice_le z _ _) hz,fin⟩)
  | int j uj=>exact wpAny_getItem_str_slice (l:=some (i,ui)) (u:=some (j,uj)) (st:=none) hs rfl (post_val_or_str ⟨Nat.le_trans (Txt.slice_le z _ _) hz,fin⟩)
def zkO (x:D)(l h:Option Int):Res D:=match x with
 | .lst ds=>.ok (.lst (zcA ds l h))
 | .str z=>if z.length<=line then .ok (.str (Txt.slice z l h)) else .stuck
 | .tup ds=>if HT.sIx ds.length 0 l=0/\HT.sIx ds.length ds.length h=ds.length then .stuck else .ok (.tup (zcA ds l h))
 | _=>.stuck
def zgS (f:Ev->Res D)(lo hi:Ev->Res (Option Int)):Ev->Res D:=fun ρ=>(f ρ).bind fun x=>(lo ρ).bind fun l=>(hi ρ).bind fun h=>zkO x l h
theorem zaY {lo hi:Option Expr}{p2:Pos}{fl fh:Ev->Res (Option Int)}(ha:DE X E a f)(hl:DO X E lo fl)(hh:DO X E hi fh):DE X E (.Subscript a (.Slice lo hi none p2) pos) (zgS f fl fh) :=
 ⟨zaX (zmC (SlR.or zn3 (SlR.or zta zs9)) ha.o hl.o hh.o) (zlK (m:=zkO) fun x v l h H H₀ Q hs r q=>by
  cases x with
  | lst ds =>
   obtain⟨p,vs,rfl,h1,h2⟩:=Rep.lst_iff.mp r
   exact .inl ⟨p,vs,rfl,zaT.sqL hs h1,fun n hn=>q _ _ _ (zbp.alloc hs hn) (Rep.lst_iff.mpr ⟨n,_,rfl,SqL.of zas,(h2.cut l h).mono (zbp.alloc hs hn).z⟩)⟩
  | str z =>
   unfold zkO at q
   by_cases c:z.length<=line
   ·simp only[if_pos c] at q
    exact .inr (.inl ⟨z,Rep.str_iff.mp r,zc9 c,za8 hs q (Rep.str_iff.mpr rfl)⟩)
   ·simp only[if_neg c] at q;exact q.elim
  | tup ds =>
   unfold zkO at q
   by_cases c:HT.sIx ds.length 0 l=0/\HT.sIx ds.length ds.length h=ds.length
   ·simp only[if_pos c] at q;exact q.elim
   ·simp only[if_neg c] at q
    obtain⟨p,vs,rfl,h1,h2⟩:=Rep.tup_iff.mp r
    exact .inr (.inr ⟨p,vs,rfl,zaT.sqT hs h1,by rw[← h2.length];exact c,fun n hn=>q _ _ _ (zbp.alloc hs hn) (Rep.tup_iff.mpr ⟨n,_,rfl,SqT.of zas,(h2.cut l h).mono (zbp.alloc hs hn).z⟩)⟩)
  | _=>exact q.elim)⟩
end
def Its (z:Str):It:=⟨fun i _=>i < z.cps.size,fun i H x H'=>H'=H/\∃ c,z.cps[i]?=some c/\x=.str ⟨#[c]⟩,fun i _=>z.cps.size<=i⟩
theorem znd {P:Program}{w:World}{K:W.Frag}{tg:Expr}(z:Str)(t:Tok)(it:Addr):zsL P w K tg (Its z) [it] it (fun i h=>h.IsStrIter it "str_ascii_iterator" z t i) where
 mem:=by simp
 obj:=fun i h st b hb=>by
  have e:b=it:=by simpa using hb
  subst e
  obtain⟨o,e,c,d⟩:=st
  exact⟨o,e,fun v z=>by rw[d] at z;cases z⟩
 keep:=fun i h h' st k=>let ⟨o,ho,r⟩:=st;⟨o,k it (by simp) o ho,r⟩
 item:=by
  intro X hP hw hK hc i pins s σ H E I hf st hg
  subst hP hw hK
  have hg':i < z.cps.size:=hg
  obtain⟨f0,f1,f2,f3,f4,f5⟩:=hf it (by simp)
  refine wpAny_pyNext_ascii_item st (c:=z.cps[i]) (by simp [hg']) fun h' st' sb=>?_
  have I1:Inv X pins σ H { s with heap:=h',toks:=s.toks+1 }:=I.turned (t':=s.toks+1) (fun b o hb e=>(sb.2 b hb).trans e) f0 f1 f3 f4 f5
  obtain⟨o,e,c,d⟩:=id st'
  exact⟨_,rfl,zqq (s:={ s with heap:=h',toks:=s.toks+1 }) e c d (by decide) ⟨.str ⟨#[z.cps[i]]⟩,H,I1,⟨_,rfl⟩,⟨rfl,_,by simp [hg'],rfl⟩,st',fun b hb=>(hf b hb).1⟩⟩
 done:=by
  intro X hP hw hK hc i pins s σ H E I hf st hg
  subst hP hw hK
  have hg':z.cps.size<=i:=hg
  obtain⟨f0,f1,f2,f3,f4,f5⟩:=hf it (by simp)
  exact wpAny_pyNext_ascii_end (I.ok.hd hc) st (by simp [hg']) fun h' eb=>⟨rfl,I.turned (t':=s.toks) (fun b o hb e=>eb b o hb e) f0 f1 f3 f4 f5⟩
 self:=fun _ _ _ _ _ st h=>wpAny_pyIter_striter_ascii st h
theorem znU {P:Program}{w:World}{K:W.Frag}{tg:Expr}(z:Str)(t:Tok)(it:Addr):zsL P w K tg (Its z) [it] it (fun i h=>h.IsStrIter it "str_iterator" z t i) where
 mem:=by simp
 obj:=fun i h st b hb=>by
  have e:b=it:=by simpa using hb
  subst e
  obtain⟨o,e,c,d⟩:=st
  exact⟨o,e,fun v z=>by rw[d] at z;cases z⟩
 keep:=fun i h h' st k=>let ⟨o,ho,r⟩:=st;⟨o,k it (by simp) o ho,r⟩
 item:=by
  intro X hP hw hK hc i pins s σ H E I hf st hg
  subst hP hw hK
  have hg':i < z.cps.size:=hg
  obtain⟨f0,f1,f2,f3,f4,f5⟩:=hf it (by simp)
  refine wpAny_pyNext_wide_item st (c:=z.cps[i]) (by simp [hg']) fun h' st' sb=>?_
  have I1:Inv X pins σ H { s with heap:=h',toks:=s.toks+1 }:=I.turned (t':=s.toks+1) (fun b o hb e=>(sb.2 b hb).trans e) f0 f1 f3 f4 f5
  obtain⟨o,e,c,d⟩:=id st'
  exact⟨_,rfl,zqq (s:={ s with heap:=h',toks:=s.toks+1 }) e c d (by decide) ⟨.str ⟨#[z.cps[i]]⟩,H,I1,⟨_,rfl⟩,⟨rfl,_,by simp [hg'],rfl⟩,st',fun b hb=>(hf b hb).1⟩⟩
 done:=by
  intro X hP hw hK hc i pins s σ H E I hf st hg
  subst hP hw hK
  have hg':z.cps.size<=i:=hg
  obtain⟨f0,f1,f2,f3,f4,f5⟩:=hf it (by simp)
  exact wpAny_pyNext_wide_end (I.ok.hd hc) st (by simp [hg']) fun h' eb=>⟨rfl,I.turned (t':=s.toks) (fun b o hb e=>eb b o hb e) f0 f1 f3 f4 f5⟩
 self:=fun _ _ _ _ _ st h=>wpAny_pyIter_striter_wide st h
def zwA (tl:TE):TI:=fun σ H R=>tl σ H fun x H1=>∃ z,x=.str z/\R (Its z) H1
theorem ztv {X:Cx}{tg l:Expr}{tl:TE}(hl:PE X l tl):PI X tg l (zwA tl):=by
 intro pins s σ H R I h
 refine thn (hl pins s σ H _ I h) fun v s1 ⟨x,H1,I1,r1,q1⟩=>?_
 obtain⟨z,rfl,q⟩:=q1
 obtain⟨t,rfl⟩:=r1
 have fpo:∀ b∈[s1.heap.objs.size],znJ X pins H1 b:=fun b hb=>by
  have e:b=s1.heap.objs.size:=by simpa using hb
  subst e
  exact I1.fpOk (Nat.le_refl _) (I1.hok.fresh (Nat.le_refl _))
 cases ha:z.cps.all (· < 128) with
 | false=>exact wpAny_pyIter_wide ha ⟨s1.heap.objs.size,[s1.heap.objs.size],_,_,H1,rfl,I1.kept (t':=s1.toks) fun b o e=>Heap.get?_push_of_some _ e,znU z t _,⟨_,Heap.get?_push_size _ rfl,rfl,rfl⟩,fpo,q⟩
 | true=>exact wpAny_pyIter_ascii ha ⟨s1.heap.objs.size,[s1.heap.objs.size],_,_,H1,rfl,I1.kept (t':=s1.toks) fun b o e=>Heap.get?_push_of_some _ e,znd z t _,⟨_,Heap.get?_push_size _ rfl,rfl,rfl⟩,fpo,q⟩
def zhN (z:Str):List D:=z.cps.toList.map fun c=>.str ⟨#[c]⟩
theorem zhl (z:Str):(zhN z).length=z.cps.size:=by unfold zhN;simp
section
variable {X:Cx}{E:XK}{He H0e:Hp}{f:Ev->Res D}{s:Ev->Res Fl}{pos:Pos}
end
section
variable {X:Cx}{E:XK}
def zvU (K:W.Frag):List V->Hp->VK->Prop:=fun xs H Q=>∃ (p:Addr) (bs:List Bool),xs=[.ref p]/\SqL K H p (bs.map V.bl)/\Q (.bl (bs.all id)) H
theorem zlv:∀ bs:List Bool,(List.range bs.length).all (fun i=>bs.getD i false)=bs.all id
 | []=>rfl
 | b::r=>by
  rw[List.length_cons,List.range_succ_eq_map,List.all_cons,List.all_map,List.all_cons,← zlv r]
  rfl
theorem zqK (hc:X.calm=true):zhK X (.builtin "all") (zvU X.K):=by
 intro pins s σ H xs us Q I r h
 obtain⟨p,bs,rfl,hq,q⟩:=h
 obtain⟨u,rfl,rx⟩:=zlG r
 cases rx
 obtain⟨its,rv,pl,hz⟩:=I.list hq
 have hlen:=rv.length
 rw[List.length_map] at hlen
 have hne:p≠s.heap.objs.size:=Nat.ne_of_lt pl.lt
 refine call_all_walk (wpAny_pyIter_list pl.isList ?_)
 have pl2:(s.heap.push { cls:=.type "list_iterator",data:=.fields #[.ref p,.int 0 0] }).IsList p its.toArray:=by
  obtain⟨o,k1,k2⟩:=pl.isList
  exact⟨o,Heap.get?_push_of_some _ k1,k2⟩
 refine⟨s.heap.objs.size,_,_,_,_,_,fun i=>bs.getD i false,rfl,Walks.list (A:=X.A.in1) (I.ok.hd hc) s.heap.objs.size p hne its.toArray,⟨⟨_,Heap.get?_push_size _ rfl,rfl,rfl⟩,pl2⟩,?_,fun h' tk hk=>?_⟩
 ·intro i v s' Q' E' hv hQ
  have hv':its[i]?=some v:=by simpa using hv
  have hi:i < its.length:=(List.getElem?_eq_some_iff.mp hv').1
  obtain⟨w,e1,e2⟩:=rv.get (show(bs.map V.bl)[i]?=some (V.bl (bs.getD i false)) by
   rw[List.getElem?_map,List.getElem?_eq_getElem (by omega)]
   simp [List.getD,List.getElem?_eq_getElem (show i < bs.length by omega)])
  rw[hv'] at e1
  cases e1
  obtain rfl:v=Value.bool _:=e2
  exact wpAny_truthy_bool hQ
 ·have hall:(List.range its.toArray.size).all (fun i=>bs.getD i false)=bs.all id:=by
   rw[List.size_toArray,← hlen]
   exact zlv bs
  rw[hall]
  exact⟨.bl _,H,I.kept (t':=tk) (fun b o e=>hk b o (by simp only[List.mem_singleton];exact Nat.ne_of_lt (Heap.lt_size e)) (Heap.get?_push_of_some _ e)),rfl,q⟩
def zfO:List D->Option (List Bool)
 | []=>some []
 | .bl b::r=>(zfO r).map (b::·)
 | _=>none
theorem zlp {K:W.Frag}{H:Hp}:∀ {ds:List D}{bs:List Bool}{vs:List V},zfO ds=some bs->Reps K H ds vs->vs=bs.map V.bl
 | [],bs,vs,h,r=>by cases h;exact Reps.nil_iff.mp r
 | d::ds,bs,vs,h,r=>by
  obtain⟨v,r',rfl,h1,h2⟩:=Reps.cons_iff.mp r
  cases d with
  | bl x =>
   unfold zfO at h
   cases e:zfO ds with
   | none=>rw[e] at h;cases h
   | some zs =>
    rw[e] at h
    cases h
    rw[Rep.bl_iff.mp h1,zlp e h2]
    rfl
  | _=>cases h
def zuy (x:D):Res D:=match x with
 | .lst ds=>match zfO ds with
  | some bs=>.ok (.bl (bs.all id))
  | none=>.stuck
 | _=>.stuck
theorem zuh:zia X E (zvU X.K) (m1 zuy):=zmj fun x v H H₀ Q hs r q=>by
 cases x with
 | lst ds =>
  unfold zuy at q
  obtain⟨p,vs,rfl,h1,h2⟩:=Rep.lst_iff.mp r
  cases e:zfO ds with
  | none=>simp only[e] at q;exact q.elim
  | some bs =>
   simp only[e] at q
   exact⟨p,bs,rfl,by rw[← zlp e h2];exact zaT.sqL hs h1,za8 hs q (rb _)⟩
 | _=>exact q.elim
end
theorem Rep.dic_iff {K:W.Frag}{H:Hp}{ks:List Str}{ds:List D}{v:V}:Rep K H (.dic ks ds) v↔∃ a kvs vs,v=.ref a/\Rd H a (.dK kvs)/\kvs=(ks.map Sum.inr).zip vs/\ks.length=vs.length/\Reps K H ds vs:=by rw[Rep]
section
variable {X:Cx}{E:XK}{e:Expr}{f:Ev->Res D}{pos p1:Pos}
theorem zsw:DE X E (.Dict [] [] pos) (dC (.dic [] [])):=by
 refine⟨?_⟩
 refine zaX zp2 fun σ H Q ⟨H₀,ρ,hs,hr,q⟩ p hp=>?_
 exact q _ _ _ (zbp.alloc hs hp) (Rep.dic_iff.mpr ⟨p,[],[],rfl,.inl zas,rfl,rfl,Reps.nil⟩)
def dOne (x:Str)(d:D):Res D:=.ok (.dic [x] [d])
end
def zjw (cells:List (Str×Addr)):List (Str×NameKind)->List (Str×Addr)->List (Str×Addr)
 | [],acc=>acc
 | (n,k)::r,acc=>if(k==NameKind.free)=true then zjw cells r ((n,(cells.lookup n).getD 0)::acc) else zjw cells r acc
theorem zkv {scope:Scope}{env:PySem.Env}(h:∀ x∈scope.names,x.2=.free->∃ c,env.cells.lookup x.1=some c):closureFor scope env=pure (zjw env.cells scope.names []):=by
 simp only[closureFor]
 have key:∀ (names:List (Str×NameKind)) (acc:List (Str×Addr)),(∀ x∈names,x.2=.free->∃ c,env.cells.lookup x.1=some c) ->
   (forIn names acc fun(x:Str×NameKind) (z:List (Str×Addr)) =>
      if(x.snd==NameKind.free)=true then do
       let y ← cellOf env x.fst
       pure (ForInStep.yield ((x.fst,y)::z))
      else(pure (ForInStep.yield z):Sem _))=pure (zjw env.cells names acc):=by
  intro names
  induction names with
  | nil=>intro acc _;rfl
  | cons x r ih =>
   intro acc hh
   obtain⟨n,k⟩:=x
   rw[List.forIn_cons]
   by_cases hk:(k==NameKind.free)=true
   ·obtain⟨c,hc⟩:=hh (n,k) List.mem_cons_self (by simpa using hk)
    have hcell:cellOf env n=pure c:=by unfold cellOf;rw[show env.cells.lookup n=some c from hc]
    simp only[hk,if_true]
    rw[hcell]
    have:=ih ((n,c)::acc) (fun y hy=>hh y (List.mem_cons_of_mem _ hy))
    rw[show zjw env.cells ((n,k)::r) acc=zjw env.cells r ((n,c)::acc) by
     show(if(k==NameKind.free)=true then _ else _)=_
     rw[if_pos hk,show env.cells.lookup n=some c from hc];rfl]
    rw[← this]
    rfl
   ·have:=ih acc (fun y hy=>hh y (List.mem_cons_of_mem _ hy))
    rw[if_neg hk]
    rw[show zjw env.cells ((n,k)::r) acc=zjw env.cells r acc by
     show(if(k==NameKind.free)=true then _ else _)=_
     rw[if_neg hk]]
    rw[← this]
    rfl
 rw[key _ _ h]
 rfl
theorem zkw {cells:List (Str×Addr)}:∀ {names:List (Str×NameKind)}{acc:List (Str×Addr)}{x:Str}{c:Addr},(∀ y∈names,y.2=.free->∃ c,cells.lookup y.1=some c) ->
  (zjw cells names acc).lookup x=some c->acc.lookup x=some c∨cells.lookup x=some c
 | [],acc,x,c,_,h=>.inl h
 | (n,k)::r,acc,x,c,hh,h=>by
  unfold zjw at h
  by_cases hk:(k==NameKind.free)=true
  ·rw[if_pos hk] at h
   obtain⟨d,hd⟩:=hh (n,k) List.mem_cons_self (by simpa using hk)
   rcases zkw (fun y hy=>hh y (List.mem_cons_of_mem _ hy)) h with h | h
   ·rw[List.lookup_cons] at h
    cases e:x==n with
    | true =>
     rw[e] at h
     rw[show cells.lookup n=some d from hd] at h
     cases h
     rw[eq_of_beq e];exact .inr hd
    | false=>rw[e] at h;exact .inl h
   ·exact .inr h
  ·rw[if_neg hk] at h
   exact zkw (fun y hy=>hh y (List.mem_cons_of_mem _ hy)) h
theorem ziS {α:Type}{x:Str}:∀ {l:List (Str×α)},(∃ v,(x,v)∈l)->∃ v,l.lookup x=some v
 | [],⟨v,h⟩=>by cases h
 | (n,w)::r,⟨v,h⟩=>by
  rw[List.lookup_cons]
  cases e:x==n with
  | true=>exact⟨w,rfl⟩
  | false =>
   rcases List.mem_cons.mp h with h | h
   ·cases h;simp at e
   ·exact ziS ⟨v,h⟩
theorem zky {cells:List (Str×Addr)}{x:Str}{c:Addr}:∀ {names:List (Str×NameKind)}{acc:List (Str×Addr)},(x,c)∈acc->(x,c)∈zjw cells names acc
 | [],acc,h=>h
 | (n,k)::r,acc,h=>by
  unfold zjw
  by_cases hk:(k==NameKind.free)=true
  ·rw[if_pos hk];exact zky (List.mem_cons_of_mem _ h)
  ·rw[if_neg hk];exact zky h
theorem zkx {cells:List (Str×Addr)}{x:Str}:∀ {names:List (Str×NameKind)}{acc:List (Str×Addr)},(x,NameKind.free)∈names->∃ c,(zjw cells names acc).lookup x=some c:=by
 intro names
 induction names with
 | nil=>intro acc h;cases h
 | cons y r ih =>
  intro acc h
  obtain⟨n,k⟩:=y
  unfold zjw
  rcases List.mem_cons.mp h with h | h
  ·cases h
   rw[if_pos (by rfl)]
   exact ziS ⟨_,zky List.mem_cons_self⟩
  ·by_cases hk:(k==NameKind.free)=true
   ·rw[if_pos hk];exact ih h
   ·rw[if_neg hk];exact ih h
def zez (X:Cx)(N:List Str)(scope:Scope)(s:Shared)(H:Hp)(C:Addr)(fp:List Addr)(pn:List (Addr×Obj)):Cx :=
 { X with N:=N,s₀:=s,H₀:=H,env:=compEnvC scope (zjw X.env.cells scope.names []) C X.env,outer:=X.stack,stack:=X.stack,ex:=fp,fn:=fun _=>false,pn:=pn,xe:=fun _ _=>False }
def zkE (n:Nat)(fr:List Nat)(σ:L2.St):L2.St:=List.replicate n none++fr.map fun(i:Nat)=>(σ[i]?).getD none
def zuq (X:Cx)(N:List Str)(n:Nat)(fr:List Nat)(scope:Scope):Prop :=
 N.length=n+fr.length/\((N.drop n).zip fr).all (fun p=>X.N[p.2]?==some p.1&&X.env.scope.names.lookup p.1==some .cell&&scope.names.lookup p.1==some .free&&(relabel scope X.env).names.lookup p.1==some .cell)=true
theorem zuq.at {X:Cx}{N:List Str}{n:Nat}{fr:List Nat}{scope:Scope}(h:zuq X N n fr scope){k:Nat}{x:Str}{v:V}{σ:L2.St}(hx:N[k]?=some x)(hv:(zkE n fr σ)[k]?=some (some v)) :
  ∃ i:Nat,X.N[i]?=some x/\σ[i]?=some (some v)/\X.env.scope.names.lookup x=some .cell/\scope.names.lookup x=some .free/\(relabel scope X.env).names.lookup x=some .cell:=by
 unfold zkE at hv
 by_cases hk:k < n
 ·rw[List.getElem?_append_left (by simpa using hk),List.getElem?_replicate,if_pos hk] at hv
  cases hv
 ·rw[List.getElem?_append_right (by simpa using hk),List.length_replicate,List.getElem?_map] at hv
  cases hi:fr[k-n]? with
  | none=>rw[hi] at hv;cases hv
  | some i =>
   rw[hi] at hv
   have hz:((N.drop n).zip fr)[k-n]?=some (x,i):=by
    rw[List.getElem?_zip_eq_some]
    exact⟨by rw[List.getElem?_drop,show n+(k-n)=k by omega];exact hx,hi⟩
   have:=List.all_eq_true.mp h.2 _ (List.mem_of_getElem? hz)
   simp only[Bool.and_eq_true,beq_iff_eq] at this
   refine⟨i,this.1.1.1,?_,this.1.1.2,this.1.2,this.2⟩
   simp only[Option.map_some,Option.some.injEq] at hv
   cases hs:σ[i]? with
   | none=>rw[hs] at hv;cases hv
   | some u=>rw[hs] at hv;exact congrArg some hv
def PIf (X:Cx)(ifs:List Expr)(t:TT):Prop :=
 ∀ (pins:List (Addr×Obj)) (s:Shared) (σ:L2.St) (H:Hp) (Q:Bool->Hp->Prop),Inv X pins σ H s->t σ H Q ->
  wpAny (model X.prog X.w) X.A (forIn ifs true fun c r=>if r=true then do let ok ← isTrue c X.env (eval c X.env);pure (ForInStep.yield ok) else pure (ForInStep.yield r)) (TP X pins σ Q) X.xe s
def zwa:TT:=fun _ H Q=>Q true H
theorem zrS {X:Cx}:PIf X [] zwa:=fun _ _ _ H _ I h=>wpAny_tests_nil ⟨H,I,h⟩
theorem zrR {X:Cx}{c:Expr}{t:TT}(h:PT X c t):PIf X [c] t:=fun pins s σ H Q I q=>wpAny_tests_one (h pins s σ H Q I q)
theorem zju {prog:Program}{w:World}{A:Around}{R:Result->Shared->Prop}{s:Shared}{elt target iter:Expr}{ifs:List Expr}{scope:Scope}{pos:Pos}{it acc:Value}{env:PySem.Env}(I:Nat->Shared->Prop)
  (turn:∀ n s,I n s->wpAny (model prog w) A (pyNext it) (fun r s₁=>match r with
   | none=>R (.ok .next) s₁
   | some v=>wpAny (model prog w) A (letOwnedTupleGo target it v) (fun _ s₁'=>wpAny (model prog w) A (assign target env v) (fun _ s₂ =>
     wpAny (model prog w) A (forIn ifs true fun c r=>if r=true then do let ok ← isTrue c env (eval c env);pure (ForInStep.yield ok) else pure (ForInStep.yield r)) (fun ok s₃ =>
      if ok=true then wpAny (model prog w) A (eval elt env) (fun x s₄ =>
       wpAny (model prog w) A (call (.builtin "list.append") [acc,x]) (fun _ s₅=>∃ m,m < n/\I m s₅) (fun _ _=>False) s₄) (fun _ _=>False) s₃
      else ∃ m,m < n/\I m s₃) (fun _ _=>False) s₂) (fun _ _=>False) s₁') (fun _ _=>False) s₁) (fun _ _=>False) s)
  (n:Nat) (h:I n s) :
  codeAny (model prog w) A (.compLoop (.ListComp elt [⟨target,iter,ifs,0⟩] scope pos) 0 it acc env) R s:=by
 refine codeAny_loop rfl I (fun n s hI=>?_) n h
 show wpAny _ A ((compTurn (.ListComp elt [⟨target,iter,ifs,0⟩] scope pos) 0 it acc env).onRaise (fun x=>do noteFrame x env;theTreesLotGoes x)) _ _ s
 refine wpAny_noted ?_
 rw[compTurn_list]
 refine wpAny_bind (wpAny_standAt (wpAny_bind (wpAny_mono (turn n s hI) (fun r s₁ h₁=>?_) fun _ _ h'=>h'.elim)))
 cases r with
 | none=>exact wpAny_pure h₁
 | some v =>
  refine wpAny_bind (wpAny_mono h₁ (fun _ s₁' h₁'=>?_) fun _ _ h'=>h'.elim)
  refine wpAny_bind (wpAny_mono h₁' (fun _ s₂ h₂=>wpAny_bind (wpAny_mono h₂ (fun ok s₃ h₃=>?_) fun _ _ h'=>h'.elim)) fun _ _ h'=>h'.elim)
  cases ok with
  | false=>exact wpAny_pure ⟨rfl,h₃⟩
  | true =>
   exact wpAny_bind (wpAny_bind (wpAny_mono h₃ (fun x s₄ h₄=>wpAny_bind (wpAny_mono h₄ (fun _ s₅ h₅=>wpAny_pure (wpAny_pure ⟨rfl,h₅⟩)) fun _ _ h'=>h'.elim)) fun _ _ h'=>h'.elim))
def znY (n:Nat)(fr:List Nat)(g:TG)(tt:TT)(te:TE)(J:It)(σ:L2.St)(H1:Hp)(Q:VK):Prop:=∀ D,H1 D=none->∃ W:Nat->Nat->List V->L2.St->Hp->Prop,(∃ m,W 0 m [] (zkE n fr σ) (upd H1 D (.lst []))) /\
 ∀ i m ys σ' H',W i m ys σ' H'->H' D=some (.lst ys)/\((J.stop i H'/\Q (.ref D) H')∨(J.go i H'/\ys.length < sizeLine/\∀ x H2,J.yld i H' x H2->g x σ' H2 fun σ3 H3=>tt σ3 H3 fun b H4 =>
  if b=true then te σ3 H4 fun y H5=>H5 D=some (.lst ys)/\∃ m',m' < m/\W (i+1) m' (ys++[y]) σ3 (upd H5 D (.lst (ys++[y])))
  else ∃ m',m' < m/\W (i+1) m' ys σ3 H4))
theorem zpe {X:Cx}{tg iter elt:Expr}{ifs:List Expr}{scope:Scope}{pos:Pos}{N:List Str}{n:Nat}{fr:List Nat}{g:TG}{tt:TT}{te:TE}(hc:X.calm=true)(hfr:zuq X N n fr scope)
  (hcell:∀ x∈scope.names,x.2≠.cell)(hfree:∀ x∈scope.names,x.2=.free->X.env.scope.names.lookup x.1=some .cell)(hkind:scope.kind=.function)
  (blk:∀ s H C fp pn,PG (zez X N scope s H C fp pn) tg g/\PIf (zez X N scope s H C fp pn) ifs tt/\PE (zez X N scope s H C fp pn) elt te)
  {pins:List (Addr×Obj)}{σ:L2.St}{s2:Shared}{Q:VK}{itv:Value}{RR:Value->Addr->Result->Shared->Prop}
  (h2:PIE X pins σ tg (fun J H1=>znY n fr g tt te J σ H1 Q) itv s2)
  (fin:∀ (Da C:Addr) (s6:Shared) (H5:Hp) (m:Str->Option Value),Inv X pins σ H5 s6->s6.heap.Ns C m->znJ X pins H5 C->Q (.ref Da) H5->RR (.ref Da) C (.ok .next) s6) :
  wpAny (model X.prog X.w) X.A (newList []) (fun acc s₃=>wpAny (model X.prog X.w) X.A (newFunctionEnv scope X.env.globals (zjw X.env.cells scope.names []) [] X.env.qual none .none (some X.env)) (fun cenv s₄ =>
   codeAny (model X.prog X.w) X.A (.compStart (.ListComp elt [⟨tg,iter,ifs,0⟩] scope pos) 0 itv acc { cenv with scope:=relabel scope X.env }) (RR acc cenv.locals) s₄) X.xe s₃) X.xe s2:=by
 obtain⟨it,fp,tn,J,H2,e,I2,T,st2,f2,q⟩:=h2
 subst e
 have hD:H2 s2.heap.objs.size=none:=I2.fresh
 refine wpAny_newObj_type ?_
 have I3:Inv X pins σ (upd H2 s2.heap.objs.size (.lst [])) { s2 with heap:=s2.heap.push { cls:=.type "list",data:=.seq ([]:List Value).toArray } }:=I2.lnew (t':=s2.toks) (its:=[]) .nil (Nat.zero_le _)
 obtain⟨W,⟨m0,w0⟩,turn⟩:=q s2.heap.objs.size hD
 generalize hs3:({ s2 with heap:=s2.heap.push { cls:=.type "list",data:=.seq ([]:List Value).toArray } }:Shared)=s3 at I3 ⊢
 have hs3h:s3.heap=s2.heap.push { cls:=.type "list",data:=.seq ([]:List Value).toArray }:=by rw[← hs3]
 have hDs:s2.heap.objs.size < s3.heap.objs.size:=by rw[hs3h,Heap.size_push];exact Nat.lt_succ_self _
 have fpl:∀ b∈fp,b < s2.heap.objs.size:=fun b hb=>by
  obtain⟨o,ho,_⟩:=T.obj _ _ st2 b hb
  exact Heap.lt_size ho
 have kept3:∀ b o,s2.heap.get? b=some o->s3.heap.get? b=some o:=fun b o e=>by rw[hs3h];exact Heap.get?_push_of_some _ e
 have st3:tn 0 s3.heap:=T.keep _ _ _ st2 fun b _ o e=>kept3 b o e
 generalize hDa:s2.heap.objs.size=Da at *
 generalize hH3:upd H2 Da (.lst [])=H3 at *
 have fr3:∀ b∈fp,H3 b=none:=fun b hb=>by rw[← hH3,zat (Nat.ne_of_lt (fpl b hb))];exact(f2 b hb).1
 have cls:∀ x c,(zjw X.env.cells scope.names []).lookup x=some c->X.env.cells.lookup x=some c:=fun x c e=>by
  rcases zkw (fun y hy hf=>I3.ok.has y.1 (.inl (hfree y hy hf))) e with e | e
  ·cases e
  ·exact e
 refine wpAny_newFunctionEnv hcell (by intro y hy;simp at hy) (fun h4 ns4 sb4=>?_) hkind
 have k4:∀ b o,s3.heap.get? b=some o->h4.get? b=some o:=fun b o e=>(sb4.2 b (Nat.ne_of_lt (Heap.lt_size e))).trans (Heap.get?_push_of_some _ e)
 generalize hC:s3.heap.objs.size=C at *
 have hCn:H3 C=none:=I3.hok.fresh (by rw[hC];exact Nat.le_refl _)
 have ltC:∀ b o,s3.heap.get? b=some o->b≠C:=fun b o e=>by rw[← hC];exact Nat.ne_of_lt (Heap.lt_size e)
 have cellC:∀ x c,X.env.cells.lookup x=some c->c≠C:=fun x c e=>by
  obtain⟨v,o,ho,_⟩:=I3.cell x c e
  exact ltC c o ho
 have fpC:∀ b∈fp,b≠C:=fun b hb=>by
  have:=fpl b hb
  exact Nat.ne_of_lt (Nat.lt_trans this hDs)
 show codeAny (model X.prog X.w) X.A (.compStart (.ListComp elt [⟨tg,iter,ifs,0⟩] scope pos) 0 (.ref it) (.ref Da) (compEnvC scope (zjw X.env.cells scope.names []) C X.env)) _ _
 generalize hs4:({ s3 with heap:=h4,toks:=s3.toks+([]:List (Str×Value)).length }:Shared)=s4
 have hs4h:s4.heap=h4:=by rw[← hs4]
 have ok:(zez X N scope s3 H3 C fp (X.pn++pins)).Ok:=by
  refine⟨I3.ok.mod,hkind,I3.ok.glob,I3.ok.blt,Nat.le_of_eq hC,fun x y c e1 e2=>I3.ok.inj x y c (cls x c e1) (cls y c e2),fun x e=>?_,fun x c e=>?_,fun _=>I3.ok.hd hc,I3.ok.frames,.inl rfl,fun b hb=>⟨fpC b hb,fun x c e=>(f2 b hb).2.2.2.2.1 x c (cls x c e)⟩,I3.bs,Nat.le_trans I3.ok.bsz I3.sz,fun b o e hb=>?_,fun b hb z=>?_,I3.stack,I3.stkFree⟩
  ·have mm:∀ k:NameKind,(relabel scope X.env).names.lookup x=some k->(k=.cell∨k=.free)->(x,NameKind.free)∈scope.names:=fun k hk hk2=>by
    have hm:=PySem.mem_of_lookup hk
    obtain⟨⟨n',k'⟩,hm1,hm2⟩:=List.mem_map.mp hm
    dsimp only at hm2
    split at hm2
    ·rename_i hcnd
     cases hm2
     simp only[Bool.and_eq_true,beq_iff_eq] at hcnd
     rw[hcnd.1.1] at hm1
     exact hm1
    ·cases hm2
     rcases hk2 with rfl | rfl
     ·exact absurd rfl (hcell _ hm1)
     ·exact hm1
   rcases e with e | e
   ·exact zkx (mm _ e (.inl rfl))
   ·exact zkx (mm _ e (.inr rfl))
  ·cases e
  ·rcases(f2 b hb).2.2.2.1 with z | z
   ·exact I3.ok.noex b o e z
   ·exact absurd (Nat.lt_of_lt_of_le (Heap.lt_size e) (Nat.le_trans I3.ok.bsz z)) (Nat.lt_irrefl _)
  ·rcases List.mem_cons.mp (I3.stkSub b z) with z | z
   ·exact(f2 b hb).2.1 z
   ·exact(f2 b hb).2.2.1 z
 have I4:Inv (zez X N scope s3 H3 C fp (X.pn++pins)) [] (zkE n fr σ) H3 s4:=by
  refine⟨ok,by rw[← hs4];rfl,by rw[← hs4];exact I3.bare,by rw[hs4h];exact Un.kept k4,⟨_,by rw[hs4h];exact ns4,fun i x v h1 h2 h3=>?_⟩,fun x c e=>?_,hCn,fun x c e=>I3.freeC x c (cls x c e),fun p hp=>?_,by rw[hs4h];exact I3.hok.kept k4,?_⟩
  ·obtain⟨j,j1,j2,j3,j4,j5⟩:=hfr.at h1 h2
   obtain⟨m,hn,hl⟩:=I3.loc
   obtain⟨u,ru,l⟩:=hl j x v j1 j2 (.inr (.inl j3))
   refine⟨u,ru,.inr ⟨.inl j5,?_⟩⟩
   rcases l with⟨z,_⟩ | ⟨_,c,z1,z2⟩
   ·rw[show X.env.kindOf x=X.env.scope.names.lookup x from rfl,j3] at z;cases z
   ·obtain⟨c',hc'⟩:=zkx (cells:=X.env.cells) (names:=scope.names) (acc:=[]) (PySem.mem_of_lookup j4)
    have:=cls x c' hc'
    rw[z1] at this;cases this
    obtain⟨oc,q1,q2⟩:=z2
    exact⟨c,hc',oc,by rw[hs4h];exact k4 _ _ q1,q2⟩
  ·obtain⟨v,oc,q1,q2⟩:=I3.cell x c (cls x c e)
   exact⟨v,oc,by rw[hs4h];exact k4 _ _ q1,q2⟩
  ·rw[List.append_nil] at hp
   obtain⟨p1,p2,p3,p4,p5⟩:=I3.pin p hp
   refine⟨by rw[hs4h];exact k4 _ _ p1,p2,ltC _ _ p1,fun z=>?_,p5⟩
   rcases List.mem_cons.mp (I3.stkSub _ z) with z | z
   ·exact p3 z
   ·exact p4 z
  ·show(zkE n fr σ).length=N.length
   unfold zkE
   rw[List.length_append,List.length_replicate,List.length_map,hfr.1]
 have st4:tn 0 s4.heap:=by rw[hs4h];exact T.keep _ _ _ st3 fun b _ o e=>k4 b o e
 have stat:∀ {H':Hp},(∀ b∈fp,H' b=none)->∀ b∈fp,znJ (zez X N scope s3 H3 C fp (X.pn++pins)) [] H' b:=fun hn b hb=>by
  refine⟨hn b hb,fpC b hb,fun z=>?_,.inl hb,fun x c e=>(f2 b hb).2.2.2.2.1 x c (cls x c e),fun p hp=>?_⟩
  ·rcases List.mem_cons.mp (I3.stkSub b z) with z | z
   ·exact(f2 b hb).2.1 z
   ·exact(f2 b hb).2.2.1 z
  ·rw[List.append_nil] at hp
   exact(f2 b hb).2.2.2.2.2 p hp
 have loop:codeAny (model X.prog X.w) X.A (.compLoop (.ListComp elt [⟨tg,iter,ifs,0⟩] scope pos) 0 (.ref it) (.ref Da) (compEnvC scope (zjw X.env.cells scope.names []) C X.env)) (RR (.ref Da) C) s4:=by
  refine zju (fun n s'=>∃ i ys σ' H',Inv (zez X N scope s3 H3 C fp (X.pn++pins)) [] σ' H' s'/\tn i s'.heap/\(∀ b∈fp,H' b=none)/\W i n ys σ' H') ?_ m0 ⟨0,[],_,H3,I4,st4,fr3,w0⟩
  rintro k s5 ⟨i,ys,σ5,H5,I5,st5,fr5,w5⟩
  obtain⟨hDl,ways⟩:=turn i k ys σ5 H5 w5
  rcases ways with⟨stop,fin'⟩ | ⟨go,hz,step⟩
  ·refine thn (T.done (zez X N scope s3 H3 C fp (X.pn++pins)) rfl rfl rfl hc i [] s5 σ5 H5 (fun _ _=>False) I5 (stat fr5) st5 stop) fun r s6 ⟨hr,I6⟩=>?_
   subst hr
   obtain⟨mm,nsm,_⟩:=I6.loc
   have free6:H5 C=none:=I6.free
   have hok:HOk X.prog X.w H5 s6.heap:=I6.hok
   have un:Un (frs X.stack) fp H3 H5 s3.heap s6.heap:=I6.base
   have IX:Inv X pins σ H5 s6:=I3.call' (s':=s6) (ch:=fp) I6.os un hok I6.bare (fun b hb=>⟨(f2 b hb).2.2.2.1,(f2 b hb).2.1,(f2 b hb).2.2.2.2.1,(f2 b hb).2.2.2.2.2⟩)
   have fC:znJ X pins H5 C:=I3.fpOk (b:=C) (H':=H5) (by rw[hC];exact Nat.le_refl _) free6
   exact fin Da C s6 H5 mm IX nsm fC fin'
  ·refine thn (T.item (zez X N scope s3 H3 C fp (X.pn++pins)) rfl rfl rfl hc i [] s5 σ5 H5 (fun _ _=>False) I5 (stat fr5) st5 go) fun r s6 ⟨u,hr,h6⟩=>?_
   subst hr
   refine thn h6 fun _ s7 ⟨x,H7,I7,r7,y7,st7,fr7⟩=>?_
   have I7':=I7.pinned (stat fr7) (T.obj _ _ st7)
   refine thn ((blk s3 H3 C fp (X.pn++pins)).1 _ s7 σ5 H7 x u _ I7' r7 (step x H7 y7)) fun _ s8 ⟨σ8,H8,I8,q8⟩=>?_
   refine thn ((blk s3 H3 C fp (X.pn++pins)).2.1 _ s8 σ8 H8 _ I8 q8) fun b s8b ⟨H8b,I8b,q8b⟩=>?_
   have back:∀ {σ':L2.St}{H':Hp}{s':Shared},L2.Inv (zez X N scope s3 H3 C fp (X.pn++pins)) (([]:List (Addr×Obj))++zkY fp s7.heap) σ' H' s'->tn (i+1) s'.heap/\∀ b∈fp,H' b=none:=fun {σ' H' s'} I'=>by
    refine⟨T.keep _ _ _ st7 fun b hb o e=>(I'.pin (b,o) (List.mem_append_right _ (List.mem_append_right _ (zf9 hb e)))).1,fun b hb=>?_⟩
    obtain⟨o,e,d⟩:=T.obj _ _ st7 b hb
    exact(I'.pin (b,o) (List.mem_append_right _ (List.mem_append_right _ (zf9 hb e)))).2.1
   cases b with
   | false =>
    rw[if_neg Bool.false_ne_true] at q8b ⊢
    obtain⟨m',hm,w9⟩:=q8b
    exact⟨m',hm,i+1,ys,σ8,_,I8b.unpinned,(back I8b).1,(back I8b).2,w9⟩
   | true =>
    rw[if_pos rfl] at q8b ⊢
    refine thn ((blk s3 H3 C fp (X.pn++pins)).2.2 _ s8b σ8 H8b _ I8b q8b) fun y s9 ⟨yv,H9,I9,r9,hD9,m',hm,w9⟩=>?_
    refine thn (zk4 (X:=zez X N scope s3 H3 C fp (X.pn++pins)) _ s9 σ8 H9 (.ref Da) [yv] (.ref Da) [y] (fun v H'=>H'=upd H9 Da (.lst (ys++[yv]))) I9 rfl (.cons r9 .nil) ⟨Da,ys,yv,rfl,rfl,hD9,hz,rfl⟩) fun _ s10 ⟨v10,H10,I10,_,e10⟩=>?_
    subst e10
    exact⟨m',hm,i+1,ys++[yv],σ8,_,I10.unpinned,(back I10).1,(back I10).2,w9⟩
 exact codeAny_compStart_list loop (T.self _ 0 _ _ _ st4 loop)
structure ItD (K:W.Frag) (ds:List D) (J:It) (H₀:Hp):Prop where
 go:∀ (i:Nat) (H' H₀':Hp),zaT H₀ H₀'->zaT H₀' H'->i < ds.length->J.go i H'
 yld:∀ (i:Nat) (H' H₀':Hp) (x:V) (H2:Hp) (d:D),zaT H₀ H₀'->zaT H₀' H'->ds[i]?=some d->J.yld i H' x H2->∃ H₀2,zbp H' H₀' H2 H₀2/\Rep K H₀2 d x
 stop:∀ (i:Nat) (H' H₀':Hp),zaT H₀ H₀'->zaT H₀' H'->ds.length<=i->J.stop i H'
def tDI (K:W.Frag)(E:XK)(src:Ev->Res (List D)):TI:=fun σ H R=>∃ H₀ ρ,zaT H₀ H/\zfV K H₀ σ ρ/\match src ρ with
 | .ok ds=>∀ J H' H₀',zbp H H₀ H' H₀'->ItD K ds J H₀'->R J H'
 | .exn x=>∀ C ox H' H₀',zbp H H₀ H' H₀'->ExR K H₀' x C ox->E C ox H'
 | .stuck=>False
structure DI (X:Cx) (E:XK) (tg iter:Expr) (src:Ev->Res (List D)):Prop where
 o:PI X tg iter (tDI X.K E src)
theorem zj8 {X:Cx}{tg iter:Expr}{t t':TI}(h:PI X tg iter t)(w:∀ σ H R,t' σ H R->t σ H R):PI X tg iter t':=fun pins s σ H R I q=>h pins s σ H R I (w σ H R q)
def zus (f:Ev->Res D):Ev->Res (List D):=fun ρ=>(f ρ).bind fun d=>match d with
 | .lst ds=>.ok ds
 | _=>.stuck
def zwo (f:Ev->Res D):Ev->Res (List D):=fun ρ=>(f ρ).bind fun d=>match d with
 | .tup ds=>.ok ds
 | _=>.stuck
def zur (f:Ev->Res D):Ev->Res (List D):=fun ρ=>(f ρ).bind fun d=>match d with
 | .str z=>.ok (zhN z)
 | _=>.stuck
def zlJ (f:Ev->Res D):Ev->Res (List D):=fun ρ=>(f ρ).bind fun d=>match d with
 | .int j=>if -4611686018427387904<=j/\j < 4611686018427387904 then .ok (intsFrom 0 j.toNat) else .stuck
 | _=>.stuck
section
variable {X:Cx}{E:XK}{tg e a b:Expr}{f g:Ev->Res D}
theorem zst (h:DE X E e f):DI X E tg e (zus f):=by
 refine⟨zj8 (zol h.o) fun σ H R ⟨H₀,ρ,hs,hr,q⟩=>⟨H₀,ρ,hs,hr,?_⟩⟩
 unfold zus at q
 cases e1:f ρ with
 | stuck=>rw[e1] at q;exact q
 | exn x=>rw[e1] at q;exact q
 | ok d =>
  rw[e1] at q
  intro v H1 H01 g1 r1
  cases d with
  | lst ds =>
   obtain⟨p,vs,rfl,hv,hrv⟩:=Rep.lst_iff.mp r1
   refine⟨p,rfl,⟨vs,zaT.sqL g1.sub hv⟩,q _ H1 H01 g1 ⟨fun i H' H₀' s1 s2 hi=>?_,fun i H' H₀' x H2 d s1 s2 hd hy=>?_,fun i H' H₀' s1 s2 hi=>?_⟩⟩
   ·exact⟨vs,vs[i]'(by rw[← hrv.length];exact hi),zaT.sqL (s1.trans s2) hv,by simp⟩
   ·obtain⟨rfl,hy⟩:=hy
    obtain⟨u,k1,k2⟩:=hrv.get hd
    have:=hy vs (zaT.sqL (s1.trans s2) hv)
    rw[k1] at this;cases this
    exact⟨H₀',zbp.refl s2,k2.mono s1⟩
   ·exact⟨vs,zaT.sqL (s1.trans s2) hv,by rw[← hrv.length];exact hi⟩
  | _=>exact q.elim
theorem zub (h:DE X E e f):DI X E tg e (zur f):=by
 refine⟨zj8 (ztv h.o) fun σ H R ⟨H₀,ρ,hs,hr,q⟩=>⟨H₀,ρ,hs,hr,?_⟩⟩
 unfold zur at q
 cases e1:f ρ with
 | stuck=>rw[e1] at q;exact q
 | exn x=>rw[e1] at q;exact q
 | ok d =>
  rw[e1] at q
  intro v H1 H01 g1 r1
  cases d with
  | str z =>
   refine⟨z,Rep.str_iff.mp r1,q _ H1 H01 g1 ⟨fun i H' H₀' s1 s2 hi=>?_,fun i H' H₀' x H2 d s1 s2 hd hy=>?_,fun i H' H₀' s1 s2 hi=>?_⟩⟩
   ·rw[zhl] at hi;exact hi
   ·obtain⟨rfl,c,hc,rfl⟩:=hy
    have:d=.str ⟨#[c]⟩:=by
     unfold zhN at hd
     rw[List.getElem?_map] at hd
     have h2:z.cps.toList[i]?=some c:=by simpa using hc
     rw[h2] at hd;cases hd;rfl
    subst this
    exact⟨H₀',zbp.refl s2,Rep.str_iff.mpr rfl⟩
   ·rw[zhl] at hi;exact hi
  | _=>exact q.elim
theorem zoI {K:W.Frag}{lo:Int}{n:Nat}{H:Hp}:ItD K (intsFrom lo n) (Itr lo n) H:=by
 have hl:(intsFrom lo n).length=n:=by unfold intsFrom;simp
 refine⟨fun i H' H₀' _ _ hi=>?_,fun i H' H₀' x H2 d s1 s2 hd hy=>?_,fun i H' H₀' _ _ hi=>?_⟩
 ·rw[hl] at hi;exact hi
 ·obtain⟨rfl,rfl⟩:=hy
  have:d=.int (lo+i):=by
   unfold intsFrom at hd
   rw[List.getElem?_map] at hd
   cases e:(List.range n)[i]? with
   | none=>rw[e] at hd;cases hd
   | some k =>
    rw[e] at hd
    have hk:k=i:=by
     obtain⟨h1,h2⟩:=List.getElem?_eq_some_iff.mp e
     simpa using h2.symm
    subst hk;cases hd;rfl
  subst this
  exact⟨H₀',zbp.refl s2,Rep.int_iff.mpr rfl⟩
 ·rw[hl] at hi;exact hi
theorem zi7 {p pos:Pos}(hg:Gl X "range")(hm:X.mg "range"=none)(h:DE X E a f)(hn:nst a=true:=by exact rfl):DI X E tg (.Call (.Name "range" p) [a] [] pos) (zlJ f):=by
 refine⟨zj8 (zkZ hg hm (zc7 h.o zgn (zf3 hn)) (zf3 hn)) fun σ H R ⟨H₀,ρ,hs,hr,q⟩=>⟨H₀,ρ,hs,hr,?_⟩⟩
 unfold zlJ at q
 cases e1:f ρ with
 | stuck=>rw[e1] at q;exact q
 | exn x=>rw[e1] at q;exact q
 | ok d =>
  rw[e1] at q
  intro v H1 H01 g1 r1
  cases d with
  | int j =>
   replace q:match (if -4611686018427387904<=j/\j < 4611686018427387904 then Res.ok (intsFrom 0 j.toNat) else .stuck) with
    | .ok ds=>∀ J H' H₀',zbp H H₀ H' H₀'->ItD X.K ds J H₀'->R J H'
    | .exn x=>∀ C ox H' H₀',zbp H H₀ H' H₀'->ExR X.K H₀' x C ox->E C ox H'
    | .stuck=>False:=q
   by_cases hj:-4611686018427387904<=j/\j < 4611686018427387904
   ·rw[if_pos hj] at q
    rw[Rep.int_iff.mp r1]
    exact⟨j,rfl,hj.1,hj.2,q _ H1 H01 g1 zoI⟩
   ·rw[if_neg hj] at q;exact q.elim
  | _=>exact q.elim
end
def zj3 (src:Ev->Res (List D))(tg:Ev->D->Res Ev)(s:Ev->Res Fl):Ev->Res Fl:=fun ρ=>(src ρ).bind fun ds=>zcX tg s ds ρ
section
variable {X:Cx}{E:XK}{He H0e:Hp}{st:Stmt}{s:Ev->Res Fl}{pos:Pos}
theorem zgk.step2 {K:W.Frag}{H₁ H₀:Hp}{tg:Ev->D->Res Ev}{ds:List D}{D':zjU}{i:Nat}{σ:L2.St}{H:Hp}{d:D}{v:V}{ρ:Ev}(z:zaT H₁ H₀)(h:SRx K He H0e H₀ σ H ρ)(q:zcs K E He H0e H₀ (zcX tg s (ds.drop i) ρ) D')(hd:ds[i]?=some d)(rv:Rep K H₀ d v)
  (he:∀ ρ,tg ρ d=.stuck∨∃ ρ',tg ρ d=.ok ρ') :
  tG K He H0e tg v σ H fun σ2 H2=>tS K E He H0e s { D' with nx:=zgk K E He H0e H₁ tg s ds D' (i+1),ct:=zgk K E He H0e H₁ tg s ds D' (i+1),bk:=D'.nx } σ2 H2:=by
 have hi:i < ds.length:=(List.getElem?_eq_some_iff.mp hd).1
 have hdr:ds.drop i=d::ds.drop (i+1):=by
  rw[List.drop_eq_getElem_cons hi]
  rw[List.getElem?_eq_getElem hi] at hd
  cases hd;rfl
 rw[hdr] at q
 refine⟨H₀,ρ,d,h,rv,?_⟩
 unfold zcX at q
 rcases he ρ with e1 | ⟨ρ1,e1⟩
 ·rw[e1] at q;exact q.elim
 ·rw[e1] at q ⊢
  intro σ' H' H₀' z' h'
  refine⟨H₀',ρ1,h',?_⟩
  replace q:=zcs.grow (r:=(s ρ1).bind fun x=>match x with
   | .nx ρ2=>zcX tg s (ds.drop (i+1)) ρ2
   | .ct ρ2=>zcX tg s (ds.drop (i+1)) ρ2
   | .bk ρ2=>.ok (.nx ρ2)
   | .rt d=>.ok (.rt d)) q z'
  cases e2:s ρ1 with
  | stuck=>rw[e2] at q;exact q
  | exn x=>rw[e2] at q;exact q
  | ok r =>
   rw[e2] at q
   cases r with
   | nx ρ2=>exact fun σ3 H3 H03 z3 h3=>⟨H03,ρ2,(z.trans z').trans z3,h3,zcs.grow (r:=zcX tg s (ds.drop (i+1)) ρ2) q z3⟩
   | ct ρ2=>exact fun σ3 H3 H03 z3 h3=>⟨H03,ρ2,(z.trans z').trans z3,h3,zcs.grow (r:=zcX tg s (ds.drop (i+1)) ρ2) q z3⟩
   | bk ρ2=>exact q
   | rt d=>exact q
theorem zo4 {tgt iter:Expr}{body:List Stmt}{tg:Ev->D->Res Ev}{src:Ev->Res (List D)}(hp:PassesOwn (model X.prog X.w) X.A X.env X.xe)(hc:X.calm=true)(hi:DI X E tgt iter src)(hg:DG X E He H0e tgt tg)(ht:zpr tg)(hb:DSs X E He H0e body s)
  (hs:∀ x,foldedSetIterable iter X.env x=pure x:=by intro _;rfl):DS X E He H0e (.For tgt iter body [] pos) (zj3 src tg s):=by
 refine⟨zcO (zof hp hc hi.o hg.o hb.o hs) fun D' σ H ⟨H₀,ρ,h,q⟩=>⟨H₀,ρ,h.g.sub,h.rd,?_⟩⟩
 unfold zj3 at q
 cases e1:src ρ with
 | stuck=>rw[e1] at q;exact q
 | exn x=>rw[e1] at q;exact fun C ox H' H₀' g r=>q C ox H' H₀' (h.g.trans g) r
 | ok ds =>
  rw[e1] at q
  intro J H1 H01 g it
  have q1:zcs X.K E He H0e H01 (zcX tg s ds ρ) D':=zcs.grow (r:=zcX tg s ds ρ) q g.z
  refine⟨fun i m σ' H'=>m+i=ds.length/\zgk X.K E He H0e H01 tg s ds D' i σ' H',⟨ds.length,rfl,H01,ρ,zaT.refl _,h.grow g,q1⟩,?_⟩
  rintro i m σ' H' ⟨hm,H₀',ρ',z,h',hq⟩
  by_cases hlt:i < ds.length
  ·refine .inr ⟨it.go i H' H₀' z h'.g.sub hlt,fun σ2 H2=>zgk X.K E He H0e H01 tg s ds D' (i+1) σ2 H2,fun σ2 H2 hl=>⟨m-1,by omega,by omega,hl⟩,fun x H2 hy=>?_⟩
   obtain⟨H₀2,g2,rp⟩:=it.yld i H' H₀' x H2 ds[i] z h'.g.sub (List.getElem?_eq_getElem hlt) hy
   exact zgk.step2 (z.trans g2.z) (h'.grow g2) (zcs.grow (r:=zcX tg s (ds.drop i) ρ') hq g2.z) (List.getElem?_eq_getElem hlt) rp fun ρ=>ht ρ _
  ·have e:i=ds.length:=by omega
   refine .inl ⟨it.stop i H' H₀' z h'.g.sub (by omega),?_⟩
   subst e
   exact zgk.done ⟨H₀',ρ',z,h',hq⟩
end
def zir (f:Ev->Res D):Prop:=∀ ρ d,f ρ=.ok d->∃ ds,d=.lst ds
theorem zmu {K:W.Frag}{E:XK}{f:Ev->Res D}(hf:zir f){σ:L2.St}{H:Hp}{Q:VK}(h:tD K E f σ H Q):tF K E f σ H Q:=by
 obtain⟨H₀,ρ,hs,hr,q⟩:=h
 refine⟨H₀,ρ,hs,hr,?_⟩
 cases e1:f ρ with
 | stuck=>rw[e1] at q;exact q
 | exn x=>rw[e1] at q;exact q
 | ok d =>
  obtain⟨ds,rfl⟩:=hf ρ d e1
  rw[e1] at q
  intro p vs H' H₀' g hp h0 hv rp
  have n0:H₀ p=none:=hs.free hp
  refine q (.ref p) H' (upd H₀' p (.lst vs)) ⟨g.s,fun b o e=>?_,fun b o e=>?_,fun b k1 k2=>?_⟩ (Rep.lst_iff.mpr ⟨p,vs,rfl,SqL.of zas,rp.mono fun b o e=>?_⟩)
  ·rw[zat (by intro z;subst z;rw[n0] at e;cases e)];exact g.z _ _ e
  ·by_cases hb:b=p
   ·subst hb;rw[zas] at e;cases e;exact hv
   ·rw[zat hb] at e;exact g.sub _ _ e
  ·by_cases hb:b=p
   ·subst hb;exact hp
   ·rw[zat hb] at k1;exact g.nw b k1 k2
  ·rw[zat (by intro z;subst z;rw[h0] at e;cases e)];exact e
theorem zqz {X:Cx}{E:XK}{e:Expr}{f:Ev->Res D}(hf:zir f)(h:DF X E e f):DE X E e f:=⟨zaX h.o fun σ H Q q=>zmu hf q⟩
def zcZ (n:Nat)(fr:List Nat)(ρ:Ev):Ev:=List.replicate n .no++fr.map fun(i:Nat)=>match ρ[i]? with
 | some (.sh d)=>.sh d
 | _=>.no
def zca (b:Ev)(tg:Ev->D->Res Ev)(tt fe:Ev->Res D):List D->Res (List D)
 | []=>.ok []
 | d::r=>(tg b d).bind fun ρ1=>(tt ρ1).bind fun t=>match t with
  | .bl true=>(fe ρ1).bind fun x=>(zca b tg tt fe r).bind fun xs=>.ok (x::xs)
  | .bl false=>zca b tg tt fe r
  | _=>.stuck
def zfL (n:Nat)(fr:List Nat)(src:Ev->Res (List D))(tg:Ev->D->Res Ev)(tt fe:Ev->Res D):Ev->Res D:=fun ρ=>(src ρ).bind fun ds =>
 if ds.length<=line then match zca (zcZ n fr ρ) tg tt fe ds with
  | .ok es=>.ok (.lst es)
  | _=>.stuck
 else .stuck
theorem zjc {n:Nat}{fr:List Nat}{src:Ev->Res (List D)}{tg:Ev->D->Res Ev}{tt fe:Ev->Res D}:zir (zfL n fr src tg tt fe):=fun ρ d h=>by
 unfold zfL at h
 cases e1:src ρ with
 | stuck=>rw[e1] at h;cases h
 | exn x=>rw[e1] at h;cases h
 | ok ds =>
  rw[e1] at h
  replace h:(if ds.length<=line then match zca (zcZ n fr ρ) tg tt fe ds with
   | .ok es=>Res.ok (D.lst es)
   | _=>.stuck else .stuck)=.ok d:=h
  split at h
  ·split at h
   ·cases h;exact⟨_,rfl⟩
   ·cases h
  ·cases h
theorem zge {b:Ev}{tg:Ev->D->Res Ev}{tt fe:Ev->Res D}{d:D}{r es:List D}(h:zca b tg tt fe (d::r)=.ok es) :
  ∃ ρ1 t,tg b d=.ok ρ1/\tt ρ1=.ok (.bl t)/\((t=true/\∃ x xs,fe ρ1=.ok x/\zca b tg tt fe r=.ok xs/\es=x::xs)∨(t=false/\zca b tg tt fe r=.ok es)):=by
 unfold zca at h
 cases e1:tg b d with
 | stuck=>rw[e1] at h;cases h
 | exn z=>rw[e1] at h;cases h
 | ok ρ1 =>
  rw[e1] at h
  replace h:((tt ρ1).bind fun t=>match t with
   | .bl true=>(fe ρ1).bind fun x=>(zca b tg tt fe r).bind fun xs=>Res.ok (x::xs)
   | .bl false=>zca b tg tt fe r
   | _=>.stuck)=.ok es:=h
  cases e2:tt ρ1 with
  | stuck=>rw[e2] at h;cases h
  | exn z=>rw[e2] at h;cases h
  | ok t =>
   rw[e2] at h
   cases t with
   | bl t =>
    cases t with
    | true =>
     replace h:((fe ρ1).bind fun x=>(zca b tg tt fe r).bind fun xs=>Res.ok (x::xs))=.ok es:=h
     cases e3:fe ρ1 with
     | stuck=>rw[e3] at h;cases h
     | exn z=>rw[e3] at h;cases h
     | ok x =>
      rw[e3] at h
      replace h:((zca b tg tt fe r).bind fun xs=>Res.ok (x::xs))=.ok es:=h
      cases e4:zca b tg tt fe r with
      | stuck=>rw[e4] at h;cases h
      | exn z=>rw[e4] at h;cases h
      | ok xs=>rw[e4] at h;cases h;exact⟨ρ1,true,rfl,e2,.inl ⟨rfl,x,xs,e3,rfl,rfl⟩⟩
    | false=>exact⟨ρ1,false,rfl,e2,.inr ⟨rfl,h⟩⟩
   | _=>cases h
theorem zfM {b:Ev}{tg:Ev->D->Res Ev}{tt fe:Ev->Res D}{d x:D}{r:List D}{ρ1:Ev}(h1:tg b d=.ok ρ1)(h2:tt ρ1=.ok (.bl true))(h3:fe ρ1=.ok x):zca b tg tt fe (d::r)=(zca b tg tt fe r).bind fun xs=>.ok (x::xs):=by
 rw[zca,h1]
 simp only[Res.bind,h2,h3]
theorem zkt {b:Ev}{tg:Ev->D->Res Ev}{tt fe:Ev->Res D}{d:D}{r:List D}{ρ1:Ev}(h1:tg b d=.ok ρ1)(h2:tt ρ1=.ok (.bl false)):zca b tg tt fe (d::r)=zca b tg tt fe r:=by
 rw[zca,h1]
 simp only[Res.bind,h2]
theorem zjf {b:Ev}{tg:Ev->D->Res Ev}{tt fe:Ev->Res D}:∀ {r q es:List D},zca b tg tt fe (r++q)=.ok es->∃ e1 e2,zca b tg tt fe r=.ok e1/\zca b tg tt fe q=.ok e2/\es=e1++e2
 | [],q,es,h=>⟨[],es,rfl,h,rfl⟩
 | d::r,q,es,h=>by
  obtain⟨ρ1,t,h1,h2,h3⟩:=zge h
  rcases h3 with⟨rfl,x,xs,h3,h4,rfl⟩ | ⟨rfl,h4⟩
  ·obtain⟨e1,e2,k1,k2,rfl⟩:=zjf h4
   refine⟨x::e1,e2,?_,k2,rfl⟩
   rw[zfM h1 h2 h3,k1];rfl
  ·obtain⟨e1,e2,k1,k2,rfl⟩:=zjf h4
   refine⟨e1,e2,?_,k2,rfl⟩
   rw[zkt h1 h2];exact k1
theorem zgd {b:Ev}{tg:Ev->D->Res Ev}{tt fe:Ev->Res D}:∀ {r q e1 e2:List D},zca b tg tt fe r=.ok e1->zca b tg tt fe q=.ok e2->zca b tg tt fe (r++q)=.ok (e1++e2)
 | [],q,e1,e2,h,h'=>by cases h;exact h'
 | d::r,q,e1,e2,h,h'=>by
  obtain⟨ρ1,t,h1,h2,h3⟩:=zge h
  show zca b tg tt fe (d::(r++q))=_
  rcases h3 with⟨rfl,x,xs,h3,h4,rfl⟩ | ⟨rfl,h4⟩
  ·rw[zfM h1 h2 h3,zgd h4 h'];rfl
  ·rw[zkt h1 h2];exact zgd h4 h'
theorem zku {b:Ev}{tg:Ev->D->Res Ev}{tt fe:Ev->Res D}:∀ {r es:List D},zca b tg tt fe r=.ok es->es.length<=r.length
 | [],es,h=>by cases h;exact Nat.le_refl _
 | d::r,es,h=>by
  obtain⟨ρ1,t,h1,h2,h3⟩:=zge h
  rcases h3 with⟨rfl,x,xs,h3,h4,rfl⟩ | ⟨rfl,h4⟩
  ·exact Nat.succ_le_succ (zku h4)
  ·exact Nat.le_succ_of_le (zku h4)
def zuC (n:Nat)(tg:Ev->D->Res Ev):Prop:=∀ ρ d ρ',tg ρ d=.ok ρ'->ρ'.length=ρ.length/\∀ (k:Nat),n<=k->ρ'[k]?=ρ[k]?
theorem zgX {i n:Nat}(h:i < n):zuC n (zdW i):=fun ρ d ρ' e=>by
 cases e
 exact⟨by simp,fun k hk=>by rw[List.getElem?_set_ne (by omega)]⟩
theorem znH {K:W.Frag}{H₀:Hp}{σ:L2.St}{ρ:Ev}{n:Nat}{fr:List Nat}(h:zfV K H₀ σ ρ):zfV K H₀ (zkE n fr σ) (zcZ n fr ρ):=fun i d e=>by
 unfold zcZ at e
 unfold zkE
 by_cases hi:i < n
 ·rw[List.getElem?_append_left (by simpa using hi),List.getElem?_replicate,if_pos hi] at e
  cases e
 ·rw[List.getElem?_append_right (by simpa using hi),List.length_replicate,List.getElem?_map] at e ⊢
  cases hf:fr[i-n]? with
  | none=>rw[hf] at e;cases e
  | some j =>
   rw[hf] at e
   simp only[Option.map_some,Option.some.injEq] at e ⊢
   cases hj:ρ[j]? with
   | none=>rw[hj] at e;cases e
   | some s =>
    rw[hj] at e
    cases s with
    | sh d' =>
     cases e
     obtain⟨v,h1,h2⟩:=h j d hj
     exact⟨v,by rw[h1];rfl,h2⟩
    | _=>cases e
theorem zsC {n:Nat}{fr:List Nat}{ρ:Ev}{k:Nat}(h:k < n):(zcZ n fr ρ)[k]?=some .no:=by
 unfold zcZ
 rw[List.getElem?_append_left (by simpa using h),List.getElem?_replicate,if_pos h]
theorem zqN {n:Nat}{fr:List Nat}{ρ:Ev}(i j:Nat)(es:List D):(zcZ n fr ρ)[i]?≠some (.ox j es):=fun e=>by
 unfold zcZ at e
 by_cases hj:i < n
 ·rw[List.getElem?_append_left (by simpa using hj),List.getElem?_replicate,if_pos hj] at e;cases e
 ·rw[List.getElem?_append_right (by simpa using hj),List.getElem?_map] at e
  cases hf:fr[i-(List.replicate n Sl.no).length]? with
  | none=>rw[hf] at e;cases e
  | some z =>
   rw[hf] at e
   simp only[Option.map_some,Option.some.injEq] at e
   split at e<;>cases e
theorem zm6 {n:Nat}{fr:List Nat}{ρ:Ev}:(zcZ n fr ρ).length=n+fr.length:=by unfold zcZ;simp
theorem znF {K:W.Frag}{E:XK}{n:Nat}{fr:List Nat}{tg:Ev->D->Res Ev}{tt fe:Ev->Res D}{σ:L2.St}{ρ:Ev}{H H₀ H1 H01:Hp}{ds es:List D}{J:It}{Q:VK}(hsame:zaT H₀ H)(g1:zbp H H₀ H1 H01)(it:ItD K ds J H01)(hl:ds.length<=line)
  (e2:zca (zcZ n fr ρ) tg tt fe ds=.ok es)(hr:zfV K H01 σ ρ)(hok:zuC n tg)
  (q:∀ p vs H' H₀',zbp H H₀ H' H₀'->H p=none->H₀' p=none->H' p=some (.lst vs)->Reps K H₀' es vs->Q (.ref p) H') :
  znY n fr (zvt K tg) (tDT K E tt) (tD K E fe) J σ H1 Q:=by
 intro Da hDa
 have h0D:H01 Da=none:=g1.sub.free hDa
 refine⟨fun i m ys σ' H'=>m=ds.length-i/\i<=ds.length/\σ'.length=n+fr.length/\∃ H₀',zbp H1 H01 H' H₀'/\H₀' Da=none/\H' Da=some (.lst ys)/\zfV K H₀' σ' (zcZ n fr ρ)/\∃ es1,zca (zcZ n fr ρ) tg tt fe (ds.take i)=.ok es1/\Reps K H₀' es1 ys,
  ⟨ds.length,by simp,Nat.zero_le _,by unfold zkE;simp,H01,?_,h0D,zas,znH hr,[],rfl,Reps.nil⟩,?_⟩
 ·refine⟨fun b o e=>by rw[zat (zaN e hDa)];exact e,zaT.refl _,fun b o e=>?_,fun b k1 k2=>absurd k2 k1⟩
  rw[zat (by intro z;subst z;rw[h0D] at e;cases e)];exact g1.sub _ _ e
 ·rintro i m ys σ' H' ⟨rfl,hile,hsl,H₀',gg,hD0,hDl,hrd,es1,hes1,hys⟩
  refine⟨hDl,?_⟩
  by_cases hlt:i < ds.length
  ·refine .inr ⟨it.go i H' H₀' gg.z gg.sub hlt,?_,?_⟩
   ·rw[← hys.length]
    have:=zku hes1
    rw[List.length_take] at this
    have h2:line < sizeLine:=by decide
    omega
   ·intro x H2 hy
    obtain⟨H₀2,g2,rp⟩:=it.yld i H' H₀' x H2 ds[i] gg.z gg.sub (List.getElem?_eq_getElem hlt) hy
    have hsplit:ds=ds.take i++(ds[i]::ds.drop (i+1)):=by rw[← List.drop_eq_getElem_cons hlt,List.take_append_drop]
    rw[hsplit] at e2
    obtain⟨a1,a2,k1,k2,k3⟩:=zjf e2
    rw[hes1] at k1;cases k1
    obtain⟨ρ1,t,t1,t2,t3⟩:=zge k2
    have hn2:H₀2 Da=none:=by
     cases qq:H₀2 Da with
     | none=>rfl
     | some o=>have:=g2.nw Da (by rw[qq];simp) hD0;rw[hDl] at this;cases this
    have hD2:H2 Da=some (.lst ys):=g2.s _ _ hDl
    refine⟨H2,H₀2,H₀2,zcZ n fr ρ,ds[i],⟨zbp.refl g2.sub,hrd.mono g2.z,fun j d' e=>?_,fun j k d1 d2 _ e=>?_,by rw[zm6,hsl],OX.none zqN⟩,rp,?_⟩
    ·unfold zcZ at e
     by_cases hj:j < n
     ·rw[List.getElem?_append_left (by simpa using hj),List.getElem?_replicate,if_pos hj] at e;cases e
     ·rw[List.getElem?_append_right (by simpa using hj),List.getElem?_map] at e
      cases hf:fr[j-(List.replicate n Sl.no).length]? with
      | none=>rw[hf] at e;cases e
      | some z =>
       rw[hf] at e
       simp only[Option.map_some,Option.some.injEq] at e
       split at e<;>cases e
    ·unfold zcZ at e
     by_cases hj:j < n
     ·rw[List.getElem?_append_left (by simpa using hj),List.getElem?_replicate,if_pos hj] at e;cases e
     ·rw[List.getElem?_append_right (by simpa using hj),List.getElem?_map] at e
      cases hf:fr[j-(List.replicate n Sl.no).length]? with
      | none=>rw[hf] at e;cases e
      | some z =>
       rw[hf] at e
       simp only[Option.map_some,Option.some.injEq] at e
       split at e<;>cases e
    ·rw[t1]
     intro σ3 H3 H03 z3 s3
     have hrl:=hok _ _ _ t1
     have hσ3:σ3.length=n+fr.length:=by rw[← s3.ln,hrl.1,zm6]
     have back:∀ {Hx:Hp},zaT H03 Hx->zfV K Hx σ3 (zcZ n fr ρ):=fun {Hx} sx k d e=>by
      by_cases hk:k < n
      ·rw[zsC hk] at e;cases e
      ·rw[← hrl.2 k (by omega)] at e
       obtain⟨v,h1,h2⟩:=s3.rd k d e
       exact⟨v,h1,h2.mono sx⟩
     have n3:H03 Da=none:=by
      cases qq:H03 Da with
      | none=>rfl
      | some o=>have:=s3.g.nw Da (by rw[qq];simp) hn2;rw[hD2] at this;cases this
     have hD3:H3 Da=some (.lst ys):=s3.g.s _ _ hD2
     refine⟨H03,ρ1,s3.g.sub,s3.rd,?_⟩
     rw[t2]
     intro H4 H04 g4
     have hD4:H4 Da=some (.lst ys):=g4.s _ _ hD3
     have n4:H04 Da=none:=by
      cases qq:H04 Da with
      | none=>rfl
      | some o=>have:=g4.nw Da (by rw[qq];simp) n3;rw[hD3] at this;cases this
     have htake:ds.take (i+1)=ds.take i++[ds[i]]:=by rw[List.take_add_one,List.getElem?_eq_getElem hlt];rfl
     have g04:=(gg.trans g2).trans (s3.g.trans g4)
     rcases t3 with⟨rfl,y,xs,t3,t4,_⟩ | ⟨rfl,t4⟩
     ·rw[if_pos rfl]
      refine⟨H04,ρ1,g4.sub,s3.rd.mono g4.z,?_⟩
      rw[t3]
      intro yv H5 H05 g5 ry
      have hD5:H5 Da=some (.lst ys):=g5.s _ _ hD4
      have n5:H05 Da=none:=by
       cases qq:H05 Da with
       | none=>rfl
       | some o=>have:=g5.nw Da (by rw[qq];simp) n4;rw[hD4] at this;cases this
      have gall:=g04.trans g5
      refine⟨hD5,ds.length-(i+1),by omega,rfl,hlt,hσ3,H05,⟨fun b o e=>?_,gall.z,fun b o e=>?_,gall.nw⟩,n5,zas,back (g4.z.trans g5.z),es1++[y],?_,?_⟩
      ·rw[zat (zaN e hDa)];exact gall.s _ _ e
      ·rw[zat (by intro z;subst z;rw[n5] at e;cases e)];exact gall.sub _ _ e
      ·rw[htake]
       refine zgd hes1 ?_
       rw[zfM t1 t2 t3];rfl
      ·exact(hys.mono ((g2.z.trans s3.g.z).trans (g4.z.trans g5.z))).app (Reps.cons ry Reps.nil)
     ·rw[if_neg Bool.false_ne_true]
      refine⟨ds.length-(i+1),by omega,rfl,hlt,hσ3,H04,g04,n4,hD4,back g4.z,es1,?_,hys.mono ((g2.z.trans s3.g.z).trans g4.z)⟩
      rw[htake]
      rw[show es1=es1++[] by simp]
      refine zgd hes1 ?_
      rw[zkt t1 t2];rfl
  ·have hi2:i=ds.length:=by omega
   refine .inl ⟨it.stop i H' H₀' gg.z gg.sub (by omega),?_⟩
   rw[hi2,List.take_length] at hes1
   rw[e2] at hes1;cases hes1
   exact q Da ys H' H₀' (g1.trans gg) (g1.s.free hDa) hD0 hDl hys
structure DIf (X:Cx) (E:XK) (ifs:List Expr) (f:Ev->Res D):Prop where
 o:PIf X ifs (tDT X.K E f)
def mYes:Ev->Res D:=fun _=>.ok (.bl true)
theorem zo5 {X:Cx}{E:XK}:DIf X E [] mYes:=⟨fun pins s σ H Q I ⟨H₀,ρ,hs,hr,q⟩=>zrS pins s σ H Q I (q H H₀ (zbp.refl hs))⟩
theorem zme {X:Cx}{E:XK}{c:Expr}{f:Ev->Res D}(h:DT X E c f):DIf X E [c] f:=⟨zrR h.o⟩
structure DCo (X:Cx) (E:XK) (e:Expr) (f:Ev->Res D):Prop where
 ev:PE X e (tF X.K E f)
 st:∀ {i:Nat}{x:Str}{pos' spos:Pos},X.N.Nodup->X.N[i]?=some x->X.env.scope.names.lookup x=some .local -> swapsWith e (some (.Name x pos')) spos.line X.env=pure true->PS X (.Assign [.Name x pos'] e spos) (zuS (tF X.K E f) (zsm i))
theorem dco {X:Cx}{E:XK}{tgt iter elt:Expr}{ifs:List Expr}{scope:Scope}{pos:Pos}(N:List Str)(n:Nat)(fr:List Nat){src:Ev->Res (List D)}{tg:Ev->D->Res Ev}{tt fe:Ev->Res D}(hc:X.calm=true)(hi:DI X E tgt iter src)(hok:zuC n tg)
  (blk:∀ s H C fp pn,(∀ He H0e,DG (zez X N scope s H C fp pn) E He H0e tgt tg)/\DIf (zez X N scope s H C fp pn) E ifs tt/\DE (zez X N scope s H C fp pn) E elt fe)
  (hfr:zuq X N n fr scope)(hcell:∀ x∈scope.names,x.2≠.cell)(hfree:∀ x∈scope.names,x.2=.free->X.env.scope.names.lookup x.1=some .cell)(hkind:scope.kind=.function)(hnames:∀ x∈scope.names,x.2=.local -> scope.names.lookup x.1=some .local)
  (hs:∀ x,foldedSetIterable iter X.env x=pure x:=by intro _;rfl):DCo X E (.ListComp elt [⟨tgt,iter,ifs,0⟩] scope pos) (zfL n fr src tg tt fe):=by
 have blk':∀ s H C fp pn,PG (zez X N scope s H C fp pn) tgt (zvt X.K tg)/\PIf (zez X N scope s H C fp pn) ifs (tDT X.K E tt)/\PE (zez X N scope s H C fp pn) elt (tD X.K E fe):=fun s H C fp pn =>
  ⟨fun pins s' σ' H' v u Q' I r ⟨He,H0e,q'⟩=>((blk s H C fp pn).1 He H0e).o pins s' σ' H' v u Q' I r q',(blk s H C fp pn).2.1.o,(blk s H C fp pn).2.2.o⟩
 have first:∀ {pins:List (Addr×Obj)}{s:Shared}{σ:L2.St}{H:Hp}{Q:VK}{RR:Value->Addr->Result->Shared->Prop},L2.Inv X pins σ H s->tF X.K E (zfL n fr src tg tt fe) σ H Q ->
   (∀ (Da C:Addr) (s6:Shared) (H5:Hp) (m:Str->Option Value),L2.Inv X pins σ H5 s6->s6.heap.Ns C m->znJ X pins H5 C->Q (.ref Da) H5->RR (.ref Da) C (.ok .next) s6) ->
   wpAny (model X.prog X.w) X.A (eval iter X.env) (fun x s₁=>wpAny (model X.prog X.w) X.A (pyIter x) (fun it s₂=>wpAny (model X.prog X.w) X.A (newList []) (fun acc s₃ =>
    wpAny (model X.prog X.w) X.A (newFunctionEnv scope X.env.globals (zjw X.env.cells scope.names []) [] X.env.qual none .none (some X.env)) (fun cenv s₄ =>
     codeAny (model X.prog X.w) X.A (.compStart (.ListComp elt [⟨tgt,iter,ifs,0⟩] scope pos) 0 it acc { cenv with scope:=relabel scope X.env }) (RR acc cenv.locals) s₄) X.xe s₃) X.xe s₂) X.xe s₁) X.xe s:=by
  intro pins s σ H Q RR I ⟨H₀,ρ,hsame,hr,q⟩ fin
  refine thn (hi.o pins s σ H (fun J H1=>znY n fr (zvt X.K tg) (tDT X.K E tt) (tD X.K E fe) J σ H1 Q) I ⟨H₀,ρ,hsame,hr,?_⟩) fun v s1 h1=>thn h1 fun itv s2 h2=>zpe (N:=N) hc hfr hcell hfree hkind blk' h2 fin
  unfold zfL at q
  cases e1:src ρ with
  | stuck=>rw[e1] at q;exact q
  | exn x=>rw[e1] at q;exact q
  | ok ds =>
   rw[e1] at q
   intro J H1 H01 g1 it
   replace q:match (if ds.length<=line then match zca (zcZ n fr ρ) tg tt fe ds with
     | .ok es=>Res.ok (D.lst es)
     | _=>.stuck else .stuck) with
    | .ok (.lst ds)=>∀ p vs H' H₀',zbp H H₀ H' H₀'->H p=none->H₀' p=none->H' p=some (.lst vs)->Reps X.K H₀' ds vs->Q (.ref p) H'
    | .ok _=>False
    | .exn x=>∀ C ox H' H₀',zbp H H₀ H' H₀'->ExR X.K H₀' x C ox->E C ox H'
    | .stuck=>False:=q
   by_cases hl:ds.length<=line
   ·rw[if_pos hl] at q
    cases e2:zca (zcZ n fr ρ) tg tt fe ds with
    | stuck=>rw[e2] at q;exact q.elim
    | exn x=>rw[e2] at q;exact q.elim
    | ok es =>
     rw[e2] at q
     exact znF hsame g1 it hl e2 (hr.mono g1.z) hok q
   ·rw[if_neg hl] at q;exact q.elim
 have hcl:∀ {pins:List (Addr×Obj)}{s:Shared}{σ:L2.St}{H:Hp},L2.Inv X pins σ H s->closureFor scope X.env=pure (zjw X.env.cells scope.names []):=fun {pins s σ H} I=>zkv fun y hy hf=>I.ok.has y.1 (.inl (hfree y hy hf))
 refine⟨fun pins s σ H Q I h=>?_,fun {i x pos' spos} hN hi' hx hsw pins s σ H D' I h=>?_⟩
 ·rw[eval_ListComp]
  refine wpAny_comprehension_free (use:=none) rfl hs (hcl I) hkind hnames (first (RR:=fun acc C=>compPost (model X.prog X.w) X.A X.xe none (EP X pins σ Q) acc C) I h fun Da C s6 H5 m I6 ns fC q=>?_)
  refine⟨m,ns,fun h' sb=>⟨.ref Da,H5,?_,rfl,q⟩⟩
  exact I6.turned (t':=s6.toks) (it:=C) (fun b o hb e=>(sb.2 b hb).trans e) fC.1 fC.2.1 fC.2.2.2.1 fC.2.2.2.2.1 fC.2.2.2.2.2
 ·rw[exec_Assign_Name_used _ _ _ _ hsw]
  refine wpAny_bind (wpAny_standAt (wpAny_bind ?_))
  show wpAny _ X.A (do let _ ← comprehension (.ListComp elt [⟨tgt,iter,ifs,0⟩] scope pos) scope X.env _ (newList []) false (eval iter X.env) (some (assign (.Name x pos') X.env))) _ _ s
  refine wpAny_bind (wpAny_mono (wpAny_comprehension_free (use:=some (assign (.Name x pos') X.env)) (Q:=fun _ s'=>SP X pins D' .next s') rfl hs (hcl I) hkind hnames
   (first (RR:=fun acc C=>compPost (model X.prog X.w) X.A X.xe (some (assign (.Name x pos') X.env)) (fun _ s'=>SP X pins D' .next s') acc C) I h fun Da C s6 H5 m I6 ns fC q=>?_)) (fun _ s' hq=>wpAny_pure (wpAny_pure hq)) fun _ _ e=>e)
  show wpAny _ X.A (assign (.Name x pos') X.env (.ref Da)) _ _ _
  refine wpAny_assign_Name (zkL (v:=.ref Da) I6 hN hi' (.inl hx) rfl (fun s' I' ⟨a,sb,ha⟩=>?_) (.inr hx))
  have hCa:C≠a:=by
   rcases ha with rfl | ha
   ·exact fC.2.1
   ·exact fun z=>fC.2.2.2.2.1 x a ha z.symm
  refine⟨m,ns.sameBut sb hCa,fun h' sb'=>⟨_,H5,?_,q⟩⟩
  exact I'.turned (t':=s'.toks) (it:=C) (fun b o hb e=>(sb'.2 b hb).trans e) fC.1 fC.2.1 fC.2.2.2.1 fC.2.2.2.2.1 fC.2.2.2.2.2
theorem zvy {X:Cx}{E:XK}{e:Expr}{f:Ev->Res D}(h:DCo X E e f):DF X E e f:=⟨h.ev⟩
theorem zsx {X:Cx}{E:XK}{e:Expr}{n:Nat}{fr:List Nat}{src:Ev->Res (List D)}{tg:Ev->D->Res Ev}{tt fe:Ev->Res D}(h:DCo X E e (zfL n fr src tg tt fe)):DE X E e (zfL n fr src tg tt fe):=zqz zjc (zvy h)
section
variable {X:Cx}{E:XK}{He H0e:Hp}{e:Expr}{f:Ev->Res D}{s:Ev->Res Fl}{pos:Pos}{st:Stmt}
def unown (i:Nat)(ρ:Ev):Ev:=match ρ[i]? with
 | some (.ow d)=>ρ.set i (.sh d)
 | _=>ρ
def zwq (i:Nat)(s:Ev->Res Fl):Ev->Res Fl:=fun ρ=>s (unown i ρ)
theorem SRx.unown {K:W.Frag}{H₀ H:Hp}{σ:L2.St}{ρ:Ev}(h:SRx K He H0e H₀ σ H ρ)(i:Nat):∃ H₀',zaT H₀ H₀'/\SRx K He H0e H₀' σ H (DL.unown i ρ):=by
 unfold DL.unown
 cases e:ρ[i]? with
 | none=>exact⟨H₀,zaT.refl _,h⟩
 | some s =>
  cases s with
  | no=>exact⟨H₀,zaT.refl _,h⟩
  | sh d=>exact⟨H₀,zaT.refl _,h⟩
  | ox j ds=>exact⟨H₀,zaT.refl _,h⟩
  | ow d =>
   obtain⟨a,k1,k2,k3,k4⟩:=h.ow i d e
   cases d with
   | lst ds =>
    obtain⟨vs,h5,h6⟩:=k4
    have z:zaT H₀ (upd H₀ a (.lst vs)):=fun b o q=>by rw[zat (by intro z;subst z;rw[k3] at q;cases q)];exact q
    have h':SRx K He H0e (upd H₀ a (.lst vs)) σ H (ρ.set i .no):=by
     have nset:∀ (j:Nat) (s:Sl),(ρ.set i .no)[j]?=some s->s≠.no->j≠i/\ρ[j]?=some s:=fun j s q hs=>by
      by_cases hj:i=j
      ·subst hj
       rw[List.getElem?_set_self'] at q
       rw[e] at q;cases q;exact absurd rfl hs
      ·rw[List.getElem?_set_ne hj] at q;exact⟨fun z=>hj z.symm,q⟩
     refine⟨⟨h.g.s,h.g.z.trans z,fun b o q=>?_,fun b q1 q2=>?_⟩,fun j d' q=>?_,fun j d' q=>?_,fun j k d1 d2 hn q1 q2=>?_,by simp [h.ln],h.ex.upd (fun j s q=>?_) z (fun b us _ eb=>eb) fun q us _ q0 hq hd=>?_⟩
     rotate_left 5
     ·by_cases hs:s=.no
      ·exact .inr (.inr (.inl hs))
      ·exact .inl ⟨(nset j s q hs).2,rfl⟩
     ·have hq':q≠a:=by
       intro zz;subst zz
       exact hd i _ e k1
      exact⟨hq,by rw[zat hq'];exact q0⟩
     ·by_cases hb:b=a
      ·subst hb;rw[zas] at q;cases q;exact h5
      ·rw[zat hb] at q;exact h.g.sub _ _ q
     ·by_cases hb:b=a
      ·subst hb;exact k2
      ·rw[zat hb] at q1;exact h.g.nw b q1 q2
     ·obtain⟨hj,q⟩:=nset j _ q (fun z=>nomatch z)
      obtain⟨v,q1,q2⟩:=h.rd j d' q
      exact⟨v,q1,q2.mono z⟩
     ·obtain⟨hj,q⟩:=nset j _ q (fun z=>nomatch z)
      obtain⟨b,q1,q2,q3,q4⟩:=h.ow j d' q
      have hb:b≠a:=by
       intro zz;subst zz
       exact h.ap j i d' (.lst ds) hj q e (by rw[q1,k1])
      refine⟨b,q1,q2,by rw[zat hb];exact q3,?_⟩
      cases d' with
      | lst ds'=>obtain⟨vs',h7,h8⟩:=q4;exact⟨vs',h7,h8.mono z⟩
      | _=>exact q4.elim
     ·obtain⟨_,q1⟩:=nset j _ q1 (fun z=>nomatch z)
      obtain⟨_,q2⟩:=nset k _ q2 (fun z=>nomatch z)
      exact h.ap j k d1 d2 hn q1 q2
    refine⟨_,z,?_⟩
    have hp:=h'.put (i:=i) (d:=.lst ds) (v:=.ref a) (Rep.lst_iff.mpr ⟨a,vs,rfl,SqL.of zas,h6.mono z⟩)
    rw[List.set_set] at hp
    have hσ:σ.set i (some (V.ref a))=σ:=by
     apply List.ext_getElem?
     intro k
     by_cases hk:i=k
     ·subst hk
      obtain⟨hil,_⟩:=List.getElem?_eq_some_iff.mp k1
      rw[List.getElem?_set_self hil,k1]
     ·rw[List.getElem?_set_ne hk]
    rw[hσ] at hp
    exact hp
   | _=>exact k4.elim
end
theorem zue {X:Cx}{E:XK}{tgt iter elt:Expr}{ifs:List Expr}{scope:Scope}{pos:Pos}(N:List Str)(n:Nat)(fr:List Nat){src:Ev->Res (List D)}{tg:Ev->D->Res Ev}{tt fe:Ev->Res D}(hc:X.calm=true)(hi:DI X E tgt iter src)(hok:zuC n tg)
  (blk:∀ s H C fp pn,(∀ He H0e,DG (zez X N scope s H C fp pn) E He H0e tgt tg)/\DIf (zez X N scope s H C fp pn) E ifs tt/\DE (zez X N scope s H C fp pn) E elt fe)
  (hfr:zuq X N n fr scope)(hcell:(scope.names.all fun x=>!(x.2==.cell))=true)(hfree:(scope.names.all fun x=>!(x.2==.free)||(X.env.scope.names.lookup x.1==some .cell))=true)(hkind:scope.kind=.function)
  (hnames:(scope.names.all fun x=>!(x.2==.local)||(scope.names.lookup x.1==some .local))=true)
  (hs:∀ x,foldedSetIterable iter X.env x=pure x:=by intro _;rfl):DCo X E (.ListComp elt [⟨tgt,iter,ifs,0⟩] scope pos) (zfL n fr src tg tt fe):=by
 refine dco N n fr hc hi hok blk hfr (fun x hx z=>?_) (fun x hx z=>?_) hkind (fun x hx z=>?_) hs
 ·have:=List.all_eq_true.mp hcell x hx
  rw[z] at this;simp at this
 ·have:=List.all_eq_true.mp hfree x hx
  rw[z] at this;simpa using this
 ·have:=List.all_eq_true.mp hnames x hx
  rw[z] at this;simpa using this
theorem zo2 {X:Cx}{E:XK}{He H0e:Hp}{e:Expr}{f:Ev->Res D}{pos:Pos}{i:Nat}{x:Str}{pos':Pos}(hN:X.N.Nodup)(hi:X.N[i]?=some x)(hx:X.env.scope.names.lookup x=some .local)(hl:zir f)(he:DCo X E e f)(hs:swapsWith e (some (.Name x pos')) pos.line X.env=pure true:=by rfl):DS X E He H0e (.Assign [.Name x pos'] e pos) (zbc i f):=by
 refine⟨zcO (he.st hN hi hx hs) fun D σ H ⟨H₀,ρ,h,q⟩=>?_⟩
 refine zmu hl ⟨H₀,ρ,h.g.sub,h.rd,?_⟩
 refine plain h q fun d v H' H₀' _ g rp q'=>?_
 exact q' _ H' H₀' (zaT.refl _) ((h.grow g).put rp)
theorem zcj.there {P:Program}{w:World}{H:Hp}{h:Heap}{a:Addr}{o:HO}(x:zcj P w H h a o):∃ u,h.get? a=some u:=by
 cases o with
 | lst xs=>obtain⟨_,_,_,_,e⟩:=x;exact⟨_,e⟩
 | tup xs=>obtain⟨_,_,_,ob,e,_⟩:=x;exact⟨_,e⟩
 | dK kvs=>obtain⟨_,_,_,_,o,_,_,e,_⟩:=x;exact⟨_,e⟩
 | dT kvs=>obtain⟨_,_,_,_,o,_,_,e,_⟩:=x;exact⟨_,e⟩
 | set S n=>obtain⟨o,_,_,_,e,_⟩:=x;exact⟨_,e⟩
 | ins C dx fs=>obtain⟨_,_,_,e,_⟩:=x;exact⟨_,e⟩
 | own y=>obtain⟨_,e⟩:=x;exact⟨_,e⟩
 | xd fs=>obtain⟨_,⟨_,_,_,e,_⟩,_⟩:=x;exact⟨_,e⟩
 | rng lo hi=>obtain⟨_,_,_,e⟩:=x;exact⟨_,e⟩
 | frz ob u=>obtain⟨e,_⟩:=x;exact⟨_,e⟩
 | tbl ps=>exact⟨_,show h.get? a=some _ from x⟩
 | met f y=>exact⟨_,show h.get? a=some _ from x⟩
 | ext φ=>obtain⟨_,⟨_,e⟩,_⟩:=x;exact⟨_,e⟩
def CXE (P:Program)(w:World):CXT:=fun outer H s E e s'=>∃ (ea C:Addr) (a0:Value) (B:Heap) (H':Hp),e=.ref ea/\s'.os=s.os/\AllBare s'.gens/\Un (frs outer) [] H H' s.heap s'.heap/\HOk P w H' s'.heap/\H' ea=none /\
 Heap.FlyingW B outer ea (.ref C) a0 s'.heap/\(∀ b,b∉frs outer->(H' b≠none∨∃ o,s.heap.get? b=some o)->∃ o,B.get? b=some o)/\E (.ref C) none H'
theorem zoQ {l:List PySem.Env}:∀ env∈l,∀ a,env.frame=some a->a∈frs l:=fun env he a hf=>List.mem_filterMap.mpr ⟨env,he,hf⟩
section
variable {P:Program}{w:World}{K:W.Frag}{mg:Str->Option Value}{base:Heap}{N:List Str}{qual:Str}{scope:Scope}{f:Addr}{cd:Value}{A:Around}{outer:List PySem.Env}{s0:Shared}{H0:Hp}{E:XK}
 {pins:List (Addr×Obj)}{σ:L2.St}{H:Hp}{s:Shared}
theorem zep {B h h':Heap}(k:B.StaysIn h)(k':B.StaysIn h'){b:Addr}{o:Obj}(hb:∃ u,B.get? b=some u)(e:h.get? b=some o):h'.get? b=some o:=by
 obtain⟨u,q⟩:=hb
 have:=k b u q
 rw[e] at this;cases this
 exact k' b o q
theorem zso {X:Cx}(hX:X=zgu (CXE P w) P w K mg base N qual scope f cd A outer s0 H0 E)(I:Inv X pins σ H s){s1:Shared}{H1:Hp}{ea C:Addr}{a0:Value}{B h':Heap}(os:s1.os=s.os)(bare:AllBare s1.gens)
  (un:Un (frs X.stack) [] H H1 s.heap s1.heap)(hok:HOk P w H1 s1.heap)(hne:H1 ea=none)(hst:B.StaysIn s1.heap)(hfr:s1.heap.FunFrames B X.stack)
  (hB:∀ b,b∉frs X.stack->(H1 b≠none∨∃ o,s.heap.get? b=some o)->∃ o,B.get? b=some o)(fl:Heap.FlyingW B outer ea (.ref C) a0 h')(up:s1.heap.UpToSlots h')(hE:E (.ref C) none H1) :
  CXE P w outer H0 s0 E (.ref ea) { s1 with heap:=h' }:=by
 subst hX
 have hL:(envOfC qual scope s0.heap.objs.size f cd).frame=some (envOfC qual scope s0.heap.objs.size f cd).locals:=rfl
 have hstk:∀ b,b∈frs (envOfC qual scope s0.heap.objs.size f cd::outer)->b=(envOfC qual scope s0.heap.objs.size f cd).locals∨b∈frs outer:=fun b hb=>by
  unfold frs at hb;rw[List.filterMap_cons,hL] at hb;exact List.mem_cons.mp hb
 have hsub:∀ b,b∈frs outer->b∈frs (envOfC qual scope s0.heap.objs.size f cd::outer):=fun b hb=>by
  unfold frs;rw[List.filterMap_cons,hL];exact List.mem_cons_of_mem _ hb
 have old:∀ b o,s0.heap.get? b=some o->b≠(envOfC qual scope s0.heap.objs.size f cd).locals:=fun b o e=>Nat.ne_of_lt (Nat.lt_of_lt_of_le (Heap.lt_size e) I.ok.above)
 have nofr:∀ b o,s0.heap.get? b=some o->b∉frs outer->b∉frs (envOfC qual scope s0.heap.objs.size f cd::outer):=fun b o e hb hm=>(hstk b hm).elim (old b o e) hb
 have thr:∀ b o,s0.heap.get? b=some o->∃ o',s.heap.get? b=some o':=fun b o e=>I.base.there b o e (by intro z;exact nomatch z)
 have fst:∀ b,b∈frs outer->∀ o,s1.heap.get? b=some o->∃ sl,h'.get? b=some { o with slots:=sl }:=fun b hb o e=>by
  obtain⟨_,o',ho',hd⟩:=hfr.mem (hsub b hb)
  rw[e] at ho';cases ho'
  exact up b o e hd
 have free1:∀ b∈frs (envOfC qual scope s0.heap.objs.size f cd::outer),H1 b=none:=fun b hb=>by
  obtain⟨_,o,ho,_⟩:=I.stack.mem hb
  exact un.free b o ho (I.stkFree b hb) (by simp)
 have B0:∀ b o,s0.heap.get? b=some o->b∉frs outer->∃ u,B.get? b=some u:=fun b o e hb=>hB b (nofr b o e hb) (.inr (thr b o e))
 refine⟨ea,C,a0,B,H1,rfl,os.trans I.os,bare,⟨fun b o e n hb hx=>?_,fun b o e n hb hx=>?_,fun b o e n hx=>?_,fun b o e hx=>?_,fun b xs e=>un.tups b xs (I.base.tups b xs e),fun b o u e=>un.frzs b o u (I.base.frzs b o u e),fun b ps e=>?_⟩,fun a o e=>?_,hne,fl,fun b hb h=>?_,hE⟩
 ·have e1:=I.base.keep b o e n hb (by intro z;exact nomatch z)
  have n1:=I.base.free b o e n (by intro z;exact nomatch z)
  have e2:=un.keep b o e1 n1 (nofr b o e hb) (by simp)
  exact zep hst fl.1 (B0 b o e hb) e2
 ·obtain⟨sl,e1⟩:=I.base.slot b o e n hb (by intro z;exact nomatch z)
  have n1:=I.base.free b o e n (by intro z;exact nomatch z)
  obtain⟨sl2,e2⟩:=un.any e1 n1 (by simp)
  obtain⟨sl3,e3⟩:=fst b hb _ e2
  exact⟨sl3,e3⟩
 ·obtain⟨o',e1⟩:=thr b o e
  exact un.free b o' e1 (I.base.free b o e n (by intro z;exact nomatch z)) (by simp)
 ·obtain⟨o',e1⟩:=thr b o e
  obtain⟨o2,e2⟩:=un.there b o' e1 (by simp)
  by_cases hb:b∈frs outer
  ·obtain⟨sl,e3⟩:=fst b hb _ e2
   exact⟨_,e3⟩
  ·exact⟨_,zep hst fl.1 (B0 b o e hb) e2⟩
 ·obtain⟨m1,e1⟩:=I.base.tbls b ps e
  obtain⟨m2,e2⟩:=un.tbls b _ e1
  exact⟨m1++m2,by rw[e2,Array.append_assoc]⟩
 ·refine(hok a o e).stay (fun b u hb q=>?_) (fun _ q=>q) fun _ _ q=>q
  have hn:H1 b≠none:=by
   rcases hb with rfl | hb
   ·rw[e];simp
   ·rw[hb];simp
  exact zep hst fl.1 (hB b (fun hm=>hn (free1 b hm)) (.inl hn)) q
 ·by_cases hm:b∈frs (envOfC qual scope s0.heap.objs.size f cd::outer)
  ·rcases hstk b hm with z | z
   ·rcases h with h | ⟨o,h⟩
    ·exact absurd (free1 b hm) h
    ·exact absurd z (old b o h)
   ·exact absurd z hb
  ·exact hB b hm (h.elim .inl fun⟨o,h⟩=>.inr (thr b o h))
theorem zkX (I:Inv (zgu (CXE P w) P w K mg base N qual scope f cd A outer s0 H0 E) pins σ H s){h1:Heap}{e C:Addr}{vs:List Value}(hx:Heap.MadeExcOf s.heap h1 e (.ref C) vs)(hE:E (.ref C) none H) :
  (zgu (CXE P w) P w K mg base N qual scope f cd A outer s0 H0 E).xe (.ref e) { s with heap:=h1 }:=by
 have hin:=zoQ (l:=envOfC qual scope s0.heap.objs.size f cd::outer)
 have hl:s.heap.FunFrames (W.hideAll s.heap (frs (envOfC qual scope s0.heap.objs.size f cd::outer))) (envOfC qual scope s0.heap.objs.size f cd::outer):=W.funFrames_hide I.stack hin
 have hn:H e=none:=by
  cases q:H e with
  | none=>rfl
  | some o=>obtain⟨u,hu⟩:=zcj.there (I.hok e o q);rw[hx.new] at hu;cases hu
 refine wpAny_leaves_madeW (h:=s.heap) (base:=W.hideAll s.heap (frs (envOfC qual scope s0.heap.objs.size f cd::outer))) (cls:=.ref C) (args:=vs) I.ok.frames rfl (fun b o q=>W.of_hideAll _ q) hl hx fun h' t fl tup _ up=>?_
 refine zso rfl I (s1:={ s with heap:=h1 }) (H1:=H) rfl I.bare (Un.kept hx.keeps) (I.hok.kept hx.keeps) hn (fun b o q=>hx.keeps b o (W.of_hideAll _ q)) (hl.of_keeps fun b o hb _=>⟨o,hx.keeps b o hb,rfl⟩) (fun b hb h=>?_) fl up hE
 have:∃ o,s.heap.get? b=some o:=by
  rcases h with h | h
  ·cases q:H b with
   | none=>exact absurd q h
   | some o=>exact zcj.there (I.hok b o q)
  ·exact h
 obtain⟨o,q⟩:=this
 exact⟨o,W.hideAll_get _ q hb⟩
theorem zlW:zjP (CXE P w) (zgu (CXE P w) P w K mg base N qual scope f cd A outer s0 H0 E) E:=by
 intro pins σ H s e s' I h
 obtain⟨ea,C,a0,B,H',rfl,os,bare,un,hok,hne,fl,hB,hE⟩:=h
 refine wpAny_leaves_onW I.ok.frames rfl fl fun h' fl' up=>?_
 exact zso rfl I os bare un hok hne fl.1 fl.2.2.1 hB fl' up hE
end
theorem zjA {X:Cx}{E:XK}:zjP CX0 X E:=fun _ _ _ _ _ _ _ h=>h.elim
theorem zew {P:Program}{w:World}{K:W.Frag}{mg:Str->Option Value}{base:Heap}{x qual:Str}{st:Stmt}{f:Addr}{fd:FuncData}{N ps:List Str}{k:Nat}{s:Ev->Res Fl}(F:Fun K x qual st f fd)(S:zaM N ps (defScope st))
  (hbody:∀ (cdv:Value) (A:Around) (outer:List PySem.Env) (s0:Shared) (H H₀:Hp) (E:XK),zgV k (A.deeper (envOfC qual (defScope st) s0.heap.objs.size f cdv)) ->
   DSs (zgu (CXE P w) P w K mg base N qual (defScope st) f cdv A outer s0 H E) E H H₀ (defBody st) s):zdy P w K mg base (CXE P w) (k+1) f fd ps (spD K ps.length (zc6 N.length s)):=by
 have hpl:ps.length<=N.length:=by have:=congrArg List.length S.pre;rw[List.length_take] at this;omega
 obtain⟨oc,od,kV,doc,pm,an,cdv,ct,osl,rfl,lk,hcd⟩:=F.ex
 refine zt5 lk hcd S (fun vs H Q E h=>h.1) fun A outer s0 H vs Q E hr h=>?_
 obtain⟨hn,H₀,ds,hs,hv,q⟩:=h
 refine⟨_,(hbody cdv A outer s0 H H₀ E hr).o,H₀,ds.map Sl.sh++List.replicate (N.length-ds.length) .no,?_,?_⟩
 ·refine⟨zbp.refl hs,ziI hv,fun i d e=>?_,fun i j d d' hij e=>?_,?_,OX.none zkM⟩
  ·by_cases hi:i < ds.length
   ·rw[List.getElem?_append_left (by simpa using hi),List.getElem?_map] at e
    cases q:ds[i]? with
    | none=>rw[q] at e;cases e
    | some d'=>rw[q] at e;cases e
   ·rw[List.getElem?_append_right (by simpa using hi),List.getElem?_replicate] at e
    split at e<;>cases e
  ·by_cases hi:i < ds.length
   ·rw[List.getElem?_append_left (by simpa using hi),List.getElem?_map] at e
    cases q:ds[i]? with
    | none=>rw[q] at e;cases e
    | some d'=>rw[q] at e;cases e
   ·rw[List.getElem?_append_right (by simpa using hi),List.getElem?_replicate] at e
    split at e<;>cases e
  ·unfold L2.start
   have:=hv.length
   simp only[List.length_append,List.length_map,List.length_replicate]
   omega
 ·unfold zc6 at q
  cases e1:s (ds.map Sl.sh++List.replicate (N.length-ds.length) .no) with
  | stuck=>rw[e1] at q;exact q
  | exn x=>rw[e1] at q;exact q
  | ok r =>
   rw[e1] at q
   cases r with
   | nx ρ'=>exact fun σ' H' H₀' _ h'=>q .non H' H₀' h'.g (Rep.non_iff.mpr rfl)
   | rt d=>exact fun v H' H₀' g rp=>q v H' H₀' g rp
   | bk ρ'=>exact q.elim
   | ct ρ'=>exact q.elim
structure zuB (K:W.Frag) (x:Str) (C:Addr):Prop where
 xc:XC K x C
 ex:W.excIn K C [.type "ValueError",.type "Exception",.type "BaseException",.type "object"] "ValueError.__new__"=true
theorem zuB.obj {K:W.Frag}{x:Str}{C:Addr}(c:zuB K x C){h:Heap}(X:K.In h):∃ bm N nm q bs hdct sn sub ab col dd k0 k1 k2 k3 k5 mN,h.get? C=some (excClassObj nm q C N bs bm hdct sn sub ab col dd k0 k1 k2 k3 k5 "ValueError.__new__")/\h.Ns N mN/\mN "__init__"=none /\
  OwnTail h [.type "ValueError",.type "Exception",.type "BaseException",.type "object"] bm:=by
 have q:=c.ex
 unfold W.excIn at q
 split at q
 ·rename_i dd cd sl ho
  split at q
  ·rename_i C' bm k0 k1 k2 k3 n k5 hm hs
   simp only[Bool.and_eq_true,beq_iff_eq,Bool.not_eq_true'] at q
   obtain⟨⟨⟨⟨⟨rfl,rfl⟩,hdel⟩,ht⟩,hok⟩,hni⟩:=q
   obtain⟨nm,bs,mro,ns,qn,hd,sn,sub,ab,col,del⟩:=cd
   dsimp only at hm hdel hok hni
   subst hm hdel
   have hsl:sl=#[k0,k1,k2,k3,some (.builtin "ValueError.__new__"),k5]:=by
    obtain⟨l⟩:=sl
    simp only at hs
    rw[hs]
   subst hsl
   exact⟨bm,ns,nm,qn,bs,hd,sn,sub,ab,col,dd,k0,k1,k2,k3,k5,_,X _ _ ho,.of_isNs (W.isNs_of_in X hok),W.nsMap_none_of_in X hok hni,W.tail_of_in X ht⟩
  ·cases q
 ·cases q
def zfo (x:Str)(fa:Ev->Res (List D)):Ev->Res Fl:=fun ρ=>(fa (shr ρ)).bind fun ds=>if ds.length<=line then .exn ⟨x,[]⟩ else .stuck
section
variable {P:Program}{w:World}{K:W.Frag}{mg:Str->Option Value}{base:Heap}{N:List Str}{qual:Str}{scope:Scope}{f:Addr}{cd:Value}{A:Around}{outer:List PySem.Env}{s0:Shared}{H0:Hp}{E:XK}{He H0e:Hp}
theorem zim {x:Str}{C:Addr}{np cpos pos:Pos}{e:Expr}{es:List Expr}{fa:Ev->Res (List D)}(c:zuB K x C)(hm:mg x=some (.ref C))(hh:A.handled=none)
  (hg:Gl (zgu (CXE P w) P w K mg base N qual scope f cd A outer s0 H0 E) x)(ha:DA (zgu (CXE P w) P w K mg base N qual scope f cd A outer s0 H0 E) E (e::es) fa)
  (hdb:(x==("__debug__" : Str))=false:=by decide)(he:starEach (e::es) (zgu (CXE P w) P w K mg base N qual scope f cd A outer s0 H0 E).env=(false,eval e (zgu (CXE P w) P w K mg base N qual scope f cd A outer s0 H0 E).env)::starEach es (zgu (CXE P w) P w K mg base N qual scope f cd A outer s0 H0 E).env:=by exact zaO rfl)
  (hpl:(backTo cpos (starEach es (zgu (CXE P w) P w K mg base N qual scope f cd A outer s0 H0 E).env)).any (·.1)=false:=by exact zbK rfl) :
  DS (zgu (CXE P w) P w K mg base N qual scope f cd A outer s0 H0 E) E He H0e (.Raise (some (.Call (.Name x np) (e::es) [] cpos)) none pos) (zfo x fa):=by
 refine⟨?_⟩
 intro pins s σ H D I ⟨H₀,ρ,hr,q⟩
 obtain⟨bm,Nn,nm,qn,bs,hdct,sn,sub,ab,col,dd,k0,k1,k2,k3,k5,mN,hC,hN,hni,T⟩:=c.obj I.ok.mod.kin
 refine wpAny_Raise_call_subT (C:=C) (nm:=nm) (q:=qn) (N:=Nn) (bs:=bs) (bm:=bm) (hdct:=hdct) (sn:=sn) (sub:=sub) (ab:=ab) (col:=col) (dd:=dd) (k0:=k0) (k1:=k1) (k2:=k2) (k3:=k3) (k5:=k5)
  PySem.F.excBase_ValueError (mN:=mN) (T.hasType PySem.F.excBase_ValueError.hasBase) hh (by rw[he];show(false||(backTo cpos (starEach es (zgu (CXE P w) P w K mg base N qual scope f cd A outer s0 H0 E).env)).any (·.1))=false;rw[hpl];rfl) hni (zgO I hg hm ⟨rfl,?_⟩ hdb)
 have hq:zlT K E H (frz He H₀ H) (fa (shr ρ)) (fun vs H1=>vs.length<=sizeLine/\E (.ref C) none H1):=by
  unfold zfo at q
  cases e1:fa (shr ρ) with
  | stuck=>rw[e1] at q;exact q
  | exn z=>rw[e1] at q;exact fun C ox H' H₀' g ex=>q C ox H' H₀' (hr.frz_grow.trans g) ex
  | ok ds =>
   rw[e1] at q
   intro vs H1 H01 g rp
   have q:zcs K E He H0e H₀ (if ds.length<=line then Res.exn ⟨x,[]⟩ else .stuck) D:=q
   by_cases hl:ds.length<=line
   ·rw[if_pos hl] at q
    exact⟨by rw[← rp.length];exact zc9 hl,q (.ref C) none H1 H01 (hr.frz_grow.trans g) ⟨⟨C,rfl,c.xc⟩,rfl⟩⟩
   ·rw[if_neg hl] at q;exact q.elim
 have h1:=ha.o cpos pins s σ H _ I ⟨frz He H₀ H,shr ρ,hr.frz_le,hr.looks,hq⟩
 rw[he] at h1 ⊢
 refine Calls.evalArgs_plain (wpAny_mono h1 (fun vs s2 h2=>?_) fun _ _ y=>y)
 obtain⟨vs',H1,I1,rv,hl,hE⟩:=h2
 exact⟨rfl,by rw[← rv.length];exact hl,I1.bk _ _ hC,hN.keeps I1.bk,T.keeps I1.bk,fun h' ee hx=>zkX I1 hx hE⟩
end
section
variable {P:Program}{w:World}{st:List PySem.Env}{H H':Hp}{h g g' B:Heap}
theorem Un.fly (un:Un (frs st) [] H H' h g)(k:B.StaysIn g)(hfr:g.FunFrames B st)(hB:∀ b,b∉frs st->(H' b≠none∨∃ o,h.get? b=some o)->∃ o,B.get? b=some o)(k':B.StaysIn g')(up:g.UpToSlots g'):Un (frs st) [] H H' h g':=by
 have fst:∀ b,b∈frs st->∀ o,g.get? b=some o->∃ sl,g'.get? b=some { o with slots:=sl }:=fun b hb o e=>by
  obtain⟨_,o',ho',hd⟩:=hfr.mem hb
  rw[e] at ho';cases ho'
  exact up b o e hd
 refine⟨fun b o e n hb hx=>?_,fun b o e n hb hx=>?_,un.free,fun b o e hx=>?_,un.tups,un.frzs,un.tbls⟩
 ·exact zep k k' (hB b hb (.inr ⟨o,e⟩)) (un.keep b o e n hb hx)
 ·obtain⟨sl,e1⟩:=un.slot b o e n hb hx
  obtain⟨sl2,e2⟩:=fst b hb _ e1
  exact⟨sl2,e2⟩
 ·obtain⟨o',e1⟩:=un.there b o e hx
  by_cases hb:b∈frs st
  ·obtain⟨sl,e2⟩:=fst b hb _ e1
   exact⟨_,e2⟩
  ·exact⟨_,zep k k' (hB b hb (.inr ⟨o,e⟩)) e1⟩
theorem HOk.fly (ok:HOk P w H' g)(hf:∀ b∈frs st,H' b=none)(k:B.StaysIn g)(hB:∀ b,b∉frs st->(H' b≠none∨∃ o,h.get? b=some o)->∃ o,B.get? b=some o)(k':B.StaysIn g'):HOk P w H' g':=fun a o e=>by
 refine(ok a o e).stay (fun b u hb q=>?_) (fun _ q=>q) fun _ _ q=>q
 have hn:H' b≠none:=by
  rcases hb with rfl | hb
  ·rw[e];simp
  ·rw[hb];simp
 exact zep k k' (hB b (fun hm=>hn (hf b hm)) (.inl hn)) q
theorem HOk.ext (ok:HOk P w H g){a:Addr}{φ:Heap->Prop}(hn:H a=none)(p:φ g)(ht:∃ o,g.get? a=some o)(hm:∀ h1 h2:Heap,φ h1->(∀ o,h1.get? a=some o->h2.get? a=some o)->φ h2):HOk P w (upd H a (.ext φ)) g:=fun b u e=>by
 by_cases hb:b=a
 ·subst hb;rw[zas] at e;cases e;exact⟨p,ht,hm⟩
 ·rw[zat hb] at e
  exact(ok b u e).stay (fun c v _ q=>q) (fun c q=>by rw[zat (zaN q hn)];exact q) fun c xs q=>by rw[zat (zaN q hn)];exact q
theorem Un.ext {fs:List Addr}(un:Un fs [] H H' h g){a:Addr}{o:HO}(hn:H' a=none)(ha:h.get? a=none):Un fs [] H (upd H' a o) h g :=
 ⟨un.keep,un.slot,fun b ob e n hx=>by rw[zat (fun z=>by subst z;rw[ha] at e;cases e)];exact un.free b ob e n hx,un.there,fun b xs q=>by rw[zat (zaN (un.tups b xs q) hn)];exact un.tups b xs q,
  fun b ob u q=>by rw[zat (zaN (un.frzs b ob u q) hn)];exact un.frzs b ob u q,fun b ps q=>by
   obtain⟨m,e⟩:=un.tbls b ps q
   exact⟨m,by rw[zat (zaN e hn)];exact e⟩⟩
theorem zoY {a C:Addr}:∀ h1 h2:Heap,zpt a C h1->(∀ o,h1.get? a=some o->h2.get? a=some o)->zpt a C h2:=fun h1 h2 ⟨o,vs,e,c,d⟩ k=>⟨o,vs,k o e,c,d⟩
end
def hand (X:Cx)(e:Addr):Cx:={ X with A:=X.A.mark (some (.ref e)),calm:=false,xe:=fun _ _=>False }
section
variable {X:Cx}{pins:List (Addr×Obj)}{σ:L2.St}{H:Hp}{s:Shared}{e:Addr}
theorem zsl (ok:X.Ok):(hand X e).Ok :=
 ⟨ok.mod,ok.kind,ok.glob,ok.blt,ok.above,ok.inj,ok.has,ok.cab,fun z=>Bool.noConfusion z,ok.frames,ok.stk,ok.exf,ok.bs,ok.bsz,ok.noex,ok.exfs,ok.funs,ok.frf⟩
theorem Inv.hand (I:Inv X pins σ H s):Inv (DL.hand X e) pins σ H s:=⟨zsl I.ok,I.os,I.bare,I.base,I.loc,I.cell,I.free,I.freeC,I.pin,I.hok,I.len⟩
theorem Inv.unhand (ok:X.Ok)(I:Inv (DL.hand X e) pins σ H s):Inv X pins σ H s:=⟨ok,I.os,I.bare,I.base,I.loc,I.cell,I.free,I.freeC,I.pin,I.hok,I.len⟩
theorem Inv.gone {i:Nat}{x:Str}{m:Str->Option Value}{v:Option Value}{h':Heap}{t':Nat}(I:Inv X pins σ H s)(hN:X.N.Nodup)(hi:X.N[i]?=some x)
  (hm:∀ (j:Nat) (y:Str) (v:V),X.N[j]?=some y->σ[j]?=some (some v)->Vis X.env.scope y->∃ u,zcz v u/\zv6 X.env s.heap m y u)(hn:h'.Ns X.env.locals (fun y=>if y=x then v else m y))(hs:Heap.SameBut X.env.locals s.heap h') :
  Inv X pins (σ.set i none) H { s with heap:=h',toks:=t' }:=by
 have cne:=I.cne
 obtain⟨m0,⟨oL,_,_,hoL,_⟩,_⟩:=id I.loc
 have tracked:HOk X.prog X.w H h':=fun b ob e=>by
  refine(I.hok b ob e).stay (fun c w' hc q=>(hs.2 c ?_).trans q) (fun _ q=>q) fun _ _ q=>q
  rintro rfl
  have hfree:=I.free
  rcases hc with rfl | hc
  ·rw[hfree] at e;cases e
  ·rw[hfree] at hc;cases hc
 refine⟨I.ok,I.os,I.bare,⟨fun b o e n hb hx=>?_,fun b o e n hb hx=>?_,I.base.free,fun b o e hx=>?_,I.base.tups,I.base.frzs,I.base.tbls⟩,⟨_,hn,fun j y v' e1 e2 e3=>?_⟩,fun y c e=>?_,I.free,I.freeC,fun p hp=>?_,tracked,by simpa using I.len⟩
 ·exact(hs.2 b (Nat.ne_of_lt (Nat.lt_of_lt_of_le (Heap.lt_size e) I.ok.above))).trans (I.base.keep b o e n hb hx)
 ·obtain⟨sl,e1⟩:=I.base.slot b o e n hb hx
  exact⟨sl,(hs.2 b (Nat.ne_of_lt (Nat.lt_of_lt_of_le (Heap.lt_size e) I.ok.above))).trans e1⟩
 ·obtain⟨o',e1⟩:=I.base.there b o e hx
  exact⟨o',(hs.2 b (Nat.ne_of_lt (Nat.lt_of_lt_of_le (Heap.lt_size e) I.ok.above))).trans e1⟩
 ·by_cases hj:j=i
  ·subst hj
   have hiσ:j < σ.length:=by rw[I.len];exact(List.getElem?_eq_some_iff.mp hi).1
   rw[List.getElem?_set_self hiσ] at e2;cases e2
  ·rw[List.getElem?_set_ne (Ne.symm hj)] at e2
   obtain⟨u',r',q⟩:=hm j y v' e1 e2 e3
   refine⟨u',r',?_⟩
   rcases q with⟨k,e⟩ | ⟨k,c,e,z⟩
   ·refine .inl ⟨k,?_⟩
    have:y≠x:=fun e=>hj (zke hN e1 (e▸hi))
    simp [this,e]
   ·exact .inr ⟨k,c,e,z.sameBut hs (cne y c e)⟩
 ·obtain⟨w',z⟩:=I.cell y c e
  exact⟨w',z.sameBut hs (cne y c e)⟩
 ·obtain⟨e,n,ne,nf,d⟩:=I.pin p hp
  exact⟨(hs.2 p.1 ne).trans e,n,ne,nf,d⟩
theorem zui {H1:Hp}{s1 s':Shared}{Ex:XK}{ev:Value}{c n:Str}{np hpos:Pos}{b₀:Stmt}{suite:List Stmt}{rest:List ExceptHandler}{cv:Value}{ni:Nat}{D:zjU}(hstk:X.stack=X.env::X.outer/\X.env.frame=some X.env.locals)(I:Inv X pins σ H1 s1)
  (h:CXE X.prog X.w X.stack H1 s1 Ex ev s')(hg:Gl X c)(hm:X.mg c=some cv)(hx:∀ C H',Ex (.ref C) none H'->W.exmOne X.K (.ref C) cv=some true)
  (hN:X.N.Nodup)(hi:X.N[ni]?=some n)(hlo:X.env.scope.names.lookup n=some .local)
  (hs:∀ ea C H' s2,Ex (.ref C) none H'->H' ea=none->Inv (DL.hand X ea) pins (σ.set ni (some (.ref ea))) (upd H' ea (.ext (zpt ea C))) s2 ->
   wpAny (model X.prog X.w) (X.A.mark (some (.ref ea))) (execs (b₀::suite) X.env) (SP (DL.hand X ea) pins { nx:=fun σ' H=>D.nx (σ'.set ni none) H,rt:=D.rt,bk:=fun σ' H=>D.bk (σ'.set ni none) H,ct:=fun σ' H=>D.ct (σ'.set ni none) H }) (fun _ _=>False) s2)
  (hdb:(c==("__debug__" : Str))=false:=by decide) :
  wpAny (model X.prog X.w) X.A (noteFrame ev X.env) (fun _ s₂=>wpAny (model X.prog X.w) X.A (setFlight ev none) (fun _ s₃ =>
   wpAny (model X.prog X.w) X.A (handleBy ev X.env (.ExceptHandler (some (.Name c np)) (some n) (b₀::suite) hpos::rest)) (SP X pins D) X.xe s₃) X.xe s₂) X.xe s':=by
 obtain⟨ea,C,a0,B,H',rfl,os,bare,un,hok,hne,fl,hB,hE⟩:=h
 have hA:X.A.frames=some (X.env::X.outer):=by rw[← hstk.1];exact I.ok.frames
 have fl0:=fl
 rw[hstk.1] at fl
 have hf1:∀ b∈frs X.stack,H' b=none:=fun b hb=>by
  obtain⟨_,o,ho,_⟩:=I.stack.mem hb
  exact un.free b o ho (I.stkFree b hb) (by simp)
 have hnew:s1.heap.get? ea=none:=by
  cases q:s1.heap.get? ea with
  | none=>rfl
  | some o =>
   by_cases hb:ea∈frs X.stack
   ·obtain⟨_,o',ho',hd⟩:=fl0.2.2.1.mem hb
    obtain⟨oe,vs,he,_,hd',_⟩:=fl0.first
    rw[ho'] at he;cases he
    exact absurd hd' (hd vs)
   ·obtain⟨u,hu⟩:=hB ea hb (.inr ⟨o,q⟩)
    rw[fl.2.1] at hu;cases hu
 have inv:∀ g,B.StaysIn g->s'.heap.UpToSlots g->Inv X pins σ H' { s' with heap:=g }:=fun g k up =>
  I.call' (ch:=[]) os (Un.fly un fl0.1 fl0.2.2.1 hB k up) (HOk.fly hok hf1 fl0.1 hB k) bare (fun _ z=>nomatch z)
 have invx:∀ g,B.StaysIn g->s'.heap.UpToSlots g->zpt ea C g->Inv X pins σ (upd H' ea (.ext (zpt ea C))) { s' with heap:=g }:=fun g k up p =>
  I.call' (ch:=[]) os (Un.ext (Un.fly un fl0.1 fl0.2.2.1 hB k up) hne hnew) (HOk.ext (HOk.fly hok hf1 fl0.1 hB k) hne p (let ⟨o,_,e,_⟩:=p;⟨o,e⟩) zoY) bare (fun _ z=>nomatch z)
 refine wpAny_looks_onW hA hstk.2 fl fun h4 held4 up4=>?_
 refine wpAny_landsW held4 fun h5 fl5 up5=>?_
 have I5:Inv (DL.hand X ea) pins σ H' { s' with heap:=h5 }:=Inv.hand (inv h5 fl5.1 (up4.trans up5))
 refine wpAny_handleBy_cons (codeAny_handlers_test ?_) (by intro q;cases q)
 refine zgO I5 hg hm ?_ hdb
 obtain⟨ob,hob,hoc⟩:=fl5.there
 have LT:W.Looks (model X.prog X.w) h5 (typeOf (.ref ea)) (.ref C):=hoc▸(W.Looks.ld hob).andThen .now
 refine(W.exm_one I5.kIn LT (hx C H' hE)).here ?_
 refine codeAny_handlers_suite_as ?_
 refine lands_againW fl5 fun h6 fl6 up6=>?_
 obtain⟨oe,vs,he,hc,hd,_⟩:=fl6.first
 have I6:Inv (DL.hand X ea) pins σ (upd H' ea (.ext (zpt ea C))) { s' with heap:=h6 }:=Inv.hand (invx h6 fl6.1 ((up4.trans up5).trans up6) ⟨oe,vs,he,hc,hd⟩)
 refine zf2 (X:=DL.hand X ea) (v:=.ref ea) I6 hN hi (.inl hlo) rfl (fun s7 I7=>?_) (.inr hlo)
 refine wpAny_mono (hs ea C H' s7 hE hne I7) (fun f s8 h8=>?_) fun _ _ z=>z.elim
 have hcls:(X.env.scope.kind==.class||(X.env.scope.kind==.module&&X.env.locals != X.env.globals))=false:=by rw[I.ok.kind];rfl
 have fin:∀ {σ':L2.St}{H2:Hp}{Q:Unit->Shared->Prop},Inv (DL.hand X ea) pins σ' H2 s8->(∀ s9,Inv X pins (σ'.set ni none) H2 s9->Q () s9) ->
   wpAny (model X.prog X.w) X.A (do bindName X.env n .none;unbindBehindTheSuite X.env n hpos) Q X.xe s8:=fun {σ' H2 Q} J q=>by
  have J':=Inv.unhand I.ok J
  obtain⟨m,hn,hl⟩:=id J'.loc
  exact wpAny_nameGoes_keeps hlo hn hcls fun h' v hn' hs'=>q _ (Inv.gone J' hN hi hl hn' hs')
 cases f with
 | next=>obtain⟨σ',H2,J,q⟩:=h8;exact fin J fun s9 J9=>⟨_,H2,J9,q⟩
 | brk=>obtain⟨σ',H2,J,q⟩:=h8;exact fin J fun s9 J9=>⟨_,H2,J9,q⟩
 | cont=>obtain⟨σ',H2,J,q⟩:=h8;exact fin J fun s9 J9=>⟨_,H2,J9,q⟩
 | ret u=>obtain⟨v,σ',H2,J,r,q⟩:=h8;exact fin J fun s9 J9=>⟨v,_,H2,J9,r,q⟩
end
theorem PA.nox {X:Cx}{es:List Expr}{t:TA}(h:PA X.nox es t):PA X es t:=fun pos pins s σ H Q I hw =>
 wpAny_mono (h pos pins s σ H Q (I.wish _) hw) (fun _ _ ⟨v,H',I',r,q⟩=>⟨v,H',I'.unwish,r,q⟩) fun _ _ z=>False.elim z
section
variable {X:Cx}{pins:List (Addr×Obj)}{σ:L2.St}{H:Hp}{s:Shared}{CX:CXT}{k:Nat}{f:Addr}{fd:FuncData}{ps:List Str}{sp:Sp}{Ex:XK}{x:Str}{p pos:Pos}{e:Expr}{es:List Expr}{t:TA}
theorem zsB {Q:VK}{XE:Value->Shared->Prop}(F:zdy X.prog X.w X.K X.mg X.base CX k f fd ps sp)(hr:zgV k X.A)(hg:Gl X x)(hm:X.mg x=some (.ref f))(hk:W.keepIn X.K (.ref f)=true)(hb:zbZ X.K fd ps [])(ha:PA X.nox (e::es) t)
  (I:Inv X pins σ H s)(h:t σ H fun vs H1=>sp vs H1 Q Ex)(hx:∀ H1 s1 e s',Inv X pins σ H1 s1->CX X.stack H1 s1 Ex e s'->XE e s')
  (hdb:(x==("__debug__" : Str))=false:=by decide)(he:starEach (e::es) X.env=(false,eval e X.env)::starEach es X.env:=by exact zaO rfl)(hpl:(backTo pos (starEach es X.env)).any (·.1)=false:=by exact zbK rfl) :
  wpAny (model X.prog X.w) X.A (eval (.Call (.Name x p) (e::es) [] pos) X.env) (EP X pins σ Q) XE s:=by
 refine wpAny_Call_Name_kw (zgO I hg hm ?_ hdb)
 have ha':PA (X.wish XE) (e::es) t:=PA.nox (X:=X.wish XE) ha
 refine W.callWith_K (h₀:=X.base) I.ok.mod.kin hk (thn (ha' pos pins s σ H _ (I.wish XE) h) fun us s1 ⟨vs,H1,I1,r,q⟩=>⟨I1.unwish.kIn,?_⟩) he hpl
 have I1:=I1.unwish
 have hl:us.length=ps.length:=by rw[← r.length];exact F.len _ _ _ _ q
 have hb1:=hb s1 us I1.kIn (by simpa using hl)
 rw[List.append_nil] at hb1
 refine wpAny_call (codeAny_mono (F.run X.A X.stack s1 H1 ⟨us,[]⟩ us vs Q Ex hr I1.env0 hb1 r q) fun r s' hq=>?_)
 cases r with
 | error e=>exact hx H1 s1 e s' I1 hq
 | ok fl =>
  cases fl with
  | ret u=>exact I1.after hq
  | next=>exact False.elim hq
  | brk=>exact False.elim hq
  | cont=>exact False.elim hq
end
def zqX (K:W.Frag)(He H0e H₀:Hp)(r:Res Fl)(D:zjU):Prop:=match r with
 | .exn _=>True
 | r=>zcs K E0 He H0e H₀ r D
def zv9 (K:W.Frag)(He H0e H₀:Hp)(σ:L2.St)(ρ:Ev)(r:Res Fl):XK:=fun C ox H'=>∃ x H₀',r=.exn x/\zaT H₀ H₀'/\SRx K He H0e H₀' σ H' ρ/\ExR K H₀' x C ox
structure TB (X:Cx) (st:Stmt) (g:Ev->Res Fl):Prop where
 o:∀ (pins:List (Addr×Obj)) (s:Shared) (σ:L2.St) (H He H0e H₀:Hp) (ρ:Ev) (D:zjU) (XE:Value->Shared->Prop),Inv X pins σ H s->SRx X.K He H0e H₀ σ H ρ->zqX X.K He H0e H₀ (g ρ) D ->
  (∀ H1 s1 e s',Inv X pins σ H1 s1->CXE X.prog X.w X.stack H1 s1 (zv9 X.K He H0e H₀ σ ρ (g ρ)) e s'->XE e s')->wpAny (model X.prog X.w) X.A (exec st X.env) (SP X pins D) XE s
def znf (i:Nat)(fa:Ev->Res (List D))(m:List D->Res D):Ev->Res Fl:=fun ρ=>match fa ρ with
 | .ok ds=>(m ds).bind fun d=>.ok (.nx (ρ.set i (.sh d)))
 | _=>.stuck
section
variable {X:Cx}{E:XK}{e:Expr}{es:List Expr}{fa:Ev->Res (List D)}{pos:Pos}
theorem zqW {i:Nat}{y:Str}{pos':Pos}{k n:Nat}{fn:Addr}{fd:FuncData}{ps:List Str}{m:List D->Res D}{x:Str}{p cpos:Pos}(hN:X.N.Nodup)(hi:X.N[i]?=some y)(hy:Loc X.env.scope y)
  (F:zdy X.prog X.w X.K X.mg X.base (CXE X.prog X.w) k fn fd ps (spD X.K n m))(hr:zgV k X.A)(hg:Gl X x)(hm:X.mg x=some (.ref fn))
  (hk:W.keepIn X.K (.ref fn)=true)(hb:zbZ X.K fd ps [])(ha:DA X.nox E0 (e::es) fa)(hn:(e::es).length=n:=by rfl)(hl:∀ ρ ds,fa ρ=.ok ds->ds.length=(e::es).length)
  (hdb:(x==("__debug__" : Str))=false:=by decide)(he:starEach (e::es) X.env=(false,eval e X.env)::starEach es X.env:=by exact zaO rfl)(hpl:(backTo cpos (starEach es X.env)).any (·.1)=false:=by exact zbK rfl)
  (hs:swapsWith (.Call (.Name x p) (e::es) [] cpos) (some (.Name y pos')) pos.line X.env=pure false:=by rfl)
  (hf:X.fn y=true∨X.env.scope.names.lookup y=some .local := by first | exact .inl rfl | exact .inr rfl | assumption):TB X (.Assign [.Name y pos'] (.Call (.Name x p) (e::es) [] cpos) pos) (znf i fa m):=by
 refine⟨fun pins s σ H He H0e H₀ ρ D XE I h q hx=>?_⟩
 refine wpAny_Assign_Name (thn (zsB (Q:=fun v H1=>D.nx (σ.set i (some v)) H1) F hr hg hm hk hb ha.o I ?_ hx hdb he hpl) fun v s1 ⟨y,H1,I1,r1,q1⟩=>?_) hs
 ·refine⟨H₀,ρ,h.g.sub,h.rd,?_⟩
  unfold znf at q ⊢
  cases e1:fa ρ with
  | stuck=>rw[e1] at q;exact q
  | exn x=>rw[e1] at q;exact q.elim
  | ok ds =>
   rw[e1] at q
   intro vs H1 H01 g1 r1
   refine⟨?_,H01,ds,g1.sub,r1,?_⟩
   ·have:=r1.length
    have:=hl ρ ds e1
    omega
   ·show post _ _ _ _ (m ds) _
    cases e2:m ds with
    | stuck=>simp only[e2] at q;exact q
    | exn x=>exact fun C ox H' H₀' g ex=>⟨x,H₀',by simp only[e2];rfl,g1.z.trans g.z,h.grow (g1.trans g),ex⟩
    | ok d =>
     simp only[e2] at q
     exact fun v H' H₀' g rp=>q _ H' H₀' (g1.z.trans g.z) ((h.grow (g1.trans g)).put rp)
 ·exact zf2 I1 hN hi hy r1 (fun s2 I2=>⟨_,H1,I2,q1⟩) hf
theorem SRx.drop {K:W.Frag}{He H0e H₀ H:Hp}{σ:L2.St}{ρ:Ev}(h:SRx K He H0e H₀ σ H ρ){i:Nat}:SRx K He H0e H₀ (σ.set i none) H (ρ.set i .no):=by
 have key:∀ (j:Nat) (s:Sl),(ρ.set i .no)[j]?=some s->s≠.no->j≠i/\ρ[j]?=some s:=fun j s e hs=>by
  by_cases hj:i=j
  ·subst hj
   rw[List.getElem?_set_self'] at e
   cases q:ρ[i]? with
   | none=>rw[q] at e;cases e
   | some s'=>rw[q] at e;cases e;exact absurd rfl hs
  ·rw[List.getElem?_set_ne hj] at e
   exact⟨fun z=>hj z.symm,e⟩
 refine⟨h.g,fun j d' e=>?_,fun j d' e=>?_,fun j k d1 d2 hn e1 e2=>?_,by simp [h.ln],h.ex.upd (fun j s e=>?_) (zaT.refl _) (fun a vs _ e=>e) fun p us _ h0 hp _=>⟨hp,h0⟩⟩
 rotate_left 3
 ·by_cases hs:s=.no
  ·exact .inr (.inr (.inl hs))
  ·obtain⟨hj,e'⟩:=key j s e hs
   exact .inl ⟨e',by rw[List.getElem?_set_ne (Ne.symm hj)]⟩
 ·obtain⟨hj,e'⟩:=key j _ e (by simp)
  obtain⟨v',h1,h2⟩:=h.rd j d' e'
  exact⟨v',by rw[List.getElem?_set_ne (Ne.symm hj)];exact h1,h2⟩
 ·obtain⟨hj,e'⟩:=key j _ e (by simp)
  obtain⟨a,h1,h2⟩:=h.ow j d' e'
  exact⟨a,by rw[List.getElem?_set_ne (Ne.symm hj)];exact h1,h2⟩
 ·obtain⟨hj,e1'⟩:=key j _ e1 (by simp)
  obtain⟨hk,e2'⟩:=key k _ e2 (by simp)
  rw[List.getElem?_set_ne (Ne.symm hj),List.getElem?_set_ne (Ne.symm hk)]
  exact h.ap j k d1 d2 hn e1' e2'
def zvh (ni:Nat)(r:Fl):Res Fl:=match r with
 | .nx ρ=>.ok (.nx (ρ.set ni .no))
 | .rt d=>.ok (.rt d)
 | .bk ρ=>.ok (.bk (ρ.set ni .no))
 | .ct ρ=>.ok (.ct (ρ.set ni .no))
def zsI (g:Ev->Res Fl)(hit:Str->Bool)(ni:Nat)(sh:Ev->Res Fl):Ev->Res Fl:=fun ρ=>match g ρ with
 | .exn x=>if hit x.cls=true then(sh (ρ.set ni (.sh (.exc x.cls)))).bind (zvh ni) else .stuck
 | r=>r
theorem zt8 {He H0e:Hp}{st b₀:Stmt}{suite:List Stmt}{g sh:Ev->Res Fl}{hit:Str->Bool}{ni:Nat}{c n:Str}{np hpos:Pos}{cv:Value}(hstk:X.stack=X.env::X.outer/\X.env.frame=some X.env.locals)(hb:TB X st g)
  (hg:Gl X c)(hm:X.mg c=some cv)(hhit:∀ x C,hit x=true->XC X.K x C->W.exmOne X.K (.ref C) cv=some true)(hN:X.N.Nodup)(hi:X.N[ni]?=some n)(hlo:X.env.scope.names.lookup n=some .local)
  (hh:∀ ea,DSs (DL.hand X ea) E He H0e (b₀::suite) sh)(hdb:(c==("__debug__" : Str))=false:=by decide) :
  DS X E He H0e (.Try [st] [.ExceptHandler (some (.Name c np)) (some n) (b₀::suite) hpos] [] [] pos) (zsI g hit ni sh):=by
 refine⟨?_⟩
 intro pins s σ H D I ⟨H₀,ρ,h,q⟩
 have hq:zqX X.K He H0e H₀ (g ρ) D:=by
  unfold zsI at q
  cases e1:g ρ with
  | exn x=>trivial
  | stuck=>rw[e1] at q;exact q
  | ok r=>rw[e1] at q;cases r<;>exact q
 refine wpAny_Try_except (wpAny_execs_cons (thn (hb.o pins s σ H He H0e H₀ ρ D _ I h hq fun H1 s1 e s' I1 hc=>?_) fun f s1 hf=>?_))
 ·have hit1:∀ x,g ρ=.exn x->hit x.cls=true:=fun x e1=>by
   unfold zsI at q
   rw[e1] at q
   by_cases z:hit x.cls=true
   ·exact z
   ·simp only[if_neg z] at q;exact q.elim
  refine zui hstk I1 hc hg hm (fun C H' ⟨x,H₀',e1,_,_,⟨⟨c',ec,xc⟩,_⟩⟩=>?_) hN hi hlo (fun ea C H' s2 ⟨x,H₀',e1,sm,srx,⟨⟨c',ec,xc⟩,_⟩⟩ hne I2=>?_) hdb
  ·cases ec;exact hhit _ _ (hit1 x e1) xc
  ·cases ec
   refine(hh ea).o pins s2 _ _ _ I2 ⟨upd H₀' ea (.ext (zpt ea C)),ρ.set ni (.sh (.exc x.cls)),(srx.grow (zbp.alloc srx.g.sub hne)).put (Rep.exc_iff.mpr ⟨ea,C,rfl,xc,.inl zas⟩),?_⟩
   have sm2:zaT H₀ (upd H₀' ea (.ext (zpt ea C))):=sm.trans (zbp.alloc srx.g.sub hne).z
   unfold zsI at q
   rw[e1] at q
   simp only[if_pos (hit1 x e1)] at q
   cases e2:sh (ρ.set ni (.sh (.exc x.cls))) with
   | stuck=>rw[e2] at q;exact q
   | exn z=>rw[e2] at q;exact q
   | ok r =>
    rw[e2] at q
    cases r with
    | nx ρ'=>exact fun σ' H2 H02 s2 h2=>q _ H2 H02 (sm2.trans s2) (SRx.drop h2)
    | rt d=>exact q
    | bk ρ'=>exact fun σ' H2 H02 s2 h2=>q _ H2 H02 (sm2.trans s2) (SRx.drop h2)
    | ct ρ'=>exact fun σ' H2 H02 s2 h2=>q _ H2 H02 (sm2.trans s2) (SRx.drop h2)
 ·cases f with
  | next=>exact wpAny_execs_nil (wpAny_execs_nil hf)
  | brk=>exact hf
  | cont=>exact hf
  | ret u=>exact hf
end
structure zum (k:Nat) (A:Around):Prop where
 dp:A.depth+3*k+5 < recursionLimit
 un:A.units+16*k+200 < cLine
theorem zgV.h {k:Nat}{A:Around}(r:zgV k A):zum k A:=⟨r.dp,r.un⟩
structure FnH (P:Program) (w:World) (K:W.Frag) (mg:Str->Option Value) (base:Heap) (k:Nat) (f:Addr) (fd:FuncData) (ps:List Str) (sp:Sp):Prop where
 len:∀ vs H Q E,sp vs H Q E->vs.length=ps.length
 run:∀ (A:Around) (outer:List PySem.Env) (s:Shared) (H:Hp) (args:Args) (us:List Value) (vs:List V) (Q:VK) (E:XK),zum k A->zrn P w K mg base A outer s H->BindsTo s fd args (ps.zip us)->zb0 vs us->sp vs H Q E ->
  codeAny (model P w) A (.call (.ref f) args) (CR CX0 outer P w H s Q E) s
theorem FnH.ok {P:Program}{w:World}{K:W.Frag}{mg:Str->Option Value}{base:Heap}{k:Nat}{f:Addr}{fd:FuncData}{ps:List Str}{sp:Sp}(F:FnH P w K mg base k f fd ps sp):zdy P w K mg base CX0 k f fd ps sp :=
 ⟨F.len,fun A outer s H args us vs Q E hr=>F.run A outer s H args us vs Q E (zgV.h hr)⟩
section
variable {X:Cx}{E:XK}{e a:Expr}{es:List Expr}{f:Ev->Res D}{fa:Ev->Res (List D)}{pos:Pos}
end
def zpw (tab:Str->Option Bool)(x:D):Res D:=match x with
 | .exc c=>(match tab c with
  | some b=>.ok (.bl b)
  | none=>.stuck)
 | _=>.stuck
def zlw (K:W.Frag)(tab:Str->Option Bool)(cv:Value):Prop:=∀ c C b,tab c=some b->XC K c C->W.kitOne K (.ref C) cv=some b
section
variable {X:Cx}{E:XK}{e a:Expr}{es:List Expr}{f:Ev->Res D}{pos:Pos}{tab:Str->Option Bool}
theorem zsi {cV:V}{cv:Value}(hrel:∀ u,zcz cV u->u=cv)(ht:zlw X.K tab cv):zhK X (.builtin "isinstance") (fun vs H Q=>∃ c v b,vs=[v,cV]/\Rep X.K H (.exc c) v/\tab c=some b/\Q (.bl b) H):=by
 intro pins s σ H xs us Q I r h
 obtain⟨c,v,b,rfl,h1,h2,q⟩:=h
 cases r with
 | cons r1 r2 =>
  cases r2 with
  | cons r3 r4 =>
   cases r4
   rename_i u1 u2
   obtain rfl:=hrel _ r3
   obtain⟨ad,C,rfl,hc,hr⟩:=Rep.exc_iff.mp h1
   cases (show u1=Value.ref ad from r1)
   obtain⟨p,_,_⟩:=hr.ok I.hok
   exact W.kia_one (zmK hc.ek hc.ek.isCls) I.kIn p (ht c C b h2 hc) (fun z=>nomatch z) fun tk=>⟨.bl b,H,I.tok _,rfl,q⟩
theorem zqk {cV:V}{σ:L2.St}{H:Hp}{Q:VK}(h:tD X.K E (zbi f (zpw tab)) σ H Q):tD X.K E f σ H fun v H1=>∃ c v' b,[v,cV]=[v',cV]/\Rep X.K H1 (.exc c) v'/\tab c=some b/\Q (.bl b) H1:=by
 obtain⟨H₀,ρ,hs,hr,q⟩:=h
 refine⟨H₀,ρ,hs,hr,?_⟩
 unfold zbi at q
 cases e1:f ρ with
 | stuck=>rw[e1] at q;exact q
 | exn x=>rw[e1] at q;exact q
 | ok d =>
  rw[e1] at q
  intro v H1 H01 g1 r1
  have q:post X.K E H H₀ (zpw tab d) Q:=q
  cases d with
  | exc c =>
   unfold zpw at q
   cases e2:tab c with
   | none=>simp only[e2] at q;exact q.elim
   | some b=>simp only[e2] at q;exact⟨c,v,b,rfl,r1.mono g1.sub,e2,q _ H1 H01 g1 (rb _)⟩
  | _=>exact q.elim
theorem zrh {x:Str}{p1 p2:Pos}{cV:V}{cv:Value}(hrel:∀ u,zcz cV u->u=cv)(ht:zlw X.K tab cv)(hc:PE X (.Name x p2) (tC cV))(hgi:Gl X "isinstance")(hmi:X.mg "isinstance"=none)(ha:DE X E a f)
  (he:starEach [a,.Name x p2] X.env=(false,eval a X.env)::starEach [.Name x p2] X.env:=by exact zaO rfl)(he2:starEach [.Name x p2] X.env=(false,eval (.Name x p2) X.env)::starEach [] X.env:=by exact zaO rfl)(hpl:(backTo pos (starEach [.Name x p2] X.env)).any (·.1)=false:=by exact zbK rfl) :
  DE X E (.Call (.Name "isinstance" p1) [a,.Name x p2] [] pos) (zbi f (zpw tab)):=by
 refine⟨?_⟩
 exact zaX (zj9 (zsi hrel ht) hgi hmi PyProof.Rows.Boot.«isinstance» (zc7 ha.o (zc7 hc zgn he2) he) (by decide) (by decide) he hpl) fun σ H Q h=>zqk h
theorem zi8 {x:Str}{p1 p2:Pos}{C:Addr}(hg:Gl X x)(hm:X.mg x=some (.ref C))(ht:zlw X.K tab (.ref C))(hgi:Gl X "isinstance")(hmi:X.mg "isinstance"=none)(ha:DE X E a f)(hdb:(x==("__debug__" : Str))=false:=by decide)
  (he:starEach [a,.Name x p2] X.env=(false,eval a X.env)::starEach [.Name x p2] X.env:=by exact zaO rfl):DE X E (.Call (.Name "isinstance" p1) [a,.Name x p2] [] pos) (zbi f (zpw tab)) :=
 zrh (cV:=.ref C) (fun u h=>h) ht (zon hg hm rfl hdb) hgi hmi ha he
theorem zo8 {x:Str}{p1 p2:Pos}{T:String}(hg:Gl X x)(hm:X.mg x=none)(hv:bootBuiltins x=some (.type T))(ht:zlw X.K tab (.type T))(hgi:Gl X "isinstance")(hmi:X.mg "isinstance"=none)(ha:DE X E a f)(hn:x≠"__name__":=by decide)(hdb:(x==("__debug__" : Str))=false:=by decide)
  (he:starEach [a,.Name x p2] X.env=(false,eval a X.env)::starEach [.Name x p2] X.env:=by exact zaO rfl):DE X E (.Call (.Name "isinstance" p1) [a,.Name x p2] [] pos) (zbi f (zpw tab)) :=
 zrh (cV:=.ty T) (fun u h=>h) ht (zop hg hm hv rfl hn hdb) hgi hmi ha he
end
end DL
namespace DL
open PySem PySem.Spec PyProof.Rows L2 PySem.W
structure zm9 (K:Frag) (x:Str) (C:Addr):Prop where
 ns:nsIn K mainGlobals x=some (some (.ref C))
 ty:typeIn K (.ref C)=some (.type "type")
 ob:mroIn K C (.type "object")=some true
 be:subIn K (.ref C) (.type "BaseException")=some true
theorem zm9.isCls {K:Frag}{x:Str}{C:Addr}(Z:zm9 K x C):(clsIn K C).isSome=true:=by
 obtain⟨cd,a,b⟩:=Option.bind_eq_some_iff.mp Z.ob
 rw[a];rfl
theorem zm9.kitCls {K:Frag}{x:Str}{C:Addr}(Z:zm9 K x C){t:Value}:W.kitCls K t (.ref C)=subIn K t (.ref C):=by
 show(if((clsIn K C).isSome&&typeIn K (.ref C)==some (.type "type"))=true then subIn K t (.ref C) else none)=_
 rw[Z.isCls,Z.ty];rfl
theorem zm9.exm {K:Frag}{x:Str}{C:Addr}(Z:zm9 K x C){t:Value}{b:Bool}(h:subIn K t (.ref C)=some b):exmOne K t (.ref C)=some b:=by
 unfold exmOne
 rw[Z.be,if_pos (by decide),Z.kitCls,h]
theorem zm9.kit {K:Frag}{x:Str}{C R:Addr}(Z:zm9 K x C){b:Bool}(hR:subIn K (.ref R) (.ref R)=some true)(h:subIn K (.ref R) (.ref C)=some b):kitOne K (.ref R) (.ref C)=some b:=by
 unfold kitOne
 by_cases e:(Value.ref R==Value.ref C)=true
 ·rw[if_pos e]
  cases (Value.ref.inj (beq_iff_eq.mp e))
  rw[← hR,h]
 ·rw[if_neg e,Z.kitCls,h]
theorem zk8 {K:Frag}{C:Addr}{T:String}{b:Bool}(hm:kitMeta T=true)(h:subIn K (.ref C) (.type T)=some b):kitOne K (.ref C) (.type T)=some b:=by
 unfold kitOne
 rw[if_neg (by intro z;cases beq_iff_eq.mp z)]
 show(if kitMeta T=true then subIn K (.ref C) (.type T) else none)=_
 rw[if_pos hm,h]
theorem ziU:∀ T∈zfP,kitMeta T=true:=by decide +kernel
theorem zhq:kitMeta "ValueError"=true:=by decide +kernel
structure zqP (K:Frag) (x:Str) (C:Addr):Prop where
 i:zm9 K x C
 cls:findIn K (.ref C) "__class__"=some (some (.builtin "object.__class__"))
 ga:findIn K (.ref C) "__getattribute__"=some (some (.builtin "BaseException.__getattribute__"))
 gt:findIn K (.ref C) "__getattr__"=some none
 t1:subIn K (.ref C) (.type "NoneType")=some false
 t2:subIn K (.ref C) (.type "bool")=some false
 t3:subIn K (.ref C) (.type "int")=some false
 t4:subIn K (.ref C) (.type "str")=some false
 t5:subIn K (.ref C) (.type "tuple")=some false
 t6:subIn K (.ref C) (.type "list")=some false
 t7:subIn K (.ref C) (.type "dict")=some false
 ve:subIn K (.ref C) (.type "ValueError")=some true
 self:subIn K (.ref C) (.ref C)=some true
 ex:excIn K C [.type "ValueError",.type "Exception",.type "BaseException",.type "object"] "ValueError.__new__"=true
theorem zqP.xcls {K:Frag}{x:Str}{C:Addr}(Z:zqP K x C):zuB K x C where
 xc:=⟨Z.i.ns,⟨Z.cls,Z.ga,Z.gt,Z.i.ob,Z.i.be⟩,fun T hT=>by
  refine zk8 (ziU T hT) ?_
  simp only[zfP,List.mem_cons,List.not_mem_nil,or_false] at hT
  rcases hT with rfl | rfl | rfl | rfl | rfl | rfl | rfl
  ·exact Z.t1
  ·exact Z.t2
  ·exact Z.t3
  ·exact Z.t4
  ·exact Z.t5
  ·exact Z.t6
  ·exact Z.t7⟩
 ex:=Z.ex
theorem XC.inj {K:Frag}{x:Str}{C C':Addr}(a:XC K x C)(b:XC K x C'):C=C':=by
 have:=a.ns.symm.trans b.ns
 simpa using this
def zkK:List (Str×Bool)->Str->Option Bool
 | [],_=>none
 | (x,b)::r,c=>if x=c then some b else zkK r c
theorem zeo {K:Frag}{p:Str->Addr->Bool->Prop}:∀ {l:List (Str×Bool)},(∀ q∈l,∃ C,XC K q.1 C/\p q.1 C q.2)->∀ c C b,zkK l c=some b->XC K c C->p c C b
 | [],_,c,C,b,h,_=>by cases h
 | (x,v)::r,H,c,C,b,h,xc=>by
  unfold zkK at h
  by_cases e:x=c
  ·subst e
   rw[if_pos rfl] at h;cases h
   obtain⟨C',xc',q⟩:=H _ List.mem_cons_self
   obtain rfl:=XC.inj xc xc'
   exact q
  ·rw[if_neg e] at h
   exact zeo (fun q hq=>H q (List.mem_cons_of_mem _ hq)) c C b h xc
def znx (l:List (Str×Bool))(c:Str):Bool:=zkK l c==some true
theorem zqn {K:Frag}{l:List (Str×Bool)}{cv:Value}(H:∀ q∈l,∃ C,XC K q.1 C/\exmOne K (.ref C) cv=some q.2):∀ x C,znx l x=true->XC K x C->exmOne K (.ref C) cv=some true:=fun x C h xc =>
 zeo (p:=fun _ C b=>exmOne K (.ref C) cv=some b) H x C true (by unfold znx at h;exact beq_iff_eq.mp h) xc
end DL
namespace DL
open PySem PySem.Spec PyProof.Rows L2
section
variable {X:Cx}{E:XK}{tg a b c:Expr}{f g:Ev->Res D}
end
section
variable {X:Cx}{pins:List (Addr×Obj)}{σ:L2.St}{H:Hp}{s:Shared}{h':Heap}
theorem znT {t':Nat}{fp:List Addr}{T:Addr}{xs:List V}(I:Inv X pins σ H s)(k:∀ b o,b∉fp->s.heap.get? b=some o->h'.get? b=some o)(hf:∀ b∈fp,znJ X pins H b)(hT:s.heap.objs.size<=T)
  (new:zcj X.prog X.w (upd H T (.tup xs)) h' T (.tup xs)):Inv X pins σ (upd H T (.tup xs)) { s with heap:=h',toks:=t' }:=by
 have hn:H T=none:=I.hok.fresh hT
 have nit:∀ b u,H b=some u->b∉fp:=fun b u e z=>by rw[(hf b z).1] at e;cases e
 refine I.step (g':=s.gens) (d':=s.drawn) (ch:=fp) (fun b hb=>?_) (fun b o _ _ hc e _=>k b o hc e) (fun b o _ _ hc e _=>⟨o.slots,k b o hc e⟩) (fun b o _ e n=>?_)
  (fun b o hc e=>⟨o,k b o hc e⟩) (fun b xs e=>by rw[zat (zaN e hn)];exact e) (fun b o u e=>by rw[zat (zaN e hn)];exact e) (fun b ps e=>⟨#[],by rw[zat (zaN e hn),e];simp⟩) (fun m hm=>?_) (fun b u e=>?_) I.bare
 ·obtain⟨_,f1,_,f3,f4,f5⟩:=hf b hb
  exact⟨f3,f1,f4,f5⟩
 ·rw[zat (Nat.ne_of_lt (Nat.lt_of_lt_of_le (Heap.lt_size e) hT))];exact n
 ·obtain⟨o,es,ep,ho,r⟩:=hm
  exact⟨o,es,ep,k _ o (fun z=>(hf _ z).2.1 rfl) ho,r⟩
 ·by_cases hb:b=T
  ·subst hb;rw[zas] at e;cases e;exact new
  ·rw[zat hb] at e
   refine(I.hok b u e).stay (fun c v hc q=>k c v ?_ q) (fun c q=>by rw[zat (zaN q hn)];exact q) fun c xs q=>by rw[zat (zaN q hn)];exact q
   rcases hc with z | z
   ·rw[z];exact nit b u e
   ·exact nit c _ z
theorem zrA {t':Nat}{fp:List Addr}(I:Inv X pins σ H s)(k:∀ b o,b∉fp->s.heap.get? b=some o->h'.get? b=some o)(hf:∀ b∈fp,znJ X pins H b):Inv X pins σ H { s with heap:=h',toks:=t' }:=by
 have nit:∀ b u,H b=some u->b∉fp:=fun b u e z=>by rw[(hf b z).1] at e;cases e
 refine I.step (g':=s.gens) (d':=s.drawn) (ch:=fp) (fun b hb=>?_) (fun b o _ _ hc e _=>k b o hc e) (fun b o _ _ hc e _=>⟨o.slots,k b o hc e⟩) (fun b o _ e n=>n)
  (fun b o hc e=>⟨o,k b o hc e⟩) (fun b xs e=>e) (fun b o u e=>e) (fun b ps e=>⟨#[],by rw[e];simp⟩) (fun m hm=>?_) (fun b u e=>?_) I.bare
 ·obtain⟨_,f1,_,f3,f4,f5⟩:=hf b hb
  exact⟨f3,f1,f4,f5⟩
 ·obtain⟨o,es,ep,ho,r⟩:=hm
  exact⟨o,es,ep,k _ o (fun z=>(hf _ z).2.1 rfl) ho,r⟩
 ·refine(I.hok b u e).stay (fun c v hc q=>k c v ?_ q) (fun _ q=>q) fun _ _ q=>q
  rcases hc with z | z
  ·rw[z];exact nit b u e
  ·exact nit c _ z
end
def Ite (K:W.Frag)(a:Addr):It :=
 ⟨fun i H=>∃ xs x,SqL K H a xs/\xs[i]?=some x,fun i H x H'=>∃ p y,H p=none/\x=.ref p/\(∀ xs,SqL K H a xs->xs[i]?=some y)/\H'=upd H p (.tup [.int i,y]),fun i H=>∃ xs,SqL K H a xs/\xs.length<=i⟩
theorem znW {P:Program}{w:World}{K:W.Frag}{elts:List Expr}{k:Nat}{pos:Pos}(a it e:Addr)(hne:e≠it)(hae:a≠e)(hai:a≠it) :
  zsL P w K (.Tuple elts k pos) (Ite K a) [e,it] e (fun i h=>(∃ old,IsEnum h e it i old)/\h.IsListIter it a i) where
 mem:=by simp
 obj:=fun i h st b hb=>by
  obtain⟨⟨old,he⟩,o,h1,h2,h3⟩:=st
  rcases List.mem_cons.mp hb with rfl | hb
  ·exact⟨_,he,fun v z=>by cases z⟩
  ·rcases List.mem_cons.mp hb with rfl | hb
   ·exact⟨o,h1,fun v z=>by rw[h3] at z;cases z⟩
   ·cases hb
 keep:=fun i h h' st k=>by
  obtain⟨⟨old,he⟩,hi⟩:=st
  exact⟨⟨old,k e (by simp) _ he⟩,hi.at fun o y=>k it (by simp) o y⟩
 item:=by
  intro X hP hw hK hc i pins s σ H E I hf st hg
  subst hP hw hK
  obtain⟨xs,x,hq,hx⟩:=hg
  obtain⟨its,rv,p,hz⟩:=I.list hq
  obtain⟨u,hu,ru⟩:=rv.get hx
  have W:=WalksT.enumerate (prog:=X.prog) (w:=X.w) (I.ok.hd hc) e it a hne hae hai its.toArray
  have hil:i < its.toArray.size:=by simpa using (List.getElem?_eq_some_iff.mp hu).1
  refine W.item i s _ _ hil ⟨st.1,st.2,p.isList⟩ fun T vals h' tk hPt hT hTup hMid hk=>?_
  refine⟨_,rfl,W.go elts k pos i T _ _ _ hMid fun h'' st'' hk''=>?_⟩
  obtain⟨t,y,hy,rfl⟩:=hPt
  have hyu:y=u:=by
   have:its[i]?=some y:=by simpa using hy
   rw[hu] at this;cases this;rfl
  subst hyu
  obtain⟨o,ho,hr⟩:=hTup
  have ho':=hk'' T o (W.apart i T _ hMid) ho
  refine⟨.ref T,upd H T (.tup [.int i,x]),znT (s:=s) (h':=h'') (t':=tk) I (fun b o hb e=>hk'' b o hb (hk b o hb e)) hf hT ⟨by show 2<=sizeLine;decide,[.int i t,y],.cons ⟨t,rfl⟩ (.cons ru .nil),o,ho',hr⟩,rfl,⟨T,x,I.hok.fresh hT,rfl,fun ys hy=>by rw[I.list_inj hy hq];exact hx,rfl⟩,⟨st''.1,st''.2.1⟩,fun b hb=>?_⟩
  have hb0:=(hf b hb).1
  obtain⟨ob,hob,_⟩:∃ o,s.heap.get? b=some o/\∀ v,o.data≠.cell v:=by
   obtain⟨⟨old,he⟩,o,h1,h2,h3⟩:=st
   rcases List.mem_cons.mp hb with rfl | hb
   ·exact⟨_,he,fun v z=>by cases z⟩
   ·rcases List.mem_cons.mp hb with rfl | hb
    ·exact⟨o,h1,fun v z=>by rw[h3] at z;cases z⟩
    ·cases hb
  rw[zat (Nat.ne_of_lt (Nat.lt_of_lt_of_le (Heap.lt_size hob) hT))];exact hb0
 done:=by
  intro X hP hw hK hc i pins s σ H E I hf st hg
  subst hP hw hK
  obtain⟨xs,hq,hx⟩:=hg
  obtain⟨its,rv,p,hz⟩:=I.list hq
  have hl:=rv.length
  obtain⟨⟨old,he⟩,hi⟩:=st
  exact wpAny_pyNext_enum_end (I.ok.hd hc) he hi p.isList (by simp;omega) fun h' hx=>⟨rfl,zrA (t':=s.toks) I (fun b o hb e=>hx b o (fun z=>hb (by simp [z])) e) hf⟩
 self:=fun _ _ _ _ _ st h=>by
  obtain⟨⟨old,he⟩,_⟩:=st
  exact wpAny_pyIter_enum he h
section
variable {X:Cx}{E:XK}{elts:List Expr}{k:Nat}{tp:Pos}{e a b:Expr}{f g:Ev->Res D}
def zvq (K:W.Frag)(ta:TA):TI:=fun σ H R=>ta σ H fun vs H1=>∃ a,vs=[.ref a]/\(∃ xs,SqL K H1 a xs)/\R (Ite K a) H1
theorem zrT {ta:TA}{p pos:Pos}(hg:Gl X "enumerate")(hm:X.mg "enumerate"=none)(ha:PA X [a] ta)(hs:starEach [a] X.env=[(false,eval a X.env)]:=by rfl):PI X (.Tuple elts k tp) (.Call (.Name "enumerate" p) [a] [] pos) (zvq X.K ta):=by
 intro pins s σ H R I h
 refine Call_ (zk7 I hg hm PyProof.Rows.Boot.«enumerate» (PyProof.Rows.callWith_type1 (thn (ha pos pins s σ H _ I h) fun us s1 ⟨vs,H1,I1,r1,q1⟩=>?_) hs rfl))
 obtain⟨l,e,⟨xs,hq⟩,q⟩:=q1
 subst e
 cases r1 with
 | cons r rr =>
  cases rr
  cases r
  obtain⟨its,rv,p,hz⟩:=I1.list hq
  have hlt:l < s1.heap.objs.size:=by obtain⟨o,n,e,_⟩:=p;exact Heap.lt_size e
  refine call_enumerate_list p.isList fun h' he hi hsz hk=>?_
  refine wpAny_pyIter_enum he ?_
  refine⟨s1.heap.objs.size+1,[s1.heap.objs.size+1,s1.heap.objs.size],_,_,H1,rfl,I1.kept (t':=s1.toks) hk,znW l s1.heap.objs.size (s1.heap.objs.size+1) (Nat.succ_ne_self _) (Nat.ne_of_lt (Nat.lt_succ_of_lt hlt)) (Nat.ne_of_lt hlt),⟨⟨_,he⟩,hi⟩,fun b hb=>?_,q⟩
  have hb':s1.heap.objs.size<=b:=by
   rcases List.mem_cons.mp hb with rfl | hb
   ·omega
   ·rcases List.mem_cons.mp hb with rfl | hb
    ·exact Nat.le_refl _
    ·cases hb
  exact I1.fpOk hb' (I1.hok.fresh hb')
def zcn (n:Nat):List D->List D
 | []=>[]
 | d::ds=>.tup [.int n,d]::zcn (n+1) ds
theorem zfu:∀ (ds:List D) (n:Nat),(zcn n ds).length=ds.length
 | [],_=>rfl
 | d::ds,n=>by simp [zcn,zfu ds]
theorem zfv:∀ (ds:List D) (n i:Nat),(zcn n ds)[i]?=(ds[i]?).map fun d=>D.tup [.int (n+i:Nat),d]
 | [],_,_=>by simp [zcn]
 | d::ds,n,0=>by simp [zcn]
 | d::ds,n,i+1=>by simp only[zcn,List.getElem?_cons_succ];rw[zfv ds (n+1) i,show n+1+i=n+(i+1) by omega]
def zrH (f:Ev->Res D):Ev->Res (List D):=fun ρ=>(f ρ).bind fun d=>match d with
 | .lst ds=>.ok (zcn 0 ds)
 | _=>.stuck
theorem zrB {K:W.Frag}{H H₀:Hp}{p:Addr}{vs:List V}{ds:List D}(hs:zaT H₀ H)(hp:H p=none)(r:Reps K H₀ ds vs):∃ H₀2,zbp H H₀ (upd H p (.tup vs)) H₀2/\Rep K H₀2 (.tup ds) (.ref p) :=
 ⟨upd H₀ p (.tup vs),zbp.alloc hs hp,Rep.tup_iff.mpr ⟨p,vs,rfl,SqT.of zas,r.mono (zbp.alloc (o:=.tup vs) hs hp).z⟩⟩
theorem zo6 {p pos:Pos}(hg:Gl X "enumerate")(hm:X.mg "enumerate"=none)(h:DE X E a f)(hn:nst a=true:=by exact rfl):DI X E (.Tuple elts k tp) (.Call (.Name "enumerate" p) [a] [] pos) (zrH f):=by
 refine⟨zj8 (zrT hg hm (zc7 h.o zgn (zf3 hn)) (zf3 hn)) fun σ H R ⟨H₀,ρ,hs,hr,q⟩=>⟨H₀,ρ,hs,hr,?_⟩⟩
 unfold zrH at q
 cases e1:f ρ with
 | stuck=>rw[e1] at q;exact q
 | exn x=>rw[e1] at q;exact q
 | ok d =>
  rw[e1] at q
  intro v H1 H01 g1 r1
  cases d with
  | lst ds =>
   obtain⟨l,vs,rfl,hv,hrv⟩:=Rep.lst_iff.mp r1
   refine⟨l,rfl,⟨vs,zaT.sqL g1.sub hv⟩,q _ H1 H01 g1 ⟨fun i H' H₀' s1 s2 hi=>?_,fun i H' H₀' x H2 d s1 s2 hd hy=>?_,fun i H' H₀' s1 s2 hi=>?_⟩⟩
   ·rw[zfu] at hi
    exact⟨vs,vs[i]'(by rw[← hrv.length];exact hi),zaT.sqL (s1.trans s2) hv,by simp⟩
   ·obtain⟨p,y,hp,rfl,hy,rfl⟩:=hy
    rw[zfv] at hd
    cases ei:ds[i]? with
    | none=>rw[ei] at hd;cases hd
    | some d' =>
     rw[ei] at hd
     cases hd
     obtain⟨u,k1,k2⟩:=hrv.get ei
     have:=hy vs (zaT.sqL (s1.trans s2) hv)
     rw[k1] at this;cases this
     exact zrB s2 hp (Reps.cons (Rep.int_iff.mpr (by simp)) (Reps.cons (k2.mono s1) Reps.nil))
   ·rw[zfu] at hi
    exact⟨vs,zaT.sqL (s1.trans s2) hv,by rw[← hrv.length];exact hi⟩
  | _=>exact q.elim
end
section
variable {X:Cx}{E:XK}{elts:List Expr}{k:Nat}{tp:Pos}{e a b:Expr}{f g:Ev->Res D}
end
def zsp (f:Str):List Str->List D->Option D
 | k::ks,d::ds=>if f=k then some d else zsp f ks ds
 | _,_=>none
def zwD (f:Str)(x:D):Res D:=match x with
 | .ob (.ins c ks) ds=>match zsp f ks ds with
  | some d=>.ok d
  | none=>.stuck
 | _=>.stuck
section
variable {X:Cx}{E:XK}{e a b o:Expr}{es:List Expr}{fe fo:Ev->Res D}{fa:Ev->Res (List D)}{pos:Pos}
def putAll:List Str->List V->List (Str×V)->List (Str×V)
 | f::fs,v::vs,l=>putAll fs vs (zlx f v l)
 | _,_,l=>l
theorem zmt {H:Hp}{a:Addr}{o:HO}(h:H a=some o):upd H a o=H:=by
 funext b
 by_cases hb:b=a
 ·subst hb;rw[zas,h]
 ·rw[zat hb]
theorem ziG {H:Hp}{a:Addr}{o u:HO}:upd (upd H a o) a u=upd H a u:=by
 funext b
 by_cases hb:b=a
 ·subst hb;rw[zas,zas]
 ·rw[zat hb,zat hb,zat hb]
theorem zmA {f:Str}{v:V}:∀ {l:List (Str×V)},(zlx f v l).length<=l.length+1
 | []=>by simp [zlx]
 | (k,x)::l=>by
  unfold zlx
  split
  ·simp
  ·have:=zmA (f:=f) (v:=v) (l:=l)
   simp;omega
def zww (c:Str)(ks:List Str)(ds:List D):Res D:=if ds.length=ks.length then .ok (.ob (.ins c ks) ds) else .stuck
def zgp:List D->Option (List Int)
 | []=>some []
 | .int x::r=>(zgp r).map (x::·)
 | _=>none
theorem zmP {K:W.Frag}{H:Hp}:∀ {ds:List D}{ys:List Int}{vs:List V}{us:List Value},zgp ds=some ys->Reps K H ds vs->zb0 vs us->IntsAre us ys
 | [],ys,vs,us,h,r,q=>by
  cases h
  rw[Reps.nil_iff.mp r] at q
  cases q
  exact .nil
 | d::ds,ys,vs,us,h,r,q=>by
  obtain⟨v,r',rfl,h1,h2⟩:=Reps.cons_iff.mp r
  cases q with
  | cons q1 q2 =>
   cases d with
   | int x =>
    unfold zgp at h
    cases e:zgp ds with
    | none=>rw[e] at h;cases h
    | some zs =>
     rw[e] at h
     cases h
     rw[Rep.int_iff.mp h1] at q1
     obtain⟨t,rfl⟩:=q1
     exact .cons _ _ (zmP e h2 q2)
   | _=>cases h
def zrb (a:Int):List Int->List Int
 | []=>[a]
 | b::l=>if a<=b then a::b::l else b::zrb a l
def zgY:List Int->List Int
 | []=>[]
 | a::l=>zrb a (zgY l)
theorem ziZ (a:Int):∀ l:List Int,(zrb a l).Perm (a::l)
 | []=>by unfold zrb;exact .refl _
 | b::l=>by
  unfold zrb
  split
  ·exact .refl _
  ·exact((ziZ a l).cons b).trans (.swap a b l)
theorem zf4:∀ l:List Int,(zgY l).Perm l
 | []=>.refl _
 | a::l=>by unfold zgY;exact(ziZ a _).trans ((zf4 l).cons a)
theorem ziY (a:Int):∀ l:List Int,l.Pairwise (·<=·)->(zrb a l).Pairwise (·<=·)
 | [],_=>by simp [zrb]
 | b::l,h=>by
  rw[List.pairwise_cons] at h
  unfold zrb
  split
  ·rename_i c
   refine List.pairwise_cons.mpr ⟨fun x hx=>?_,List.pairwise_cons.mpr h⟩
   rcases List.mem_cons.mp hx with rfl | hx
   ·exact c
   ·exact Int.le_trans c (h.1 x hx)
  ·rename_i c
   refine List.pairwise_cons.mpr ⟨fun x hx=>?_,ziY a l h.2⟩
   rcases List.mem_cons.mp ((ziZ a l).mem_iff.mp hx) with rfl | hx
   ·omega
   ·exact h.1 x hx
theorem zhM:∀ l:List Int,(zgY l).Pairwise (·<=·)
 | []=>.nil
 | a::l=>by unfold zgY;exact ziY a _ (zhM l)
def zq4 (K:W.Frag):List V->Hp->VK->Prop:=fun xs H Q=>∃ p ds ns,xs=[.ref p]/\Rep K H (.lst ds) (.ref p)/\zgp ds=some ns/\ns.length < 64/\∀ l,H l=none->Q (.ref l) (upd H l (.lst ((zgY ns).map V.int)))
theorem zfm:∀ {us:List Value}{ns:List Int},IntsAre us ns->zb0 (ns.map V.int) us
 | _,_,.nil=>.nil
 | _,_,.cons _ t h=>.cons ⟨_,rfl⟩ (zfm h)
theorem zmN:∀ {us:List Value}{ns:List Int},IntsAre us ns->us.length=ns.length
 | _,_,.nil=>rfl
 | _,_,.cons _ _ h=>by simp [zmN h]
theorem znG:zhK X (.builtin "sorted") (zq4 X.K):=by
 intro pins s σ H xs us Q I r h
 obtain⟨p,ds,ns,rfl,hr,hi,hl,q⟩:=h
 obtain⟨u,rfl,ru⟩:=r.one
 obtain⟨a,vs,its,ea,rfl,h1,h2,h3,h4,_⟩:=Rep.lst_get I hr ru
 have hI:=zmP hi h2 h3
 refine sorted_ints h4 hI (by rw[zmN hI];exact hl) fun out ns' a1 a2 a3=>?_
 obtain⟨e,he⟩:=sortedAll_at s.heap its out
 have en:ns'=zgY ns:=W.ksm_same (a2.trans (zf4 ns).symm) a3 (zhM ns)
 subst en
 have hz:(zgY ns).length=ns.length:=(zf4 ns).length_eq
 refine⟨.ref (s.heap.objs.size+1),upd H (s.heap.objs.size+1) (.lst ((zgY ns).map V.int)),I.laid (o:=.lst ((zgY ns).map V.int)) (t':=s.toks) (fun b o e=>sortedAll_old e) (Nat.le_succ _) ⟨?_,out.toList,e,zfm a1,?_⟩,rfl,q _ (I.hok.fresh (Nat.le_succ _))⟩
 ·rw[List.length_map,hz];exact Nat.le_trans (Nat.le_of_lt hl) (by decide)
 ·simpa [seqObj] using he
def zqE (x:D):Res D:=match x with
 | .lst ds=>match zgp ds with
  | some ns=>if ns.length < 64 then .ok (.lst ((zgY ns).map D.int)) else .stuck
  | none=>.stuck
 | _=>.stuck
theorem zsA:zia X E (zq4 X.K) (m1 zqE):=zmj fun x v H H₀ Q hs r q=>by
 cases x with
 | lst ds =>
  unfold zqE at q
  cases e:zgp ds with
  | none=>simp only[e] at q;exact q.elim
  | some ns =>
   simp only[e] at q
   by_cases c:ns.length < 64
   ·rw[if_pos c] at q
    obtain⟨p,vs,rfl,h1,h2⟩:=Rep.lst_iff.mp r
    exact⟨p,ds,ns,rfl,r.mono hs,e,c,fun l hl=>q _ _ _ (zbp.alloc hs hl) (Rep.lst_iff.mpr ⟨l,_,rfl,SqL.of zas,Reps.ints _⟩)⟩
   ·rw[if_neg c] at q;exact q.elim
 | _=>exact q.elim
def zuw (x:D)(ds:List D):Option Nat:=ds.findIdx? fun d=>eqD d x
def zjO (x y:D):Res D:=match x with
 | .lst ds=>if zba 40 y=true/\ds.all (zba 40)=true then match zuw y ds with
   | some j=>.ok (.int j)
   | none=>.stuck
  else .stuck
 | _=>.stuck
def ztj (K:W.Frag):V->List V->Hp->VK->Prop:=fun x vs H Q=>∃ ds y d j,Rep K H (.lst ds) x/\vs=[y]/\Rep K H d y/\zba 40 d=true/\ds.all (zba 40)=true/\zuw d ds=some j/\Q (.int j) H
theorem zp9 (hu:X.A.units+64 < cLine):MtR X "list.index" (ztj X.K):=by
 intro pins s σ H x vs v us Q I rx rv h
 obtain⟨ds,y,d,j,hr,rfl,hd,s1,s2,hj,q⟩:=h
 obtain⟨u,rfl,ru⟩:=rv.one
 obtain⟨a,vs,its,ea,rfl,h1,h2,h3,h4,h5⟩:=Rep.lst_get I hr rx
 subst ea
 obtain⟨its',h3',⟨o,n,e,hc,hdd,hda⟩,hz⟩:=I.list h1
 have ei:its'=its:=by
  obtain⟨o',e',_,n',d'⟩:=h4
  rw[e] at e';cases e'
  rw[hda] at d'
  injection d' with d1 _
  simpa using congrArg Array.toList d1
 subst ei
 unfold zuw at hj
 rw[List.findIdx?_eq_some_iff_getElem] at hj
 obtain⟨hjl,hjt,hjf⟩:=hj
 have at_:∀ m (hm:m < its'.length),zjo X.K H ds d its'[m]=eqD (ds[m]'(by rw[h5];exact hm)) d:=fun m hm=>by
  obtain⟨v',k1,k2⟩:=h2.get (List.getElem?_eq_getElem (by rw[h5];exact hm:m < ds.length))
  obtain⟨u',k3,k4⟩:=h3.get k1
  rw[List.getElem?_eq_getElem hm] at k3
  cases k3
  exact zkm I s2 (List.getElem_mem _) k2 k4
 have hsm:(j:Int) < 2 ^ 63-1:=by
  have h7:=h2.length
  have:j < sizeLine:=by omega
  have:sizeLine<=2 ^ 60:=by decide
  omega
 obtain⟨oc,od,odt,osl⟩:=o
 replace hc:oc=.type "list":=hc
 replace hda:odt=.seq its'.toArray n:=hda
 subst hc hda
 refine call_meets F.slot_list_index ⟨_,e,rfl⟩ F.entry_list_index (F.args_list_index_2 _ _) (SeqAt.list_indexAt a its'.toArray n od osl u (zjo X.K H ds d) j (by simp;omega) hsm ?_ ?_) ⟨e,fun w hw=>zdH I hu s1 hd ru s2 (fun _ z=>z) h2 h3 w (by simpa using hw),.int j,H,I.tok _,⟨_,rfl⟩,q⟩
 ·have:=at_ j (by omega)
  simp only[List.getElem_toArray]
  rw[this];exact hjt
 ·intro m hm hmj
  have:=at_ m (by simpa using hm)
  simp only[List.getElem_toArray]
  rw[this]
  have:=hjf m hmj
  simpa using this
def zkr (fo:Ev->Res D)(fe:Ev->Res D):Ev->Res D:=fun ρ=>(fo ρ).bind fun x=>match x with
 | .lst ds=>(fe ρ).bind fun y=>zjO (.lst ds) y
 | _=>.stuck
theorem zqA {apos cpos:Pos}(hu:X.A.units+64 < cLine)(ho:DE X E o fo)(he:DE X E e fe)
  (hbase:attributeBase o "index" X.env (eval o X.env)=eval o X.env:=by rfl)
  (hfew:((backTo cpos (starEach [e] X.env)).all (fun x=>!x.1)&&(backToKw cpos (keywordEach [] X.env)).all (fun x=>x.1.isSome)
  &&decide ([e].length+([]:List Keyword).length+(if([]:List Keyword).isEmpty then 0 else 1) < 30))=true:=by exact zik rfl)
  (hline:(apos.endLine==cpos.line)=true:=by rfl) (hs:starEach [e] X.env=(false,eval e X.env)::starEach [] X.env:=by exact zaO rfl) (hplain:(backTo cpos (starEach [] X.env)).any (·.1)=false:=by exact zbK rfl) :
  DE X E (.Call (.Attribute o "index" apos) [e] [] cpos) (zkr fo fe):=by
 refine⟨zaX (zp4 PySem.F.plainAttrs_list PySem.F.slot_list_index PySem.F.type_list_index (zp9 hu) ho.o (zc7 he.o zgn hs) hbase hfew hline hs hplain) fun σ H Q ⟨H₀,ρ,hs,hr,q⟩=>⟨H₀,ρ,hs,hr,?_⟩⟩
 unfold zkr at q
 cases e1:fo ρ with
 | stuck=>rw[e1] at q;exact q
 | exn x=>rw[e1] at q;exact q
 | ok x =>
  rw[e1] at q
  intro v H1 H01 g1 r1
  cases x with
  | lst ds =>
   replace q:post X.K E H H₀ ((fe ρ).bind fun y=>zjO (.lst ds) y) Q:=q
   replace q:=q.grow g1
   refine⟨?_,H01,ρ,g1.sub,hr.mono g1.z,?_⟩
   ·obtain⟨p,vs,rfl,h1,h2⟩:=Rep.lst_iff.mp r1
    exact .inl ⟨rfl,vs,zaT.sqL g1.sub h1⟩
   ·cases e2:fe ρ with
    | stuck=>rw[e2] at q;exact q
    | exn x=>rw[e2] at q;exact q
    | ok y =>
     rw[e2] at q
     intro u H2 H02 g2 r2
     replace q:=post.grow (r:=zjO (.lst ds) y) q g2
     unfold zjO at q
     by_cases c:zba 40 y=true/\ds.all (zba 40)=true
     ·simp only[if_pos c] at q
      cases e3:zuw y ds with
      | none=>simp only[e3] at q;exact q.elim
      | some j =>
       simp only[e3] at q
       exact⟨ds,u,y,j,(r1.mono g2.z).mono g2.sub,rfl,r2.mono g2.sub,c.1,c.2,e3,za8 g2.sub q (ri _)⟩
     ·simp only[if_neg c] at q;exact q.elim
  | _=>exact q.elim
end
theorem zr7 {K:W.Frag}{C:Addr}:∀ f∈([]:List Str),zjQ K C f:=fun _ h=>nomatch h
theorem zmH {K:W.Frag}{C:Addr}{f:Str}{ks:List Str}(h:W.findIn K (.ref C) f=some none)(r:∀ f∈ks,zjQ K C f):∀ g∈f::ks,zjQ K C g:=fun g hg=>by
 rcases List.mem_cons.mp hg with rfl | hg
 ·exact h
 ·exact r g hg
section
variable {X:Cx}{E:XK}{He H0e:Hp}{e:Expr}{es:List Expr}{f:Ev->Res D}{fa:Ev->Res (List D)}{pos:Pos}
def aFr (f:Ev->Res D)(fa:Ev->Res (List D)):Ev->Res (List D):=fun ρ=>(f ρ).bind fun x=>match x with
 | .lst ds=>(fa ρ).bind fun xs=>.ok (.lst ds::xs)
 | _=>.stuck
def zwy:Sl->Bool
 | .ox _ _=>true
 | _=>false
def zwv (i:Nat)(ρ:Ev):Bool:=(ρ.set i .no).all fun s=>!(zwy s)
def zvX (i j:Nat)(ρ:Ev)(ds:List D):Res Fl:=match ds[j]? with
 | some (.lst _)=>if ds.length<=line/\zwv i ρ=true then .ok (.nx (ρ.set i (.ox j ds))) else .stuck
 | _=>.stuck
def zu0 (i j:Nat)(fa:Ev->Res (List D)):Ev->Res Fl:=fun ρ=>(fa ρ).bind (zvX i j ρ)
def zsz (i j:Nat)(ρ:Ev)(s:Option Sl):Res Fl:=match s with
 | some (.ox j' ds)=>if j'=j then .ok (.nx (ρ.set i (.ox j (ds.set j (.lst []))))) else .stuck
 | _=>.stuck
def ztf (i j:Nat):Ev->Res Fl:=fun ρ=>zsz i j ρ ρ[i]?
end
section
variable {X:Cx}{E:XK}{He H0e:Hp}{st:Stmt}{rest:List Stmt}{e:Expr}{es:List Expr}{f:Ev->Res D}{fa:Ev->Res (List D)}{s t:Ev->Res Fl}{pos:Pos}
end
section
variable {X:Cx}{E:XK}{He H0e:Hp}{e:Expr}{es:List Expr}{f:Ev->Res D}{fa:Ev->Res (List D)}{pos:Pos}
end
section
variable {X:Cx}{E:XK}{He H0e:Hp}{e a b:Expr}{es:List Expr}{f g:Ev->Res D}{fa:Ev->Res (List D)}{pos:Pos}
end
theorem PT.nox {X:Cx}{e:Expr}{t:TT}(h:PT X.nox e t):PT X e t:=fun pins s σ H Q I hw =>
 wpAny_mono (h pins s σ H Q (I.wish _) hw) (fun _ _ ⟨H',I',q⟩=>⟨H',I'.unwish,q⟩) fun _ _ z=>False.elim z
section
variable {X:Cx}{c e:Expr}{es:List Expr}{fc:Ev->Res D}{fa:Ev->Res (List D)}{ga gb:Ev->Res Fl}{sa sb:Stmt}{pos:Pos}
def zn8 (fc:Ev->Res D)(ga gb:Ev->Res Fl):Ev->Res Fl:=fun ρ=>match fc (shr ρ) with
 | .ok (.bl b)=>if b=true then ga ρ else gb ρ
 | _=>.stuck
theorem zuJ (hc:DT X.nox E0 c fc)(ha:TB X sa ga)(hb:TB X sb gb):TB X (.If c [sa] [sb] pos) (zn8 fc ga gb):=by
 refine⟨fun pins s σ H He H0e H₀ ρ D XE I h q hx=>?_⟩
 have hc':=PT.nox (X:=X.wish XE) hc.o
 cases e1:fc (shr ρ) with
 | stuck =>
  have e2:zn8 fc ga gb ρ=.stuck:=by unfold zn8;rw[e1]
  rw[e2] at q;exact q.elim
 | exn x =>
  have e2:zn8 fc ga gb ρ=.stuck:=by unfold zn8;rw[e1]
  rw[e2] at q;exact q.elim
 | ok d =>
  cases d with
  | bl b =>
   have e2:zn8 fc ga gb ρ=if b=true then ga ρ else gb ρ:=by unfold zn8;rw[e1]
   rw[e2] at q hx
   refine wpAny_If (thn (hc' pins s σ H (fun b' H1=>b'=b/\zaT H H1) (I.wish XE) ⟨frz He H₀ H,shr ρ,h.frz_le,h.looks,?_⟩) fun d s1 ⟨H1,I1,eb,hs⟩=>?_)
   ·rw[e1];exact fun H' J g=>⟨rfl,g.s⟩
   ·subst eb
    cases d with
    | true =>
     rw[if_pos rfl] at q hx
     refine wpAny_execs_cons (thn (ha.o pins s1 σ H1 He H0e H₀ ρ D XE I1.unwish (h.same hs) q hx) fun f s2 hf=>?_)
     cases f with
     | next=>exact wpAny_execs_nil hf
     | brk=>exact hf
     | cont=>exact hf
     | ret u=>exact hf
    | false =>
     rw[if_neg Bool.false_ne_true] at q hx
     refine wpAny_execs_cons (thn (hb.o pins s1 σ H1 He H0e H₀ ρ D XE I1.unwish (h.same hs) q hx) fun f s2 hf=>?_)
     cases f with
     | next=>exact wpAny_execs_nil hf
     | brk=>exact hf
     | cont=>exact hf
     | ret u=>exact hf
  | _ =>
   have e2:zn8 fc ga gb ρ=.stuck:=by unfold zn8;rw[e1]
   rw[e2] at q;exact q.elim
end
section
variable {X:Cx}{E:XK}{e a b o:Expr}{es:List Expr}{fe fo:Ev->Res D}{fa:Ev->Res (List D)}{pos:Pos}
def zm0 (x y:D):Res D:=match x with
 | .lst ds=>if zba 40 y=true/\ds.all (zba 40)=true then .ok (.int (ds.countP fun d=>eqD d y:Nat)) else .stuck
 | _=>.stuck
theorem zlk {α β:Type}{p:α->Bool}{q:β->Bool}:∀ {l:List α}{m:List β},l.length=m.length->(∀ (i:Nat) (h:i < l.length) (h':i < m.length),p l[i]=q m[i])->l.countP p=m.countP q
 | [],[],_,_=>rfl
 | a::l,b::m,hl,h=>by
  rw[List.countP_cons,List.countP_cons,zlk (l:=l) (m:=m) (by simpa using hl) (fun i h1 h2=>h (i+1) (by simpa using h1) (by simpa using h2))]
  have:=h 0 (by simp) (by simp)
  simp only[List.getElem_cons_zero] at this
  rw[this]
def ztl (K:W.Frag):V->List V->Hp->VK->Prop:=fun x vs H Q=>∃ ds y d,Rep K H (.lst ds) x/\vs=[y]/\Rep K H d y/\zba 40 d=true/\ds.all (zba 40)=true/\Q (.int (ds.countP fun x=>eqD x d:Nat)) H
theorem zqa (hu:X.A.units+64 < cLine):MtR X "list.count" (ztl X.K):=by
 intro pins s σ H x vs v us Q I rx rv h
 obtain⟨ds,y,d,hr,rfl,hd,s1,s2,q⟩:=h
 obtain⟨u,rfl,ru⟩:=rv.one
 obtain⟨a,vs,its,ea,rfl,h1,h2,h3,h4,h5⟩:=Rep.lst_get I hr rx
 subst ea
 obtain⟨its',h3',⟨o,n,e,hc,hdd,hda⟩,hz⟩:=I.list h1
 have ei:its'=its:=by
  obtain⟨o',e',_,n',d'⟩:=h4
  rw[e] at e';cases e'
  rw[hda] at d'
  injection d' with d1 _
  simpa using congrArg Array.toList d1
 subst ei
 have at_:∀ m (hm:m < its'.length),zjo X.K H ds d its'[m]=eqD (ds[m]'(by rw[h5];exact hm)) d:=fun m hm=>by
  obtain⟨v',k1,k2⟩:=h2.get (List.getElem?_eq_getElem (by rw[h5];exact hm:m < ds.length))
  obtain⟨u',k3,k4⟩:=h3.get k1
  rw[List.getElem?_eq_getElem hm] at k3
  cases k3
  exact zkm I s2 (List.getElem_mem _) k2 k4
 obtain⟨oc,od,odt,osl⟩:=o
 replace hc:oc=.type "list":=hc
 replace hda:odt=.seq its'.toArray n:=hda
 subst hc hda
 have hcnt:its'.toArray.toList.countP (zjo X.K H ds d)=ds.countP fun x=>eqD x d:=by
  rw[List.toList_toArray]
  exact zlk h5.symm fun i h h'=>at_ i h
 refine call_meets F.slot_list_count ⟨_,e,rfl⟩ F.entry_list_count (F.args_list_count_2 _ _) (SeqAt.list_countAt a its'.toArray n od osl u (zjo X.K H ds d)) ⟨e,fun w hw=>zdH I hu s1 hd ru s2 (fun _ z=>z) h2 h3 w (by simpa using hw),.int (its'.toArray.toList.countP (zjo X.K H ds d):Nat),H,I.tok _,⟨_,rfl⟩,by rw[hcnt];exact q⟩
def zmg (fo:Ev->Res D)(fe:Ev->Res D):Ev->Res D:=fun ρ=>(fo ρ).bind fun x=>match x with
 | .lst ds=>(fe ρ).bind fun y=>zm0 (.lst ds) y
 | _=>.stuck
theorem zqB {apos cpos:Pos}(hu:X.A.units+64 < cLine)(ho:DE X E o fo)(he:DE X E e fe)
  (hbase:attributeBase o "count" X.env (eval o X.env)=eval o X.env:=by rfl)
  (hfew:((backTo cpos (starEach [e] X.env)).all (fun x=>!x.1)&&(backToKw cpos (keywordEach [] X.env)).all (fun x=>x.1.isSome)
  &&decide ([e].length+([]:List Keyword).length+(if([]:List Keyword).isEmpty then 0 else 1) < 30))=true:=by exact zik rfl)
  (hline:(apos.endLine==cpos.line)=true:=by rfl) (hs:starEach [e] X.env=(false,eval e X.env)::starEach [] X.env:=by exact zaO rfl) (hplain:(backTo cpos (starEach [] X.env)).any (·.1)=false:=by exact zbK rfl) :
  DE X E (.Call (.Attribute o "count" apos) [e] [] cpos) (zmg fo fe):=by
 refine⟨zaX (zp4 PySem.F.plainAttrs_list PySem.F.slot_list_count PySem.F.type_list_count (zqa hu) ho.o (zc7 he.o zgn hs) hbase hfew hline hs hplain) fun σ H Q ⟨H₀,ρ,hs,hr,q⟩=>⟨H₀,ρ,hs,hr,?_⟩⟩
 unfold zmg at q
 cases e1:fo ρ with
 | stuck=>rw[e1] at q;exact q
 | exn x=>rw[e1] at q;exact q
 | ok x =>
  rw[e1] at q
  intro v H1 H01 g1 r1
  cases x with
  | lst ds =>
   replace q:post X.K E H H₀ ((fe ρ).bind fun y=>zm0 (.lst ds) y) Q:=q
   replace q:=q.grow g1
   refine⟨?_,H01,ρ,g1.sub,hr.mono g1.z,?_⟩
   ·obtain⟨p,vs,rfl,h1,h2⟩:=Rep.lst_iff.mp r1
    exact .inl ⟨rfl,vs,zaT.sqL g1.sub h1⟩
   ·cases e2:fe ρ with
    | stuck=>rw[e2] at q;exact q
    | exn x=>rw[e2] at q;exact q
    | ok y =>
     rw[e2] at q
     intro u H2 H02 g2 r2
     replace q:=post.grow (r:=zm0 (.lst ds) y) q g2
     unfold zm0 at q
     by_cases c:zba 40 y=true/\ds.all (zba 40)=true
     ·simp only[if_pos c] at q
      exact⟨ds,u,y,(r1.mono g2.z).mono g2.sub,rfl,r2.mono g2.sub,c.1,c.2,za8 g2.sub q (ri _)⟩
     ·simp only[if_neg c] at q;exact q.elim
  | _=>exact q.elim
end
section
variable {prog:Program}{w:World}{A:Around}{E:Value->Shared->Prop}{h:Heap}{g:Array GenState}{d:Drawn}{t:Nat}{os:OsState}
variable {nm q:Str}{C N:Addr}{bs bm bmB:List Value}{hdct:Bool}{sn:List Str}{sub:List Value}{ab:Bool}{col:Option Bool}{dd:Option Addr}{k0 k1 k2 k3 k5:Option Value}{B newId initId:String}{mN:Str->Option Value}{rest:List Value}{fI:Addr}{oI:Obj}
theorem zrs {Q:Fin->Shared->Prop}(F:ExcBaseFacts B newId initId bmB)(T:OwnTail h bmB bm)(hC:h.get? C=some (excClassObj nm q C N bs bm hdct sn sub ab col dd k0 k1 k2 k3 k5 newId))(hn:h.Ns N mN)(hi:mN "__init__"=some (.ref fI))(hfI:h.get? fI=some oI)(hfc:oI.cls=.type "function")(hrest:rest.length<=sizeLine)
  (hq:∀ h' e,Heap.MadeExcOf h h' e (.ref C) rest->wpAny (model prog w) A (call (.ref fI) (.ref e::rest)) (fun r s'=>r=.none/\Q (.done (.ret (.ref e))) s') E ⟨h',g,d,t,os⟩):wpAny (model prog w) A (Builtin.«type.__call__» ⟨.ref C::rest,[]⟩) Q E ⟨h,g,d,t,os⟩:=by
 repeat (first | with_reducible refine wpAny_loadPart_at hC ?_ | with_reducible refine wpAny_madeBy_exc hC ?_ | wp_step)
 refine codeAny_call_builtin_code (Code.quiet_builtin _ F.quiet) (wpAny_check_new_subT F T hC (codeAny_exc_new_subT F T hC ?_ hrest))
 generalize hT0:({ cls:=.type "tuple",data:=.seq rest.toArray }:Obj)=o0
 generalize hX0:({ cls:=.ref C,data:=.fields #[.ref h.objs.size,.none,.none,.none,.bool false,.none] }:Obj)=o1
 have kp:∀ b o,h.get? b=some o->((h.push o0).push o1).get? b=some o:=fun b o hb=>Heap.get?_push_of_some o1 (Heap.get?_push_of_some o0 hb)
 have hget:((h.push o0).push o1).get? (h.objs.size+1)=some o1:=by subst hX0 hT0;heap_get
 have hc1:o1.cls=.ref C:=by subst hX0;rfl
 have hcC:(Value.ref C::bm).contains (.ref C)=true:=by simp
 show wpAny _ _ _ _ _ _
 unfold isInstance
 repeat (first | (with_reducible refine wpAny_loadPart_at hget ?_;try rw[hc1]) | (with_reducible refine wpAny_isSubtype_exc (kp _ _ hC) ?_;rw[hcC]) | wp_step)
 show wpAny _ _ (typeLookup (.ref C) _) _ _ _
 refine wpAny_typeLookup_tail (kp _ _ hC) (hn.keeps kp) (T.keeps kp) F.mroIs F.init.lookup ?_
 rw[hi]
 refine wpAny_holding (wpAny_bind (show wpAny _ _ (bindSpecial _ _) _ _ _ from ?_))
 unfold bindSpecial
 refine wpAny_bind (wpAny_typeOf (T:="function") ⟨_,kp _ _ hfI,hfc⟩ ?_);rw[if_pos (by decide)]
 refine wpAny_pure (wpAny_bind (wpAny_mono (hq _ (h.objs.size+1) ⟨kp,Heap.get?_none_of_le (Nat.le_succ _),h.objs.size,by rw[hX0];exact hget,Heap.get?_none_of_le (Nat.le_refl _),?_⟩) (fun r s' hr=>?_) fun _ _ x=>x))
 ·subst hT0;exact Heap.get?_push_of_some _ (Heap.get?_push_at rfl rfl)
 ·obtain⟨rfl,hQ⟩:=hr
  wp_walk
  exact hQ
theorem zrv {Q:Value->Shared->Prop}(F:ExcBaseFacts B newId initId bmB)(T:OwnTail h bmB bm)(hC:h.get? C=some (excClassObj nm q C N bs bm hdct sn sub ab col dd k0 k1 k2 k3 k5 newId))(hn:h.Ns N mN)(hi:mN "__init__"=some (.ref fI))(hfI:h.get? fI=some oI)(hfc:oI.cls=.type "function")(hrest:rest.length<=sizeLine)
  (hq:∀ h' e,Heap.MadeExcOf h h' e (.ref C) rest->wpAny (model prog w) (A.under (.builtin "type.__call__" ⟨.ref C::rest,[]⟩)) (call (.ref fI) (.ref e::rest)) (fun r s'=>r=.none/\Q (.ref e) s') E ⟨h',g,d,t,os⟩):wpAny (model prog w) A (call (.ref C) rest) Q E ⟨h,g,d,t,os⟩:=by
 have f1:=tc_lookup;have f2:=tc_bind (.ref C)
 have hT:(⟨h,g,d,t,os⟩:Shared).TypeIs (.ref C) "type":=⟨_,hC,rfl⟩
 refine wpAny_call (codeAny_of_tree (show wpAny _ _ (callAny (.ref C) _) _ _ _ from ?_))
 repeat (any_goals (first | assumption | with_reducible refine wpAny_loadPart_at hC ?_ | wp_step))
 exact⟨rfl,codeAny_call_builtin_at (Code.quiet_builtin _ (by decide +kernel)) entry_typeCall (wpAny_check_type_call_sub hC (zrs F T hC hn hi hfI hfc hrest fun h' e hm=>hq h' e hm))⟩
end
section
variable {M:Model}{A:Around}{E:Value->Shared->Prop}{env:PySem.Env}
variable {nm q:Str}{C N:Addr}{bs bm:List Value}{hdct:Bool}{sn:List Str}{sub:List Value}{ab:Bool}{col:Option Bool}{dd:Option Addr}{k0 k1 k2 k3 k5:Option Value}{newId:String}
theorem zpy {s:Shared}{x:Sem Value}{Q:Flow->Shared->Prop}(hbase:bm.contains (.type "BaseException")=true)(hh:A.handled=none)
  (h:wpAny M A x (fun v s₁=>∃ e dc t,v=.ref e/\s₁.heap.get? C=some (excClassObj nm q C N bs bm hdct sn sub ab col dd k0 k1 k2 k3 k5 newId)/\s₁.heap.get? e=some ⟨.ref C,dc,.fields #[.ref t,.none,.none,.none,.bool false,.none],#[]⟩/\E (.ref e) s₁) E s):wpAny M A (raiseStmt env (some x) none) Q E s:=by
 have hcB:(Value.ref C::bm).contains (.type "BaseException")=true:=by rw[List.contains_cons,hbase,Bool.or_true]
 unfold raiseStmt
 refine wpAny_bind (wpAny_mono h (fun v s₁ ⟨e,dc,t,hv,hC,he,hE⟩=>?_) fun _ _ x=>x)
 subst hv
 obtain⟨hp,g,d,tk,os⟩:=s₁
 repeat (first | with_reducible refine wpAny_loadPart_at he ?_ | with_reducible refine wpAny_loadPart_at hC ?_ | (with_reducible refine wpAny_isSubtype_exc hC ?_;rw[hcB]) | wp_step)
 exact wpAny_raiseNew_none hh hE
end
def zhL:List Value->Bool
 | .ref _::r=>zhL r
 | l=>l==[.type "ValueError",.type "Exception",.type "BaseException",.type "object"]
theorem zkV (self:Value):∀ {l:List Value},zhL l=true->refuseLoop self "__setattr__" l=pure ()
 | [],e=>by cases e
 | x::r,e=>by
  cases x with
  | ref c=>rw[refuseLoop_ref];exact zkV self (l:=r) (by unfold zhL at e;exact e)
  | _=>unfold zhL at e;rw[beq_iff_eq.mp e];exact PySem.F.store_ValueError.passes self
theorem zqT:∀ {l:List Value},zhL l=true->l.contains (.type "object")=true
 | [],e=>by cases e
 | x::r,e=>by
  cases x with
  | ref c=>rw[List.contains_cons,zqT (l:=r) (by unfold zhL at e;exact e),Bool.or_true]
  | _=>unfold zhL at e;rw[beq_iff_eq.mp e];decide
structure XSt (K:W.Frag) (C:Addr) (ks:List Str):Prop where
 sa:W.findIn K (.ref C) "__setattr__"=some (some (.builtin "object.__setattr__"))
 hd:W.hasDictIn K C=true
 mr:(W.clsIn K C).any (fun cd=>zhL cd.mro)=true
 no:∀ f∈ks,zjQ K C f
section
variable {prog:Program}{w:World}{A:Around}{K:W.Frag}{C x:Addr}{s:Shared}{R:Result->Shared->Prop}
theorem znR {ox:Obj}{od:Option Obj}{name:Str}{tk:Tok}{v:Value}{ks:List Str}(X:K.In s.heap)(I:W.InstAt s.heap x ox C od)(c:XSt K C ks)(hf:name∈ks)
  (h:∀ b,wpAny (model prog w) A.in1 (Builtin.ObjectAttr.storeInOwnDict (.ref x) (.ref C) (.str name tk) name v b) (fun fin s'=>match fin with | .done f=>R (.ok f) s' | .again c'=>c'.quiet=true/\codeAny (model prog w) A c' R s') (fun e s'=>R (.error e) s') s) :
  codeAny (model prog w) A (.call (.builtin "object.__setattr__") ⟨[.ref x,.str name tk,v],[]⟩) R s:=by
 have SF:=PySem.F.store_object
 obtain⟨cd,hc,ho⟩:=W.any_some c.mr
 have ne:cd.mro.isEmpty=false:=by cases q:cd.mro with | nil=>rw[q] at ho;cases ho | cons _ _=>rfl
 have sub:W.Looks (model prog w) s.heap (isInstance (.ref x) (.type "object")) true:=I.type.andThen (W.looks_mroIn X (by unfold W.mroIn;rw[hc,Option.bind_some,if_neg (by rw[ne];decide),zqT ho]))
 refine codeAny_call_builtin SF.slot.plain SF.entry (@W.check_slot (model prog w) _ _ s "object.__setattr__" "object" "__setattr__" (.ref x) [.str name tk,v] [] _ SF.kind SF.split sub (SF.args (.ref x) (.str name tk) v) ?_)
 have hm:W.Looks (model prog w) s.heap (mroOf (.ref C)) cd.mro:=(W.looks_clsIn X hc).andThen .now
 rw[W.osa_eq,refuse_eq]
 refine wpAny_bind (wpAny_bind (I.type.here (wpAny_bind (hm.here ?_))));rw[zkV _ ho];refine wpAny_pure ?_
 have L3:W.Looks (model prog w) s.heap (Builtin.ObjectAttr.storeTaker? none) none:=.now
 have L2:W.Looks (model prog w) s.heap (typeLookup (.ref C) name) none:=W.looks_findIn X (c.no name hf)
 refine wpAny_bind (I.type.here (wpAny_bind (L2.here (wpAny_bind (L3.here ?_)))))
 exact h _
theorem zru {E:Value->Shared->Prop}{Q:Unit->Shared->Prop}{name:Str}{v:Value}{ks:List Str}{fs:Array Value}(X:K.In s.heap)(hx:s.heap.get? x=some ⟨.ref C,none,.fields fs,#[]⟩)(c:XSt K C ks)(hf:name∈ks)
  (h:∀ h',h'.get? x=some ⟨.ref C,some s.heap.objs.size,.fields fs,#[]⟩->h'.Ns1 s.heap.objs.size (fun y=>if y=name then some v else none)->(∀ b o,b≠x->s.heap.get? b=some o->h'.get? b=some o)->Q () { s with heap:=h',toks:=s.toks+2 }) :
  wpAny (model prog w) A (setAttr (.ref x) name v) Q E s:=by
 have J:W.InstAt s.heap x ⟨.ref C,none,.fields fs,#[]⟩ C none:=⟨hx,rfl,rfl,trivial⟩
 refine W.set_plain X J c.sa (znR (s:={ s with toks:=s.toks+1 }) X J c hf fun b=>?_)
 obtain⟨cd,hc,hd'⟩:=W.any_some c.hd
 refine wpAny_bind (wpAny_pure (wpAny_bind (wpAny_bind (wpAny_loadPart hx (wpAny_bind (W.Looks.here (s:={ s with toks:=s.toks+1 }) (W.looks_clsIn X hc) ?_))))))
 rw[hd']
 have hx₁:(s.heap.push W.emptyDict).get? x=some ⟨.ref C,none,.fields fs,#[]⟩:=Heap.get?_push_of_some _ hx
 have hxs:x≠s.heap.objs.size:=Nat.ne_of_lt (Heap.lt_size hx)
 have hgd:((s.heap.push W.emptyDict).update x fun o=>{ o with dict:=some s.heap.objs.size }).get? s.heap.objs.size=some W.emptyDict:=(Heap.get?_update_ne _ _ _ _ hxs.symm).trans (Heap.get?_push_at rfl rfl)
 have hnd:((s.heap.push W.emptyDict).update x fun o=>{ o with dict:=some s.heap.objs.size }).Ns s.heap.objs.size (fun _=>none):=⟨_,#[],_,hgd,rfl,fun e he=>absurd he (by simp),fun _=>rfl⟩
 have hx2:((s.heap.push W.emptyDict).update x fun o=>{ o with dict:=some s.heap.objs.size }).get? x=some ⟨.ref C,some s.heap.objs.size,.fields fs,#[]⟩:=Heap.get?_update_self _ hx₁ rfl
 refine wpAny_bind (wpAny_alloc' (wpAny_bind (wpAny_update' hx₁ (wpAny_pure ?_))))
 refine wpAny_bind (wpAny_pure (wpAny_bind (wpAny_nsSet1 (Heap.Ns1.of_empty hnd) fun h' hn' hs=>?_)))
 obtain⟨oD,esD,epD,hoD,hdD,hcD⟩:=hn'.count (PySem.Within.cons name v PySem.Within.nil)
 refine wpAny_bind (wpAny_lookBehind hoD (by rw[hdD];exact pastItsLine_dict (Nat.le_trans hcD (by rw[List.length_cons,List.length_nil,sizeLine_eq];omega))) (wpAny_pure (h h' ?_ hn' fun b o hb e=>?_)))
 ·exact(hs.2 x hxs).trans hx2
 ·exact(hs.2 b (Nat.ne_of_lt (Heap.lt_size e))).trans ((Heap.get?_update_ne _ _ _ _ hb).trans (Heap.get?_push_of_some _ e))
theorem zrt {E:Value->Shared->Prop}{Q:Unit->Shared->Prop}{name:Str}{v:Value}{ks ns:List Str}{fs:Array Value}{dx:Addr}{mA:Str->Option Value}(X:K.In s.heap)(hx:s.heap.get? x=some ⟨.ref C,some dx,.fields fs,#[]⟩)(hn:s.heap.Ns1 dx mA)(hne:dx≠x)(hw:PySem.Within mA ns)(hsz:ns.length<=sizeLine)(c:XSt K C ks)(hf:name∈ks)
  (h:∀ h',h'.Ns1 dx (fun y=>if y=name then some v else mA y)->Heap.SameBut dx s.heap h'->Q () { s with heap:=h',toks:=s.toks+2 }):wpAny (model prog w) A (setAttr (.ref x) name v) Q E s:=by
 obtain⟨od,hod,hl⟩:=zk5 hn
 have J:W.InstAt s.heap x ⟨.ref C,some dx,.fields fs,#[]⟩ C (some od):=⟨hx,rfl,rfl,hod⟩
 refine W.set_plain X J c.sa (znR (s:={ s with toks:=s.toks+1 }) X J c hf fun b=>?_)
 obtain⟨cd,hc,hd'⟩:=W.any_some c.hd
 refine wpAny_bind (wpAny_pure (wpAny_bind (wpAny_bind (wpAny_loadPart hx (wpAny_bind (W.Looks.here (s:={ s with toks:=s.toks+1 }) (W.looks_clsIn X hc) ?_))))))
 rw[hd']
 refine wpAny_pure (a:=some dx) (wpAny_bind (wpAny_pure (wpAny_bind (wpAny_nsSet1 (s:={ s with toks:=s.toks+1 }) hn fun h' hn2 hs2=>?_))))
 obtain⟨oD,esD,epD,hoD,hdD,hcD⟩:=hn2.count (PySem.Within.cons name v hw)
 exact wpAny_bind (wpAny_lookBehind hoD (by rw[hdD];exact pastItsLine_dict (Nat.le_trans hcD (by rw[List.length_cons];omega))) (wpAny_pure (h _ hn2 hs2)))
end
def ExN (a C:Addr)(dc:Option Addr)(h:Heap):Prop:=∃ t,h.get? a=some ⟨.ref C,dc,.fields #[.ref t,.none,.none,.none,.bool false,.none],#[]⟩
def XDs (a:Addr)(fs:List (Str×V))(h:Heap):Prop:=∃ mA,h.Ns1 a mA/\(∀ f,zun (fs.lookup f) (mA f))/\PySem.Within mA (fs.map (·.1))
theorem zkl {a C:Addr}{dc:Option Addr}:∀ h1 h2:Heap,ExN a C dc h1->(∀ o,h1.get? a=some o->h2.get? a=some o)->ExN a C dc h2:=fun _ _ ⟨t,e⟩ k=>⟨t,k _ e⟩
theorem zms {a:Addr}{fs:List (Str×V)}:∀ h1 h2:Heap,XDs a fs h1->(∀ o,h1.get? a=some o->h2.get? a=some o)->XDs a fs h2:=fun _ _ ⟨m,n,r⟩ k=>⟨m,n.at k,r⟩
theorem ziF {a:Addr}{fs:List (Str×V)}{h:Heap}(x:XDs a fs h):∃ o,h.get? a=some o:=let ⟨_,⟨o,_,_,e,_⟩,_⟩:=x;⟨o,e⟩
theorem zjX {a:Addr}{fs:List (Str×V)}{h:Heap}{mA:Str->Option Value}{f:Str}{y:V}{u:Value}(ry:zcz y u)(r:∀ f,zun (fs.lookup f) (mA f))(wi:PySem.Within mA (fs.map (·.1)))(n:h.Ns1 a (fun z=>if z=f then some u else mA z)):XDs a (zlx f y fs) h:=by
 refine⟨_,n,fun g=>?_,fun g hg=>?_⟩
 ·rw[ziR]
  by_cases q:g=f
  ·rw[if_pos q];simp only[if_pos q];exact ry
  ·rw[if_neg q];simp only[if_neg q];exact r g
 ·by_cases q:g=f
  ·rw[q];exact(ziV f y fs).1
  ·exact(ziV f y fs).2 g (wi g fun z=>hg (by simp only[if_neg q];exact z))
section
variable {X:Cx}{o value:Expr}{f:Str}{pos pos':Pos}{ta tv:TE}
def sX2 (K:W.Frag)(ta tv:TE)(f:Str):TS:=fun D σ H=>tv σ H fun y H1=>ta σ H1 fun x H2=>∃ a C dx l ks,x=.ref a/\H2 a=some (.ext (ExN a C (some dx)))/\H2 dx=some (.ext (XDs dx l))/\dx≠a/\XSt K C ks/\f∈ks/\l.length < 1000/\D.nx σ (upd H2 dx (.ext (XDs dx (zlx f y l))))
def sX1 (K:W.Frag)(ta tv:TE)(f:Str):TS:=fun D σ H=>tv σ H fun y H1=>ta σ H1 fun x H2=>∃ a C ks,x=.ref a/\H2 a=some (.ext (ExN a C none))/\XSt K C ks/\f∈ks/\∀ dx,H2 dx=none->D.nx σ (upd (upd H2 a (.ext (ExN a C (some dx)))) dx (.ext (XDs dx [(f,y)])))
theorem zu9 (ha:PE X o ta)(hv:PE X value tv)(hs:swapsWith value (some (.Attribute o f pos')) pos.line X.env=pure false):PS X (.Assign [.Attribute o f pos'] value pos) (sX2 X.K ta tv f):=by
 intro pins s σ H D I h
 refine plainObj_wpAny_Assign_Attribute (thn (hv pins s σ H _ I h) fun u s1 ⟨y,H1,I1,ry,q⟩=>thn (ha pins s1 σ H1 _ I1 q) fun ov s2 ⟨x,H2,I2,rx,a,C,dx,l,ks,ex,ea,ed,hne,c,hf,hl,q2⟩=>?_) hs
 subst ex
 obtain rfl:ov=Value.ref a:=rx
 obtain⟨⟨t,hx⟩,_,_⟩:=(show zcj X.prog X.w H2 s2.heap a (.ext _) from I2.hok a _ ea)
 obtain⟨⟨mA,n,r,wi⟩,_,_⟩:=(show zcj X.prog X.w H2 s2.heap dx (.ext _) from I2.hok dx _ ed)
 refine zrt I2.kIn hx n hne wi (by rw[List.length_map,sizeLine_eq];omega) c hf fun h' n' sb=>⟨σ,_,I2.write (o:=.ext (XDs dx (zlx f y l))) (x:=dx) (e:=dx) (by rw[ed];exact True.intro) (.inl rfl) (fun b q hb z=>(sb.2 b hb).trans z) (ziF (zjX ry r wi n')) ⟨zjX ry r wi n',ziF (zjX ry r wi n'),zms⟩,q2⟩
theorem zva (ha:PE X o ta)(hv:PE X value tv)(hs:swapsWith value (some (.Attribute o f pos')) pos.line X.env=pure false):PS X (.Assign [.Attribute o f pos'] value pos) (sX1 X.K ta tv f):=by
 intro pins s σ H D I h
 refine plainObj_wpAny_Assign_Attribute (thn (hv pins s σ H _ I h) fun u s1 ⟨y,H1,I1,ry,q⟩=>thn (ha pins s1 σ H1 _ I1 q) fun ov s2 ⟨x,H2,I2,rx,a,C,ks,ex,ea,c,hf,q2⟩=>?_) hs
 subst ex
 obtain rfl:ov=Value.ref a:=rx
 obtain⟨⟨t,hx⟩,_,_⟩:=(show zcj X.prog X.w H2 s2.heap a (.ext _) from I2.hok a _ ea)
 have fr:H2 s2.heap.objs.size=none:=I2.hok.fresh (Nat.le_refl _)
 have hne:s2.heap.objs.size≠a:=fun z=>Nat.lt_irrefl _ (z▸Heap.lt_size hx)
 refine zru I2.kIn hx c hf fun h' e' n' k'=>⟨σ,_,?_,q2 s2.heap.objs.size fr⟩
 have p:XDs s2.heap.objs.size [(f,y)] h':=zjX (fs:=[]) (mA:=fun _=>none) ry (fun _=>True.intro) (fun _ z=>absurd rfl z) n'
 have mu:Mut (H2 a):=by rw[ea];exact True.intro
 have fr':(upd H2 a (.ext (ExN a C (some s2.heap.objs.size)))) s2.heap.objs.size=none:=by rw[zat hne];exact fr
 exact I2.un (Un.ext (Un.write mu (.inl rfl) (fun b q hb z=>k' b q hb z) ⟨_,e'⟩) fr' (Heap.get?_none_of_le (Nat.le_refl _))) (HOk.ext (I2.hok.write (o':=.ext (ExN a C (some s2.heap.objs.size))) mu (.inl rfl) (fun b q hb z=>k' b q hb z) ⟨_,e'⟩ ⟨⟨t,e'⟩,⟨_,e'⟩,zkl⟩) fr' p (ziF p) zms)
end
def zuL (is:List Nat):TA:=fun σ H Q=>∃ vs,is.map (fun i=>σ[i]?)=vs.map (fun v=>some (some v))/\Q vs H
structure PV (X:Cx) (es:List Expr) (is:List Nat):Prop where
 o:PA X es (zuL is)
section
variable {X:Cx}
theorem zto:PV X [] []:=⟨fun pos pins s σ H Q I ⟨vs,e,h⟩=>by
 cases vs with
 | nil=>exact zgn pos pins s σ H Q I h
 | cons v vs=>simp at e⟩
theorem zlQ {es:List Expr}{is:List Nat}{i:Nat}{y:Str}{p:Pos}(hN:X.N[i]?=some y)(hv:Vis X.env.scope y)(h:PV X es is)(hd:(y==("__debug__" : Str))=false:=by decide)(hcd:(y==("__classdict__" : Str))=false:=by decide):PV X (.Name y p::es) (i::is) :=
 ⟨fun pos pins s σ H Q I ⟨vs,e,q⟩=>by
  cases vs with
  | nil=>simp at e
  | cons v vs =>
   simp only[List.map_cons,List.cons.injEq] at e
   exact zc7 (ziL hN hv hd hcd) h.o (zaO rfl) pos pins s σ H Q I ⟨v,e.1,vs,e.2,q⟩⟩
structure zsG (K:W.Frag) (CE:Addr):Prop where
 rd:W.readsIn K CE (.type "type")=true
 fc:W.findCls K (.ref CE) (.type "type") "__init__"=some (.val (.builtin "ValueError.__init__"))
 sp:W.specialIn K (.ref CE) "__getattribute__"=some (some (.builtin "type.__getattribute__"))
structure XIn (K:W.Frag) (C fn:Addr):Prop where
 ex:∃ CE nm q N bs hdct sn sub ab col dd k0 k1 k2 k3 k5,K.lookup C=some (excClassObj nm q C N bs [.ref CE,.type "ValueError",.type "Exception",.type "BaseException",.type "object"] hdct sn sub ab col dd k0 k1 k2 k3 k5 "ValueError.__new__")/\W.nsOkIn K N=true/\W.nsIn K N "__init__"=some (some (.ref fn)) /\
  W.excIn K CE [.type "ValueError",.type "Exception",.type "BaseException",.type "object"] "ValueError.__new__"=true
theorem zr6 {K:W.Frag}{h:Heap}{N:Addr}{mg:Str->Option Value}{n:Str}{v:Value}(X:K.In h)(G:h.Ns N mg)(e:W.nsIn K N n=some (some v)):mg n=some v:=by
 obtain⟨o,es,ep,ho,hd,_,hf⟩:=G
 unfold W.nsIn at e
 split at e
 ·rename_i c d es' n' sl q
  have:=X _ _ q
  rw[ho] at this;cases this
  cases hd
  split at e
  ·rename_i en he
   rw[← hf];unfold nsFind findBy
   rw[← Array.find?_toList,he]
   simpa using e
  ·split at e<;>cases e
 ·cases e
structure zwF (h:Heap) (C fn:Addr):Prop where
 ex:∃ bm N nm q bs hdct sn sub ab col dd k0 k1 k2 k3 k5 mN,h.get? C=some (excClassObj nm q C N bs bm hdct sn sub ab col dd k0 k1 k2 k3 k5 "ValueError.__new__")/\h.Ns N mN/\mN "__init__"=some (.ref fn)/\OwnTail h [.type "ValueError",.type "Exception",.type "BaseException",.type "object"] bm
theorem zpE {K:W.Frag}{CE:Addr}{h:Heap}(X:K.In h)(q:W.excIn K CE [.type "ValueError",.type "Exception",.type "BaseException",.type "object"] "ValueError.__new__"=true):OwnTail h [.type "ValueError",.type "Exception",.type "BaseException",.type "object"] [.ref CE,.type "ValueError",.type "Exception",.type "BaseException",.type "object"]:=by
 unfold W.excIn at q
 split at q
 ·rename_i dd cd sl ho
  split at q
  ·simp only[Bool.and_eq_true,beq_iff_eq,Bool.not_eq_true'] at q
   obtain⟨⟨⟨⟨_,_⟩,_⟩,hok⟩,hni⟩:=q
   exact .own (X _ _ ho) (.of_isNs (W.isNs_of_in X hok)) (W.nsMap_none_of_in X hok hni) .base
  ·cases q
 ·cases q
theorem znQ {K:W.Frag}{C fn:Addr}{h:Heap}(X:K.In h)(q:XIn K C fn):zwF h C fn:=by
 obtain⟨CE,nm,qn,N,bs,hdct,sn,sub,ab,col,dd,k0,k1,k2,k3,k5,ho,hok,hi,he⟩:=q.ex
 exact⟨_,N,nm,qn,bs,hdct,sn,sub,ab,col,dd,k0,k1,k2,k3,k5,_,X _ _ ho,.of_isNs (W.isNs_of_in X hok),zr6 X (.of_isNs (W.isNs_of_in X hok)) hi,zpE X he⟩
def sXI (K:W.Frag)(t:TA):TE:=fun σ H Q=>t σ H fun vs H1=>∃ a C rest fn,vs=.ref a::rest/\rest.length<=line/\H1 a=some (.ext (ExN a C none))/\XIn K C fn/\Q .non (upd H1 a (.ext (ExN a C none)))
theorem zvd {ce:Str}{CE:Addr}{np apos cpos:Pos}{e:Expr}{es:List Expr}{t:TA}{pl:Sem Bool}(b:zsG X.K CE)(hg:Gl X ce)(hm:X.mg ce=some (.ref CE))(ha:PA X (e::es) t)(hdb:(ce==("__debug__" : Str))=false:=by decide)
  (he:starEach (e::es) X.env=(false,eval e X.env)::starEach es X.env:=by exact zaO rfl)(hpl:(backTo cpos (starEach es X.env)).any (·.1)=false:=by exact zbK rfl)
  (ht:eval (.Call (.Attribute (.Name ce np) "__init__" apos) (e::es) [] cpos) X.env=(do
   let ov ← eval (.Name ce np) X.env
   standAt apos.atName
   let (f,first) ← holding [ov] (getMethod ov "__init__" pl)
   callWith cpos f first (backTo cpos (starEach (e::es) X.env)) (backToKw cpos (keywordEach [] X.env))):=by rfl) :
  PE X (.Call (.Attribute (.Name ce np) "__init__" apos) (e::es) [] cpos) (sXI X.K t):=by
 intro pins s σ H Q I h
 refine W.methodCall_KW (pl:=pl) (zgO I hg hm (W.method_cls I.kIn b.sp (W.cls_value I.kIn b.rd b.fc rfl ?_)) hdb) ht
 have I0:=I.tok (s.toks+1)
 have hA:=ha cpos pins _ σ H _ I0 h
 rw[he] at hA ⊢
 refine Calls.callWith_builtin (by show(false||(backTo cpos (starEach es X.env)).any (·.1))=false;rw[hpl];rfl) (Calls.evalArgs_plain (thn hA fun us s1 ⟨vs,H1,I1,r,a,C,rest,fn,ev,hl,ea,hx,q⟩=>?_))
 subst ev
 obtain⟨_,us',rfl,ra,r'⟩:∃ u us',us=u::us'/\zcz (.ref a) u/\zb0 rest us':=by cases r with | cons r1 r2=>exact⟨_,_,rfl,r1,r2⟩
 obtain rfl:_=Value.ref a:=ra
 obtain⟨bm,N,nm,qn,bs,hdct,sn,sub,ab,col,dd,k0,k1,k2,k3,k5,mN,hC,hn,hi,T⟩:=(znQ I1.kIn hx).ex
 obtain⟨⟨t0,hae⟩,_,_⟩:=(show zcj X.prog X.w H1 s1.heap a (.ext _) from I1.hok a _ ea)
 have F:=PySem.F.excBase_ValueError
 have hz:us'.length<=sizeLine:=by rw[← r'.length];exact zc9 hl
 obtain⟨hp,g,d,tk,os⟩:=s1
 refine wpAny_call (codeAny_call_builtin F.init.plain F.initEntry (wpAny_check_init_subT F T hC hae rfl ?_))
 wp_walk
 have mu:Mut (H1 a):=by rw[ea];exact True.intro
 have hne:a≠hp.objs.size:=Nat.ne_of_lt (Heap.lt_size hae)
 refine⟨.non,upd H1 a (.ext (ExN a C none)),I1.write (o:=.ext (ExN a C none)) (x:=a) (e:=a) mu (.inl rfl) (fun b u hb e=>(Heap.get?_update_other _ _ (Ne.symm hb)).trans (Heap.get?_push_of_some _ e)) ⟨_,Heap.get?_update_self _ (Heap.get?_push_of_some _ hae) rfl⟩ ⟨⟨hp.objs.size,?_⟩,⟨_,Heap.get?_update_self _ (Heap.get?_push_of_some _ hae) rfl⟩,zkl⟩,rfl,q⟩
 rw[Heap.get?_update_self _ (Heap.get?_push_of_some _ hae) rfl];rfl
end
section
variable {X:Cx}
def tXR (K:W.Frag)(fs:List Str)(is:List Nat):TS:=fun D σ H=>∃ a C dx l ks vs,σ[0]?=some (some (V.ref a))/\H a=some (.ext (ExN a C (some dx)))/\H dx=some (.ext (XDs dx l))/\dx≠a/\XSt K C ks/\(∀ f∈fs,f∈ks)/\l.length+fs.length < 1000/\fs.length=vs.length /\
 is.map (fun i=>σ[i]?)=vs.map (fun v=>some (some v))/\D.nx σ (upd H dx (.ext (XDs dx (putAll fs vs l))))
structure XR (X:Cx) (sts:List Stmt) (fs:List Str) (is:List Nat):Prop where
 o:PSs X sts (tXR X.K fs is)
theorem zsN:XR X [] [] []:=⟨zg0 zoe fun D σ H ⟨a,C,dx,l,ks,vs,h1,h2,h3,h4,h5,h6,h7,h8,h9,q⟩=>by
 cases vs with
 | nil=>unfold putAll at q;rw[zmt h3] at q;exact q
 | cons v vs=>simp at h8⟩
theorem zrr {sts:List Stmt}{fs:List Str}{is:List Nat}{f:Str}{i:Nat}{x y:Str}{p1 p2 p3 pos:Pos}(hN:X.N[i]?=some y)(hN0:X.N[0]?=some x)(hv:Vis X.env.scope y)(hv0:Vis X.env.scope x)(h:XR X sts fs is)
  (hd:(y==("__debug__" : Str))=false:=by decide)(hcd:(y==("__classdict__" : Str))=false:=by decide)(hd0:(x==("__debug__" : Str))=false:=by decide)(hcd0:(x==("__classdict__" : Str))=false:=by decide)
  (hs:swapsWith (.Name y p3) (some (.Attribute (.Name x p1) f p2)) pos.line X.env=pure false:=by rfl):XR X (.Assign [.Attribute (.Name x p1) f p2] (.Name y p3) pos::sts) (f::fs) (i::is):=by
 refine⟨zg0 (zii (zu9 (ziL hN0 hv0 hd0 hcd0) (ziL hN hv hd hcd) hs) h.o) fun D σ H ⟨a,C,dx,l,ks,vs,h1,h2,h3,h4,h5,h6,h7,h8,h9,q⟩=>?_⟩
 cases vs with
 | nil=>simp at h8
 | cons v vs =>
  simp only[List.map_cons,List.cons.injEq] at h9
  simp only[List.length_cons] at h7 h8
  refine⟨v,h9.1,.ref a,h1,a,C,dx,l,ks,rfl,h2,h3,h4,h5,h6 f List.mem_cons_self,by omega,a,C,dx,_,ks,vs,h1,?_,zas,h4,h5,fun g hg=>h6 g (List.mem_cons_of_mem _ hg),?_,by omega,h9.2,?_⟩
  ·rw[zat h4.symm];exact h2
  ·have:=zmA (f:=f) (v:=v) (l:=l);omega
  ·rw[ziG];exact q
def tXB (K:W.Frag)(ks:List Str)(is:List Nat):TS:=fun D σ H=>∃ a C fn vs,σ[0]?=some (some (V.ref a))/\H a=some (.ext (ExN a C none))/\XSt K C ks/\XIn K C fn/\ks.length=vs.length/\ks.length<=60 /\
 is.map (fun i=>σ[i]?)=vs.map (fun v=>some (some v))/\∀ dx,H dx=none->D.nx σ (upd (upd H a (.ext (ExN a C (some dx)))) dx (.ext (XDs dx (putAll ks vs []))))
structure XB (X:Cx) (sts:List Stmt) (ks:List Str) (is:List Nat):Prop where
 o:PSs X sts (tXB X.K ks is)
theorem zuF {sts:List Stmt}{fs:List Str}{is:List Nat}{f:Str}{i:Nat}{x y ce:Str}{CE:Addr}{p1 p2 p3 pos np apos cpos spos sp0:Pos}{es:List Expr}{pl:Sem Bool}(b:zsG X.K CE)(hg:Gl X ce)(hm:X.mg ce=some (.ref CE))(hpv:PV X es (i::is))(hN:X.N[i]?=some y)(hN0:X.N[0]?=some x)(hv:Vis X.env.scope y)(hv0:Vis X.env.scope x)(h:XR X sts fs is)
  (hd:(y==("__debug__" : Str))=false:=by decide)(hcd:(y==("__classdict__" : Str))=false:=by decide)(hd0:(x==("__debug__" : Str))=false:=by decide)(hcd0:(x==("__classdict__" : Str))=false:=by decide)(hdb:(ce==("__debug__" : Str))=false:=by decide)
  (hs:swapsWith (.Name y p3) (some (.Attribute (.Name x p1) f p2)) pos.line X.env=pure false:=by rfl)(hs0:swapsWith (.Call (.Attribute (.Name ce np) "__init__" apos) (.Name x sp0::es) [] cpos) none spos.line X.env=pure false:=by rfl)(hpl:(backTo cpos (starEach es X.env)).any (·.1)=false:=by exact zbK rfl)
  (ht:eval (.Call (.Attribute (.Name ce np) "__init__" apos) (.Name x sp0::es) [] cpos) X.env=(do
   let ov ← eval (.Name ce np) X.env
   standAt apos.atName
   let (f,first) ← holding [ov] (getMethod ov "__init__" pl)
   callWith cpos f first (backTo cpos (starEach (.Name x sp0::es) X.env)) (backToKw cpos (keywordEach [] X.env))):=by rfl) :
  XB X (.Expr (.Call (.Attribute (.Name ce np) "__init__" apos) (.Name x sp0::es) [] cpos) spos::.Assign [.Attribute (.Name x p1) f p2] (.Name y p3) pos::sts) (f::fs) (i::is):=by
 refine⟨zg0 (zii (zlS (zvd b hg hm (zlQ (p:=sp0) hN0 hv0 hpv hd0 hcd0).o hdb (zaO rfl) hpl ht) hs0) (zii (zva (ziL hN0 hv0 hd0 hcd0) (ziL hN hv hd hcd) hs) h.o)) fun D σ H ⟨a,C,fn,vs,h1,h2,h3,h4,h5,h6,h7,q⟩=>?_⟩
 refine⟨.ref a::vs,(show σ[0]?::(i::is).map (fun i=>σ[i]?)=some (some (V.ref a))::vs.map (fun v=>some (some v)) by rw[h1,h7]),a,C,vs,fn,rfl,?_,h2,h4,?_⟩
 ·have:vs.length<=60:=by omega
  exact Nat.le_trans this (by decide)
 ·cases vs with
  | nil=>simp at h5
  | cons v vs =>
   simp only[List.map_cons,List.cons.injEq] at h7
   simp only[List.length_cons] at h5 h6
   rw[zmt h2]
   refine⟨v,h7.1,.ref a,h1,a,C,f::fs,rfl,h2,h3,List.mem_cons_self,fun dx hdx=>?_⟩
   have hne:dx≠a:=fun z=>by subst z;rw[h2] at hdx;cases hdx
   refine⟨a,C,dx,[(f,v)],f::fs,vs,h1,?_,zas,hne,h3,fun g hg=>List.mem_cons_of_mem _ hg,?_,by omega,h7.2,?_⟩
   ·rw[zat hne.symm,zas]
   ·simp only[List.length_cons,List.length_nil];omega
   ·rw[ziG]
    have:=q dx hdx
    unfold putAll at this
    exact this
end
def zut (K:W.Frag)(ks:List Str):Sp:=fun vs H Q _=>∃ a C fn args,vs=.ref a::args/\args.length=ks.length/\H a=some (.ext (ExN a C none))/\XSt K C ks/\XIn K C fn/\∀ dx,H dx=none->Q .non (upd (upd H a (.ext (ExN a C (some dx)))) dx (.ext (XDs dx (putAll ks args []))))
theorem zvu {P:Program}{w:World}{K:W.Frag}{mg:Str->Option Value}{base:Heap}{x qual:Str}{st:Stmt}{f:Addr}{fd:FuncData}{ps:List Str}{ks:List Str}(F:Fun K x qual st f fd)(S:zaM ps ps (defScope st))(hps:ps.length=ks.length+1)(hf:ks.length<=60)
  (hbody:∀ (cdv:Value) (A:Around) (outer:List PySem.Env) (s0:Shared) (H:Hp) (E:XK),XB (zgu CX0 P w K mg base ps qual (defScope st) f cdv A outer s0 H E).nox (defBody st) ks ((List.range ks.length).map (· + 1))):zdy P w K mg base CX0 1 f fd ps (zut K ks):=by
 refine F.ok S (fun vs H Q E h=>?_) fun cdv A outer s0 H vs Q E hr h=>?_
 ·obtain⟨a,C,fn,args,rfl,hl,_⟩:=h
  simp [hl,hps]
 ·obtain⟨a,C,fn,args,rfl,hl,hH,hC,hn,q⟩:=h
  refine⟨_,(hbody cdv A outer s0 H E).o,a,C,fn,args,?_,hH,hC,hn,hl.symm,hf,?_,q⟩
  ·unfold L2.start;simp
  ·unfold L2.start
   apply List.ext_getElem?
   intro i
   simp only[List.getElem?_map,List.map_map]
   by_cases hi:i < ks.length
   ·have hia:i < args.length:=by omega
    simp [hi,hia,List.getElem?_append_left,List.getElem?_cons_succ]
   ·have hia:¬ i < args.length:=by omega
    simp [hi,hia]
section
variable {prog:Program}{w:World}{A:Around}{E:Value->Shared->Prop}{s:Shared}{env:PySem.Env}
variable {nm q:Str}{C N:Addr}{bs bm bmB:List Value}{hdct:Bool}{sn:List Str}{sub:List Value}{ab:Bool}{col:Option Bool}{dd:Option Addr}{k0 k1 k2 k3 k5:Option Value}{B newId initId:String}{mN:Str->Option Value}{fI:Addr}{oI:Obj}
theorem zpz (F:ExcBaseFacts B newId initId bmB){x:Str}{np cpos pos:Pos}{args:List Expr}{Q:Flow->Shared->Prop}(hbase:bm.contains (.type "BaseException")=true)(hh:A.handled=none)(hplain:(backTo cpos (starEach args env)).any (·.1)=false)(hi:mN "__init__"=some (.ref fI))
  (h:wpAny (model prog w) A (eval (.Name x np) env) (fun f s₁=>f=.ref C/\wpAny (model prog w) A (evalArgs (.ref C) true (backTo cpos (starEach args env)) []) (fun a s₂=>a.kw=[]/\a.pos.length<=sizeLine/\s₂.heap.get? C=some (excClassObj nm q C N bs bm hdct sn sub ab col dd k0 k1 k2 k3 k5 newId)/\s₂.heap.Ns N mN/\OwnTail s₂.heap bmB bm/\s₂.heap.get? fI=some oI/\oI.cls=.type "function" /\
    ∀ h' e,Heap.MadeExcOf s₂.heap h' e (.ref C) a.pos->wpAny (model prog w) (A.under (.builtin "type.__call__" ⟨.ref C::a.pos,[]⟩)) (call (.ref fI) (.ref e::a.pos)) (fun r s'=>r=.none/\s'.heap.get? C=some (excClassObj nm q C N bs bm hdct sn sub ab col dd k0 k1 k2 k3 k5 newId)/\(∃ dc t,s'.heap.get? e=some ⟨.ref C,dc,.fields #[.ref t,.none,.none,.none,.bool false,.none],#[]⟩)/\E (.ref e) s') E { s₂ with heap:=h' }) E s₁) E s) :
  wpAny (model prog w) A (exec (.Raise (some (.Call (.Name x np) args [] cpos)) none pos) env) Q E s:=by
 rw[arm_exec_Raise]
 refine wpAny_bind (wpAny_standAt (zpy (C:=C) (nm:=nm) (q:=q) (N:=N) (bs:=bs) (bm:=bm) (hdct:=hdct) (sn:=sn) (sub:=sub) (ab:=ab) (col:=col) (dd:=dd) (k0:=k0) (k1:=k1) (k2:=k2) (k3:=k3) (k5:=k5) (newId:=newId) hbase hh (wpAny_bind (wpAny_mono (wpAny_Call_ofName (wpAny_mono h (fun f s₁ h₁=>?_) fun _ _ x=>x)) (fun v s₃ h₃=>wpAny_bind (wpAny_standAt (wpAny_pure h₃))) fun _ _ x=>x))))
 obtain⟨rfl,h₁⟩:=h₁
 unfold callWith
 refine wpAny_bind (wpAny_holding (wpAny_mono h₁ (fun⟨apos,akw⟩ s₂ ⟨hkw,hlen,hC,hn,T,hf,hfc,h₂⟩=>wpAny_bind (wpAny_standAt ?_)) fun _ _ x=>x))
 obtain rfl:akw=[]:=hkw
 obtain⟨hp,g,d,tk,os⟩:=s₂
 simp only[hplain]
 refine wpAny_bind (wpAny_keeperOf_exc hC (wpAny_bind (zrv F T hC hn hi hf hfc hlen fun h' e hm=>wpAny_mono (h₂ h' e hm) (fun r s' hr=>?_) fun _ _ z=>z)))
 obtain⟨rfl,hC',⟨dc,t,he⟩,hE⟩:=hr
 exact⟨rfl,wpAny_bind (wpAny_holding (wpAny_point (wpAny_pure ⟨e,dc,t,rfl,hC',he,hE⟩)))⟩
end
structure zsF (K:W.Frag) (x:Str) (C:Addr):Prop where
 i:zm9 K x C
 cls:W.findIn K (.ref C) "__class__"=some (some (.builtin "object.__class__"))
 ga:W.findIn K (.ref C) "__getattribute__"=some (some (.builtin "BaseException.__getattribute__"))
 gt:W.findIn K (.ref C) "__getattr__"=some none
 t1:W.subIn K (.ref C) (.type "NoneType")=some false
 t2:W.subIn K (.ref C) (.type "bool")=some false
 t3:W.subIn K (.ref C) (.type "int")=some false
 t4:W.subIn K (.ref C) (.type "str")=some false
 t5:W.subIn K (.ref C) (.type "tuple")=some false
 t6:W.subIn K (.ref C) (.type "list")=some false
 t7:W.subIn K (.ref C) (.type "dict")=some false
 ve:W.subIn K (.ref C) (.type "ValueError")=some true
 self:W.subIn K (.ref C) (.ref C)=some true
theorem zsF.xc {K:W.Frag}{x:Str}{C:Addr}(Z:zsF K x C):XC K x C :=
 ⟨Z.i.ns,⟨Z.cls,Z.ga,Z.gt,Z.i.ob,Z.i.be⟩,fun T hT=>by
  refine zk8 (ziU T hT) ?_
  simp only[zfP,List.mem_cons,List.not_mem_nil,or_false] at hT
  rcases hT with rfl | rfl | rfl | rfl | rfl | rfl | rfl
  all_goals first | exact Z.t1 | exact Z.t2 | exact Z.t3 | exact Z.t4 | exact Z.t5 | exact Z.t6 | exact Z.t7⟩
theorem zsM {K:W.Frag}{C fn:Addr}{ks:List Str}(z:XIn K C fn)(sa:W.findIn K (.ref C) "__setattr__"=some (some (.builtin "object.__setattr__")))(hd:W.hasDictIn K C=true)(no:∀ f∈ks,zjQ K C f):XSt K C ks:=by
 obtain⟨CE,nm,qn,N,bs,hdct,sn,sub,ab,col,dd,k0,k1,k2,k3,k5,ho,_⟩:=z.ex
 refine⟨sa,hd,?_,no⟩
 unfold W.clsIn;rw[ho];rfl
def zeL (x:Str)(n:Nat)(fa:Ev->Res (List D)):Ev->Res Fl:=fun ρ=>(fa (shr ρ)).bind fun ds=>if ds.length=n then .exn ⟨x,[]⟩ else .stuck
section
variable {P:Program}{w:World}{K:W.Frag}{mg:Str->Option Value}{base:Heap}{N:List Str}{qual:Str}{scope:Scope}{f:Addr}{cd:Value}{A:Around}{outer:List PySem.Env}{s0:Shared}{H0:Hp}{E:XK}{He H0e:Hp}
theorem zqm {H:Hp}{h:Heap}{e dx:Addr}{o1 o2:HO}(ok:HOk P w (upd (upd H e o1) dx o2) h)(he:H e=none)(hd:H dx=none)(n1:∀ b,o1≠.own b)(n2:∀ b,o2≠.own b)(m1:∀ b,o1≠.tup b)(m2:∀ b,o2≠.tup b):HOk P w H h:=fun a o q=>by
 have a1:a≠e:=fun z=>by subst z;rw[he] at q;cases q
 have a2:a≠dx:=fun z=>by subst z;rw[hd] at q;cases q
 refine(ok a o (by rw[zat a2,zat a1];exact q)).stay (fun b u _ z=>z) (fun b z=>?_) fun b xs z=>?_
 ·by_cases b2:b=dx
  ·subst b2;rw[zas] at z;exact absurd (Option.some.inj z) (n2 _)
  ·rw[zat b2] at z
   by_cases b1:b=e
   ·subst b1;rw[zas] at z;exact absurd (Option.some.inj z) (n1 _)
   ·rw[zat b1] at z;exact z
 ·by_cases b2:b=dx
  ·subst b2;rw[zas] at z;exact absurd (Option.some.inj z) (m2 _)
  ·rw[zat b2] at z
   by_cases b1:b=e
   ·subst b1;rw[zas] at z;exact absurd (Option.some.inj z) (m1 _)
   ·rw[zat b1] at z;exact z
theorem Un.forget {fs:List Addr}{H H2:Hp}{h h2:Heap}(u:Un fs [] H H2 h h2):Un fs [] H H h h2:=⟨u.keep,u.slot,fun _ _ _ n _=>n,u.there,fun _ _ q=>q,fun _ _ _ q=>q,fun _ ps q=>⟨#[],by rw[q];simp⟩⟩
theorem zdI {x:Str}{C fn:Addr}{np cpos pos:Pos}{e:Expr}{es:List Expr}{fa:Ev->Res (List D)}{k:Nat}{fd:FuncData}{ps ks:List Str}(xc:XC K x C)(z:XIn K C fn)(st:XSt K C ks)(hfn:W.isFn K (.ref fn)=true)(F:zdy P w K mg base CX0 k fn fd ps (zut K ks))(hb:zbZ K fd ps [])(hks:ks.length<=60)(hr:zgV (k+1) (zgu (CXE P w) P w K mg base N qual scope f cd A outer s0 H0 E).A)(hm:mg x=some (.ref C))(hh:A.handled=none)
  (hg:Gl (zgu (CXE P w) P w K mg base N qual scope f cd A outer s0 H0 E) x)(ha:DA (zgu (CXE P w) P w K mg base N qual scope f cd A outer s0 H0 E) E (e::es) fa)
  (hdb:(x==("__debug__" : Str))=false:=by decide)(he:starEach (e::es) (zgu (CXE P w) P w K mg base N qual scope f cd A outer s0 H0 E).env=(false,eval e (zgu (CXE P w) P w K mg base N qual scope f cd A outer s0 H0 E).env)::starEach es (zgu (CXE P w) P w K mg base N qual scope f cd A outer s0 H0 E).env:=by exact zaO rfl)
  (hpl:(backTo cpos (starEach es (zgu (CXE P w) P w K mg base N qual scope f cd A outer s0 H0 E).env)).any (·.1)=false:=by exact zbK rfl) :
  DS (zgu (CXE P w) P w K mg base N qual scope f cd A outer s0 H0 E) E He H0e (.Raise (some (.Call (.Name x np) (e::es) [] cpos)) none pos) (zeL x ks.length fa):=by
 refine⟨?_⟩
 intro pins s σ H D I ⟨H₀,ρ,hr',q⟩
 obtain⟨bm,Nn,nm,qn,bs,hdct,sn,sub,ab,col,dd,k0,k1,k2,k3,k5,mN,hC,hN,hi,T⟩:=(znQ I.ok.mod.kin z).ex
 obtain⟨oI,hoI,hoc⟩:∃ oI,base.get? fn=some oI/\oI.cls=.type "function":=by
  have:=beq_iff_eq.mp hfn
  obtain⟨o,ho,hc⟩:=Option.map_eq_some_iff.mp this
  exact⟨o,I.ok.mod.kin _ _ ho,hc⟩
 refine zpz (C:=C) (nm:=nm) (q:=qn) (N:=Nn) (bs:=bs) (bm:=bm) (hdct:=hdct) (sn:=sn) (sub:=sub) (ab:=ab) (col:=col) (dd:=dd) (k0:=k0) (k1:=k1) (k2:=k2) (k3:=k3) (k5:=k5)
  PySem.F.excBase_ValueError (mN:=mN) (oI:=oI) (T.hasType PySem.F.excBase_ValueError.hasBase) hh (by rw[he];show(false||(backTo cpos (starEach es (zgu (CXE P w) P w K mg base N qual scope f cd A outer s0 H0 E).env)).any (·.1))=false;rw[hpl];rfl) hi (zgO I hg hm ⟨rfl,?_⟩ hdb)
 have hq:zlT K E H (frz He H₀ H) (fa (shr ρ)) (fun vs H1=>vs.length=ks.length/\E (.ref C) none H1):=by
  unfold zeL at q
  cases e1:fa (shr ρ) with
  | stuck=>rw[e1] at q;exact q
  | exn z=>rw[e1] at q;exact fun C ox H' H₀' g ex=>q C ox H' H₀' (hr'.frz_grow.trans g) ex
  | ok ds =>
   rw[e1] at q
   intro vs H1 H01 g rp
   have q:zcs K E He H0e H₀ (if ds.length=ks.length then Res.exn ⟨x,[]⟩ else .stuck) D:=q
   by_cases hl:ds.length=ks.length
   ·rw[if_pos hl] at q
    exact⟨by rw[← rp.length];exact hl,q (.ref C) none H1 H01 (hr'.frz_grow.trans g) ⟨⟨C,rfl,xc⟩,rfl⟩⟩
   ·rw[if_neg hl] at q;exact q.elim
 have h1:=ha.o cpos pins s σ H _ I ⟨frz He H₀ H,shr ρ,hr'.frz_le,hr'.looks,hq⟩
 rw[he] at h1 ⊢
 refine Calls.evalArgs_plain (wpAny_mono h1 (fun us s2 h2=>?_) fun _ _ y=>y)
 obtain⟨vs,H1,I1,rv,hl,hE⟩:=h2
 have hz:us.length<=sizeLine:=by rw[← rv.length,hl,sizeLine_eq];omega
 refine⟨rfl,hz,I1.bk _ _ hC,hN.keeps I1.bk,T.keeps I1.bk,I1.bk _ _ hoI,hoc,fun h' ee hx=>?_⟩
 have hn:H1 ee=none:=by
  cases q:H1 ee with
  | none=>rfl
  | some o=>obtain⟨u,hu⟩:=zcj.there (I1.hok ee o q);rw[hx.new] at hu;cases hu
 obtain⟨t,ht,_,_⟩:=hx.there
 have hxn:ExN ee C none h':=⟨t,ht⟩
 have un1:Un (frs (zgu (CXE P w) P w K mg base N qual scope f cd A outer s0 H0 E).stack) [] H1 (upd H1 ee (.ext (ExN ee C none))) s2.heap h':=Un.ext (Un.kept hx.keeps) hn hx.new
 have I2:Inv (zgu (CXE P w) P w K mg base N qual scope f cd A outer s0 H0 E) pins σ (upd H1 ee (.ext (ExN ee C none))) { s2 with heap:=h' } :=
  I1.call' (ch:=[]) rfl un1 (HOk.ext (I1.hok.kept hx.keeps) hn hxn ⟨_,ht⟩ zkl) I1.bare (fun _ z=>nomatch z)
 have rv2:zb0 (V.ref ee::vs) (Value.ref ee::us):=.cons rfl rv
 have hsp:zut K ks (V.ref ee::vs) (upd H1 ee (.ext (ExN ee C none))) (fun v H2=>v=.non/\∃ dx,H1 dx=none/\dx≠ee/\H2=upd (upd (upd H1 ee (.ext (ExN ee C none))) ee (.ext (ExN ee C (some dx)))) dx (.ext (XDs dx (putAll ks vs [])))) E :=
  ⟨ee,C,fn,vs,rfl,hl,zas,st,z,fun dx hdx=>by
   have c:dx≠ee:=fun c=>by rw[c,zas] at hdx;cases hdx
   rw[zat c] at hdx
   exact⟨rfl,dx,hdx,c,rfl⟩⟩
 have hl2:(Value.ref ee::us).length=ps.length:=by rw[← rv2.length];exact F.len _ _ _ _ hsp
 have hbb:=hb { s2 with heap:=h' } (Value.ref ee::us) I2.kIn (by simpa using hl2)
 rw[List.append_nil] at hbb
 refine wpAny_call (codeAny_mono (F.run _ _ { s2 with heap:=h' } _ ⟨Value.ref ee::us,[]⟩ (Value.ref ee::us) _ _ E (hr.make C us []) (I2.env0.make C us []) hbb rv2 hsp) fun r s3 hq3=>?_)
 cases r with
 | error e=>exact False.elim hq3
 | ok fl =>
  cases fl with
  | next=>exact False.elim hq3
  | brk=>exact False.elim hq3
  | cont=>exact False.elim hq3
  | ret u =>
   obtain⟨v,H2,os3,bare3,un3,hok3,rel3,rfl,dx,hdx,hdne,rfl⟩:=hq3
   obtain rfl:u=Value.none:=rel3
   rw[ziG] at hok3 un3
   have un4:=Un.forget (un1.trans un3)
   have hok4:HOk P w H1 s3.heap:=zqm hok3 hn hdx (fun _ z=>by cases z) (fun _ z=>by cases z) (fun _ z=>by cases z) (fun _ z=>by cases z)
   obtain⟨⟨t3,ht3⟩,_,_⟩:=(show zcj P w _ s3.heap ee (.ext (ExN ee C (some dx))) from hok3 ee _ (by rw[zat hdne.symm,zas]))
   have I3:=I1.call' (ch:=[]) os3 un4 hok4 bare3 (fun _ z=>nomatch z)
   refine⟨rfl,I3.bk _ _ hC,⟨_,t3,ht3⟩,?_⟩
   have hin:=zoQ (l:=envOfC qual scope s0.heap.objs.size f cd::outer)
   have hfr:s3.heap.FunFrames (W.hideAll s3.heap (ee::frs (envOfC qual scope s0.heap.objs.size f cd::outer))) (envOfC qual scope s0.heap.objs.size f cd::outer):=W.funFrames_hide I3.stack fun env he a hf=>List.mem_cons_of_mem _ (hin env he a hf)
   have hst:(W.hideAll s3.heap (ee::frs (envOfC qual scope s0.heap.objs.size f cd::outer))).StaysIn s3.heap:=fun b o q=>W.of_hideAll _ q
   have hen:(W.hideAll s3.heap (ee::frs (envOfC qual scope s0.heap.objs.size f cd::outer))).get? ee=none:=W.hideAll_none _ (.head _)
   refine wpAny_leaving_firstW (a0:=.ref t3) I3.ok.frames hfr rfl ht3 hst hen rfl rfl rfl fun h4 hL=>?_
   obtain⟨l1,⟨_,_,l2⟩,l3,l4⟩:=hL
   refine zso rfl I1 (s1:=s3) (H1:=H1) os3 bare3 un4 hok4 hn hst hfr (fun b hb hy=>?_) ⟨l1,hen,l2,l3⟩ l4 hE
   have hbe:b≠ee:=fun c=>by
    subst c
    rcases hy with hy | ⟨o,hy⟩
    ·exact hy hn
    ·rw[hx.new] at hy;cases hy
   have hth:∃ o,s3.heap.get? b=some o:=by
    rcases hy with hy | ⟨o,hy⟩
    ·cases q:H1 b with
     | none=>exact absurd q hy
     | some o=>exact zcj.there (hok4 b o q)
    ·exact un4.there b o hy (by simp)
   obtain⟨o,q⟩:=hth
   exact⟨o,W.hideAll_get _ q (List.not_mem_cons_of_ne_of_not_mem hbe hb)⟩
end
def ztQ (e:DictEntry):Bool:=match e.key with
 | .str _ _=>true
 | _=>false
theorem zqS {K:W.Frag}{C CE fn N:Addr}{nm q:Str}{bs sub:List Value}{hdct ab:Bool}{sn:List Str}{col:Option Bool}{dd dn:Option Addr}{k0 k1 k2 k3 k5:Option Value}{cn:Value}{es:Array DictEntry}{ep:Nat}{st:Array (Option Value)}
  (xl:K.lookup C=some (excClassObj nm q C N bs [.ref CE,.type "ValueError",.type "Exception",.type "BaseException",.type "object"] hdct sn sub ab col dd k0 k1 k2 k3 k5 "ValueError.__new__"))(xn:K.lookup N=some ⟨cn,dn,.dict es ep,st⟩)(xk:es.toList.all ztQ=true)(xv:W.nsIn K N "__init__"=some (some (.ref fn)))
  (xb:W.excIn K CE [.type "ValueError",.type "Exception",.type "BaseException",.type "object"] "ValueError.__new__"=true):XIn K C fn:=by
 refine⟨CE,nm,q,N,bs,hdct,sn,sub,ab,col,dd,k0,k1,k2,k3,k5,xl,?_,xv,xb⟩
 unfold W.nsOkIn;rw[xn]
 rw[Array.all_toList] at xk
 exact xk
theorem zmR {α β:Type}{f g:α->Option β}:∀ {l:List α},(∀ x∈l,f x=g x)->l.filterMap f=l.filterMap g
 | [],_=>rfl
 | a::l,h=>by
  rw[List.filterMap_cons,List.filterMap_cons,h a List.mem_cons_self,zmR fun x hx=>h x (List.mem_cons_of_mem _ hx)]
theorem zpZ (its:List Value):slicePick its.toArray none none (some (-1))=its.reverse.toArray:=by
 have h1:(sliceBounds none none (some (-1)) its.toArray.size)=((its.length:Int)-1,-1,-1):=by
  unfold sliceBounds
  simp
 unfold slicePick
 rw[h1]
 congr 1
 unfold sliceRange
 simp only[show ¬ ((-1:Int) > 0) by decide,if_false]
 have hc:((if(its.length:Int)-1 > -1 then((its.length:Int)-1 - -1 - -1-1) / (- -1) else 0)).toNat=its.length:=by
  rw[show(- -1:Int)=1 from rfl,Int.ediv_one]
  split<;>omega
 rw[hc]
 rw[List.filterMap_map]
 have hall:∀ k∈List.range its.length,((fun x=>its.toArray[x]?)∘fun(k:Nat)=>((its.length:Int)-1 + -1*(k:Int)).toNat) k=its.reverse[k]?:=fun k hk=>by
  have hk:=List.mem_range.mp hk
  show its.toArray[((its.length:Int)-1 + -1*(k:Int)).toNat]?=_
  rw[List.getElem?_reverse hk,show((its.length:Int)-1 + -1*(k:Int)).toNat=its.length-1-k by omega]
  simp
 rw[zmR hall]
 have hr:(List.range its.length).filterMap (fun k=>its.reverse[k]?)=its.reverse:=by
  have hh:=List.length_reverse (as:=its)
  generalize its.reverse=r at hh ⊢
  rw[← hh]
  clear hh hall hc h1
  induction r with
  | nil=>rfl
  | cons a r ih =>
   rw[List.length_cons,List.range_succ_eq_map,List.filterMap_cons]
   simp only[List.getElem?_cons_zero,List.filterMap_map]
   congr 1
 exact hr
def zvC (x:D):Res D:=match x with
 | .lst ds=>.ok (.lst ds.reverse)
 | _=>.stuck
theorem Reps.rev {K:W.Frag}{H:Hp}:∀ {ds:List D}{vs:List V},Reps K H ds vs->Reps K H ds.reverse vs.reverse
 | [],vs,h=>by rw[Reps.nil_iff.mp h];exact Reps.nil
 | d::ds,vs,h=>by
  obtain⟨v,r,rfl,h1,h2⟩:=Reps.cons_iff.mp h
  rw[List.reverse_cons,List.reverse_cons]
  exact(Reps.rev h2).app (Reps.cons h1 Reps.nil)
theorem zb0.rev:∀ {vs:List V}{us:List Value},zb0 vs us->zb0 vs.reverse us.reverse
 | _,_,.nil=>.nil
 | _,_,.cons h t=>by rw[List.reverse_cons,List.reverse_cons];exact(zb0.rev t).append (.cons h .nil)
section
variable {X:Cx}{E:XK}{e a st:Expr}{f:Ev->Res D}{te:TE}{pos p2:Pos}
def zwe (K:W.Frag)(te:TE):TE:=fun σ H Q=>te σ H fun x H1=>∃ a xs,x=.ref a/\SqL K H1 a xs/\∀ p,H1 p=none->Q (.ref p) (upd H1 p (.lst xs.reverse))
theorem ztA (he:PE X e te)(hst:∀ (pins:List (Addr×Obj)) (s:Shared) (σ:L2.St) (H:Hp) (Q:VK),Inv X pins σ H s->Q (.int (-1)) H->wpAny (model X.prog X.w) X.A (eval st X.env) (EP X pins σ Q) X.xe s):PE X (.Subscript e (.Slice none none (some st) p2) pos) (zwe X.K te):=by
 intro pins s σ H Q I h
 refine Subscript_ (thn (he pins s σ H _ I h) fun v s1 ⟨x,H1,I1,r1,a,xs,ex,hx,q⟩=>?_)
 subst ex
 cases r1
 refine wpAny_Slice (wpAny_evalPart_none (wpAny_evalPart_none ?_))
 show wpAny _ _ (eval st X.env) _ _ _
 refine thn (hst pins s1 σ H1 (fun v H2=>v=.int (-1)/\H2=H1) I1 ⟨rfl,rfl⟩) fun vs s3 ⟨u,H3,I3,pu,eu,eh⟩=>?_
 subst eu eh
 obtain⟨t,rfl⟩:=pu
 have I4:Inv X pins σ H3 { s3 with heap:=s3.heap.push { cls:=.type "slice",data:=.fields #[.none,.none,.int (-1) t] } }:=I3.kept (t':=s3.toks) fun b ob q=>Heap.get?_push_of_some _ q
 obtain⟨its,r,ht,hz⟩:=I4.list hx
 have hg:wpAny (model X.prog X.w) X.A (getItem (.ref a) (.ref s3.heap.objs.size)) (EP X pins σ Q) X.xe { s3 with heap:=s3.heap.push { cls:=.type "slice",data:=.fields #[.none,.none,.int (-1) t] } }:=by
  refine wpAny_getItem_list_slice ht.isList (Heap.IsSliceOf.new ..) .none .none (.int (-1) t) (by simp) ?_ (by rw[List.size_toArray,← r.length];exact hz)
  rw[zpZ]
  refine⟨.ref _,_,I4.laid (t':=s3.toks) (o:=.lst xs.reverse) (fun b ob q=>Heap.get?_push_of_some _ q) (Nat.le_refl _) ?_,rfl,q _ (I4.hok.fresh (Nat.le_refl _))⟩
  exact⟨by rw[List.length_reverse];exact hz,_,0,zb0.rev r,Heap.get?_push_size _ rfl⟩
 exact tail_any (ops:=[.ref a,.ref s3.heap.objs.size]) ht.isList.typeIs slot_list_getitem.lookup hg (by with_unfolding_all rfl)
theorem zud {p3 p4:Pos}{k:Nat}(ha:DE X E a f):DE X E (.Subscript a (.Slice none none (some (.UnaryOp .USub (.Constant (.int 1) k p3) p4)) p2) pos) (zbi f zvC):=by
 refine⟨zaX (ztA ha.o fun pins s σ H Q I q=>ztx (pos:=p4) zqU (zq9 (i:=1) (j:=k) (pos:=p3)) pins s σ H Q I ⟨1,rfl,q⟩) fun σ H Q ⟨H₀,ρ,hs,hr,q⟩=>⟨H₀,ρ,hs,hr,?_⟩⟩
 unfold zbi at q
 cases e1:f ρ with
 | stuck=>rw[e1] at q;exact q
 | exn x=>rw[e1] at q;exact q
 | ok d =>
  rw[e1] at q
  intro v H1 H01 g1 r1
  cases d with
  | lst ds =>
   obtain⟨p,vs,rfl,h1,h2⟩:=Rep.lst_iff.mp r1
   exact⟨p,vs,rfl,zaT.sqL g1.sub h1,fun n hn=>q _ _ _ (g1.trans (zbp.alloc g1.sub hn)) (Rep.lst_iff.mpr ⟨n,_,rfl,SqL.of zas,(Reps.rev h2).mono (zbp.alloc g1.sub hn).z⟩)⟩
  | _=>exact q.elim
end
def zux (f:Ev->Res D)(lo hi:Ev->Res (Option Int)):Ev->Res D:=fun ρ=>(f ρ).bind fun x=>(lo ρ).bind fun l=>(hi ρ).bind fun h=>match x with
 | .lst ds=>.ok (.lst (zcA ds l h))
 | _=>.stuck
section
variable {X:Cx}{E:XK}{a:Expr}{f:Ev->Res D}{pos p2:Pos}
theorem zqy {lo hi:Option Expr}{fl fh:Ev->Res (Option Int)}(ha:DE X E a f)(hl:DO X E lo fl)(hh:DO X E hi fh):DF X E (.Subscript a (.Slice lo hi none p2) pos) (zux f fl fh):=by
 refine⟨zaX (zmC zn3 ha.o hl.o hh.o) fun σ H Q ⟨H₀,ρ,hs,hr,q⟩=>⟨H₀,ρ,hs,hr,?_⟩⟩
 unfold zux at q
 cases e1:f ρ with
 | stuck=>rw[e1] at q;exact q
 | exn x=>rw[e1] at q;exact q
 | ok x =>
  rw[e1] at q
  intro v H1 H01 g1 r1
  refine⟨H01,ρ,g1.sub,hr.mono g1.z,?_⟩
  simp only[Res.bind] at q
  cases e2:fl ρ with
  | stuck=>rw[e2] at q;exact q
  | exn x=>rw[e2] at q;exact fun C ox H' H₀' g' ex=>q C ox H' H₀' (g1.trans g') ex
  | ok l =>
   rw[e2] at q
   intro H2 H02 g2
   refine⟨H02,ρ,g2.sub,(hr.mono g1.z).mono g2.z,?_⟩
   simp only[Res.bind] at q
   cases e3:fh ρ with
   | stuck=>rw[e3] at q;exact q
   | exn x=>rw[e3] at q;exact fun C ox H' H₀' g' ex=>q C ox H' H₀' ((g1.trans g2).trans g') ex
   | ok h =>
    rw[e3] at q
    intro H3 H03 g3
    simp only[Res.bind] at q
    have g:=(g1.trans g2).trans g3
    cases x with
    | lst ds =>
     simp only at q
     obtain⟨b,vs,rfl,h1,h2⟩:=Rep.lst_iff.mp ((r1.mono g2.z).mono g3.z)
     refine⟨b,vs,rfl,zaT.sqL g3.sub h1,fun p hp=>?_⟩
     have h0:H03 p=none:=g3.sub.free hp
     refine q p _ _ H03 (g.trans ⟨fun b o q=>by rw[zat (zaN q hp)];exact q,zaT.refl _,fun b o q=>?_,fun a h1 h2=>absurd h2 h1⟩) (g.s.free hp) h0 zas (h2.cut l h)
     rw[zat (by intro z;subst z;rw[h0] at q;cases q)];exact g3.sub _ _ q
    | _=>exact q.elim
end
def zpv (x y:D):Res D:=match x,y with
 | .dic [] [],.dic [] []=>.ok (.bl false)
 | x,y=>dNe x y
def zu3 (K:W.Frag):R2:=fun v u H Q=>zu4 K v u H Q∨∃ a b,v=.ref a/\u=.ref b/\Rd H a (.dK [])/\Rd H b (.dK [])/\Q (.bl false) H
theorem ztK {X:Cx}(hu:X.A.units+64 < cLine):OpR X (compareOp .NotEq) (zu3 X.K):=OpR.or (zfq hu) (by
 intro pins s σ H x y v u Q I rx ry h
 obtain⟨a,b,rfl,rfl,ha,hb,q⟩:=h
 cases rx
 cases ry
 obtain⟨_,n1,vs,k1,d1⟩:=(show zcj X.prog X.w H s.heap a (.dK []) from ha.ok I.hok)
 obtain⟨_,n2,us,k2,d2⟩:=(show zcj X.prog X.w H s.heap b (.dK []) from hb.ok I.hok)
 obtain rfl:vs=[]:=by cases k1;rfl
 obtain rfl:us=[]:=by cases k2;rfl
 exact W.keq_ne n1 n2 d1 d2 (by omega) (fun _=>.nil) ⟨.bl false,H,I,rfl,q⟩)
theorem ztP {X:Cx}{E:XK}:OpD X.K E (zu3 X.K) zpv:=by
 intro x y v u H H₀ Q hs r1 r2 q
 have old:post X.K E H H₀ (dNe x y) Q->zu3 X.K v u H Q:=fun q=>.inl (ziQ x y v u H H₀ Q hs r1 r2 q)
 unfold zpv at q
 split at q
 ·have e1:∃ a,v=.ref a/\Rd H₀ a (.dK []):=by
   rw[Rep] at r1
   obtain⟨a,kvs,vs,h1,h2,h3,h4,h5⟩:=r1
   have:kvs=[]:=by rw[h3];rfl
   subst this
   exact⟨a,h1,h2⟩
  have e2:∃ a,u=.ref a/\Rd H₀ a (.dK []):=by
   rw[Rep] at r2
   obtain⟨a,kvs,vs,h1,h2,h3,h4,h5⟩:=r2
   have:kvs=[]:=by rw[h3];rfl
   subst this
   exact⟨a,h1,h2⟩
  obtain⟨a,ea,ha⟩:=e1
  obtain⟨b,eb,hb⟩:=e2
  exact .inr ⟨a,b,ea,eb,zaT.rd hs ha,zaT.rd hs hb,za8 hs q (Rep.bl_iff.mpr rfl)⟩
 ·exact old q
end DL
namespace Com
open PySem L2 DL
def zbV:Ev->Res Fl :=
 (zan (zbc 2 (zal (zad (zaf 0) (zad (zab (zbi (dC (.int 1)) zpu) (zaf 0) zhg) zar)) (m2 zvD)))
 (zan (zbc 3 (zaf 2))
 (zan (zsJ 4 (zal zar zdm))
 (zan (zkT (zal (zad (zaf 1) zar) (m1 zey)) (zdW 5)
 (zan (sIf (zhC (zab (zaf 2) (zab (dC (.int 10)) (dC (.int 18)) zjN) dGe) (zab (zaf 3) (dC (.int 0)) dGt))
 (zan (zc5 4 (zab (zaf 3) (zab (zaf 1) (zaf 5) dIx) zdV))
 (zan (zbc 3 (zab (zaf 3) (zab (zaf 1) (zaf 5) dIx) zmf))
 zaj))
 (zan (zbc 6 (zab (zab (zab (zab (zab (zab (zaf 2) (dC (.int 2147483647)) zdV) (zab (zab (dC (.int 1009)) (zaf 5) zcv) (zaf 5) zcv) zbe) (zab (dC (.int 31)) (zaf 5) zcv) zbe) (dC (.int 7)) zbe) (dC (.int 48271)) zcv) (dC (.int 2147483629)) zdV))
 (zan (zbc 6 (zab (zab (zab (zab (zab (zaf 6) (zaf 6) zcv) (dC (.int 2147483647)) zdV) (zaf 5) zbe) (dC (.int 39373)) zcv) (dC (.int 2147483587)) zdV))
 (zan (zc5 4 (zab (zab (zaf 6) (dC (.int 8)) zmf) (zab (zaf 1) (zaf 5) dIx) zdV))
 zaj))))
 zaj))
 (zan (zcy (zaf 4))
 zaj)))))
def zaI:List D->Res D:=zc6 7 zbV
def zbH:Ev->Res Fl :=
 (zan (zkS (zkj 1) (zab (zaf 1) (dC (.int 0)) dNe)
 (zan (zq0 0 1 (zad (zaf 1) (zad (zab (zaf 0) (zaf 1) zdV) zar)))
 zaj))
 (zan (zcy (zal (zad (zaf 0) zar) (m1 zuz)))
 zaj))
def zb8:List D->Res D:=zc6 2 zbH
def zbY:Ev->Res Fl :=
 (zan (zbc 2 (zal (zad (zaf 0) (zad (zaf 1) zar)) zb8))
 (zan (zcy (zal (zad (zab (zaf 0) (zaf 2) zmf) (zad (zab (zaf 1) (zaf 2) zmf) zar)) zjC))
 zaj))
def zbE:List D->Res D:=zc6 3 zbY
def zc0:Ev->Res Fl :=
 (zan (zcy (zhC (zbi (zaf 0) (zcq "int")) (zc3 (zbi (zaf 0) (zcq "bool")))))
 zaj)
def zbd:List D->Res D:=zc6 1 zc0
def zbU:Ev->Res Fl :=
 (zan (sIf (dOr (zc3 (zbi (zaf 0) (zcq "tuple"))) (zab (zal (zad (zaf 0) zar) (m1 zey)) (dC (.int 2)) dNe))
 (zan (zcy (dC (.bl false)))
 zaj)
 zaj)
 (zan (sIf (dOr (zc3 (zal (zad (zab (zaf 0) (dC (.int 0)) dIx) zar) zbd)) (dOr (zc3 (zal (zad (zab (zaf 0) (dC (.int 1)) dIx) zar) zbd)) (zab (zab (zaf 0) (dC (.int 1)) dIx) (dC (.int 1)) dLt)))
 (zan (zcy (dC (.bl false)))
 zaj)
 zaj)
 (zan (zcy (zab (zal (zad (zab (zaf 0) (dC (.int 0)) dIx) (zad (zab (zaf 0) (dC (.int 1)) dIx) zar)) zb8) (dC (.int 1)) dEq))
 zaj)))
def zaP:List D->Res D:=zc6 1 zbU
def zeA:Ev->Res Fl :=
 (zan (zcy (zhC (zbi (zaf 0) (zcq "int")) (zc3 (zbi (zaf 0) (zcq "bool")))))
 zaj)
def zbQ:List D->Res D:=zc6 1 zeA
def zby:Ev->Res Fl :=
 (zan (zbc 2 (zal (zad (zaf 0) zar) (m1 zuz)))
 (zan (zbc 3 (zal (zad (zaf 1) zar) (m1 zuz)))
 (zan (zkS (zkj 3) (zab (zaf 3) (dC (.int 0)) dNe)
 (zan (zbc 4 (zab (zaf 2) (zaf 3) zdV))
 (zan (zbc 2 (zaf 3))
 (zan (zbc 3 (zaf 4))
 zaj))))
 (zan (zcy (zaf 2))
 zaj))))
def zbb:List D->Res D:=zc6 5 zby
def zml:Ev->Res Fl :=
 (zan (sIf (dOr (zc3 (zal (zad (zaf 0) zar) zbQ)) (zc3 (zal (zad (zaf 1) zar) zbQ)))
 (zan zes
 zaj)
 zaj)
 (zan (sIf (zab (zaf 1) (dC (.int 0)) dEq)
 (zan zes
 zaj)
 zaj)
 (zan (zbc 2 (zal (zad (zaf 0) (zad (zaf 1) zar)) zbb))
 (zan (sIf (zab (zaf 1) (dC (.int 0)) dLt)
 (zan (zbc 2 (zbi (zaf 2) zpu))
 zaj)
 zaj)
 (zan (zcy (zal (zad (zab (zaf 0) (zaf 2) zmf) (zad (zab (zaf 1) (zaf 2) zmf) zar)) zjC))
 zaj)))))
def zl5:List D->Res D:=zc6 3 zml
def zpo:Ev->Res Fl :=
 (zan (zcy (zal (zad (zab (zab (zab (zaf 0) (dC (.int 0)) dIx) (zab (zaf 1) (dC (.int 1)) dIx) zcv) (zab (zab (zaf 1) (dC (.int 0)) dIx) (zab (zaf 0) (dC (.int 1)) dIx) zcv) zbe) (zad (zab (zab (zaf 0) (dC (.int 1)) dIx) (zab (zaf 1) (dC (.int 1)) dIx) zcv) zar)) zl5))
 zaj)
def zoC:List D->Res D:=zc6 2 zpo
def zkG:Ev->Res Fl :=
 (zan (zbc 1 (dC (.tup [(.int 0),(.int 1)])))
 (zan (zq1 (zaf 0) (zdW 2)
 (zan (zbc 1 (zal (zad (zaf 1) (zad (zaf 2) zar)) zoC))
 zaj))
 (zan (zcy (zaf 1))
 zaj)))
def zqb:List D->Res D:=zc6 3 zkG
theorem bok {α β:Type}{a:α}{f:α->Res β}:(Res.ok a).bind f=f a:=rfl
theorem zdA {s t:Ev->Res Fl}{ρ ρ':Ev}(h:s ρ=.ok (.nx ρ')):zan s t ρ=t ρ':=by unfold zan;rw[h];rfl
theorem zkQ {s t:Ev->Res Fl}{ρ:Ev}{d:D}(h:s ρ=.ok (.rt d)):zan s t ρ=.ok (.rt d):=by unfold zan;rw[h];rfl
theorem zgZ {s:Ev->Res Fl}{ρ ρ':Ev}(h:s ρ=.ok (.nx ρ')):zan s zaj ρ=.ok (.nx ρ'):=by unfold zan;rw[h];rfl
theorem zkP {i:Nat}{f:Ev->Res D}{ρ:Ev}{d:D}(h:f ρ=.ok d):zbc i f ρ=.ok (.nx (ρ.set i (.sh d))):=by unfold zbc;rw[h];rfl
theorem zkU {f:Ev->Res D}{ρ:Ev}{d:D}(h:f (shr ρ)=.ok d):zcy f ρ=.ok (.rt d):=by unfold zcy;rw[h];rfl
theorem zwz {c:Ev->Res D}{s t:Ev->Res Fl}{ρ:Ev}(h:c (shr ρ)=.ok (.bl true)):sIf c s t ρ=s ρ:=by unfold sIf;rw[h];rfl
theorem zvn {c:Ev->Res D}{s t:Ev->Res Fl}{ρ:Ev}(h:c (shr ρ)=.ok (.bl false)):sIf c s t ρ=t ρ:=by unfold sIf;rw[h];rfl
theorem ne_int {i j:Int}:dNe (.int i) (.int j)=.ok (.bl (!(i==j))):=by unfold dNe;rw[if_pos ⟨rfl,rfl⟩,eqD]
theorem eq_int {i j:Int}:dEq (.int i) (.int j)=.ok (.bl (i==j)):=by unfold dEq;rw[if_pos ⟨rfl,rfl⟩,eqD]
theorem ztg {n:Nat}{s:Ev->Res Fl}{ds:List D}{d:D}(h:s (ds.map Sl.sh++List.replicate (n-ds.length) .no)=.ok (.rt d)):zc6 n s ds=.ok d:=by unfold zc6;rw[h];rfl
theorem ziq {f:Ev->Res D}{fa:Ev->Res (List D)}{ρ:Ev}{x:D}{xs:List D}(h:f ρ=.ok x)(h':fa ρ=.ok xs):zad f fa ρ=.ok (x::xs):=by unfold zad;rw[h,bok,h'];rfl
theorem zaU {f g:Ev->Res D}{op:D->D->Res D}{ρ:Ev}{x y:D}(h:f ρ=.ok x)(h':g ρ=.ok y):zab f g op ρ=op x y:=by unfold zab;rw[h,bok,h'];rfl
theorem zkF {fa:Ev->Res (List D)}{m:List D->Res D}{ρ:Ev}{xs:List D}(h:fa ρ=.ok xs):zal fa m ρ=m xs:=by unfold zal;rw[h];rfl
theorem zg3 {a b:Int}(h:b≠0):zdV (.int a) (.int b)=.ok (.int (a.fmod b)):=by
 show(if decide (b≠0)=true then Res.ok (D.int (a.fmod b)) else .stuck)=_
 rw[if_pos (decide_eq_true h)]
theorem zmY {a b:Int}(h:zh8 a b=true):zmf (.int a) (.int b)=.ok (.int (a.fdiv b)):=by
 show(if zh8 a b=true then Res.ok (D.int (a.fdiv b)) else .stuck)=_
 rw[if_pos h]
theorem zjB {a b:Int}(h:zh3 a b=true):zcv (.int a) (.int b)=.ok (.int (a*b)):=by
 show(if zh3 a b=true then Res.ok (D.int (a*b)) else .stuck)=_
 rw[if_pos h]
theorem zmQ (a b:Int):Int.gcd b (a.fmod b)=Int.gcd a b:=by
 rw[Int.fmod_def,Int.gcd_sub_mul_left_right,Int.gcd_comm]
theorem zoV {a b:Int}(h:b≠0):(a.fmod b).natAbs < b.natAbs:=by
 rcases Int.lt_or_gt_of_ne h with hb | hb
 ·have h1:=Int.fmod_lt_of_pos (-a) (show 0 < -b by omega)
  have h2:=Int.fmod_nonneg_of_pos (-a) (show 0 < -b by omega)
  rw[Int.neg_fmod_neg] at h1 h2
  omega
 ·have h1:=Int.fmod_lt_of_pos a hb
  have h2:=Int.fmod_nonneg_of_pos a hb
  omega
theorem zhR:∀ (n:Nat) (a b:Int),b.natAbs < n->∃ g:Int,g.natAbs=Int.gcd a b /\
  zdY (zab (zaf 1) (dC (.int 0)) dNe) (zan (zq0 0 1 (zad (zaf 1) (zad (zab (zaf 0) (zaf 1) zdV) zar))) zaj) n [.sh (.int a),.sh (.int b)]=.ok (.nx [.sh (.int g),.sh (.int 0)])
 | 0,a,b,h=>absurd h (Nat.not_lt_zero _)
 | n+1,a,b,h=>by
  unfold zdY
  have c:(zab (zaf 1) (dC (.int 0)) dNe) (shr [.sh (.int a),.sh (.int b)])=.ok (.bl (!(b==0))):=ne_int
  rw[c]
  by_cases hb:b=0
  ·subst hb
   exact⟨a,by simp,rfl⟩
  ·have e:(!(b==0))=true:=by simp [hb]
   obtain⟨g,h1,h2⟩:=zhR n b (a.fmod b) (by have:=zoV (a:=a) hb;omega)
   refine⟨g,by rw[h1,zmQ],?_⟩
   rw[← h2]
   rw[e]
   have st:(zan (zq0 0 1 (zad (zaf 1) (zad (zab (zaf 0) (zaf 1) zdV) zar))) zaj) [.sh (.int a),.sh (.int b)]=.ok (.nx [.sh (.int b),.sh (.int (a.fmod b))]):=by
    refine zgZ ?_
    unfold zq0
    have:(zad (zaf 1) (zad (zab (zaf 0) (zaf 1) zdV) zar)) [.sh (.int a),.sh (.int b)]=.ok [.int b,.int (a.fmod b)]:=by
     exact ziq rfl (ziq (zg3 hb) rfl)
    rw[this]
    rfl
   show(Res.bind _ _)=_
   rw[st]
   rfl
theorem zjJ (a b:Int):zb8 [.int a,.int b]=.ok (.int (Int.gcd a b)):=by
 obtain⟨g,h1,h2⟩:=zhR (b.natAbs+1) a b (Nat.lt_succ_self _)
 have w:zkS (zkj 1) (zab (zaf 1) (dC (.int 0)) dNe) (zan (zq0 0 1 (zad (zaf 1) (zad (zab (zaf 0) (zaf 1) zdV) zar))) zaj) [.sh (.int a),.sh (.int b)]=.ok (.nx [.sh (.int g),.sh (.int 0)]):=h2
 have r:zbH [.sh (.int a),.sh (.int b)]=.ok (.rt (.int (if g < 0 then -g else g))):=by
  unfold zbH
  rw[zdA w]
  exact zkQ (zkU rfl)
 show(zbH [.sh (.int a),.sh (.int b)]).bind _=_
 rw[r]
 show Res.ok (D.int (if g < 0 then -g else g))=_
 congr 2
 rw[← h1]
 split<;>omega
theorem zjd:∀ (n:Nat) (x y:D) (a b:Int) (r:Sl),0<=a->0<=b->b.natAbs < n->∃ r',
  zdY (zab (zaf 3) (dC (.int 0)) dNe) (zan (zbc 4 (zab (zaf 2) (zaf 3) zdV)) (zan (zbc 2 (zaf 3)) (zan (zbc 3 (zaf 4)) zaj))) n [.sh x,.sh y,.sh (.int a),.sh (.int b),r]=.ok (.nx [.sh x,.sh y,.sh (.int (Int.gcd a b)),.sh (.int 0),r'])
 | 0,_,_,a,b,_,_,_,h=>absurd h (Nat.not_lt_zero _)
 | n+1,x,y,a,b,r,ha,hb0,h=>by
  unfold zdY
  have c:∀ r,(zab (zaf 3) (dC (.int 0)) dNe) (shr [.sh x,.sh y,.sh (.int a),.sh (.int b),r])=.ok (.bl (!(b==0))):=fun r=>ne_int
  rw[c]
  by_cases hb:b=0
  ·subst hb
   refine⟨r,?_⟩
   have e:((Int.gcd a 0:Nat):Int)=a:=by simp;omega
   rw[e]
   rfl
  ·have e:(!(b==0))=true:=by simp [hb]
   have hp:0 < b:=by omega
   obtain⟨r',h2⟩:=zjd n x y b (a.fmod b) (.sh (.int (a.fmod b))) hb0 (Int.fmod_nonneg_of_pos a hp) (by have:=zoV (a:=a) hb;omega)
   refine⟨r',?_⟩
   rw[zmQ] at h2
   rw[← h2,e]
   have st:(zan (zbc 4 (zab (zaf 2) (zaf 3) zdV)) (zan (zbc 2 (zaf 3)) (zan (zbc 3 (zaf 4)) zaj))) [.sh x,.sh y,.sh (.int a),.sh (.int b),r]=.ok (.nx [.sh x,.sh y,.sh (.int b),.sh (.int (a.fmod b)),.sh (.int (a.fmod b))]):=by
    have m:(zab (zaf 2) (zaf 3) zdV) [.sh x,.sh y,.sh (.int a),.sh (.int b),r]=.ok (.int (a.fmod b)):=by
     exact zg3 hb
    rw[zdA (zkP m)]
    rfl
   show(Res.bind _ _)=_
   rw[st]
   rfl
theorem zll (a b:Int):zbb [.int a,.int b]=.ok (.int (Int.gcd a b)):=by
 have e:∀ i:Int,(if i < 0 then -i else i)=(i.natAbs:Int):=fun i=>by split<;>omega
 obtain⟨r',h⟩:=zjd ((b.natAbs:Int).natAbs+1) (.int a) (.int b) a.natAbs b.natAbs .no (Int.natCast_nonneg _) (Int.natCast_nonneg _) (Nat.lt_succ_self _)
 have hg:Int.gcd (a.natAbs:Int) (b.natAbs:Int)=Int.gcd a b:=by simp [Int.gcd]
 rw[hg] at h
 have r:zby [.sh (.int a),.sh (.int b),.no,.no,.no]=.ok (.rt (.int (Int.gcd a b))):=by
  unfold zby
  rw[zdA (ρ':=[.sh (.int a),.sh (.int b),.sh (.int (a.natAbs:Int)),.no,.no]) (by rw[← e a];rfl)]
  rw[zdA (ρ':=[.sh (.int a),.sh (.int b),.sh (.int (a.natAbs:Int)),.sh (.int (b.natAbs:Int)),.no]) (by rw[← e b];rfl)]
  have w:zkS (zkj 3) (zab (zaf 3) (dC (.int 0)) dNe) (zan (zbc 4 (zab (zaf 2) (zaf 3) zdV)) (zan (zbc 2 (zaf 3)) (zan (zbc 3 (zaf 4)) zaj))) [.sh (.int a),.sh (.int b),.sh (.int (a.natAbs:Int)),.sh (.int (b.natAbs:Int)),.no]=.ok (.nx [.sh (.int a),.sh (.int b),.sh (.int (Int.gcd a b)),.sh (.int 0),r']):=h
  rw[zdA w]
  exact zkQ (zkU rfl)
 show(zby [.sh (.int a),.sh (.int b),.no,.no,.no]).bind _=_
 rw[r]
 rfl
theorem zul {f g:Ev->Res D}{ρ:Ev}{b c:Bool}(h:f ρ=.ok (.bl b))(h':g ρ=.ok (.bl c)):zhC f g ρ=.ok (.bl (b&&c)):=by
 unfold zhC;rw[h,bok];cases b
 ·rfl
 ·exact h'
theorem zvZ {f g:Ev->Res D}{ρ:Ev}(h:f ρ=.ok (.bl false)):dOr f g ρ=g ρ:=by unfold dOr;rw[h,bok]
theorem znh:(2:Nat) ^ 64<=B60:=by rw[zro];exact Nat.pow_le_pow_right (by decide) (by decide)
theorem zv2 {i:Int}(h:i.natAbs < 18446744073709551616):i.natAbs < B60:=Nat.lt_of_lt_of_le h znh
theorem zdl {i j:Int}(h:i.natAbs < 18446744073709551616)(h':j.natAbs < 18446744073709551616):zh3 i j=true:=by
 unfold zh3
 rw[Bool.and_eq_true]
 exact⟨decide_eq_true (zv2 h),decide_eq_true (zv2 h')⟩
theorem zss {i j:Int}(h0:j≠0)(h:j.natAbs < B9):zh8 i j=true:=by
 unfold zh8
 rw[Bool.and_eq_true,Bool.or_eq_true]
 exact⟨decide_eq_true h0,.inl (decide_eq_true h)⟩
theorem zrf {i j:Int}(h0:j≠0)(h:i.natAbs < B13):zh8 i j=true:=by
 unfold zh8
 rw[Bool.and_eq_true,Bool.or_eq_true]
 exact⟨decide_eq_true h0,.inr (decide_eq_true h)⟩
theorem zog:(2:Nat) ^ 64<=B9:=by rw[zqR];exact Nat.pow_le_pow_right (by decide) (by decide)
theorem lt9 {i:Int}(h:i.natAbs < 18446744073709551616):i.natAbs < B9:=Nat.lt_of_lt_of_le h zog
theorem ze1 {ds:List D}{k:Nat}{d:D}(h:ds[k]?=some d):dIx (.lst ds) (.int (k:Int))=.ok d:=by
 unfold dIx
 simp only[zbn h]
def zeS:Ev->Res Fl :=
 (zan (sIf (zhC (zab (zaf 2) (zab (dC (.int 10)) (dC (.int 18)) zjN) dGe) (zab (zaf 3) (dC (.int 0)) dGt))
 (zan (zc5 4 (zab (zaf 3) (zab (zaf 1) (zaf 5) dIx) zdV))
 (zan (zbc 3 (zab (zaf 3) (zab (zaf 1) (zaf 5) dIx) zmf))
 zaj))
 (zan (zbc 6 (zab (zab (zab (zab (zab (zab (zaf 2) (dC (.int 2147483647)) zdV) (zab (zab (dC (.int 1009)) (zaf 5) zcv) (zaf 5) zcv) zbe) (zab (dC (.int 31)) (zaf 5) zcv) zbe) (dC (.int 7)) zbe) (dC (.int 48271)) zcv) (dC (.int 2147483629)) zdV))
 (zan (zbc 6 (zab (zab (zab (zab (zab (zaf 6) (zaf 6) zcv) (dC (.int 2147483647)) zdV) (zaf 5) zbe) (dC (.int 39373)) zcv) (dC (.int 2147483587)) zdV))
 (zan (zc5 4 (zab (zab (zaf 6) (dC (.int 8)) zmf) (zab (zaf 1) (zaf 5) dIx) zdV))
 zaj))))
 zaj)
theorem zrk {i:Nat}{f:Ev->Res D}{ρ:Ev}{d:D}{ds:List D}(hi:ρ[i]?=some (.ow (.lst ds)))(h:f ρ=.ok d)(hl:ds.length < line):zc5 i f ρ=.ok (.nx (ρ.set i (.ow (.lst (ds++[d]))))):=by
 unfold zc5 zlX
 rw[hi]
 show(f ρ).bind _=_
 rw[h,bok,if_pos hl]
theorem zha {a b:Int}(hb:0 < b):0<=a.fmod b/\a.fmod b < b:=⟨Int.fmod_nonneg_of_pos a hb,Int.fmod_lt_of_pos a hb⟩
theorem znC {c:D}{sz:List Int}{num left:Int}{F:List D}{k:Nat}{one:Sl}{s:Int}(hk:sz[k]?=some s)(hs:0 < s)(h9:s.natAbs < B9)(hk2:k < 1000)(hl:F.length < line)(h0:0<=left) :
  ∃ v left' one',0<=v/\v < s/\0<=left'/\zeS [.sh c,.sh (.lst (sz.map D.int)),.sh (.int num),.sh (.int left),.ow (.lst F),.sh (.int (k:Int)),one] =
   .ok (.nx [.sh c,.sh (.lst (sz.map D.int)),.sh (.int num),.sh (.int left'),.ow (.lst (F++[.int v])),.sh (.int (k:Int)),one']):=by
 have hix:dIx (.lst (sz.map D.int)) (.int (k:Int))=.ok (.int s):=ze1 (by rw[List.getElem?_map,hk];rfl)
 have hc:(zhC (zab (zaf 2) (zab (dC (.int 10)) (dC (.int 18)) zjN) dGe) (zab (zaf 3) (dC (.int 0)) dGt)) (shr [.sh c,.sh (.lst (sz.map D.int)),.sh (.int num),.sh (.int left),.ow (.lst F),.sh (.int (k:Int)),one])=.ok (.bl (decide ((10:Int) ^ (18:Int).toNat<=num)&&decide (0 < left))):=by
  refine zul ?_ ?_
  ·exact(zaU (x:=.int num) (y:=.int ((10:Int) ^ (18:Int).toNat)) rfl rfl).trans rfl
  ·exact(zaU (x:=.int left) (y:=.int 0) rfl rfl).trans rfl
 have hm:=zha (a:=left) hs
 unfold zeS
 cases hb:(decide ((10:Int) ^ (18:Int).toNat<=num)&&decide (0 < left)) with
 | true =>
  rw[hb] at hc
  refine⟨left.fmod s,left.fdiv s,one,hm.1,hm.2,Int.fdiv_nonneg h0 (by omega),?_⟩
  refine zgZ ?_
  rw[zwz hc]
  rw[zdA (zrk (ds:=F) (d:=.int (left.fmod s)) rfl ((zaU (x:=.int left) (y:=.int s) rfl ((zaU (x:=.lst (sz.map D.int)) (y:=.int (k:Int)) rfl rfl).trans hix)).trans (zg3 (by omega))) hl)]
  exact zgZ (zkP (d:=.int (left.fdiv s)) ((zaU (x:=.int left) (y:=.int s) rfl ((zaU (x:=.lst (sz.map D.int)) (y:=.int (k:Int)) rfl rfl).trans hix)).trans (zmY (zss (by omega) h9))))
 | false =>
  rw[hb] at hc
  have hkk:(k:Int)*(k:Int) < 1000000:=by
   have:k*k < 1000*1000:=Nat.mul_lt_mul'' hk2 hk2
   omega
  have hkn:(0:Int)<=(k:Int)*(k:Int):=Int.mul_nonneg (by omega) (by omega)
  have a1:=zha (a:=num) (b:=2147483647) (by decide)
  have hone1:((num.fmod 2147483647+1009*(k:Int)*(k:Int)+31*(k:Int)+7)*48271).fmod 2147483629=((num.fmod 2147483647+1009*(k:Int)*(k:Int)+31*(k:Int)+7)*48271).fmod 2147483629:=rfl
  generalize ho:((num.fmod 2147483647+1009*(k:Int)*(k:Int)+31*(k:Int)+7)*48271).fmod 2147483629=o1
  have a2:0<=o1/\o1 < 2147483629:=by rw[← ho];exact zha (by decide)
  have hoo:o1*o1 < 4611686018427387904:=by
   have h1:o1*o1<=2147483628*2147483628:=Int.mul_le_mul (by omega) (by omega) a2.1 (by decide)
   omega
  have hoo0:0<=o1*o1:=Int.mul_nonneg a2.1 a2.1
  generalize ho2:(((o1*o1).fmod 2147483647+(k:Int))*39373).fmod 2147483587=o2
  have a3:0<=o2/\o2 < 2147483587:=by rw[← ho2];exact zha (by decide)
  have hm2:=zha (a:=o2.fdiv 8) hs
  refine⟨(o2.fdiv 8).fmod s,left,.sh (.int o2),hm2.1,hm2.2,h0,?_⟩
  refine zgZ ?_
  rw[zvn hc]
  have ea:(1009:Int)*(k:Int)*(k:Int)=1009*((k:Int)*(k:Int)):=Int.mul_assoc _ _ _
  have e1:(zab (zab (zab (zab (zab (zab (zaf 2) (dC (.int 2147483647)) zdV) (zab (zab (dC (.int 1009)) (zaf 5) zcv) (zaf 5) zcv) zbe) (zab (dC (.int 31)) (zaf 5) zcv) zbe) (dC (.int 7)) zbe) (dC (.int 48271)) zcv) (dC (.int 2147483629)) zdV)
    [.sh c,.sh (.lst (sz.map D.int)),.sh (.int num),.sh (.int left),.ow (.lst F),.sh (.int (k:Int)),one]=.ok (.int o1):=by
   rw[← ho]
   refine(zaU (x:=.int ((num.fmod 2147483647+1009*(k:Int)*(k:Int)+31*(k:Int)+7)*48271)) (y:=.int 2147483629) ?_ rfl).trans (zg3 (by decide))
   refine(zaU (x:=.int (num.fmod 2147483647+1009*(k:Int)*(k:Int)+31*(k:Int)+7)) (y:=.int 48271) ?_ rfl).trans (zjB (zdl (by omega) (by decide)))
   refine(zaU (x:=.int (num.fmod 2147483647+1009*(k:Int)*(k:Int)+31*(k:Int))) (y:=.int 7) ?_ rfl).trans rfl
   refine(zaU (x:=.int (num.fmod 2147483647+1009*(k:Int)*(k:Int))) (y:=.int (31*(k:Int))) ?_ ?_).trans rfl
   ·refine(zaU (x:=.int (num.fmod 2147483647)) (y:=.int (1009*(k:Int)*(k:Int))) ?_ ?_).trans rfl
    ·exact(zaU (x:=.int num) (y:=.int 2147483647) rfl rfl).trans (zg3 (by decide))
    ·refine(zaU (x:=.int (1009*(k:Int))) (y:=.int (k:Int)) ?_ rfl).trans (zjB (zdl (by omega) (by omega)))
     exact(zaU (x:=.int 1009) (y:=.int (k:Int)) rfl rfl).trans (zjB (zdl (by decide) (by omega)))
   ·exact(zaU (x:=.int 31) (y:=.int (k:Int)) rfl rfl).trans (zjB (zdl (by decide) (by omega)))
  rw[zdA (zkP e1)]
  have a4:=zha (a:=o1*o1) (b:=2147483647) (by decide)
  have e2:(zab (zab (zab (zab (zab (zaf 6) (zaf 6) zcv) (dC (.int 2147483647)) zdV) (zaf 5) zbe) (dC (.int 39373)) zcv) (dC (.int 2147483587)) zdV)
    [.sh c,.sh (.lst (sz.map D.int)),.sh (.int num),.sh (.int left),.ow (.lst F),.sh (.int (k:Int)),.sh (.int o1)]=.ok (.int o2):=by
   rw[← ho2]
   refine(zaU (x:=.int (((o1*o1).fmod 2147483647+(k:Int))*39373)) (y:=.int 2147483587) ?_ rfl).trans (zg3 (by decide))
   refine(zaU (x:=.int ((o1*o1).fmod 2147483647+(k:Int))) (y:=.int 39373) ?_ rfl).trans (zjB (zdl (by omega) (by decide)))
   refine(zaU (x:=.int ((o1*o1).fmod 2147483647)) (y:=.int (k:Int)) ?_ rfl).trans rfl
   refine(zaU (x:=.int (o1*o1)) (y:=.int 2147483647) ?_ rfl).trans (zg3 (by decide))
   exact(zaU (x:=.int o1) (y:=.int o1) rfl rfl).trans (zjB (zdl (by omega) (by omega)))
  refine(zdA (zkP e2)).trans ?_
  refine zgZ (zrk (ds:=F) (d:=.int ((o2.fdiv 8).fmod s)) rfl ?_ hl)
  refine(zaU (x:=.int (o2.fdiv 8)) (y:=.int s) ?_ ((zaU (x:=.lst (sz.map D.int)) (y:=.int (k:Int)) rfl rfl).trans hix)).trans (zg3 (by omega))
  exact(zaU (x:=.int o2) (y:=.int 8) rfl rfl).trans (zmY (zss (by decide) (lt9 (by decide))))
theorem zlb {n k:Nat}(h:k < n):(DL.intsFrom 0 n).drop k=.int (k:Int)::(DL.intsFrom 0 n).drop (k+1):=by
 have hl:(DL.intsFrom 0 n).length=n:=by unfold DL.intsFrom;simp
 rw[List.drop_eq_getElem_cons (by rw[hl];exact h)]
 congr 1
 unfold DL.intsFrom
 simp
theorem zmO {n:Nat}:(DL.intsFrom 0 n).drop n=[]:=by
 have hl:(DL.intsFrom 0 n).length=n:=by unfold DL.intsFrom;simp
 exact List.drop_eq_nil_of_le (by omega)
theorem zkk {tg:Ev->D->Res Ev}{s:Ev->Res Fl}{d:D}{r:List D}{ρ ρ1 ρ2:Ev}(h1:tg ρ d=.ok ρ1)(h2:s ρ1=.ok (.nx ρ2)):zcX tg s (d::r) ρ=zcX tg s r ρ2:=by
 rw[zcX,h1,bok,h2,bok]
theorem zi6 {c:D}{sz:List Int}{num:Int}(hz:∀ s∈sz,0 < s/\s.natAbs < B9)(hn:sz.length<=1000):∀ (j k:Nat),k+j=sz.length->∀ (left:Int) (F:List Int) (x one:Sl),0<=left->F.length=k->(∀ (i:Nat) (v s:Int),F[i]?=some v->sz[i]?=some s->0<=v/\v < s) ->
  ∃ (left':Int) (F':List Int) (x' one':Sl),F'.length=sz.length/\(∀ (i:Nat) (v s:Int),F'[i]?=some v->sz[i]?=some s->0<=v/\v < s) /\
   zcX (zdW 5) zeS ((DL.intsFrom 0 sz.length).drop k) [.sh c,.sh (.lst (sz.map D.int)),.sh (.int num),.sh (.int left),.ow (.lst (F.map D.int)),x,one] =
    .ok (.nx [.sh c,.sh (.lst (sz.map D.int)),.sh (.int num),.sh (.int left'),.ow (.lst (F'.map D.int)),x',one'])
 | 0,k,hk,left,F,x,one,h0,hF,hb=>by
  refine⟨left,F,x,one,by omega,hb,?_⟩
  have:k=sz.length:=by omega
  rw[this,zmO]
  rfl
 | j+1,k,hk,left,F,x,one,h0,hF,hb=>by
  have hlt:k < sz.length:=by omega
  have hs:=hz _ (List.getElem_mem hlt)
  obtain⟨v,left',one',v0,v1,l0,e⟩:=znC (c:=c) (num:=num) (F:=F.map D.int) (one:=one) (List.getElem?_eq_getElem hlt) hs.1 hs.2 (by omega) (by rw[List.length_map,hF];exact Nat.lt_of_lt_of_le hlt (Nat.le_trans hn (by decide))) h0
  have hb':∀ (i:Nat) (v' s:Int),(F++[v])[i]?=some v'->sz[i]?=some s->0<=v'/\v' < s:=by
   intro i v' s h1 h2
   by_cases hi:i < F.length
   ·rw[List.getElem?_append_left hi] at h1
    exact hb i v' s h1 h2
   ·rw[List.getElem?_append_right (by omega)] at h1
    have hi2:i-F.length=0:=by
     cases hq:i-F.length with
     | zero=>rfl
     | succ m=>rw[hq] at h1;simp at h1
    rw[hi2] at h1
    have hik:i=k:=by omega
    subst hik
    rw[List.getElem?_eq_getElem hlt] at h2
    cases h1;cases h2
    exact⟨v0,v1⟩
  obtain⟨left2,F2,x2,one2,p1,p2,p3⟩:=zi6 hz hn j (k+1) (by omega) left' (F++[v]) (.sh (.int (k:Int))) one' l0 (by simp [hF]) hb'
  refine⟨left2,F2,x2,one2,p1,p2,?_⟩
  rw[zlb hlt,zkk (ρ1:=[.sh c,.sh (.lst (sz.map D.int)),.sh (.int num),.sh (.int left),.ow (.lst (F.map D.int)),.sh (.int (k:Int)),one]) rfl e]
  rw[← p3,List.map_append]
  rfl
theorem zqv (c:Int)(sz:List Int)(hz:∀ s∈sz,0 < s/\s.natAbs < B9)(hn:sz.length<=1000) :
  ∃ vs:List Int,vs.length=sz.length/\(∀ (i:Nat) (v s:Int),vs[i]?=some v->sz[i]?=some s->0<=v/\v < s)/\zaI [.int c,.lst (sz.map D.int)]=.ok (.lst (vs.map D.int)):=by
 generalize hnum:(if -1-c > c then -1-c else c)=num
 have hn0:0<=num:=by rw[← hnum];split<;>omega
 obtain⟨left',F',x',one',p1,p2,p3⟩:=zi6 (c:=.int c) (num:=num) hz hn sz.length 0 (by omega) num [] .no .no hn0 rfl (fun i v s h=>by simp at h)
 refine⟨F',p1,p2,?_⟩
 have r:zbV [.sh (.int c),.sh (.lst (sz.map D.int)),.no,.no,.no,.no,.no]=.ok (.rt (.lst (F'.map D.int))):=by
  unfold zbV
  rw[zdA (ρ':=[.sh (.int c),.sh (.lst (sz.map D.int)),.sh (.int num),.no,.no,.no,.no]) (by rw[← hnum];rfl)]
  rw[zdA (ρ':=[.sh (.int c),.sh (.lst (sz.map D.int)),.sh (.int num),.sh (.int num),.no,.no,.no]) rfl]
  rw[zdA (ρ':=[.sh (.int c),.sh (.lst (sz.map D.int)),.sh (.int num),.sh (.int num),.ow (.lst []),.no,.no]) rfl]
  have w:(zkT (zal (zad (zaf 1) zar) (m1 zey)) (zdW 5) zeS) [.sh (.int c),.sh (.lst (sz.map D.int)),.sh (.int num),.sh (.int num),.ow (.lst []),.no,.no] =
    .ok (.nx [.sh (.int c),.sh (.lst (sz.map D.int)),.sh (.int num),.sh (.int left'),.ow (.lst (F'.map D.int)),x',one']):=by
   unfold zkT
   have hlen:(zal (zad (zaf 1) zar) (m1 zey)) (shr [.sh (.int c),.sh (.lst (sz.map D.int)),.sh (.int num),.sh (.int num),.ow (.lst []),.no,.no])=.ok (.int (sz.length:Int)):=by
    show Res.ok (D.int ((sz.map D.int).length:Int))=_
    rw[List.length_map]
   rw[hlen,bok]
   show(if _ then _ else _)=_
   rw[if_pos (by omega)]
   rw[← p3]
   rfl
  exact(zdA w).trans (zkQ (zkU rfl))
 exact ztg (n:=7) (ds:=[.int c,.lst (sz.map D.int)]) r
def isI:D->Bool
 | .int _=>true
 | _=>false
theorem zpC (d:D):zbd [d]=.ok (.bl (isI d)):=by cases d<;>first | rfl | (rename_i k _;cases k<;>rfl)
theorem zbl (d:D):zbQ [d]=.ok (.bl (isI d)):=by cases d<;>first | rfl | (rename_i k _;cases k<;>rfl)
theorem zmT {a g:Int}(hg:0 < g):a.fdiv g=a / g:=Int.fdiv_eq_ediv_of_nonneg a (by omega)
theorem zma {a b:Int}(h:b≠0):0 < (Int.gcd a b:Int):=by
 have:=Int.gcd_pos_of_ne_zero_right a h
 omega
theorem zoF {a b:Int}(hb:0 < b)(h1:a.natAbs < B13)(h2:b.natAbs < B13):zbE [.int a,.int b]=.ok (.tup [.int (a / Int.gcd a b),.int (b / Int.gcd a b)]):=by
 have hg:=zma (a:=a) (b:=b) (by omega)
 have r:zbY [.sh (.int a),.sh (.int b),.no]=.ok (.rt (.tup [.int (a / Int.gcd a b),.int (b / Int.gcd a b)])):=by
  unfold zbY
  rw[zdA (ρ':=[.sh (.int a),.sh (.int b),.sh (.int (Int.gcd a b))]) (zkP ((zkF (xs:=[.int a,.int b]) rfl).trans (zjJ a b)))]
  refine zkQ (zkU ?_)
  refine(zkF (xs:=[.int (a / Int.gcd a b),.int (b / Int.gcd a b)]) (ziq ?_ (ziq ?_ rfl))).trans rfl
  ·rw[← zmT hg]
   exact(zaU (x:=.int a) (y:=.int (Int.gcd a b)) rfl rfl).trans (zmY (zrf (by omega) h1))
  ·rw[← zmT hg]
   exact(zaU (x:=.int b) (y:=.int (Int.gcd a b)) rfl rfl).trans (zmY (zrf (by omega) h2))
 show(zbY [.sh (.int a),.sh (.int b),.no]).bind _=_
 rw[r]
 rfl
def znL (p q:Int):D:=.tup [.int p,.int q]
theorem zl8 {p q:Int}(hq:1<=q)(hg:Int.gcd p q=1):zaP [znL p q]=.ok (.bl true):=by
 have r:zbU [.sh (znL p q)]=.ok (.rt (.bl true)):=by
  unfold zbU
  rw[zdA (ρ':=[.sh (znL p q)]) (zvn (t:=zaj) rfl)]
  rw[zdA (ρ':=[.sh (znL p q)]) (zvn (t:=zaj) (by
   refine(zvZ ?_).trans ((zvZ ?_).trans ?_)
   ·rfl
   ·rfl
   ·show Res.ok (D.bl (decide (q < 1)))=_
    rw[decide_eq_false (by omega)]))]
  refine zkQ (zkU ?_)
  refine(zaU (x:=.int (Int.gcd p q)) (y:=.int 1) ((zkF (xs:=[.int p,.int q]) rfl).trans (zjJ p q)) rfl).trans ?_
  rw[eq_int,hg]
  rfl
 show(zbU [.sh (znL p q)]).bind _=_
 rw[r]
 rfl
abbrev Fra:=Int×Int
def fr (x:Fra):D:=znL x.1 x.2
def N60:Nat:=1000000000000000000000000000000000000000000000000000000000000
theorem zuo:N60<=B9:=by rw[zqR];exact Nat.le_trans (show N60<=2 ^ 200 by decide) (Nat.pow_le_pow_right (by decide) (by decide))
theorem zsH:N60<=B13:=by rw[zrp];exact Nat.le_trans (show N60<=2 ^ 200 by decide) (Nat.pow_le_pow_right (by decide) (by decide))
structure Low (x:Fra):Prop where
 q1:1<=x.2
 g1:Int.gcd x.1 x.2=1
structure znK (x:Fra):Prop extends Low x where
 pN:x.1.natAbs < N60
 qN:x.2.natAbs < N60
def low (a b:Int):Fra:=(a / Int.gcd a b,b / Int.gcd a b)
theorem zsa {a b:Int}(hb:0 < b):Low (low a b):=by
 have hg:=zma (a:=a) (b:=b) (by omega)
 refine⟨?_,Int.gcd_ediv_gcd_ediv_gcd (by omega)⟩
 have:=Int.ediv_gcd_ne_zero_if_ne_zero_right a (show b≠0 by omega)
 have h2:0<=b / (Int.gcd a b:Int):=Int.ediv_nonneg (by omega) (by omega)
 show 1<=b / (Int.gcd a b:Int)
 omega
theorem zsc {a b:Int}:(low a b).1.natAbs<=a.natAbs:=Int.natAbs_ediv_le_natAbs _ _
theorem zsb {a b:Int}:(low a b).2.natAbs<=b.natAbs:=Int.natAbs_ediv_le_natAbs _ _
theorem zoE {a b:Int}(hb:0 < b)(h1:a.natAbs < B13)(h2:b.natAbs < B13):zbE [.int a,.int b]=.ok (fr (low a b)):=zoF hb h1 h2
theorem zvl {a b:Int}(hb:0 < b)(h1:a.natAbs < N60)(h2:b.natAbs < N60):znK (low a b):=⟨zsa hb,Nat.lt_of_le_of_lt zsc h1,Nat.lt_of_le_of_lt zsb h2⟩
theorem ziW {x:Fra}(h:Low x):zaP [fr x]=.ok (.bl true):=zl8 h.q1 h.g1
theorem zt3 {f:Ev->Res D}{tg:Ev->D->Res Ev}{s:Ev->Res Fl}{ρ:Ev}{ds:List D}(h:f ρ=.ok (.lst ds)):zq1 f tg s ρ=zcX tg s ds ρ:=by unfold zq1;rw[h];rfl
theorem zoU {tg:Ev->D->Res Ev}{body:Ev->Res Fl}(P:Ev->Prop):∀ {ds:List D},(∀ d∈ds,∀ ρ,P ρ->∃ ρ1 ρ2,tg ρ d=.ok ρ1/\body ρ1=.ok (.nx ρ2)/\P ρ2)->∀ ρ,P ρ->∃ ρ',zcX tg body ds ρ=.ok (.nx ρ')/\P ρ'
 | [],_,ρ,h=>⟨ρ,rfl,h⟩
 | d::r,hs,ρ,h=>by
  obtain⟨ρ1,ρ2,h1,h2,h3⟩:=hs d List.mem_cons_self ρ h
  obtain⟨ρ',h4,h5⟩:=zoU P (fun e he=>hs e (List.mem_cons_of_mem _ he)) ρ2 h3
  exact⟨ρ',by rw[zkk h1 h2];exact h4,h5⟩
theorem zuj {α:Type}{xs:List α}{k:Int}(h0:0<=k)(h1:k < xs.length):∃ x∈xs,atI xs k=some x:=by
 obtain⟨n,rfl⟩:=Int.eq_ofNat_of_zero_le h0
 have hn:n < xs.length:=by omega
 exact⟨xs[n],List.getElem_mem hn,zbn (List.getElem?_eq_getElem hn)⟩
theorem zt2 {ds:List D}{k:Int}(h0:0<=k)(h1:k < ds.length):∃ d∈ds,dIx (.lst ds) (.int k)=.ok d:=by
 obtain⟨d,hd,e⟩:=zuj h0 h1
 exact⟨d,hd,by unfold dIx;simp only[e]⟩
theorem zaw {α:Type}{a b:α}(h:a=b):a=b:=h
def ztd (t:Ev->Res Fl)(r:Fl):Res Fl:=match r with
 | .nx ρ'=>t ρ'
 | r=>.ok r
def zuW (i:Nat)(ρ:Ev)(d:D):Res Fl:=.ok (.nx (ρ.set i (.sh d)))
def zvO (d:D):Res Fl:=.ok (.rt d)
def zua (ρ:Ev)(_:D):Res Fl:=.ok (.nx ρ)
def ifK (s t:Ev->Res Fl)(ρ:Ev)(x:D):Res Fl:=match x with
 | .bl b=>if b=true then s ρ else t ρ
 | _=>.stuck
def zvY (i:Nat)(ρ:Ev)(d:D):Res Fl:=match d with
 | .lst ds=>.ok (.nx (ρ.set i (.ow (.lst ds))))
 | _=>.stuck
def ztG (s:Option Sl)(k:List D->Res Fl):Res Fl:=match s with
 | some (.ow (.lst ds))=>k ds
 | _=>.stuck
def zv5 (i:Nat)(ρ:Ev)(ds:List D)(d:D):Res Fl:=if ds.length < line then .ok (.nx (ρ.set i (.ow (.lst (ds++[d]))))) else .stuck
def zuk (i:Nat)(ρ:Ev)(ds:List D)(d:D):Res Fl:=if zrc d=true/\ds.length < line then .ok (.nx (ρ.set i (.ow (.lst (ds++[d]))))) else .stuck
def zu8 (i:Nat)(ρ:Ev)(k:Ev->Res D)(ds:List D)(d:D):Res Fl:=(k ρ).bind (DL.putAt ρ i ds d)
def zq5 (i:Nat)(ρ:Ev)(ds:List D)(d j:D):Res Fl:=if zrc d=true then DL.putAt ρ i ds d j else .stuck
def ztp (i:Nat)(ρ:Ev)(k:Ev->Res D)(ds:List D)(d:D):Res Fl:=(k (shr ρ)).bind (zq5 i ρ ds d)
def zsQ (is:List Nat)(ρ:Ev)(d:D):Res Fl:=match zdD is.length d with
 | some ds=>.ok (.nx (zdj ρ is ds))
 | none=>.stuck
def zvW (i j:Nat)(ρ:Ev)(ds:List D):Res Fl:=match ds with
 | [x,y]=>.ok (.nx ((ρ.set i (.sh x)).set j (.sh y)))
 | _=>.stuck
def k2 (g:Ev->Res D)(op:D->D->Res D)(ρ:Ev)(x:D):Res D:=(g ρ).bind (op x)
def zpc (x:D)(xs:List D):Res (List D):=.ok (x::xs)
def zuf (fa:Ev->Res (List D))(ρ:Ev)(x:D):Res (List D):=(fa ρ).bind (zpc x)
def zvI (g:Ev->Res D)(ρ:Ev)(x:D):Res D:=match x with
 | .bl true=>g ρ
 | .bl false=>.ok (.bl false)
 | _=>.stuck
def orK (g:Ev->Res D)(ρ:Ev)(x:D):Res D:=match x with
 | .bl true=>.ok (.bl true)
 | .bl false=>g ρ
 | _=>.stuck
def zv1 (x:D):Res D:=match x with
 | .bl b=>.ok (.bl (!b))
 | _=>.stuck
def zvm (f g:Ev->Res D)(ρ:Ev)(x:D):Res D:=match x with
 | .bl true=>f ρ
 | .bl false=>g ρ
 | _=>.stuck
def zvL (s:Option Sl):Res D:=match s with
 | some (.sh d)=>.ok d
 | _=>.stuck
def ztb (s:Sl):Sl:=match s with
 | .ow d=>.sh d
 | .ox _ ds=>.sh (.tup ds)
 | x=>x
def zu1 (r:Fl):Res D:=match r with
 | .nx _=>.ok .non
 | .rt d=>.ok d
 | _=>.stuck
def osK (x:D):Res (Option Int):=match x with
 | .int i=>.ok (some i)
 | _=>.stuck
def zqZ (x:D)(l:Option Int)(h:Option Int):Res D:=zkO x l h
def slK (hi:Ev->Res (Option Int))(ρ:Ev)(x:D)(l:Option Int):Res D:=(hi ρ).bind (zqZ x l)
def zvN (lo hi:Ev->Res (Option Int))(ρ:Ev)(x:D):Res D:=(lo ρ).bind (slK hi ρ x)
def zv4 (tg:Ev->D->Res Ev)(s:Ev->Res Fl)(ρ:Ev)(d:D):Res Fl:=match d with
 | .lst ds=>zcX tg s ds ρ
 | _=>.stuck
def zuA (op':D->D->Res D)(h:Ev->Res D)(ρ:Ev)(y z:D):Res D:=match z with
 | .bl true=>(h ρ).bind (op' y)
 | .bl false=>.ok (.bl false)
 | _=>.stuck
def zvF (op op':D->D->Res D)(h:Ev->Res D)(ρ:Ev)(x y:D):Res D:=(op x y).bind (zuA op' h ρ y)
def chK (op op':D->D->Res D)(g h:Ev->Res D)(ρ:Ev)(x:D):Res D:=(g ρ).bind (zvF op op' h ρ x)
section
variable {s t:Ev->Res Fl}{f g h:Ev->Res D}{fa:Ev->Res (List D)}{ρ r:Ev}{i j:Nat}{d x y:D}{ds xs:List D}{op op':D->D->Res D}{a b:Int}
theorem ev_ok {α β:Type}{a:α}{k:α->Res β}:(Res.ok a).bind k=k a:=zaw rfl
theorem ev_seq:zan s t ρ=(s ρ).bind (ztd t):=zaw rfl
theorem ev_seq1:ztd t (.nx ρ)=t ρ:=zaw rfl
theorem ev_seq2:ztd t (.rt d)=.ok (.rt d):=zaw rfl
theorem ev_seq3:ztd t (.bk ρ)=.ok (.bk ρ):=zaw rfl
theorem ev_seq4:ztd t (.ct ρ)=.ok (.ct ρ):=zaw rfl
theorem ev_next:zaj ρ=.ok (.nx ρ):=zaw rfl
theorem ev_set:zbc i f ρ=(f ρ).bind (zuW i ρ):=zaw rfl
theorem ev_set1:zuW i ρ d=.ok (.nx (ρ.set i (.sh d))):=zaw rfl
theorem ev_ret:zcy f ρ=(f (shr ρ)).bind zvO:=zaw rfl
theorem ev_ret1:zvO d=.ok (.rt d):=zaw rfl
theorem ev_retN:zuY ρ=.ok (.rt .non):=zaw rfl
theorem ev_drop:zj4 f ρ=(f (shr ρ)).bind (zua ρ):=zaw rfl
theorem ev_drop1:zua ρ d=.ok (.nx ρ):=zaw rfl
theorem ev_if:sIf f s t ρ=(f (shr ρ)).bind (ifK s t ρ):=zaw rfl
theorem ev_if1:ifK s t ρ (.bl true)=s ρ:=zaw rfl
theorem ev_if2:ifK s t ρ (.bl false)=t ρ:=zaw rfl
theorem ev_own:zsJ i f ρ=(f ρ).bind (zvY i ρ):=zaw rfl
theorem ev_own1:zvY i ρ (.lst ds)=.ok (.nx (ρ.set i (.ow (.lst ds)))):=zaw rfl
theorem ev_app:zc5 i f ρ=ztG ρ[i]? fun ds=>(f ρ).bind (zv5 i ρ ds):=zaw rfl
theorem ev_ownS {k:List D->Res Fl}:ztG (some (.ow (.lst ds))) k=k ds:=zaw rfl
theorem ev_app1 (h:decide (ds.length<=999)=true):zv5 i ρ ds d=.ok (.nx (ρ.set i (.ow (.lst (ds++[d]))))):=if_pos (Nat.lt_of_le_of_lt (of_decide_eq_true h) (by decide))
theorem ev_appL:zpR i f ρ=ztG ρ[i]? fun ds=>(f (shr ρ)).bind (zuk i ρ ds):=zaw rfl
theorem ev_appL1 (hf:zrc d=true)(h:decide (ds.length<=999)=true):zuk i ρ ds d=.ok (.nx (ρ.set i (.ow (.lst (ds++[d]))))):=if_pos ⟨hf,Nat.lt_of_le_of_lt (of_decide_eq_true h) (by decide)⟩
theorem ev_put:zwp i f g ρ=ztG ρ[i]? fun ds=>(f ρ).bind (zu8 i ρ g ds):=zaw rfl
theorem ev_put1:zu8 i ρ g ds d=(g ρ).bind (DL.putAt ρ i ds d):=zaw rfl
theorem ev_putL:zuZ i f g ρ=ztG ρ[i]? fun ds=>(f (shr ρ)).bind (ztp i ρ g ds):=zaw rfl
theorem ev_putL1:ztp i ρ g ds d=(g (shr ρ)).bind (zq5 i ρ ds d):=zaw rfl
theorem ev_frz:zwq i s ρ=s (unown i ρ):=zaw rfl
theorem ev_unp {is:List Nat}:zuu is f ρ=(f ρ).bind (zsQ is ρ):=zaw rfl
theorem ev_par:zq0 i j fa ρ=(fa ρ).bind (zvW i j ρ):=zaw rfl
theorem ev_par1:zvW i j ρ [x,y]=.ok (.nx ((ρ.set i (.sh x)).set j (.sh y))):=zaw rfl
theorem ev_b1 {o:D->Res D}:zbi f o ρ=(f ρ).bind o:=zaw rfl
theorem ev_b2:zab f g op ρ=(f ρ).bind (k2 g op ρ):=zaw rfl
theorem ev_b21:k2 g op ρ x=(g ρ).bind (op x):=zaw rfl
theorem ev_bA {m:List D->Res D}:zal fa m ρ=(fa ρ).bind m:=zaw rfl
theorem ev_nil:zar ρ=.ok []:=zaw rfl
theorem ev_cons:zad f fa ρ=(f ρ).bind (zuf fa ρ):=zaw rfl
theorem ev_cons1:zuf fa ρ x=(fa ρ).bind (zpc x):=zaw rfl
theorem ev_cons2:zpc x xs=.ok (x::xs):=zaw rfl
theorem ev_and:zhC f g ρ=(f ρ).bind (zvI g ρ):=zaw rfl
theorem ev_and1:zvI g ρ (.bl true)=g ρ:=zaw rfl
theorem ev_and2:zvI g ρ (.bl false)=.ok (.bl false):=zaw rfl
theorem ev_or:dOr f g ρ=(f ρ).bind (orK g ρ):=zaw rfl
theorem ev_or1:orK g ρ (.bl true)=.ok (.bl true):=zaw rfl
theorem ev_or2:orK g ρ (.bl false)=g ρ:=zaw rfl
theorem ev_not:zc3 f ρ=(f ρ).bind zv1:=zaw rfl
theorem ev_not1 {c:Bool}:zv1 (.bl c)=.ok (.bl (!c)):=zaw rfl
theorem ev_ifx:dIf h f g ρ=(h ρ).bind (zvm f g ρ):=zaw rfl
theorem ev_ifx1:zvm f g ρ (.bl true)=f ρ:=zaw rfl
theorem ev_ifx2:zvm f g ρ (.bl false)=g ρ:=zaw rfl
theorem ev_var:zaf i ρ=zvL ρ[i]?:=zaw rfl
theorem ev_var1:zvL (some (.sh d))=.ok d:=zaw rfl
theorem ev_C:dC d ρ=.ok d:=zaw rfl
theorem ev_shr0:shr []=[]:=zaw rfl
theorem ev_shr {c:Sl}:shr (c::r)=ztb c::shr r:=zaw rfl
theorem ev_shr1:ztb (.ow d)=.sh d:=zaw rfl
theorem ev_shr4:ztb (.ox j ds)=.sh (.tup ds):=zaw rfl
theorem ev_shr2:ztb (.sh d)=.sh d:=zaw rfl
theorem ev_shr3:ztb .no=.no:=zaw rfl
theorem ev_run {n:Nat}:zc6 n s ds=(s (ds.map Sl.sh++List.replicate (n-ds.length) .no)).bind zu1:=zaw rfl
theorem ev_run1:zu1 (.rt d)=.ok d:=zaw rfl
theorem ev_run2:zu1 (.nx ρ)=.ok .non:=zaw rfl
theorem ev_os:zbh f ρ=(f ρ).bind osK:=zaw rfl
theorem ev_os1:osK (.int a)=.ok (some a):=zaw rfl
theorem ev_on:zeN ρ=.ok none:=zaw rfl
theorem ev_sl {lo hi:Ev->Res (Option Int)}:zgS f lo hi ρ=(f ρ).bind (zvN lo hi ρ):=zaw rfl
theorem ev_sl0 {lo hi:Ev->Res (Option Int)}:zvN lo hi ρ x=(lo ρ).bind (slK hi ρ x):=zaw rfl
theorem ev_sl1 {hi:Ev->Res (Option Int)}{l:Option Int}:slK hi ρ x l=(hi ρ).bind (zqZ x l):=zaw rfl
theorem ev_sl2 {l l':Option Int}:zqZ (.lst ds) l l'=.ok (.lst (zcA ds l l')):=zaw rfl
theorem ev_for {tg:Ev->D->Res Ev}:zq1 f tg s ρ=(f ρ).bind (zv4 tg s ρ):=zaw rfl
theorem ev_for1 {tg:Ev->D->Res Ev}:zv4 tg s ρ (.lst ds)=zcX tg s ds ρ:=zaw rfl
theorem ev_chain:zfK op op' f g h ρ=(f ρ).bind (chK op op' g h ρ):=zaw rfl
theorem ev_ch:chK op op' g h ρ x=(g ρ).bind (zvF op op' h ρ x):=zaw rfl
theorem ev_ch1:zvF op op' h ρ x y=(op x y).bind (zuA op' h ρ y):=zaw rfl
theorem ev_ch2:zuA op' h ρ y (.bl true)=(h ρ).bind (op' y):=zaw rfl
theorem ev_ch3:zuA op' h ρ y (.bl false)=.ok (.bl false):=zaw rfl
theorem ev_iop {o:Int->Int->D}:iop (fun _ _=>true) o (.int a) (.int b)=.ok (o a b):=zaw rfl
theorem ev_add:zbe (.int a) (.int b)=.ok (.int (a+b)):=zaw rfl
theorem ev_addL {es:List D}(h:decide (ds.length+es.length<=1000)=true):zbe (.lst ds) (.lst es)=.ok (.lst (ds++es)):=if_pos (Nat.le_trans (of_decide_eq_true h) (by decide))
theorem ev_neg:zpu (.int a)=.ok (.int (-a)):=zaw rfl
theorem ev_m1 {m:D->Res D}:m1 m [x]=m x:=zaw rfl
theorem ev_m2 {m:D->D->Res D}:m2 m [x,y]=m x y:=zaw rfl
theorem ev_lenL:zey (.lst ds)=.ok (.int ds.length):=zaw rfl
theorem ev_lenT:zey (.tup ds)=.ok (.int ds.length):=zaw rfl
theorem ev_tup (h:decide (ds.length<=1000)=true):zjC ds=.ok (.tup ds):=if_pos (Nat.le_trans (of_decide_eq_true h) (by decide))
theorem ev_lst (h:decide (ds.length<=1000)=true):zdm ds=.ok (.lst ds):=if_pos (Nat.le_trans (of_decide_eq_true h) (by decide))
theorem ev_is_bool_non:zcq "bool" (.non)=.ok (.bl false):=zaw rfl
theorem ev_is_bool_bl {c:Bool}:zcq "bool" (.bl c)=.ok (.bl true):=zaw rfl
theorem ev_is_bool_int:zcq "bool" (.int a)=.ok (.bl false):=zaw rfl
theorem ev_is_bool_str {z:Str}:zcq "bool" (.str z)=.ok (.bl false):=zaw rfl
theorem ev_is_bool_tup:zcq "bool" (.tup ds)=.ok (.bl false):=zaw rfl
theorem ev_is_bool_lst:zcq "bool" (.lst ds)=.ok (.bl false):=zaw rfl
theorem ev_is_bool_dic {ks:List Str}:zcq "bool" (.dic ks ds)=.ok (.bl false):=zaw rfl
theorem ev_is_int_non:zcq "int" (.non)=.ok (.bl false):=zaw rfl
theorem ev_is_int_bl {c:Bool}:zcq "int" (.bl c)=.ok (.bl true):=zaw rfl
theorem ev_is_int_int:zcq "int" (.int a)=.ok (.bl true):=zaw rfl
theorem ev_is_int_str {z:Str}:zcq "int" (.str z)=.ok (.bl false):=zaw rfl
theorem ev_is_int_tup:zcq "int" (.tup ds)=.ok (.bl false):=zaw rfl
theorem ev_is_int_lst:zcq "int" (.lst ds)=.ok (.bl false):=zaw rfl
theorem ev_is_int_dic {ks:List Str}:zcq "int" (.dic ks ds)=.ok (.bl false):=zaw rfl
theorem ev_is_str_non:zcq "str" (.non)=.ok (.bl false):=zaw rfl
theorem ev_is_str_bl {c:Bool}:zcq "str" (.bl c)=.ok (.bl false):=zaw rfl
theorem ev_is_str_int:zcq "str" (.int a)=.ok (.bl false):=zaw rfl
theorem ev_is_str_str {z:Str}:zcq "str" (.str z)=.ok (.bl true):=zaw rfl
theorem ev_is_str_tup:zcq "str" (.tup ds)=.ok (.bl false):=zaw rfl
theorem ev_is_str_lst:zcq "str" (.lst ds)=.ok (.bl false):=zaw rfl
theorem ev_is_str_dic {ks:List Str}:zcq "str" (.dic ks ds)=.ok (.bl false):=zaw rfl
theorem ev_is_tuple_non:zcq "tuple" (.non)=.ok (.bl false):=zaw rfl
theorem ev_is_tuple_bl {c:Bool}:zcq "tuple" (.bl c)=.ok (.bl false):=zaw rfl
theorem ev_is_tuple_int:zcq "tuple" (.int a)=.ok (.bl false):=zaw rfl
theorem ev_is_tuple_str {z:Str}:zcq "tuple" (.str z)=.ok (.bl false):=zaw rfl
theorem ev_is_tuple_tup:zcq "tuple" (.tup ds)=.ok (.bl true):=zaw rfl
theorem ev_is_tuple_lst:zcq "tuple" (.lst ds)=.ok (.bl false):=zaw rfl
theorem ev_is_tuple_dic {ks:List Str}:zcq "tuple" (.dic ks ds)=.ok (.bl false):=zaw rfl
theorem ev_is_list_non:zcq "list" (.non)=.ok (.bl false):=zaw rfl
theorem ev_is_list_bl {c:Bool}:zcq "list" (.bl c)=.ok (.bl false):=zaw rfl
theorem ev_is_list_int:zcq "list" (.int a)=.ok (.bl false):=zaw rfl
theorem ev_is_list_str {z:Str}:zcq "list" (.str z)=.ok (.bl false):=zaw rfl
theorem ev_is_list_tup:zcq "list" (.tup ds)=.ok (.bl false):=zaw rfl
theorem ev_is_list_lst:zcq "list" (.lst ds)=.ok (.bl true):=zaw rfl
theorem ev_is_list_dic {ks:List Str}:zcq "list" (.dic ks ds)=.ok (.bl false):=zaw rfl
theorem ev_is_dict_non:zcq "dict" (.non)=.ok (.bl false):=zaw rfl
theorem ev_is_dict_bl {c:Bool}:zcq "dict" (.bl c)=.ok (.bl false):=zaw rfl
theorem ev_is_dict_int:zcq "dict" (.int a)=.ok (.bl false):=zaw rfl
theorem ev_is_dict_str {z:Str}:zcq "dict" (.str z)=.ok (.bl false):=zaw rfl
theorem ev_is_dict_tup:zcq "dict" (.tup ds)=.ok (.bl false):=zaw rfl
theorem ev_is_dict_lst:zcq "dict" (.lst ds)=.ok (.bl false):=zaw rfl
theorem ev_is_dict_dic {ks:List Str}:zcq "dict" (.dic ks ds)=.ok (.bl true):=zaw rfl
theorem ev_isN_non:zly (.non) .non=.ok (.bl true):=zaw rfl
theorem ev_notN_non:zh9 (.non) .non=.ok (.bl false):=zaw rfl
theorem ev_isN_bl {c:Bool}:zly (.bl c) .non=.ok (.bl false):=zaw rfl
theorem ev_notN_bl {c:Bool}:zh9 (.bl c) .non=.ok (.bl true):=zaw rfl
theorem ev_isN_int:zly (.int a) .non=.ok (.bl false):=zaw rfl
theorem ev_notN_int:zh9 (.int a) .non=.ok (.bl true):=zaw rfl
theorem ev_isN_str {z:Str}:zly (.str z) .non=.ok (.bl false):=zaw rfl
theorem ev_notN_str {z:Str}:zh9 (.str z) .non=.ok (.bl true):=zaw rfl
theorem ev_isN_tup:zly (.tup ds) .non=.ok (.bl false):=zaw rfl
theorem ev_notN_tup:zh9 (.tup ds) .non=.ok (.bl true):=zaw rfl
theorem ev_isN_lst:zly (.lst ds) .non=.ok (.bl false):=zaw rfl
theorem ev_notN_lst:zh9 (.lst ds) .non=.ok (.bl true):=zaw rfl
theorem ev_isN_dic {ks:List Str}:zly (.dic ks ds) .non=.ok (.bl false):=zaw rfl
theorem ev_notN_dic {ks:List Str}:zh9 (.dic ks ds) .non=.ok (.bl true):=zaw rfl
theorem zmU (h:zh3 a b=true):zcv (.int a) (.int b)=.ok (.int (a*b)):=if_pos h
theorem ev_mod (h:(b==0)=false):zdV (.int a) (.int b)=.ok (.int (a.fmod b)):=zg3 (fun z=>by rw[z] at h;cases h)
theorem zt6 (h:zh8 a b=true):zmf (.int a) (.int b)=.ok (.int (a.fdiv b)):=if_pos h
theorem ev_unpL {is:List Nat}(h:(ds.length==is.length)=true):zsQ is ρ (.lst ds)=.ok (.nx (zdj ρ is ds)):=by
 unfold zsQ zdD
 simp only[if_pos (eq_of_beq h)]
theorem ev_unpT {is:List Nat}(h:(ds.length==is.length)=true):zsQ is ρ (.tup ds)=.ok (.nx (zdj ρ is ds)):=by
 unfold zsQ zdD
 simp only[if_pos (eq_of_beq h)]
theorem ev_sa {is:List Nat}:zdj ρ (i::is) (d::ds)=zdj (ρ.set i (.sh d)) is ds:=zaw rfl
theorem ev_sa0:zdj ρ [] ds=ρ:=zaw rfl
def unK (i:Nat)(ρ:Ev)(s:Option Sl):Ev:=match s with
 | some (.ow d)=>ρ.set i (.sh d)
 | _=>ρ
theorem ev_un:unown i ρ=unK i ρ ρ[i]?:=zaw rfl
theorem ev_un1:unK i ρ (some (.ow d))=ρ.set i (.sh d):=zaw rfl
theorem ev_un2:unK i ρ (some (.sh d))=ρ:=zaw rfl
theorem ev_un3:unK i ρ (some .no)=ρ:=zaw rfl
theorem zhb {n:Nat}{j:Int}(h:ixN ds.length j=some n):DL.putAt ρ i ds d (.int j)=.ok (.nx (ρ.set i (.ow (.lst (ds.set n d))))):=by
 unfold DL.putAt
 simp only[h]
theorem ev_ixL0 {x0:D}:dIx (.lst (x0::xs)) (.int 0)=.ok x0:=by
 unfold dIx
 simp only[show atI (x0::xs) 0=some x0 from zbn (j:=0) rfl]
theorem ev_ixT0 {x0:D}:dIx (.tup (x0::xs)) (.int 0)=.ok x0:=by
 unfold dIx
 simp only[show atI (x0::xs) 0=some x0 from zbn (j:=0) rfl]
theorem ev_ixL1 {x0 x1:D}:dIx (.lst (x0::x1::xs)) (.int 1)=.ok x1:=by
 unfold dIx
 simp only[show atI (x0::x1::xs) 1=some x1 from zbn (j:=1) rfl]
theorem ev_ixT1 {x0 x1:D}:dIx (.tup (x0::x1::xs)) (.int 1)=.ok x1:=by
 unfold dIx
 simp only[show atI (x0::x1::xs) 1=some x1 from zbn (j:=1) rfl]
theorem ev_ixL2 {x0 x1 x2:D}:dIx (.lst (x0::x1::x2::xs)) (.int 2)=.ok x2:=by
 unfold dIx
 simp only[show atI (x0::x1::x2::xs) 2=some x2 from zbn (j:=2) rfl]
theorem ev_ixT2 {x0 x1 x2:D}:dIx (.tup (x0::x1::x2::xs)) (.int 2)=.ok x2:=by
 unfold dIx
 simp only[show atI (x0::x1::x2::xs) 2=some x2 from zbn (j:=2) rfl]
theorem ev_ixL3 {x0 x1 x2 x3:D}:dIx (.lst (x0::x1::x2::x3::xs)) (.int 3)=.ok x3:=by
 unfold dIx
 simp only[show atI (x0::x1::x2::x3::xs) 3=some x3 from zbn (j:=3) rfl]
theorem ev_ixT3 {x0 x1 x2 x3:D}:dIx (.tup (x0::x1::x2::x3::xs)) (.int 3)=.ok x3:=by
 unfold dIx
 simp only[show atI (x0::x1::x2::x3::xs) 3=some x3 from zbn (j:=3) rfl]
theorem ev_ixL4 {x0 x1 x2 x3 x4:D}:dIx (.lst (x0::x1::x2::x3::x4::xs)) (.int 4)=.ok x4:=by
 unfold dIx
 simp only[show atI (x0::x1::x2::x3::x4::xs) 4=some x4 from zbn (j:=4) rfl]
theorem ev_ixT4 {x0 x1 x2 x3 x4:D}:dIx (.tup (x0::x1::x2::x3::x4::xs)) (.int 4)=.ok x4:=by
 unfold dIx
 simp only[show atI (x0::x1::x2::x3::x4::xs) 4=some x4 from zbn (j:=4) rfl]
theorem ev_ixL5 {x0 x1 x2 x3 x4 x5:D}:dIx (.lst (x0::x1::x2::x3::x4::x5::xs)) (.int 5)=.ok x5:=by
 unfold dIx
 simp only[show atI (x0::x1::x2::x3::x4::x5::xs) 5=some x5 from zbn (j:=5) rfl]
theorem ev_ixT5 {x0 x1 x2 x3 x4 x5:D}:dIx (.tup (x0::x1::x2::x3::x4::x5::xs)) (.int 5)=.ok x5:=by
 unfold dIx
 simp only[show atI (x0::x1::x2::x3::x4::x5::xs) 5=some x5 from zbn (j:=5) rfl]
theorem ev_ixL6 {x0 x1 x2 x3 x4 x5 x6:D}:dIx (.lst (x0::x1::x2::x3::x4::x5::x6::xs)) (.int 6)=.ok x6:=by
 unfold dIx
 simp only[show atI (x0::x1::x2::x3::x4::x5::x6::xs) 6=some x6 from zbn (j:=6) rfl]
theorem ev_ixL7 {x0 x1 x2 x3 x4 x5 x6 x7:D}:dIx (.lst (x0::x1::x2::x3::x4::x5::x6::x7::xs)) (.int 7)=.ok x7:=by
 unfold dIx
 simp only[show atI (x0::x1::x2::x3::x4::x5::x6::x7::xs) 7=some x7 from zbn (j:=7) rfl]
theorem ev_ixL8 {x0 x1 x2 x3 x4 x5 x6 x7 x8:D}:dIx (.lst (x0::x1::x2::x3::x4::x5::x6::x7::x8::xs)) (.int 8)=.ok x8:=by
 unfold dIx
 simp only[show atI (x0::x1::x2::x3::x4::x5::x6::x7::x8::xs) 8=some x8 from zbn (j:=8) rfl]
theorem ev_ixL9 {x0 x1 x2 x3 x4 x5 x6 x7 x8 x9:D}:dIx (.lst (x0::x1::x2::x3::x4::x5::x6::x7::x8::x9::xs)) (.int 9)=.ok x9:=by
 unfold dIx
 simp only[show atI (x0::x1::x2::x3::x4::x5::x6::x7::x8::x9::xs) 9=some x9 from zbn (j:=9) rfl]
theorem ev_ixL10 {x0 x1 x2 x3 x4 x5 x6 x7 x8 x9 x10:D}:dIx (.lst (x0::x1::x2::x3::x4::x5::x6::x7::x8::x9::x10::xs)) (.int 10)=.ok x10:=by
 unfold dIx
 simp only[show atI (x0::x1::x2::x3::x4::x5::x6::x7::x8::x9::x10::xs) 10=some x10 from zbn (j:=10) rfl]
theorem ev_ixL11 {x0 x1 x2 x3 x4 x5 x6 x7 x8 x9 x10 x11:D}:dIx (.lst (x0::x1::x2::x3::x4::x5::x6::x7::x8::x9::x10::x11::xs)) (.int 11)=.ok x11:=by
 unfold dIx
 simp only[show atI (x0::x1::x2::x3::x4::x5::x6::x7::x8::x9::x10::x11::xs) 11=some x11 from zbn (j:=11) rfl]
theorem ev_ixL12 {x0 x1 x2 x3 x4 x5 x6 x7 x8 x9 x10 x11 x12:D}:dIx (.lst (x0::x1::x2::x3::x4::x5::x6::x7::x8::x9::x10::x11::x12::xs)) (.int 12)=.ok x12:=by
 unfold dIx
 simp only[show atI (x0::x1::x2::x3::x4::x5::x6::x7::x8::x9::x10::x11::x12::xs) 12=some x12 from zbn (j:=12) rfl]
theorem ev_ixL13 {x0 x1 x2 x3 x4 x5 x6 x7 x8 x9 x10 x11 x12 x13:D}:dIx (.lst (x0::x1::x2::x3::x4::x5::x6::x7::x8::x9::x10::x11::x12::x13::xs)) (.int 13)=.ok x13:=by
 unfold dIx
 simp only[show atI (x0::x1::x2::x3::x4::x5::x6::x7::x8::x9::x10::x11::x12::x13::xs) 13=some x13 from zbn (j:=13) rfl]
theorem ev_c0:((0:Nat):Int)=0:=zaw rfl
theorem ev_c1:((1:Nat):Int)=1:=zaw rfl
theorem ev_c2:((2:Nat):Int)=2:=zaw rfl
theorem ev_c3:((3:Nat):Int)=3:=zaw rfl
theorem ev_c4:((4:Nat):Int)=4:=zaw rfl
theorem ev_c5:((5:Nat):Int)=5:=zaw rfl
theorem ev_c6:((6:Nat):Int)=6:=zaw rfl
theorem ev_c7:((7:Nat):Int)=7:=zaw rfl
theorem ev_c8:((8:Nat):Int)=8:=zaw rfl
theorem ev_c9:((9:Nat):Int)=9:=zaw rfl
theorem ev_c10:((10:Nat):Int)=10:=zaw rfl
theorem ev_c11:((11:Nat):Int)=11:=zaw rfl
theorem ev_pt0 {x0:D}:DL.putAt ρ i (x0::xs) d (.int 0)=.ok (.nx (ρ.set i (.ow (.lst (d::xs))))):=by
 refine(zhb (n:=0) ?_).trans rfl
 unfold ixN
 rw[if_pos (by decide),if_pos (by simp only[List.length_cons];omega)]
 rfl
theorem ev_pt1 {x0 x1:D}:DL.putAt ρ i (x0::x1::xs) d (.int 1)=.ok (.nx (ρ.set i (.ow (.lst (x0::d::xs))))):=by
 refine(zhb (n:=1) ?_).trans rfl
 unfold ixN
 rw[if_pos (by decide),if_pos (by simp only[List.length_cons];omega)]
 rfl
theorem ev_pt2 {x0 x1 x2:D}:DL.putAt ρ i (x0::x1::x2::xs) d (.int 2)=.ok (.nx (ρ.set i (.ow (.lst (x0::x1::d::xs))))):=by
 refine(zhb (n:=2) ?_).trans rfl
 unfold ixN
 rw[if_pos (by decide),if_pos (by simp only[List.length_cons];omega)]
 rfl
theorem ev_pt3 {x0 x1 x2 x3:D}:DL.putAt ρ i (x0::x1::x2::x3::xs) d (.int 3)=.ok (.nx (ρ.set i (.ow (.lst (x0::x1::x2::d::xs))))):=by
 refine(zhb (n:=3) ?_).trans rfl
 unfold ixN
 rw[if_pos (by decide),if_pos (by simp only[List.length_cons];omega)]
 rfl
theorem ev_pt4 {x0 x1 x2 x3 x4:D}:DL.putAt ρ i (x0::x1::x2::x3::x4::xs) d (.int 4)=.ok (.nx (ρ.set i (.ow (.lst (x0::x1::x2::x3::d::xs))))):=by
 refine(zhb (n:=4) ?_).trans rfl
 unfold ixN
 rw[if_pos (by decide),if_pos (by simp only[List.length_cons];omega)]
 rfl
theorem ev_p60:zjN (.int 10) (.int 60)=.ok (.int (N60:Int)):=by
 have e:(10:Int) ^ (60:Int).toNat=(N60:Int):=by decide
 rw[← e]
 rfl
end
def ztY (fa:Ev->Res (List D))(ρ:Ev)(x:D):Res D:=match x with
 | .str z=>(fa ρ).bind (zl7 z)
 | _=>.stuck
theorem ev_join {f:Ev->Res D}{fa:Ev->Res (List D)}{ρ:Ev}:zqG f fa ρ=(f ρ).bind (ztY fa ρ):=zaw rfl
theorem ev_join1 {fa:Ev->Res (List D)}{ρ:Ev}{z:Str}:ztY fa ρ (.str z)=(fa ρ).bind (zl7 z):=zaw rfl
def zvP (g:Ev->Res D)(ρ:Ev)(x:D):Res D:=match x with
 | .lst ds=>(g ρ).bind (zqF (.lst ds))
 | _=>.stuck
theorem ev_rep {f g:Ev->Res D}{ρ:Ev}:zq2 f g ρ=(f ρ).bind (zvP g ρ):=zaw rfl
theorem ev_rep1 {g:Ev->Res D}{ρ:Ev}{ds:List D}:zvP g ρ (.lst ds)=(g ρ).bind (zqF (.lst ds)):=zaw rfl
theorem zmS {α:Type}{x:α}:∀ {n:Nat},(List.replicate n [x]).flatten=List.replicate n x
 | 0=>rfl
 | n+1=>by rw[List.replicate_succ,List.flatten_cons,zmS,List.replicate_succ];rfl
theorem ev_rep2 {x:D}{k:Int}(h:(decide (0<=k)&&decide (k<=1000))=true):zqF (.lst [x]) (.int k)=.ok (.lst (List.replicate k.toNat x)):=by
 simp only[Bool.and_eq_true,decide_eq_true_eq] at h
 unfold zqF
 have:([x]:List D).length*k.toNat<=line/\-9223372036854775808<=k/\k < 9223372036854775808:=⟨by
  have h2:k.toNat<=1000:=by omega
  show 1*k.toNat<=line
  have:(1000:Nat)<=line:=by decide
  omega,by omega,by omega⟩
 simp only[if_pos this,zmS]
def zcw:Ev->Res Fl :=
 (zan (sIf (dOr (zc3 (zbi (zaf 0) (zcq "str"))) (zc3 (zfK dLe dLe (dC (.int 1)) (zal (zad (zaf 0) zar) (m1 zey)) (dC (.int 8)))))
 (zan (zcy (dC (.bl false)))
 zaj)
 zaj)
 (zan (zcy (zal (zad (zfL 1 [] (zur (zaf 0)) (zdW 0) mYes (zab (zaf 0) (dC (.str "abcdefghijklmnopqrstuvwxyz")) dIn)) zar) (m1 zuy)))
 zaj))
def zcg:List D->Res D:=zc6 1 zcw
def zbx:Ev->Res Fl :=
 (zan (sIf (dOr (zc3 (zbi (zaf 0) (zcq "tuple"))) (zab (zal (zad (zaf 0) zar) (m1 zey)) (dC (.int 2)) dNe))
 (zan (zcy (dC (.bl false)))
 zaj)
 zaj)
 (zan (sIf (dOr (zc3 (zal (zad (zab (zaf 0) (dC (.int 0)) dIx) zar) zbQ)) (zc3 (zal (zad (zab (zaf 0) (dC (.int 1)) dIx) zar) zbQ)))
 (zan (zcy (dC (.bl false)))
 zaj)
 zaj)
 (zan (zcy (zhC (zab (zab (zaf 0) (dC (.int 1)) dIx) (dC (.int 1)) dGe) (zab (zal (zad (zab (zaf 0) (dC (.int 0)) dIx) (zad (zab (zaf 0) (dC (.int 1)) dIx) zar)) zbb) (dC (.int 1)) dEq)))
 zaj)))
def zco:List D->Res D:=zc6 1 zbx
def abc:Str:="abcdefghijklmnopqrstuvwxyz"
def znw (c:Nat):Bool:=occ ⟨#[c]⟩ abc
def zkg (z:Str):Bool:=decide (1<=z.length)&&(decide (z.length<=8)&&z.cps.toList.all znw)
def zvk:D->Bool
 | .str z=>zkg z
 | _=>false
def fit:D->Bool
 | .str z=>decide (z.length<=line)
 | _=>true
theorem zlm {b:Ev}{tg:Ev->D->Res Ev}{tt fe:Ev->Res D}{F:D->D}:∀ {ds:List D},(∀ d∈ds,∃ ρ1,tg b d=.ok ρ1/\tt ρ1=.ok (.bl true)/\fe ρ1=.ok (F d))->zca b tg tt fe ds=.ok (ds.map F)
 | [],_=>rfl
 | d::r,h=>by
  obtain⟨ρ1,h1,h2,h3⟩:=h d List.mem_cons_self
  rw[zfM h1 h2 h3,zlm (fun e he=>h e (List.mem_cons_of_mem _ he))]
  rfl
theorem zjk {α:Type}(F:α->Bool):∀ (cs:List α),zfO (cs.map fun c=>D.bl (F c))=some (cs.map F)
 | []=>rfl
 | c::r=>by
  show(zfO (r.map fun c=>D.bl (F c))).map (F c::·)=_
  rw[zjk F r];rfl
theorem znp {z:Str}(hz:z.length<=line):zfL 1 [] (zur (zaf 0)) (zdW 0) mYes (zab (zaf 0) (dC (.str "abcdefghijklmnopqrstuvwxyz")) dIn) [.sh (.str z)]=.ok (.lst (z.cps.toList.map fun c=>.bl (znw c))):=by
 have hl:(zhN z).length<=line:=by rw[zhl];exact hz
 unfold zfL
 show(if(zhN z).length<=line then _ else _)=_
 rw[if_pos hl]
 have:zca (zcZ 1 [] [.sh (.str z)]) (zdW 0) mYes (zab (zaf 0) (dC (.str "abcdefghijklmnopqrstuvwxyz")) dIn) (zhN z)=.ok (z.cps.toList.map fun c=>D.bl (znw c)):=by
  unfold zhN
  induction z.cps.toList with
  | nil=>rfl
  | cons c r ih =>
   rw[List.map_cons,zfM (x:=.bl (znw c)) rfl rfl rfl,ih]
   rfl
 rw[this]
theorem znu {d:D}(h:fit d=true):zcg [d]=.ok (.bl (zvk d)):=by
 cases d with
 | str z =>
  have hz:z.length<=line:=of_decide_eq_true h
  have hlen:zey (.str z)=.ok (.int z.length):=if_pos hz
  show zc6 1 zcw _=.ok (.bl (zkg z))
  unfold zkg
  by_cases h1:1<=z.length
  ·by_cases h8:z.length<=8
   ·have e1:decide ((1:Int)<=(z.length:Int))=true:=decide_eq_true (by omega)
    have e2:decide ((z.length:Int)<=8)=true:=decide_eq_true (by omega)
    simp only[zcw,ev_ok,ev_seq,ev_seq1,ev_seq2,ev_seq3,ev_seq4,ev_next,ev_set,ev_set1,ev_ret,ev_ret1,ev_retN,ev_drop,ev_drop1,ev_if,ev_if1,ev_if2,ev_own,ev_own1,ev_app,ev_ownS,ev_appL,ev_put,ev_put1,ev_putL,ev_putL1,ev_frz,ev_unp,ev_par,ev_par1,ev_b1,ev_b2,ev_b21,ev_bA,ev_nil,ev_cons,ev_cons1,ev_cons2,ev_and,ev_and1,ev_and2,ev_or,ev_or1,ev_or2,ev_not,ev_not1,ev_ifx,ev_ifx1,ev_ifx2,ev_var,ev_var1,ev_C,ev_shr0,ev_shr,ev_shr1,ev_shr2,ev_shr3,ev_run,ev_run1,ev_run2,ev_os,ev_os1,ev_on,ev_sl,ev_sl0,ev_sl1,ev_sl2,ev_for,ev_for1,ev_chain,ev_ch,ev_ch1,ev_ch2,ev_ch3,ev_iop,ev_add,ev_neg,ev_m1,ev_m2,ev_lenL,ev_lenT,ev_p60,eq_int,ne_int,List.map_cons,List.map_nil,List.length_cons,List.length_nil,List.replicate_succ,List.replicate_zero,List.nil_append,List.cons_append,List.getElem?_cons_zero,List.getElem?_cons_succ,List.set_cons_zero,List.set_cons_succ,Nat.sub_zero,Nat.reduceSub,Nat.reduceAdd,Nat.add_zero,Nat.zero_add,Bool.not_true,Bool.not_false,ev_tup,ev_lst,ev_addL,ev_app1,ev_appL1,ev_mod,ev_unpL,ev_unpT,ev_sa,ev_sa0,ev_un,ev_un1,ev_un2,ev_un3,ev_ixL0,ev_ixL1,ev_ixL2,ev_ixL3,ev_ixL4,ev_ixL5,ev_ixL6,ev_ixL7,ev_ixL8,ev_ixL9,ev_ixL10,ev_ixL11,ev_ixL12,ev_ixL13,ev_ixT0,ev_ixT1,ev_ixT2,ev_ixT3,ev_ixT4,ev_ixT5,decide_true,decide_false,Nat.reduceLeDiff,Nat.reduceBEq,Int.reduceBEq,beq_self_eq_true,dOne,mYes,ev_is_bool_non,ev_is_bool_bl,ev_is_bool_int,ev_is_bool_str,ev_is_bool_tup,ev_is_bool_lst,ev_is_bool_dic,ev_is_int_non,ev_is_int_bl,ev_is_int_int,ev_is_int_str,ev_is_int_tup,ev_is_int_lst,ev_is_int_dic,ev_is_str_non,ev_is_str_bl,ev_is_str_int,ev_is_str_str,ev_is_str_tup,ev_is_str_lst,ev_is_str_dic,ev_is_tuple_non,ev_is_tuple_bl,ev_is_tuple_int,ev_is_tuple_str,ev_is_tuple_tup,ev_is_tuple_lst,ev_is_tuple_dic,ev_is_list_non,ev_is_list_bl,ev_is_list_int,ev_is_list_str,ev_is_list_tup,ev_is_list_lst,ev_is_list_dic,ev_is_dict_non,ev_is_dict_bl,ev_is_dict_int,ev_is_dict_str,ev_is_dict_tup,ev_is_dict_lst,ev_is_dict_dic,ev_isN_non,ev_notN_non,ev_isN_bl,ev_notN_bl,ev_isN_int,ev_notN_int,ev_isN_str,ev_notN_str,ev_isN_tup,ev_notN_tup,ev_isN_lst,ev_notN_lst,ev_isN_dic,ev_notN_dic,ev_c0,ev_c1,ev_c2,ev_c3,ev_c4,ev_c5,ev_c6,ev_c7,ev_c8,ev_c9,ev_c10,ev_c11,Int.reduceLT,Int.reduceLE,Int.reduceSub,Int.reduceAdd,Int.reduceMul,Int.reduceNeg,ev_join,ev_join1,ev_pt0,ev_pt1,ev_pt2,ev_pt3,ev_pt4,ev_rep,ev_rep1,ev_rep2,Int.reduceToNat,Bool.and_self,hlen,e1,e2,znp hz,zuy,zjk,decide_eq_true h1,decide_eq_true h8,Bool.true_and]
    simp [List.all_map,Function.comp_def]
   ·have e1:decide ((1:Int)<=(z.length:Int))=true:=decide_eq_true (by omega)
    have e2:decide ((z.length:Int)<=8)=false:=decide_eq_false (by omega)
    simp only[zcw,ev_ok,ev_seq,ev_seq1,ev_seq2,ev_seq3,ev_seq4,ev_next,ev_set,ev_set1,ev_ret,ev_ret1,ev_retN,ev_drop,ev_drop1,ev_if,ev_if1,ev_if2,ev_own,ev_own1,ev_app,ev_ownS,ev_appL,ev_put,ev_put1,ev_putL,ev_putL1,ev_frz,ev_unp,ev_par,ev_par1,ev_b1,ev_b2,ev_b21,ev_bA,ev_nil,ev_cons,ev_cons1,ev_cons2,ev_and,ev_and1,ev_and2,ev_or,ev_or1,ev_or2,ev_not,ev_not1,ev_ifx,ev_ifx1,ev_ifx2,ev_var,ev_var1,ev_C,ev_shr0,ev_shr,ev_shr1,ev_shr2,ev_shr3,ev_run,ev_run1,ev_run2,ev_os,ev_os1,ev_on,ev_sl,ev_sl0,ev_sl1,ev_sl2,ev_for,ev_for1,ev_chain,ev_ch,ev_ch1,ev_ch2,ev_ch3,ev_iop,ev_add,ev_neg,ev_m1,ev_m2,ev_lenL,ev_lenT,ev_p60,eq_int,ne_int,List.map_cons,List.map_nil,List.length_cons,List.length_nil,List.replicate_succ,List.replicate_zero,List.nil_append,List.cons_append,List.getElem?_cons_zero,List.getElem?_cons_succ,List.set_cons_zero,List.set_cons_succ,Nat.sub_zero,Nat.reduceSub,Nat.reduceAdd,Nat.add_zero,Nat.zero_add,Bool.not_true,Bool.not_false,ev_tup,ev_lst,ev_addL,ev_app1,ev_appL1,ev_mod,ev_unpL,ev_unpT,ev_sa,ev_sa0,ev_un,ev_un1,ev_un2,ev_un3,ev_ixL0,ev_ixL1,ev_ixL2,ev_ixL3,ev_ixL4,ev_ixL5,ev_ixL6,ev_ixL7,ev_ixL8,ev_ixL9,ev_ixL10,ev_ixL11,ev_ixL12,ev_ixL13,ev_ixT0,ev_ixT1,ev_ixT2,ev_ixT3,ev_ixT4,ev_ixT5,decide_true,decide_false,Nat.reduceLeDiff,Nat.reduceBEq,Int.reduceBEq,beq_self_eq_true,dOne,mYes,ev_is_bool_non,ev_is_bool_bl,ev_is_bool_int,ev_is_bool_str,ev_is_bool_tup,ev_is_bool_lst,ev_is_bool_dic,ev_is_int_non,ev_is_int_bl,ev_is_int_int,ev_is_int_str,ev_is_int_tup,ev_is_int_lst,ev_is_int_dic,ev_is_str_non,ev_is_str_bl,ev_is_str_int,ev_is_str_str,ev_is_str_tup,ev_is_str_lst,ev_is_str_dic,ev_is_tuple_non,ev_is_tuple_bl,ev_is_tuple_int,ev_is_tuple_str,ev_is_tuple_tup,ev_is_tuple_lst,ev_is_tuple_dic,ev_is_list_non,ev_is_list_bl,ev_is_list_int,ev_is_list_str,ev_is_list_tup,ev_is_list_lst,ev_is_list_dic,ev_is_dict_non,ev_is_dict_bl,ev_is_dict_int,ev_is_dict_str,ev_is_dict_tup,ev_is_dict_lst,ev_is_dict_dic,ev_isN_non,ev_notN_non,ev_isN_bl,ev_notN_bl,ev_isN_int,ev_notN_int,ev_isN_str,ev_notN_str,ev_isN_tup,ev_notN_tup,ev_isN_lst,ev_notN_lst,ev_isN_dic,ev_notN_dic,ev_c0,ev_c1,ev_c2,ev_c3,ev_c4,ev_c5,ev_c6,ev_c7,ev_c8,ev_c9,ev_c10,ev_c11,Int.reduceLT,Int.reduceLE,Int.reduceSub,Int.reduceAdd,Int.reduceMul,Int.reduceNeg,ev_join,ev_join1,ev_pt0,ev_pt1,ev_pt2,ev_pt3,ev_pt4,ev_rep,ev_rep1,ev_rep2,Int.reduceToNat,Bool.and_self,hlen,e1,e2,decide_eq_true h1,decide_eq_false h8,Bool.false_and,Bool.and_false]
  ·have e1:decide ((1:Int)<=(z.length:Int))=false:=decide_eq_false (by omega)
   simp only[zcw,ev_ok,ev_seq,ev_seq1,ev_seq2,ev_seq3,ev_seq4,ev_next,ev_set,ev_set1,ev_ret,ev_ret1,ev_retN,ev_drop,ev_drop1,ev_if,ev_if1,ev_if2,ev_own,ev_own1,ev_app,ev_ownS,ev_appL,ev_put,ev_put1,ev_putL,ev_putL1,ev_frz,ev_unp,ev_par,ev_par1,ev_b1,ev_b2,ev_b21,ev_bA,ev_nil,ev_cons,ev_cons1,ev_cons2,ev_and,ev_and1,ev_and2,ev_or,ev_or1,ev_or2,ev_not,ev_not1,ev_ifx,ev_ifx1,ev_ifx2,ev_var,ev_var1,ev_C,ev_shr0,ev_shr,ev_shr1,ev_shr2,ev_shr3,ev_run,ev_run1,ev_run2,ev_os,ev_os1,ev_on,ev_sl,ev_sl0,ev_sl1,ev_sl2,ev_for,ev_for1,ev_chain,ev_ch,ev_ch1,ev_ch2,ev_ch3,ev_iop,ev_add,ev_neg,ev_m1,ev_m2,ev_lenL,ev_lenT,ev_p60,eq_int,ne_int,List.map_cons,List.map_nil,List.length_cons,List.length_nil,List.replicate_succ,List.replicate_zero,List.nil_append,List.cons_append,List.getElem?_cons_zero,List.getElem?_cons_succ,List.set_cons_zero,List.set_cons_succ,Nat.sub_zero,Nat.reduceSub,Nat.reduceAdd,Nat.add_zero,Nat.zero_add,Bool.not_true,Bool.not_false,ev_tup,ev_lst,ev_addL,ev_app1,ev_appL1,ev_mod,ev_unpL,ev_unpT,ev_sa,ev_sa0,ev_un,ev_un1,ev_un2,ev_un3,ev_ixL0,ev_ixL1,ev_ixL2,ev_ixL3,ev_ixL4,ev_ixL5,ev_ixL6,ev_ixL7,ev_ixL8,ev_ixL9,ev_ixL10,ev_ixL11,ev_ixL12,ev_ixL13,ev_ixT0,ev_ixT1,ev_ixT2,ev_ixT3,ev_ixT4,ev_ixT5,decide_true,decide_false,Nat.reduceLeDiff,Nat.reduceBEq,Int.reduceBEq,beq_self_eq_true,dOne,mYes,ev_is_bool_non,ev_is_bool_bl,ev_is_bool_int,ev_is_bool_str,ev_is_bool_tup,ev_is_bool_lst,ev_is_bool_dic,ev_is_int_non,ev_is_int_bl,ev_is_int_int,ev_is_int_str,ev_is_int_tup,ev_is_int_lst,ev_is_int_dic,ev_is_str_non,ev_is_str_bl,ev_is_str_int,ev_is_str_str,ev_is_str_tup,ev_is_str_lst,ev_is_str_dic,ev_is_tuple_non,ev_is_tuple_bl,ev_is_tuple_int,ev_is_tuple_str,ev_is_tuple_tup,ev_is_tuple_lst,ev_is_tuple_dic,ev_is_list_non,ev_is_list_bl,ev_is_list_int,ev_is_list_str,ev_is_list_tup,ev_is_list_lst,ev_is_list_dic,ev_is_dict_non,ev_is_dict_bl,ev_is_dict_int,ev_is_dict_str,ev_is_dict_tup,ev_is_dict_lst,ev_is_dict_dic,ev_isN_non,ev_notN_non,ev_isN_bl,ev_notN_bl,ev_isN_int,ev_notN_int,ev_isN_str,ev_notN_str,ev_isN_tup,ev_notN_tup,ev_isN_lst,ev_notN_lst,ev_isN_dic,ev_notN_dic,ev_c0,ev_c1,ev_c2,ev_c3,ev_c4,ev_c5,ev_c6,ev_c7,ev_c8,ev_c9,ev_c10,ev_c11,Int.reduceLT,Int.reduceLE,Int.reduceSub,Int.reduceAdd,Int.reduceMul,Int.reduceNeg,ev_join,ev_join1,ev_pt0,ev_pt1,ev_pt2,ev_pt3,ev_pt4,ev_rep,ev_rep1,ev_rep2,Int.reduceToNat,Bool.and_self,hlen,e1,decide_eq_false h1,Bool.false_and]
 | ob k _=>cases k<;>rfl
 | _=>rfl
def zkW:D->Bool
 | .tup [.int p,.int q]=>decide (1<=q)&&(Int.gcd p q==1)
 | _=>false
theorem zt7 {g:Nat}:((g:Int)==1)=(g==1):=by
 cases h:(g==1) with
 | true=>rw[eq_of_beq h];rfl
 | false =>
  have:g≠1:=fun z=>by rw[z] at h;cases h
  exact beq_eq_false_iff_ne.mpr (by omega)
theorem zsS {xs:List D}:(∃ x y,xs=[x,y])∨xs.length≠2:=by
 match xs with
 | []=>exact .inr (by decide)
 | [x]=>exact .inr (by simp)
 | [x,y]=>exact .inl ⟨x,y,rfl⟩
 | x::y::z::r=>exact .inr (by simp)
theorem zpT:∀ {xs:List D},xs.length≠2->zkW (.tup xs)=false
 | [],_=>rfl
 | [x],_=>by cases x<;>rfl
 | [x,y],h=>absurd rfl h
 | x::y::z::r,_=>by cases x<;>cases y<;>rfl
theorem zng {x y:D}:zkW (.tup [x,y])=(isI x&&(isI y&&zkW (.tup [x,y]))):=by
 cases x<;>cases y<;>rfl
theorem zla (d:D):zco [d]=.ok (.bl (zkW d)):=by
 cases d with
 | tup xs =>
  rcases zsS (xs:=xs) with⟨x,y,rfl⟩ | h
  ·rw[zng]
   show zc6 1 zbx _=_
   cases hx:isI x with
   | false=>simp only[zbx,ev_ok,ev_seq,ev_seq1,ev_seq2,ev_seq3,ev_seq4,ev_next,ev_set,ev_set1,ev_ret,ev_ret1,ev_retN,ev_drop,ev_drop1,ev_if,ev_if1,ev_if2,ev_own,ev_own1,ev_app,ev_ownS,ev_appL,ev_put,ev_put1,ev_putL,ev_putL1,ev_frz,ev_unp,ev_par,ev_par1,ev_b1,ev_b2,ev_b21,ev_bA,ev_nil,ev_cons,ev_cons1,ev_cons2,ev_and,ev_and1,ev_and2,ev_or,ev_or1,ev_or2,ev_not,ev_not1,ev_ifx,ev_ifx1,ev_ifx2,ev_var,ev_var1,ev_C,ev_shr0,ev_shr,ev_shr1,ev_shr2,ev_shr3,ev_run,ev_run1,ev_run2,ev_os,ev_os1,ev_on,ev_sl,ev_sl0,ev_sl1,ev_sl2,ev_for,ev_for1,ev_chain,ev_ch,ev_ch1,ev_ch2,ev_ch3,ev_iop,ev_add,ev_neg,ev_m1,ev_m2,ev_lenL,ev_lenT,ev_p60,eq_int,ne_int,List.map_cons,List.map_nil,List.length_cons,List.length_nil,List.replicate_succ,List.replicate_zero,List.nil_append,List.cons_append,List.getElem?_cons_zero,List.getElem?_cons_succ,List.set_cons_zero,List.set_cons_succ,Nat.sub_zero,Nat.reduceSub,Nat.reduceAdd,Nat.add_zero,Nat.zero_add,Bool.not_true,Bool.not_false,ev_tup,ev_lst,ev_addL,ev_app1,ev_appL1,ev_mod,ev_unpL,ev_unpT,ev_sa,ev_sa0,ev_un,ev_un1,ev_un2,ev_un3,ev_ixL0,ev_ixL1,ev_ixL2,ev_ixL3,ev_ixL4,ev_ixL5,ev_ixL6,ev_ixL7,ev_ixL8,ev_ixL9,ev_ixL10,ev_ixL11,ev_ixL12,ev_ixL13,ev_ixT0,ev_ixT1,ev_ixT2,ev_ixT3,ev_ixT4,ev_ixT5,decide_true,decide_false,Nat.reduceLeDiff,Nat.reduceBEq,Int.reduceBEq,beq_self_eq_true,dOne,mYes,ev_is_bool_non,ev_is_bool_bl,ev_is_bool_int,ev_is_bool_str,ev_is_bool_tup,ev_is_bool_lst,ev_is_bool_dic,ev_is_int_non,ev_is_int_bl,ev_is_int_int,ev_is_int_str,ev_is_int_tup,ev_is_int_lst,ev_is_int_dic,ev_is_str_non,ev_is_str_bl,ev_is_str_int,ev_is_str_str,ev_is_str_tup,ev_is_str_lst,ev_is_str_dic,ev_is_tuple_non,ev_is_tuple_bl,ev_is_tuple_int,ev_is_tuple_str,ev_is_tuple_tup,ev_is_tuple_lst,ev_is_tuple_dic,ev_is_list_non,ev_is_list_bl,ev_is_list_int,ev_is_list_str,ev_is_list_tup,ev_is_list_lst,ev_is_list_dic,ev_is_dict_non,ev_is_dict_bl,ev_is_dict_int,ev_is_dict_str,ev_is_dict_tup,ev_is_dict_lst,ev_is_dict_dic,ev_isN_non,ev_notN_non,ev_isN_bl,ev_notN_bl,ev_isN_int,ev_notN_int,ev_isN_str,ev_notN_str,ev_isN_tup,ev_notN_tup,ev_isN_lst,ev_notN_lst,ev_isN_dic,ev_notN_dic,ev_c0,ev_c1,ev_c2,ev_c3,ev_c4,ev_c5,ev_c6,ev_c7,ev_c8,ev_c9,ev_c10,ev_c11,Int.reduceLT,Int.reduceLE,Int.reduceSub,Int.reduceAdd,Int.reduceMul,Int.reduceNeg,ev_join,ev_join1,ev_pt0,ev_pt1,ev_pt2,ev_pt3,ev_pt4,ev_rep,ev_rep1,ev_rep2,Int.reduceToNat,Bool.and_self,zbl,hx,Bool.false_and]
   | true =>
    cases hy:isI y with
    | false=>simp only[zbx,ev_ok,ev_seq,ev_seq1,ev_seq2,ev_seq3,ev_seq4,ev_next,ev_set,ev_set1,ev_ret,ev_ret1,ev_retN,ev_drop,ev_drop1,ev_if,ev_if1,ev_if2,ev_own,ev_own1,ev_app,ev_ownS,ev_appL,ev_put,ev_put1,ev_putL,ev_putL1,ev_frz,ev_unp,ev_par,ev_par1,ev_b1,ev_b2,ev_b21,ev_bA,ev_nil,ev_cons,ev_cons1,ev_cons2,ev_and,ev_and1,ev_and2,ev_or,ev_or1,ev_or2,ev_not,ev_not1,ev_ifx,ev_ifx1,ev_ifx2,ev_var,ev_var1,ev_C,ev_shr0,ev_shr,ev_shr1,ev_shr2,ev_shr3,ev_run,ev_run1,ev_run2,ev_os,ev_os1,ev_on,ev_sl,ev_sl0,ev_sl1,ev_sl2,ev_for,ev_for1,ev_chain,ev_ch,ev_ch1,ev_ch2,ev_ch3,ev_iop,ev_add,ev_neg,ev_m1,ev_m2,ev_lenL,ev_lenT,ev_p60,eq_int,ne_int,List.map_cons,List.map_nil,List.length_cons,List.length_nil,List.replicate_succ,List.replicate_zero,List.nil_append,List.cons_append,List.getElem?_cons_zero,List.getElem?_cons_succ,List.set_cons_zero,List.set_cons_succ,Nat.sub_zero,Nat.reduceSub,Nat.reduceAdd,Nat.add_zero,Nat.zero_add,Bool.not_true,Bool.not_false,ev_tup,ev_lst,ev_addL,ev_app1,ev_appL1,ev_mod,ev_unpL,ev_unpT,ev_sa,ev_sa0,ev_un,ev_un1,ev_un2,ev_un3,ev_ixL0,ev_ixL1,ev_ixL2,ev_ixL3,ev_ixL4,ev_ixL5,ev_ixL6,ev_ixL7,ev_ixL8,ev_ixL9,ev_ixL10,ev_ixL11,ev_ixL12,ev_ixL13,ev_ixT0,ev_ixT1,ev_ixT2,ev_ixT3,ev_ixT4,ev_ixT5,decide_true,decide_false,Nat.reduceLeDiff,Nat.reduceBEq,Int.reduceBEq,beq_self_eq_true,dOne,mYes,ev_is_bool_non,ev_is_bool_bl,ev_is_bool_int,ev_is_bool_str,ev_is_bool_tup,ev_is_bool_lst,ev_is_bool_dic,ev_is_int_non,ev_is_int_bl,ev_is_int_int,ev_is_int_str,ev_is_int_tup,ev_is_int_lst,ev_is_int_dic,ev_is_str_non,ev_is_str_bl,ev_is_str_int,ev_is_str_str,ev_is_str_tup,ev_is_str_lst,ev_is_str_dic,ev_is_tuple_non,ev_is_tuple_bl,ev_is_tuple_int,ev_is_tuple_str,ev_is_tuple_tup,ev_is_tuple_lst,ev_is_tuple_dic,ev_is_list_non,ev_is_list_bl,ev_is_list_int,ev_is_list_str,ev_is_list_tup,ev_is_list_lst,ev_is_list_dic,ev_is_dict_non,ev_is_dict_bl,ev_is_dict_int,ev_is_dict_str,ev_is_dict_tup,ev_is_dict_lst,ev_is_dict_dic,ev_isN_non,ev_notN_non,ev_isN_bl,ev_notN_bl,ev_isN_int,ev_notN_int,ev_isN_str,ev_notN_str,ev_isN_tup,ev_notN_tup,ev_isN_lst,ev_notN_lst,ev_isN_dic,ev_notN_dic,ev_c0,ev_c1,ev_c2,ev_c3,ev_c4,ev_c5,ev_c6,ev_c7,ev_c8,ev_c9,ev_c10,ev_c11,Int.reduceLT,Int.reduceLE,Int.reduceSub,Int.reduceAdd,Int.reduceMul,Int.reduceNeg,ev_join,ev_join1,ev_pt0,ev_pt1,ev_pt2,ev_pt3,ev_pt4,ev_rep,ev_rep1,ev_rep2,Int.reduceToNat,Bool.and_self,zbl,hx,hy,Bool.false_and,Bool.true_and]
    | true =>
     cases x<;>first | (cases hx;done) | skip
     cases y<;>first | (cases hy;done) | skip
     rename_i p q
     show _=Res.ok (D.bl (decide (1<=q)&&(Int.gcd p q==1)))
     by_cases hq:1<=q
     ·simp only[zbx,ev_ok,ev_seq,ev_seq1,ev_seq2,ev_seq3,ev_seq4,ev_next,ev_set,ev_set1,ev_ret,ev_ret1,ev_retN,ev_drop,ev_drop1,ev_if,ev_if1,ev_if2,ev_own,ev_own1,ev_app,ev_ownS,ev_appL,ev_put,ev_put1,ev_putL,ev_putL1,ev_frz,ev_unp,ev_par,ev_par1,ev_b1,ev_b2,ev_b21,ev_bA,ev_nil,ev_cons,ev_cons1,ev_cons2,ev_and,ev_and1,ev_and2,ev_or,ev_or1,ev_or2,ev_not,ev_not1,ev_ifx,ev_ifx1,ev_ifx2,ev_var,ev_var1,ev_C,ev_shr0,ev_shr,ev_shr1,ev_shr2,ev_shr3,ev_run,ev_run1,ev_run2,ev_os,ev_os1,ev_on,ev_sl,ev_sl0,ev_sl1,ev_sl2,ev_for,ev_for1,ev_chain,ev_ch,ev_ch1,ev_ch2,ev_ch3,ev_iop,ev_add,ev_neg,ev_m1,ev_m2,ev_lenL,ev_lenT,ev_p60,eq_int,ne_int,List.map_cons,List.map_nil,List.length_cons,List.length_nil,List.replicate_succ,List.replicate_zero,List.nil_append,List.cons_append,List.getElem?_cons_zero,List.getElem?_cons_succ,List.set_cons_zero,List.set_cons_succ,Nat.sub_zero,Nat.reduceSub,Nat.reduceAdd,Nat.add_zero,Nat.zero_add,Bool.not_true,Bool.not_false,ev_tup,ev_lst,ev_addL,ev_app1,ev_appL1,ev_mod,ev_unpL,ev_unpT,ev_sa,ev_sa0,ev_un,ev_un1,ev_un2,ev_un3,ev_ixL0,ev_ixL1,ev_ixL2,ev_ixL3,ev_ixL4,ev_ixL5,ev_ixL6,ev_ixL7,ev_ixL8,ev_ixL9,ev_ixL10,ev_ixL11,ev_ixL12,ev_ixL13,ev_ixT0,ev_ixT1,ev_ixT2,ev_ixT3,ev_ixT4,ev_ixT5,decide_true,decide_false,Nat.reduceLeDiff,Nat.reduceBEq,Int.reduceBEq,beq_self_eq_true,dOne,mYes,ev_is_bool_non,ev_is_bool_bl,ev_is_bool_int,ev_is_bool_str,ev_is_bool_tup,ev_is_bool_lst,ev_is_bool_dic,ev_is_int_non,ev_is_int_bl,ev_is_int_int,ev_is_int_str,ev_is_int_tup,ev_is_int_lst,ev_is_int_dic,ev_is_str_non,ev_is_str_bl,ev_is_str_int,ev_is_str_str,ev_is_str_tup,ev_is_str_lst,ev_is_str_dic,ev_is_tuple_non,ev_is_tuple_bl,ev_is_tuple_int,ev_is_tuple_str,ev_is_tuple_tup,ev_is_tuple_lst,ev_is_tuple_dic,ev_is_list_non,ev_is_list_bl,ev_is_list_int,ev_is_list_str,ev_is_list_tup,ev_is_list_lst,ev_is_list_dic,ev_is_dict_non,ev_is_dict_bl,ev_is_dict_int,ev_is_dict_str,ev_is_dict_tup,ev_is_dict_lst,ev_is_dict_dic,ev_isN_non,ev_notN_non,ev_isN_bl,ev_notN_bl,ev_isN_int,ev_notN_int,ev_isN_str,ev_notN_str,ev_isN_tup,ev_notN_tup,ev_isN_lst,ev_notN_lst,ev_isN_dic,ev_notN_dic,ev_c0,ev_c1,ev_c2,ev_c3,ev_c4,ev_c5,ev_c6,ev_c7,ev_c8,ev_c9,ev_c10,ev_c11,Int.reduceLT,Int.reduceLE,Int.reduceSub,Int.reduceAdd,Int.reduceMul,Int.reduceNeg,ev_join,ev_join1,ev_pt0,ev_pt1,ev_pt2,ev_pt3,ev_pt4,ev_rep,ev_rep1,ev_rep2,Int.reduceToNat,Bool.and_self,zbl,hx,hy,zll,Bool.true_and,decide_eq_true hq,zt7]
     ·simp only[zbx,ev_ok,ev_seq,ev_seq1,ev_seq2,ev_seq3,ev_seq4,ev_next,ev_set,ev_set1,ev_ret,ev_ret1,ev_retN,ev_drop,ev_drop1,ev_if,ev_if1,ev_if2,ev_own,ev_own1,ev_app,ev_ownS,ev_appL,ev_put,ev_put1,ev_putL,ev_putL1,ev_frz,ev_unp,ev_par,ev_par1,ev_b1,ev_b2,ev_b21,ev_bA,ev_nil,ev_cons,ev_cons1,ev_cons2,ev_and,ev_and1,ev_and2,ev_or,ev_or1,ev_or2,ev_not,ev_not1,ev_ifx,ev_ifx1,ev_ifx2,ev_var,ev_var1,ev_C,ev_shr0,ev_shr,ev_shr1,ev_shr2,ev_shr3,ev_run,ev_run1,ev_run2,ev_os,ev_os1,ev_on,ev_sl,ev_sl0,ev_sl1,ev_sl2,ev_for,ev_for1,ev_chain,ev_ch,ev_ch1,ev_ch2,ev_ch3,ev_iop,ev_add,ev_neg,ev_m1,ev_m2,ev_lenL,ev_lenT,ev_p60,eq_int,ne_int,List.map_cons,List.map_nil,List.length_cons,List.length_nil,List.replicate_succ,List.replicate_zero,List.nil_append,List.cons_append,List.getElem?_cons_zero,List.getElem?_cons_succ,List.set_cons_zero,List.set_cons_succ,Nat.sub_zero,Nat.reduceSub,Nat.reduceAdd,Nat.add_zero,Nat.zero_add,Bool.not_true,Bool.not_false,ev_tup,ev_lst,ev_addL,ev_app1,ev_appL1,ev_mod,ev_unpL,ev_unpT,ev_sa,ev_sa0,ev_un,ev_un1,ev_un2,ev_un3,ev_ixL0,ev_ixL1,ev_ixL2,ev_ixL3,ev_ixL4,ev_ixL5,ev_ixL6,ev_ixL7,ev_ixL8,ev_ixL9,ev_ixL10,ev_ixL11,ev_ixL12,ev_ixL13,ev_ixT0,ev_ixT1,ev_ixT2,ev_ixT3,ev_ixT4,ev_ixT5,decide_true,decide_false,Nat.reduceLeDiff,Nat.reduceBEq,Int.reduceBEq,beq_self_eq_true,dOne,mYes,ev_is_bool_non,ev_is_bool_bl,ev_is_bool_int,ev_is_bool_str,ev_is_bool_tup,ev_is_bool_lst,ev_is_bool_dic,ev_is_int_non,ev_is_int_bl,ev_is_int_int,ev_is_int_str,ev_is_int_tup,ev_is_int_lst,ev_is_int_dic,ev_is_str_non,ev_is_str_bl,ev_is_str_int,ev_is_str_str,ev_is_str_tup,ev_is_str_lst,ev_is_str_dic,ev_is_tuple_non,ev_is_tuple_bl,ev_is_tuple_int,ev_is_tuple_str,ev_is_tuple_tup,ev_is_tuple_lst,ev_is_tuple_dic,ev_is_list_non,ev_is_list_bl,ev_is_list_int,ev_is_list_str,ev_is_list_tup,ev_is_list_lst,ev_is_list_dic,ev_is_dict_non,ev_is_dict_bl,ev_is_dict_int,ev_is_dict_str,ev_is_dict_tup,ev_is_dict_lst,ev_is_dict_dic,ev_isN_non,ev_notN_non,ev_isN_bl,ev_notN_bl,ev_isN_int,ev_notN_int,ev_isN_str,ev_notN_str,ev_isN_tup,ev_notN_tup,ev_isN_lst,ev_notN_lst,ev_isN_dic,ev_notN_dic,ev_c0,ev_c1,ev_c2,ev_c3,ev_c4,ev_c5,ev_c6,ev_c7,ev_c8,ev_c9,ev_c10,ev_c11,Int.reduceLT,Int.reduceLE,Int.reduceSub,Int.reduceAdd,Int.reduceMul,Int.reduceNeg,ev_join,ev_join1,ev_pt0,ev_pt1,ev_pt2,ev_pt3,ev_pt4,ev_rep,ev_rep1,ev_rep2,Int.reduceToNat,Bool.and_self,zbl,hx,hy,zll,Bool.true_and,decide_eq_false hq,Bool.false_and]
  ·have e2:((xs.length:Int)==2)=false:=beq_eq_false_iff_ne.mpr (by omega)
   rw[zpT h]
   show zc6 1 zbx _=_
   simp only[zbx,ev_ok,ev_seq,ev_seq1,ev_seq2,ev_seq3,ev_seq4,ev_next,ev_set,ev_set1,ev_ret,ev_ret1,ev_retN,ev_drop,ev_drop1,ev_if,ev_if1,ev_if2,ev_own,ev_own1,ev_app,ev_ownS,ev_appL,ev_put,ev_put1,ev_putL,ev_putL1,ev_frz,ev_unp,ev_par,ev_par1,ev_b1,ev_b2,ev_b21,ev_bA,ev_nil,ev_cons,ev_cons1,ev_cons2,ev_and,ev_and1,ev_and2,ev_or,ev_or1,ev_or2,ev_not,ev_not1,ev_ifx,ev_ifx1,ev_ifx2,ev_var,ev_var1,ev_C,ev_shr0,ev_shr,ev_shr1,ev_shr2,ev_shr3,ev_run,ev_run1,ev_run2,ev_os,ev_os1,ev_on,ev_sl,ev_sl0,ev_sl1,ev_sl2,ev_for,ev_for1,ev_chain,ev_ch,ev_ch1,ev_ch2,ev_ch3,ev_iop,ev_add,ev_neg,ev_m1,ev_m2,ev_lenL,ev_lenT,ev_p60,eq_int,ne_int,List.map_cons,List.map_nil,List.length_cons,List.length_nil,List.replicate_succ,List.replicate_zero,List.nil_append,List.cons_append,List.getElem?_cons_zero,List.getElem?_cons_succ,List.set_cons_zero,List.set_cons_succ,Nat.sub_zero,Nat.reduceSub,Nat.reduceAdd,Nat.add_zero,Nat.zero_add,Bool.not_true,Bool.not_false,ev_tup,ev_lst,ev_addL,ev_app1,ev_appL1,ev_mod,ev_unpL,ev_unpT,ev_sa,ev_sa0,ev_un,ev_un1,ev_un2,ev_un3,ev_ixL0,ev_ixL1,ev_ixL2,ev_ixL3,ev_ixL4,ev_ixL5,ev_ixL6,ev_ixL7,ev_ixL8,ev_ixL9,ev_ixL10,ev_ixL11,ev_ixL12,ev_ixL13,ev_ixT0,ev_ixT1,ev_ixT2,ev_ixT3,ev_ixT4,ev_ixT5,decide_true,decide_false,Nat.reduceLeDiff,Nat.reduceBEq,Int.reduceBEq,beq_self_eq_true,dOne,mYes,ev_is_bool_non,ev_is_bool_bl,ev_is_bool_int,ev_is_bool_str,ev_is_bool_tup,ev_is_bool_lst,ev_is_bool_dic,ev_is_int_non,ev_is_int_bl,ev_is_int_int,ev_is_int_str,ev_is_int_tup,ev_is_int_lst,ev_is_int_dic,ev_is_str_non,ev_is_str_bl,ev_is_str_int,ev_is_str_str,ev_is_str_tup,ev_is_str_lst,ev_is_str_dic,ev_is_tuple_non,ev_is_tuple_bl,ev_is_tuple_int,ev_is_tuple_str,ev_is_tuple_tup,ev_is_tuple_lst,ev_is_tuple_dic,ev_is_list_non,ev_is_list_bl,ev_is_list_int,ev_is_list_str,ev_is_list_tup,ev_is_list_lst,ev_is_list_dic,ev_is_dict_non,ev_is_dict_bl,ev_is_dict_int,ev_is_dict_str,ev_is_dict_tup,ev_is_dict_lst,ev_is_dict_dic,ev_isN_non,ev_notN_non,ev_isN_bl,ev_notN_bl,ev_isN_int,ev_notN_int,ev_isN_str,ev_notN_str,ev_isN_tup,ev_notN_tup,ev_isN_lst,ev_notN_lst,ev_isN_dic,ev_notN_dic,ev_c0,ev_c1,ev_c2,ev_c3,ev_c4,ev_c5,ev_c6,ev_c7,ev_c8,ev_c9,ev_c10,ev_c11,Int.reduceLT,Int.reduceLE,Int.reduceSub,Int.reduceAdd,Int.reduceMul,Int.reduceNeg,ev_join,ev_join1,ev_pt0,ev_pt1,ev_pt2,ev_pt3,ev_pt4,ev_rep,ev_rep1,ev_rep2,Int.reduceToNat,Bool.and_self,e2]
 | ob k _=>cases k<;>rfl
 | _=>rfl
theorem zuU {sz:List Int}(h:(sz.all fun s=>decide (0 < s)&&decide (s<=(N60:Int)))=true):∀ s∈sz,0 < s/\s.natAbs < B9:=fun s hs=>by
 have:=List.all_eq_true.mp h s hs
 simp only[Bool.and_eq_true,decide_eq_true_eq] at this
 refine⟨this.1,Nat.lt_of_le_of_lt (show s.natAbs<=N60 by omega) ?_⟩
 exact Nat.lt_of_lt_of_le (show N60 < 2 ^ 200 by decide) (by rw[zqR];exact Nat.pow_le_pow_right (by decide) (by decide))
theorem zks {α:Type}{F:α->D}{xs:List α}{lo hi:Option Int}:zcA (xs.map F) lo hi=((xs.drop (HT.sIx xs.length 0 lo)).take (HT.sIx xs.length xs.length hi-HT.sIx xs.length 0 lo)).map F:=by
 unfold zcA
 rw[List.length_map,← List.map_drop,← List.map_take]
theorem zsy {xs:List D}{lo hi:Option Int}:(zcA xs lo hi).length<=xs.length:=by
 unfold zcA
 rw[List.length_take,List.length_drop];omega
section
variable {α β:Type}
theorem zhc {x:Exn}{f:α->Res β}:(Res.exn x:Res α).bind f=.exn x:=zaw rfl
end
def zuI (hit:Str->Bool)(ni:Nat)(sh:Ev->Res Fl)(ρ:Ev)(r:Res Fl):Res Fl:=match r with
 | .exn x=>if hit x.cls=true then(sh (ρ.set ni (.sh (.exc x.cls)))).bind (zvh ni) else .stuck
 | r=>r
theorem zo0 {g:Ev->Res Fl}{hit:Str->Bool}{ni:Nat}{sh:Ev->Res Fl}{ρ:Ev}:zsI g hit ni sh ρ=zuI hit ni sh ρ (g ρ):=zaw rfl
theorem zsq {hit:Str->Bool}{ni:Nat}{sh:Ev->Res Fl}{ρ:Ev}{r:Fl}:zuI hit ni sh ρ (.ok r)=.ok r:=zaw rfl
theorem zoZ {hit:Str->Bool}{ni:Nat}{sh:Ev->Res Fl}{ρ:Ev}{c:Str}(h:hit c=true):zuI hit ni sh ρ (.exn ⟨c,[]⟩)=(sh (ρ.set ni (.sh (.exc c)))).bind (zvh ni):=if_pos h
def zq3 (x:Str)(ds:List D):Res Fl:=if ds.length<=line then .exn ⟨x,[]⟩ else .stuck
theorem zgb {x:Str}{fa:Ev->Res (List D)}{ρ:Ev}:zfo x fa ρ=(fa (shr ρ)).bind (zq3 x):=zaw rfl
theorem zex {x:Str}{d:D}:zq3 x [d]=.exn ⟨x,[]⟩:=if_pos (show 1<=line by decide)
def zt4 (tg:Ev->D->Res Ev)(s:Ev->Res Fl)(ρ:Ev)(ds:List D):Res Fl:=zcX tg s ds ρ
def zs7 (d:D):Res (List D):=match d with
 | .lst ds=>.ok (zcn 0 ds)
 | _=>.stuck
def zs6 (d:D):Res (List D):=match d with
 | .lst ds=>.ok ds
 | _=>.stuck
def zs5 (d:D):Res (List D):=match d with
 | .tup ds=>.ok ds
 | _=>.stuck
def zjv (n:Nat)(fr:List Nat)(tg:Ev->D->Res Ev)(tt fe:Ev->Res D)(ρ:Ev)(ds:List D):Res D:=if ds.length<=line then match zca (zcZ n fr ρ) tg tt fe ds with
  | .ok es=>.ok (.lst es)
  | _=>.stuck
 else .stuck
def liK (fe:Ev->Res D)(ρ:Ev)(x:D):Res D:=match x with
 | .lst ds=>(fe ρ).bind (zjO (.lst ds))
 | _=>.stuck
def zpd (x:D)(xs:List D):Res (List D):=.ok (x::xs)
def frK (fa:Ev->Res (List D))(ρ:Ev)(x:D):Res (List D):=match x with
 | .lst ds=>(fa ρ).bind (zpd (.lst ds))
 | _=>.stuck
theorem ev_frc {x:D}{xs:List D}:zpd x xs=.ok (x::xs):=zaw rfl
def zsn (tg:Ev->D->Res Ev)(s:Ev->Res Fl)(ρ:Ev)(d:D):Res Fl:=match d with
 | .int j=>if -4611686018427387904<=j/\j < 4611686018427387904 then zcX tg s (intsFrom 0 j.toNat) ρ else .stuck
 | _=>.stuck
section
variable {s t:Ev->Res Fl}{f g h:Ev->Res D}{src:Ev->Res (List D)}{fa:Ev->Res (List D)}{ρ r:Ev}{i j n:Nat}{d x y:D}{ds es xs:List D}{a b:Int}{tg:Ev->D->Res Ev}{tt fe:Ev->Res D}{fr:List Nat}
theorem ev_forI:zj3 src tg s ρ=(src ρ).bind (zt4 tg s ρ):=zaw rfl
theorem ev_forI1:zt4 tg s ρ ds=zcX tg s ds ρ:=zaw rfl
theorem ev_srcE:zrH f ρ=(f ρ).bind zs7:=zaw rfl
theorem ev_srcE1:zs7 (.lst ds)=.ok (zcn 0 ds):=zaw rfl
theorem ev_srcL:zus f ρ=(f ρ).bind zs6:=zaw rfl
theorem ev_srcL1:zs6 (.lst ds)=.ok ds:=zaw rfl
theorem ev_srcT:zwo f ρ=(f ρ).bind zs5:=zaw rfl
theorem ev_srcT1:zs5 (.tup ds)=.ok ds:=zaw rfl
theorem ev_comp:zfL n fr src tg tt fe ρ=(src ρ).bind (zjv n fr tg tt fe ρ):=zaw rfl
theorem ev_fld {c f:Str}{ks:List Str}:zwD f (.ob (.ins c ks) ds)=(match zsp f ks ds with | some d=>.ok d | none=>.stuck):=zaw rfl
theorem ev_fld0 {f k:Str}{ks:List Str}:zsp f (k::ks) (d::ds)=if f=k then some d else zsp f ks ds:=zaw rfl
theorem ev_fld1 {f:Str}:zsp f (f::ks) (d::ds)=some d:=by unfold zsp;rw[if_pos rfl]
theorem ev_fld2 {c:Str}{ks:List Str}(h:(ds.length==ks.length)=true):zww c ks ds=.ok (.ob (.ins c ks) ds):=if_pos (eq_of_beq h)
theorem ev_lI:zkr f g ρ=(f ρ).bind (liK g ρ):=zaw rfl
theorem ev_lI1:liK g ρ (.lst ds)=(g ρ).bind (zjO (.lst ds)):=zaw rfl
theorem ev_gU {is:List Nat}(h:(ds.length==is.length)=true):zoP is ρ (.tup ds)=.ok (zdj ρ is ds):=by
 show(match (if ds.length=is.length then some ds else none) with | some ds=>Res.ok (zdj ρ is ds) | none=>.stuck)=_
 rw[if_pos (eq_of_beq h)]
theorem ev_fr1:aFr f fa ρ=(f ρ).bind (frK fa ρ):=zaw (by unfold aFr;cases f ρ with | ok x=>cases x<;>rfl | _=>rfl)
theorem ev_fr2:frK fa ρ (.lst ds)=(fa ρ).bind (zpd (.lst ds)):=zaw rfl
theorem ev_ownT:zu0 i j fa ρ=(fa ρ).bind (zvX i j ρ):=zaw rfl
theorem ev_clrAt:ztf i j ρ=zsz i j ρ ρ[i]?:=zaw rfl
theorem ev_clrAt1:zsz i j ρ (some (.ox j ds))=.ok (.nx (ρ.set i (.ox j (ds.set j (.lst []))))):=if_pos rfl
theorem ev_gS:zdW i ρ d=.ok (ρ.set i (.sh d)):=zaw rfl
theorem ev_forR:zkT f tg s ρ=(f (shr ρ)).bind (zsn tg s ρ):=zaw rfl
theorem zij {k:Nat}(h:k<=1000000):zsn tg s ρ (.int (k:Int))=zcX tg s (intsFrom 0 k) ρ:=by
 unfold zsn
 dsimp only
 rw[if_pos ⟨by omega,by omega⟩,Int.toNat_natCast]
theorem ev_slT {l h:Option Int}(c:(HT.sIx ds.length 0 l==0&&HT.sIx ds.length ds.length h==ds.length)=false):zqZ (.tup ds) l h=.ok (.tup (zcA ds l h)):=by
 show(if _ then _ else _)=_
 rw[if_neg (fun z=>by rw[z.1,z.2] at c;simp at c)]
theorem ev_addT {x:D}(h:decide (ds.length+es.length<=1000)=true):zbe (.tup (x::ds)) (.tup es)=.ok (.tup (x::ds++es)):=by
 refine if_pos ⟨rfl,?_⟩
 have:=of_decide_eq_true h
 show ds.length+1+es.length<=line
 have:(1001:Nat)<=line:=by decide
 omega
theorem ev_addS {x y:Str}(h:decide (x.length+y.length<=1000)=true):zbe (.str x) (.str y)=.ok (.str (x++y)):=if_pos (Nat.le_trans (of_decide_eq_true h) (by decide))
theorem ev_lenS {z:Str}(h:decide (z.length<=1000)=true):zey (.str z)=.ok (.int z.length):=if_pos (Nat.le_trans (of_decide_eq_true h) (by decide))
theorem ev_mx:zvD (.int a) (.int b)=.ok (.int (if b > a then b else a)):=zaw rfl
theorem ev_io:zcY (.bl true)=.ok (.int 1):=zaw rfl
theorem ev_io1:zcY (.bl false)=.ok (.int 0):=zaw rfl
theorem ev_li:zkq (.lst ds)=.ok (.lst ds):=zaw rfl
theorem ev_li1:zkq (.tup ds)=.ok (.lst ds):=zaw rfl
theorem ev_p18:zjN (.int 10) (.int 18)=.ok (.int 1000000000000000000):=zaw rfl
theorem ev_p9:zjN (.int 10) (.int 9)=.ok (.int 1000000000):=zaw rfl
theorem zqH {F:D->D}(hl:ds.length<=1000000)(h:∀ d∈ds,∃ ρ1,tg (zcZ n fr ρ) d=.ok ρ1/\tt ρ1=.ok (.bl true)/\fe ρ1=.ok (F d)):zjv n fr tg tt fe ρ ds=.ok (.lst (ds.map F)):=by
 unfold zjv
 rw[if_pos (show ds.length<=line from hl),zlm h]
theorem zje {B:Ev}{F:D->D}{p:D->Bool}:∀ {ds:List D},(∀ d∈ds,∃ ρ1,tg B d=.ok ρ1/\tt ρ1=.ok (.bl (p d))/\(p d=true->fe ρ1=.ok (F d)))->zca B tg tt fe ds=.ok ((ds.filter p).map F)
 | [],_=>rfl
 | d::ds,h=>by
  obtain⟨ρ1,h1,h2,h3⟩:=h d List.mem_cons_self
  have ih:=zje (ds:=ds) fun d hd=>h d (List.mem_cons_of_mem _ hd)
  unfold zca
  rw[h1,bok,h2,bok]
  cases hp:p d with
  | true =>
   show(fe ρ1).bind _=_
   rw[h3 hp,bok,ih,bok,List.filter_cons_of_pos hp]
   rfl
  | false =>
   show zca B tg tt fe ds=_
   rw[ih,List.filter_cons_of_neg (by rw[hp];decide)]
theorem zmh {F:D->D}{p:D->Bool}(hl:ds.length<=1000000)(h:∀ d∈ds,∃ ρ1,tg (zcZ n fr ρ) d=.ok ρ1/\tt ρ1=.ok (.bl (p d))/\(p d=true->fe ρ1=.ok (F d))):zjv n fr tg tt fe ρ ds=.ok (.lst ((ds.filter p).map F)):=by
 unfold zjv
 rw[if_pos (show ds.length<=line from hl),zje h]
end
end Com
local macro_rules | `(tactic| open_line with[$xs,*])=>`(tactic| simp only[Com.ev_ok,Com.ev_seq,Com.ev_seq1,Com.ev_seq2,Com.ev_seq3,Com.ev_seq4,Com.ev_next,Com.ev_set,Com.ev_set1,Com.ev_ret,Com.ev_ret1,Com.ev_retN,Com.ev_drop,Com.ev_drop1,Com.ev_if,Com.ev_if1,Com.ev_if2,Com.ev_own,Com.ev_own1,Com.ev_app,Com.ev_ownS,Com.ev_appL,Com.ev_put,Com.ev_put1,Com.ev_putL,Com.ev_putL1,Com.ev_frz,Com.ev_unp,Com.ev_par,Com.ev_par1,Com.ev_b1,Com.ev_b2,Com.ev_b21,Com.ev_bA,Com.ev_nil,Com.ev_cons,Com.ev_cons1,Com.ev_cons2,Com.ev_and,Com.ev_and1,Com.ev_and2,Com.ev_or,Com.ev_or1,Com.ev_or2,Com.ev_not,Com.ev_not1,Com.ev_ifx,Com.ev_ifx1,Com.ev_ifx2,Com.ev_var,Com.ev_var1,Com.ev_C,Com.ev_shr0,Com.ev_shr,Com.ev_shr1,Com.ev_shr2,Com.ev_shr3,Com.ev_shr4,Com.ev_fr1,Com.ev_fr2,Com.ev_frc,Com.ev_ownT,Com.ev_clrAt,Com.ev_clrAt1,Com.ev_run,Com.ev_run1,Com.ev_run2,Com.ev_os,Com.ev_os1,Com.ev_on,Com.ev_sl,Com.ev_sl0,Com.ev_sl1,Com.ev_sl2,Com.ev_for,Com.ev_for1,Com.ev_chain,Com.ev_ch,Com.ev_ch1,Com.ev_ch2,Com.ev_ch3,Com.ev_iop,Com.ev_add,Com.ev_neg,Com.ev_m1,Com.ev_m2,Com.ev_lenL,Com.ev_lenT,Com.ev_p60,Com.eq_int,Com.ne_int,List.map_cons,List.map_nil,List.length_cons,List.length_nil,List.replicate_succ,List.replicate_zero,List.nil_append,List.cons_append,List.getElem?_cons_zero,List.getElem?_cons_succ,List.set_cons_zero,List.set_cons_succ,Nat.sub_zero,Nat.reduceSub,Nat.reduceAdd,Nat.add_zero,Nat.zero_add,Bool.not_true,Bool.not_false,Com.ev_tup,Com.ev_lst,Com.ev_addL,Com.ev_app1,Com.ev_appL1,Com.ev_mod,Com.ev_unpL,Com.ev_unpT,Com.ev_sa,Com.ev_sa0,Com.ev_un,Com.ev_un1,Com.ev_un2,Com.ev_un3,Com.ev_ixL0,Com.ev_ixL1,Com.ev_ixL2,Com.ev_ixL3,Com.ev_ixL4,Com.ev_ixL5,Com.ev_ixL6,Com.ev_ixL7,Com.ev_ixL8,Com.ev_ixL9,Com.ev_ixL10,Com.ev_ixL11,Com.ev_ixL12,Com.ev_ixL13,Com.ev_ixT0,Com.ev_ixT1,Com.ev_ixT2,Com.ev_ixT3,Com.ev_ixT4,Com.ev_ixT5,decide_true,decide_false,Nat.reduceLeDiff,Nat.reduceBEq,Int.reduceBEq,beq_self_eq_true,DL.dOne,DL.mYes,Com.ev_is_bool_non,Com.ev_is_bool_bl,Com.ev_is_bool_int,Com.ev_is_bool_str,Com.ev_is_bool_tup,Com.ev_is_bool_lst,Com.ev_is_bool_dic,Com.ev_is_int_non,Com.ev_is_int_bl,Com.ev_is_int_int,Com.ev_is_int_str,Com.ev_is_int_tup,Com.ev_is_int_lst,Com.ev_is_int_dic,Com.ev_is_str_non,Com.ev_is_str_bl,Com.ev_is_str_int,Com.ev_is_str_str,Com.ev_is_str_tup,Com.ev_is_str_lst,Com.ev_is_str_dic,Com.ev_is_tuple_non,Com.ev_is_tuple_bl,Com.ev_is_tuple_int,Com.ev_is_tuple_str,Com.ev_is_tuple_tup,Com.ev_is_tuple_lst,Com.ev_is_tuple_dic,Com.ev_is_list_non,Com.ev_is_list_bl,Com.ev_is_list_int,Com.ev_is_list_str,Com.ev_is_list_tup,Com.ev_is_list_lst,Com.ev_is_list_dic,Com.ev_is_dict_non,Com.ev_is_dict_bl,Com.ev_is_dict_int,Com.ev_is_dict_str,Com.ev_is_dict_tup,Com.ev_is_dict_lst,Com.ev_is_dict_dic,Com.ev_isN_non,Com.ev_notN_non,Com.ev_isN_bl,Com.ev_notN_bl,Com.ev_isN_int,Com.ev_notN_int,Com.ev_isN_str,Com.ev_notN_str,Com.ev_isN_tup,Com.ev_notN_tup,Com.ev_isN_lst,Com.ev_notN_lst,Com.ev_isN_dic,Com.ev_notN_dic,Com.ev_c0,Com.ev_c1,Com.ev_c2,Com.ev_c3,Com.ev_c4,Com.ev_c5,Com.ev_c6,Com.ev_c7,Com.ev_c8,Com.ev_c9,Com.ev_c10,Com.ev_c11,Int.reduceLT,Int.reduceLE,Int.reduceSub,Int.reduceAdd,Int.reduceMul,Int.reduceNeg,Com.ev_join,Com.ev_join1,Com.ev_pt0,Com.ev_pt1,Com.ev_pt2,Com.ev_pt3,Com.ev_pt4,Com.ev_rep,Com.ev_rep1,Com.ev_rep2,Int.reduceToNat,Bool.and_self,Com.ev_forI,Com.ev_forI1,Com.ev_srcE,Com.ev_srcE1,Com.ev_srcL,Com.ev_srcL1,Com.ev_srcT,Com.ev_srcT1,Com.ev_comp,Com.ev_fld,Com.ev_fld0,Com.ev_fld1,Com.ev_fld2,Com.ev_lI,Com.ev_lI1,Com.ev_gU,Com.ev_forR,Com.ev_slT,Com.ev_addT,Com.ev_addS,Com.ev_lenS,Com.ev_mx,Com.ev_io,Com.ev_io1,Com.ev_li,Com.ev_li1,Com.ev_gS,Com.ev_p18,Com.ev_p9,$[$xs:term],*])
local macro_rules | `(tactic| open_line with[$xs,*] seeing $h)=>`(tactic| simp only[Com.ev_ok,Com.ev_seq,Com.ev_seq1,Com.ev_seq2,Com.ev_seq3,Com.ev_seq4,Com.ev_next,Com.ev_set,Com.ev_set1,Com.ev_ret,Com.ev_ret1,Com.ev_retN,Com.ev_drop,Com.ev_drop1,Com.ev_if,Com.ev_if1,Com.ev_if2,Com.ev_own,Com.ev_own1,Com.ev_app,Com.ev_ownS,Com.ev_appL,Com.ev_put,Com.ev_put1,Com.ev_putL,Com.ev_putL1,Com.ev_frz,Com.ev_unp,Com.ev_par,Com.ev_par1,Com.ev_b1,Com.ev_b2,Com.ev_b21,Com.ev_bA,Com.ev_nil,Com.ev_cons,Com.ev_cons1,Com.ev_cons2,Com.ev_and,Com.ev_and1,Com.ev_and2,Com.ev_or,Com.ev_or1,Com.ev_or2,Com.ev_not,Com.ev_not1,Com.ev_ifx,Com.ev_ifx1,Com.ev_ifx2,Com.ev_var,Com.ev_var1,Com.ev_C,Com.ev_shr0,Com.ev_shr,Com.ev_shr1,Com.ev_shr2,Com.ev_shr3,Com.ev_shr4,Com.ev_fr1,Com.ev_fr2,Com.ev_frc,Com.ev_ownT,Com.ev_clrAt,Com.ev_clrAt1,Com.ev_run,Com.ev_run1,Com.ev_run2,Com.ev_os,Com.ev_os1,Com.ev_on,Com.ev_sl,Com.ev_sl0,Com.ev_sl1,Com.ev_sl2,Com.ev_for,Com.ev_for1,Com.ev_chain,Com.ev_ch,Com.ev_ch1,Com.ev_ch2,Com.ev_ch3,Com.ev_iop,Com.ev_add,Com.ev_neg,Com.ev_m1,Com.ev_m2,Com.ev_lenL,Com.ev_lenT,Com.ev_p60,Com.eq_int,Com.ne_int,List.map_cons,List.map_nil,List.length_cons,List.length_nil,List.replicate_succ,List.replicate_zero,List.nil_append,List.cons_append,List.getElem?_cons_zero,List.getElem?_cons_succ,List.set_cons_zero,List.set_cons_succ,Nat.sub_zero,Nat.reduceSub,Nat.reduceAdd,Nat.add_zero,Nat.zero_add,Bool.not_true,Bool.not_false,Com.ev_tup,Com.ev_lst,Com.ev_addL,Com.ev_app1,Com.ev_appL1,Com.ev_mod,Com.ev_unpL,Com.ev_unpT,Com.ev_sa,Com.ev_sa0,Com.ev_un,Com.ev_un1,Com.ev_un2,Com.ev_un3,Com.ev_ixL0,Com.ev_ixL1,Com.ev_ixL2,Com.ev_ixL3,Com.ev_ixL4,Com.ev_ixL5,Com.ev_ixL6,Com.ev_ixL7,Com.ev_ixL8,Com.ev_ixL9,Com.ev_ixL10,Com.ev_ixL11,Com.ev_ixL12,Com.ev_ixL13,Com.ev_ixT0,Com.ev_ixT1,Com.ev_ixT2,Com.ev_ixT3,Com.ev_ixT4,Com.ev_ixT5,decide_true,decide_false,Nat.reduceLeDiff,Nat.reduceBEq,Int.reduceBEq,beq_self_eq_true,DL.dOne,DL.mYes,Com.ev_is_bool_non,Com.ev_is_bool_bl,Com.ev_is_bool_int,Com.ev_is_bool_str,Com.ev_is_bool_tup,Com.ev_is_bool_lst,Com.ev_is_bool_dic,Com.ev_is_int_non,Com.ev_is_int_bl,Com.ev_is_int_int,Com.ev_is_int_str,Com.ev_is_int_tup,Com.ev_is_int_lst,Com.ev_is_int_dic,Com.ev_is_str_non,Com.ev_is_str_bl,Com.ev_is_str_int,Com.ev_is_str_str,Com.ev_is_str_tup,Com.ev_is_str_lst,Com.ev_is_str_dic,Com.ev_is_tuple_non,Com.ev_is_tuple_bl,Com.ev_is_tuple_int,Com.ev_is_tuple_str,Com.ev_is_tuple_tup,Com.ev_is_tuple_lst,Com.ev_is_tuple_dic,Com.ev_is_list_non,Com.ev_is_list_bl,Com.ev_is_list_int,Com.ev_is_list_str,Com.ev_is_list_tup,Com.ev_is_list_lst,Com.ev_is_list_dic,Com.ev_is_dict_non,Com.ev_is_dict_bl,Com.ev_is_dict_int,Com.ev_is_dict_str,Com.ev_is_dict_tup,Com.ev_is_dict_lst,Com.ev_is_dict_dic,Com.ev_isN_non,Com.ev_notN_non,Com.ev_isN_bl,Com.ev_notN_bl,Com.ev_isN_int,Com.ev_notN_int,Com.ev_isN_str,Com.ev_notN_str,Com.ev_isN_tup,Com.ev_notN_tup,Com.ev_isN_lst,Com.ev_notN_lst,Com.ev_isN_dic,Com.ev_notN_dic,Com.ev_c0,Com.ev_c1,Com.ev_c2,Com.ev_c3,Com.ev_c4,Com.ev_c5,Com.ev_c6,Com.ev_c7,Com.ev_c8,Com.ev_c9,Com.ev_c10,Com.ev_c11,Int.reduceLT,Int.reduceLE,Int.reduceSub,Int.reduceAdd,Int.reduceMul,Int.reduceNeg,Com.ev_join,Com.ev_join1,Com.ev_pt0,Com.ev_pt1,Com.ev_pt2,Com.ev_pt3,Com.ev_pt4,Com.ev_rep,Com.ev_rep1,Com.ev_rep2,Int.reduceToNat,Bool.and_self,Com.ev_forI,Com.ev_forI1,Com.ev_srcE,Com.ev_srcE1,Com.ev_srcL,Com.ev_srcL1,Com.ev_srcT,Com.ev_srcT1,Com.ev_comp,Com.ev_fld,Com.ev_fld0,Com.ev_fld1,Com.ev_fld2,Com.ev_lI,Com.ev_lI1,Com.ev_gU,Com.ev_forR,Com.ev_slT,Com.ev_addT,Com.ev_addS,Com.ev_lenS,Com.ev_mx,Com.ev_io,Com.ev_io1,Com.ev_li,Com.ev_li1,Com.ev_gS,Com.ev_p18,Com.ev_p9,$[$xs:term],*] at $(⟨h⟩):ident)
namespace Com
open PySem L2 DL
def zd7:Ev->Res Fl :=
 (zan (zbc 2 (dC (.str "abcdefghijklmnopqrstuvwxyz")))
 (zan (zbc 3 (zal (zad (zaf 0) (zad (zab (zab (zal (zad (dC (.int 8)) (zad (dC (.int 8)) (zad (dC (.int 12)) (zad (dC (.int 26)) (zad (dC (.int 2)) zar))))) zdm) (zq2 (zal (zad (dC (.int 26)) zar) zdm) (dC (.int 8))) zbe) (zq2 (zal (zad (dC (.int 8)) zar) zdm) (dC (.int 8))) zbe) zar)) zaI))
 (zan (zbc 4 (zab (zal (zad (dC (.int 1)) (zad (dC (.int 3)) (zad (dC (.int 5)) (zad (dC (.int 7)) (zad (dC (.int 9)) (zad (dC (.int 11)) (zad (dC (.int 15)) (zad (dC (.int 17)) (zad (dC (.int 19)) (zad (dC (.int 21)) (zad (dC (.int 23)) (zad (dC (.int 25)) zar)))))))))))) zdm) (zab (zaf 3) (dC (.int 2)) dIx) dIx))
 (zan (zbc 5 (zqG (dC (.str "")) (zad (zfL 1 [2] (zus (zgS (zaf 3) (zbh (dC (.int 5))) (zbh (dC (.int 13))))) (zdW 0) mYes (zab (zaf 1) (zaf 0) dIx)) zar)))
 (zan (zsJ 6 (zal zar zdm))
 (zan (zkT (zaf 1) (zdW 7)
 (zan (zbc 8 (zab (dC (.int 1)) (zab (zaf 3) (dC (.int 0)) dIx) zbe))
 (zan (sIf (zab (zab (zaf 3) (dC (.int 4)) dIx) (dC (.int 1)) dEq)
 (zan (zbc 8 (zab (dC (.int 1)) (zab (zaf 3) (zab (dC (.int 13)) (zaf 7) zbe) dIx) zbe))
 zaj)
 zaj)
 (zan (zbc 9 (zab (zab (zaf 3) (dC (.int 1)) dIx) (zaf 8) zdV))
 (zan (zbc 10 (zab (zaf 2) (zab (zab (zab (zaf 3) (dC (.int 3)) dIx) (zab (zaf 7) (zaf 4) zcv) zbe) (dC (.int 26)) zdV) dIx))
 (zan (zc5 6 (zab (zab (zgS (zaf 5) zeN (zbh (zaf 9))) (zaf 10) zbe) (zgS (zaf 5) (zbh (zab (zaf 9) (dC (.int 1)) zbe)) (zbh (zaf 8))) zbe))
 zaj))))))
 (zan (zcy (zaf 6))
 zaj)))))))
def zch:List D->Res D:=zc6 11 zd7
def za9:Ev->Res Fl :=
 (zan (zuu [2,3,4] (zaf 0))
 (zan (sIf (zab (zaf 2) (dC (.int 3)) dLt)
 (zan (zcy (zal (zad (zab (zaf 1) (zab (zaf 3) (dC (.int 10)) zdV) zbe) (zad (dC (.int 1)) zar)) zjC))
 zaj)
 zaj)
 (zan (sIf (zab (zaf 2) (dC (.int 7)) dLt)
 (zan (zcy (zal (zad (zab (zaf 1) (zab (zaf 3) (dC (.int 24)) zdV) zbe) (zad (zab (dC (.int 1)) (zab (zaf 4) (dC (.int 6)) zdV) zbe) zar)) zbE))
 zaj)
 zaj)
 (zan (zcy (zal (zad (zab (zaf 1) (zaf 3) zbe) (zad (zab (dC (.int 1)) (zaf 4) zbe) zar)) zbE))
 zaj))))
def zaF:List D->Res D:=zc6 5 za9
def zeC:Ev->Res Fl :=
 (zan (zbc 3 (zal (zad (dC (.int 8)) (zad (zaf 2) (zad (zaf 2) zar))) zdm))
 (zan (zbc 4 (zal (zad (zaf 1) (zad (zab (zab (zal (zad (zal (zad (zaf 0) zar) (m1 zey)) (zad (zab (zal (zad (zaf 0) zar) (m1 zey)) (dC (.int 1)) zhg) (zad (dC (.int 2)) (zad (dC (.int 5)) zar)))) zdm) (zaf 3) zbe) (zaf 3) zbe) zar)) zaI))
 (zan (zbc 5 (dC (.non)))
 (zan (sIf (zab (zab (zaf 4) (dC (.int 3)) dIx) (dC (.int 0)) dGt)
 (zan (zbc 5 (zal (zad (zgS (zaf 4) (zbh (dC (.int 7))) (zbh (dC (.int 10)))) (zad (dC (.int 1)) zar)) zaF))
 zaj)
 zaj)
 (zan (zbc 6 (zab (zaf 0) (zab (zaf 4) (dC (.int 0)) dIx) dIx))
 (zan (zbc 7 (zab (zaf 0) (zab (zab (zab (zab (zaf 4) (dC (.int 0)) dIx) (dC (.int 1)) zbe) (zab (zaf 4) (dC (.int 1)) dIx) zbe) (zal (zad (zaf 0) zar) (m1 zey)) zdV) dIx))
 (zan (zbc 8 (zab (zal (zad (dC (.str "one")) (zad (dC (.str "both")) zar)) zdm) (zab (zaf 4) (dC (.int 2)) dIx) dIx))
 (zan (zcy (zal (zad (zaf 6) (zad (zaf 7) (zad (zaf 8) (zad (zal (zad (zgS (zaf 4) (zbh (dC (.int 4))) (zbh (dC (.int 7)))) (zad (dC (.int 0)) zar)) zaF) (zad (zaf 5) zar))))) zjC))
 zaj))))))))
def zcH:List D->Res D:=zc6 9 zeC
theorem zns {a b:Int}(ha:0<=a)(hb:0 < b):0<=(low a b).1:=Int.ediv_nonneg ha (by omega)
theorem zr9 {a b:Int}(ha:0 < a)(hb:0 < b):0 < (low a b).1:=by
 have hg:0 < (Int.gcd a b:Int):=zma (by omega)
 have hd:(Int.gcd a b:Int)∣a:=Int.gcd_dvd_left ..
 exact Int.ediv_pos_of_pos_of_dvd ha (by omega) hd
theorem zoX {a:Int}(h0:0<=a)(h1:a < (N60:Int)):znK (a,1):=⟨⟨by show(1:Int)<=1;decide,by show Int.gcd a 1=1;exact Int.gcd_one_right ..⟩,by show a.natAbs < N60;omega,by show(1:Int).natAbs < N60;decide⟩
theorem zv3 {a:Int}(h0:0<=a)(h1:a < (N60:Int)):a.natAbs < B13:=Nat.lt_of_lt_of_le (show a.natAbs < N60 by omega) zsH
theorem zgP {w a b l:Int}(ha:0<=a/\a < (N60:Int)-1)(hb:0<=b/\b < (N60:Int)-1)(hl:0<=l/\l<=1):∃ x:Fra,zaF [.lst [.int w,.int a,.int b],.int l]=.ok (fr x)/\znK x/\l<=x.1:=by
 have hN:(100:Int) < (N60:Int):=by decide
 have key:∀ p q:Int,0<=p->p+l < (N60:Int)->1<=q->q < (N60:Int)->∃ x:Fra,zbE [.int (l+p),.int q]=.ok (fr x)/\znK x/\l<=x.1:=fun p q p0 p1 q0 q1=>by
  refine⟨low (l+p) q,zoE (by omega) (zv3 (by omega) (by omega)) (zv3 (by omega) (by omega)),zvl (by omega) (by omega) (by omega),?_⟩
  by_cases h:l+p=0
  ·have:l=0:=by omega
   rw[this];exact zns (by omega) (by omega)
  ·have:=zr9 (a:=l+p) (b:=q) (by omega) (by omega)
   omega
 by_cases h3:w < 3
 ·have x:=zha (a:=a) (b:=10) (by decide)
  refine⟨(l+a.fmod 10,1),?_,zoX (by omega) (by omega),by show l<=l+a.fmod 10;omega⟩
  open_line with[zaF,za9,decide_eq_true h3]
  rfl
 ·by_cases h7:w < 7
  ·have x:=zha (a:=a) (b:=24) (by decide)
   have y:=zha (a:=b) (b:=6) (by decide)
   obtain⟨z,hz,r⟩:=key (a.fmod 24) (1+b.fmod 6) x.1 (by omega) (by omega) (by omega)
   refine⟨z,?_,r⟩
   open_line with[zaF,za9,decide_eq_false h3,decide_eq_true h7,hz]
  ·obtain⟨z,hz,r⟩:=key a (1+b) ha.1 (by omega) (by omega) (by omega)
   refine⟨z,?_,r⟩
   open_line with[zaF,za9,decide_eq_false h3,decide_eq_false h7,hz]
theorem zoR {i:Nat}{body:Ev->Res Fl}(P:Nat->Ev->Prop){n:Nat}(h:∀ k,k < n->∀ ρ,P k ρ->∃ ρ2,body (ρ.set i (.sh (.int (k:Int))))=.ok (.nx ρ2)/\P (k+1) ρ2){ρ:Ev}(h0:P 0 ρ):∃ ρ',zcX (zdW i) body (intsFrom 0 n) ρ=.ok (.nx ρ')/\P n ρ':=by
 have key:∀ (m k:Nat) (ρ:Ev),k+m=n->P k ρ->∃ ρ',zcX (zdW i) body ((intsFrom 0 n).drop k) ρ=.ok (.nx ρ')/\P n ρ':=by
  intro m
  induction m with
  | zero =>
   intro k ρ hk hp
   have:k=n:=by omega
   subst this
   rw[zmO]
   exact⟨ρ,rfl,hp⟩
  | succ m ih =>
   intro k ρ hk hp
   obtain⟨ρ2,h1,h2⟩:=h k (by omega) ρ hp
   rw[zlb (by omega),zkk (tg:=zdW i) rfl h1]
   exact ih (k+1) ρ2 (by omega) h2
 exact key n 0 ρ (by omega) h0
theorem zoT {tg:Ev->D->Res Ev}{body:Ev->Res Fl}{ds:List D}(P:Nat->Ev->Prop)(h:∀ k d,ds[k]?=some d->∀ ρ,P k ρ->∃ ρ1 ρ2,tg ρ d=.ok ρ1/\body ρ1=.ok (.nx ρ2)/\P (k+1) ρ2){ρ:Ev}(h0:P 0 ρ):∃ ρ',zcX tg body ds ρ=.ok (.nx ρ')/\P ds.length ρ':=by
 have key:∀ (m k:Nat) (ρ:Ev),k+m=ds.length->P k ρ->∃ ρ',zcX tg body (ds.drop k) ρ=.ok (.nx ρ')/\P ds.length ρ':=by
  intro m
  induction m with
  | zero =>
   intro k ρ hk hp
   have:k=ds.length:=by omega
   subst this
   rw[List.drop_length]
   exact⟨ρ,rfl,hp⟩
  | succ m ih =>
   intro k ρ hk hp
   have hlt:k < ds.length:=by omega
   obtain⟨ρ1,ρ2,h1,h2,h3⟩:=h k ds[k] (List.getElem?_eq_getElem hlt) ρ hp
   rw[List.drop_eq_getElem_cons hlt,zkk h1 h2]
   exact ih (k+1) ρ2 (by omega) h3
 exact key ds.length 0 ρ (by omega) h0
structure Drawn (sz vs:List Int):Prop where
 len:vs.length=sz.length
 bnd:∀ (i:Nat) (v s:Int),vs[i]?=some v->sz[i]?=some s->0<=v/\v < s
theorem Drawn.at {sz vs:List Int}(W:Drawn sz vs)(i:Nat){s:Int}(h:sz[i]?=some s):∃ v,vs[i]?=some v/\(0<=v/\v < s)/\dIx (.lst (vs.map D.int)) (.int (i:Int))=.ok (.int v):=by
 have hi:i < vs.length:=by rw[W.len];exact(List.getElem?_eq_some_iff.mp h).1
 refine⟨vs[i],List.getElem?_eq_getElem hi,W.bnd i _ _ (List.getElem?_eq_getElem hi) h,ze1 ?_⟩
 rw[List.getElem?_map,List.getElem?_eq_getElem hi];rfl
theorem Drawn.ix {sz vs:List Int}(W:Drawn sz vs)(k:Int)(i:Nat){s:Int}(hk:k=(i:Int))(h:sz[i]?=some s):∃ v,vs[i]?=some v/\(0<=v/\v < s)/\dIx (.lst (vs.map D.int)) (.int k)=.ok (.int v):=by
 subst hk;exact W.at i h
theorem zin (c:Int)(sz:List Int)(h:(sz.all fun s=>decide (0 < s)&&decide (s<=(N60:Int)))=true)(hn:sz.length<=1000):∃ vs,zaI [.int c,.lst (sz.map D.int)]=.ok (.lst (vs.map D.int))/\Drawn sz vs:=by
 obtain⟨vs,h1,h2,h3⟩:=zqv c sz (zuU h) hn
 exact⟨vs,h3,h1,h2⟩
theorem zsE:("abcdefghijklmnopqrstuvwxyz" : Str).cps.toList=(List.range 26).map (97 + ·):=by decide +kernel
theorem zrm:∀ n,n < 26->znw (97+n)=true:=by decide +kernel
theorem zrl {v:Int}(h0:0<=v)(h1:v < 26):dIx (.str "abcdefghijklmnopqrstuvwxyz") (.int v)=.ok (.str ⟨#[97+v.toNat]⟩):=by
 obtain⟨n,rfl⟩:=Int.eq_ofNat_of_zero_le h0
 have hn:n < 26:=by omega
 have e:atI ("abcdefghijklmnopqrstuvwxyz" : Str).cps.toList ((n:Nat):Int)=some (97+n):=zbn (by rw[zsE];simp [hn])
 show(if("abcdefghijklmnopqrstuvwxyz" : Str).length<=line then(match atI ("abcdefghijklmnopqrstuvwxyz" : Str).cps.toList ((n:Nat):Int) with | some c=>Res.ok (D.str ⟨#[c]⟩) | none=>.stuck) else .stuck)=_
 rw[if_pos (by decide),e]
 rfl
theorem zoH:∀ cs:List Nat,Str.join "" (cs.map fun c=>(⟨#[c]⟩:Str))=⟨cs.toArray⟩
 | []=>rfl
 | [c]=>rfl
 | c::d::cs=>by
  show(⟨#[c]⟩:Str)++""++Str.join "" ((d::cs).map fun c=>(⟨#[c]⟩:Str))=_
  rw[zoH (d::cs)]
  apply Str.ext'
  show(#[c]++("" : Str).cps)++(d::cs).toArray=_
  have:("" : Str).cps=#[]:=rfl
  rw[this]
  simp
theorem zn0:∀ cs:List Nat,zgl (cs.map fun c=>D.str ⟨#[c]⟩)=some (cs.map fun c=>(⟨#[c]⟩:Str))
 | []=>rfl
 | c::cs=>by
  show(zgl (cs.map fun c=>D.str ⟨#[c]⟩)).map _=_
  rw[zn0 cs];rfl
theorem znt {cs:List Nat}(h:cs.length<=1000):zl7 "" [.lst (cs.map fun c=>D.str ⟨#[c]⟩)]=.ok (.str ⟨cs.toArray⟩):=by
 have fit:zfB "" (cs.map fun c=>(⟨#[c]⟩:Str))=true:=by
  unfold zfB
  have e:((cs.map fun c=>(⟨#[c]⟩:Str)).map (·.length)).sum=cs.length:=by
   clear h
   induction cs with
   | nil=>rfl
   | cons c cs ih =>
    simp only[List.map_cons,List.sum_cons,List.length_cons,ih]
    show 1+cs.length=_
    omega
  rw[e,Bool.and_eq_true]
  exact⟨by decide,decide_eq_true (by rw[List.length_map];omega)⟩
 show(match zgl (cs.map fun c=>D.str ⟨#[c]⟩) with | some ys=>if zfB "" ys=true then Res.ok (D.str (Txt.join "" ys)) else .stuck | none=>.stuck)=_
 rw[zn0]
 show(if zfB "" _=true then Res.ok (D.str (Txt.join "" _)) else .stuck)=_
 rw[if_pos fit]
 show Res.ok (D.str (Builtin.Str.glued "" _))=_
 rw[StrLaws.glued_eq_join,zoH]
theorem zpP {cs:List Nat}{a b:Nat}(hab:a<=b)(hb:b<=cs.length):Txt.slice ⟨cs.toArray⟩ (some (a:Int)) (some (b:Int))=⟨((cs.drop a).take (b-a)).toArray⟩ :=
 StrLaws.sliceText_nat ⟨cs.toArray⟩ hab (by show b<=cs.toArray.size;simpa using hb)
theorem zpO {cs:List Nat}{b:Nat}(hb:b<=cs.length):Txt.slice ⟨cs.toArray⟩ none (some (b:Int))=⟨(cs.take b).toArray⟩:=by
 have:=StrLaws.sliceText_to (x:=⟨cs.toArray⟩) (j:=(b:Int)) ⟨by omega,by simpa using hb⟩
 refine Eq.trans this ?_
 simp
def nsz (vs:List Int)(k:Nat):Nat:=if vs[4]?=some 1 then 1+((vs[13+k]?).getD 0).toNat else 1+((vs[0]?).getD 0).toNat
def zhP (vs:List Int)(k:Nat):Nat:=((vs[1]?).getD 0).toNat % nsz vs k
def nsg (vs:List Int)(by_:Int)(k:Nat):Nat:=(((vs[3]?).getD 0).toNat+k*by_.toNat) % 26
def ncs (vs:List Int)(by_:Int)(B:List Nat)(k:Nat):List Nat:=B.take (zhP vs k)++(97+nsg vs by_ k)::(B.drop (zhP vs k+1)).take (nsz vs k-(zhP vs k+1))
def zk3:List Int:=[8,8,12,26,2,26,26,26,26,26,26,26,26,8,8,8,8,8,8,8,8]
def nby:List Int:=[1,3,5,7,9,11,15,17,19,21,23,25]
theorem zoB:∀ b∈nby,∀ k,k < 8->∀ j,j < 8->∀ d,d < 26->(d+k*b.toNat) % 26=(d+j*b.toNat) % 26->k=j:=by
 have key:∀ b∈nby,∀ k,k < 8->∀ j,j < 8->(k*b.toNat) % 26=(j*b.toNat) % 26->k=j:=by decide +kernel
 intro b hb k hk j hj d hd h
 refine key b hb k hk j hj ?_
 omega
structure zjm (zs:List Str):Prop where
 nd:zs.Nodup
 nm:∀ z∈zs,zkg z=true
theorem zl2 {vs:List Int}{by_:Int}{B:List Nat}{k:Nat}(hB:B.length=8)(hs:nsz vs k<=8)(h1:1<=nsz vs k):(ncs vs by_ B k).length=nsz vs k:=by
 have:zhP vs k < nsz vs k:=Nat.mod_lt _ (by omega)
 unfold ncs
 simp only[List.length_append,List.length_take,List.length_cons,List.length_drop]
 omega
theorem zra {vs:List Int}{by_:Int}{B:List Nat}{k:Nat}(hB:B.length=8)(hs:nsz vs k<=8)(h1:1<=nsz vs k):(ncs vs by_ B k)[zhP vs k]?=some (97+nsg vs by_ k):=by
 have:zhP vs k < nsz vs k:=Nat.mod_lt _ (by omega)
 unfold ncs
 rw[List.getElem?_append_right (by simp;omega)]
 have e:zhP vs k-(B.take (zhP vs k)).length=0:=by simp;omega
 rw[e];rfl
theorem zm7 {x y:Str}(h:x.length+y.length<=1000):zbe (.str x) (.str y)=.ok (.str (x++y)):=if_pos (Nat.le_trans h (by decide))
theorem zlj (a b:List Nat):(⟨a.toArray⟩:Str)++⟨b.toArray⟩=⟨(a++b).toArray⟩:=by
 apply Str.ext'
 show a.toArray++b.toArray=_
 simp
theorem zjb (a:List Nat):(⟨a.toArray⟩:Str).length=a.length:=by show a.toArray.size=_;simp
theorem zn2 {z:Str}{l h:Option Int}(hz:z.length<=1000):zqZ (.str z) l h=.ok (.str (Txt.slice z l h)):=by
 show(if z.length<=line then _ else _)=_
 rw[if_pos (Nat.le_trans hz (by decide))]
set_option maxHeartbeats 1000000 in
theorem zp8 (c:Int)(n:Nat)(hn:n<=8):∃ zs:List Str,zch [.int c,.int (n:Int)]=.ok (.lst (zs.map D.str))/\zs.length=n/\zjm zs:=by
 obtain⟨vs,hd,W⟩:=zin c zk3 (by decide) (by decide)
 obtain⟨d0,g0,b0,i0⟩:=W.ix 0 0 rfl rfl
 obtain⟨d1,g1,b1,i1⟩:=W.ix 1 1 rfl rfl
 obtain⟨d2,g2,b2,i2⟩:=W.ix 2 2 rfl rfl
 obtain⟨d3,g3,b3,i3⟩:=W.ix 3 3 rfl rfl
 obtain⟨d4,g4,b4,i4⟩:=W.ix 4 4 rfl rfl
 obtain⟨byD,hby1,hby2⟩:=zt2 (ds:=nby.map D.int) (k:=d2) b2.1 (by simpa [nby] using b2.2)
 obtain⟨by_,hbm,rfl⟩:=List.mem_map.mp hby1
 have hby0:0<=by_/\by_<=25:=by
  have:∀ b∈nby,0<=b/\b<=25:=by decide
  exact this by_ hbm
 have hlen:vs.length=21:=W.len
 have hL:(vs.map D.int).length=21:=by rw[List.length_map,hlen]
 have hcut:zcA (vs.map D.int) (some 5) (some 13)=((vs.drop 5).take 8).map D.int:=by
  rw[zks,hlen];rfl
 have hdig:∀ v∈(vs.drop 5).take 8,0<=v/\v < 26:=fun v hv=>by
  obtain⟨j,hj2⟩:=List.mem_iff_getElem?.mp hv
  have hj:j < 8:=by
   have:=(List.getElem?_eq_some_iff.mp hj2).1
   simp at this;omega
  rw[List.getElem?_take_of_lt hj,List.getElem?_drop] at hj2
  have hs:zk3[5+j]?=some 26:=by
   have:∀ j,j < 8->zk3[5+j]?=some 26:=by decide
   exact this j hj
  exact W.bnd _ _ _ hj2 hs
 generalize hBd:((vs.drop 5).take 8).map (fun v=>97+v.toNat)=B
 have hB:B.length=8:=by rw[← hBd];simp;omega
 have hBin:∀ x∈B,znw x=true:=fun x hx=>by
  rw[← hBd] at hx
  obtain⟨v,hv,rfl⟩:=List.mem_map.mp hx
  have:=hdig v hv
  exact zrm _ (by omega)
 have hcomp:zjv 1 [2] (zdW 0) mYes (zab (zaf 1) (zaf 0) dIx) [.sh (.int c),.sh (.int (n:Int)),.sh (.str "abcdefghijklmnopqrstuvwxyz"),.sh (.lst (vs.map D.int)),.sh (.int by_),.no,.no,.no,.no,.no,.no] (((vs.drop 5).take 8).map D.int)=.ok (.lst (B.map fun c=>D.str ⟨#[c]⟩)):=by
  rw[zqH (F:=fun d=>match d with | .int v=>.str ⟨#[97+v.toNat]⟩ | d=>d) (by simp;omega)]
  ·rw[← hBd,List.map_map,List.map_map];rfl
  ·intro d hd'
   obtain⟨v,hv,rfl⟩:=List.mem_map.mp hd'
   have hv2:=hdig v hv
   exact⟨[.sh (.int v),.sh (.str "abcdefghijklmnopqrstuvwxyz")],rfl,rfl,zrl hv2.1 hv2.2⟩
 have hsz:∀ k,k < n->1<=nsz vs k/\nsz vs k<=8:=fun k hk=>by
  unfold nsz
  have h13:∀ j,j < 8->zk3[13+j]?=some 8:=by decide
  obtain⟨e,ge,be,_⟩:=W.at (13+k) (h13 k (by omega))
  rw[ge,g0]
  simp only[Option.getD_some]
  split<;>omega
 obtain⟨ρ',hloop,a1,a2,a3,a4,hρ⟩:=zoR (i:=7) (n:=n) (ρ:=[.sh (.int c),.sh (.int (n:Int)),.sh (.str "abcdefghijklmnopqrstuvwxyz"),.sh (.lst (vs.map D.int)),.sh (.int by_),.sh (.str ⟨B.toArray⟩),.ow (.lst []),.no,.no,.no,.no])
  (body:=(zan (zbc 8 (zab (dC (.int 1)) (zab (zaf 3) (dC (.int 0)) dIx) zbe))
   (zan (sIf (zab (zab (zaf 3) (dC (.int 4)) dIx) (dC (.int 1)) dEq)
   (zan (zbc 8 (zab (dC (.int 1)) (zab (zaf 3) (zab (dC (.int 13)) (zaf 7) zbe) dIx) zbe))
   zaj)
   zaj)
   (zan (zbc 9 (zab (zab (zaf 3) (dC (.int 1)) dIx) (zaf 8) zdV))
   (zan (zbc 10 (zab (zaf 2) (zab (zab (zab (zaf 3) (dC (.int 3)) dIx) (zab (zaf 7) (zaf 4) zcv) zbe) (dC (.int 26)) zdV) dIx))
   (zan (zc5 6 (zab (zab (zgS (zaf 5) zeN (zbh (zaf 9))) (zaf 10) zbe) (zgS (zaf 5) (zbh (zab (zaf 9) (dC (.int 1)) zbe)) (zbh (zaf 8))) zbe))
   zaj))))))
  (fun k ρ=>∃ a1 a2 a3 a4,ρ=[.sh (.int c),.sh (.int (n:Int)),.sh (.str "abcdefghijklmnopqrstuvwxyz"),.sh (.lst (vs.map D.int)),.sh (.int by_),.sh (.str ⟨B.toArray⟩),.ow (.lst ((List.range k).map fun j=>D.str ⟨(ncs vs by_ B j).toArray⟩)),a1,a2,a3,a4])
  (by
   rintro k hk ρ ⟨a1,a2,a3,a4,rfl⟩
   have h13:∀ j,j < 8->zk3[13+j]?=some 8:=by decide
   obtain⟨e,ge,be,ie⟩:=W.at (13+k) (h13 k (by omega))
   have ie':dIx (.lst (vs.map D.int)) (.int (13+(k:Int)))=.ok (.int e):=by
    have:(13+(k:Int))=((13+k:Nat):Int):=by omega
    rw[this];exact ie
   have hs:=hsz k hk
   have hat:zhP vs k < nsz vs k:=Nat.mod_lt _ (by omega)
   have hmul:zh3 (k:Int) by_=true:=zdl (by omega) (by omega)
   have hsg:nsg vs by_ k < 26:=Nat.mod_lt _ (by decide)
   have hsgI:(d3+(k:Int)*by_).fmod 26=(nsg vs by_ k:Int):=by
    unfold nsg
    rw[g3,Option.getD_some,Int.fmod_eq_emod_of_nonneg _ (by decide)]
    obtain⟨x,rfl⟩:=Int.eq_ofNat_of_zero_le b3.1
    obtain⟨y,rfl⟩:=Int.eq_ofNat_of_zero_le hby0.1
    simp only[Int.toNat_natCast]
    omega
   have hsig:=zrl (v:=(nsg vs by_ k:Int)) (by omega) (by omega)
   rw[Int.toNat_natCast] at hsig
   have hz0:((nsz vs k:Int)==0)=false:=beq_eq_false_iff_ne.mpr (by omega)
   have hatI:d1.fmod (nsz vs k:Int)=(zhP vs k:Int):=by
    unfold zhP
    rw[g1,Option.getD_some,Int.fmod_eq_emod_of_nonneg _ (by omega)]
    obtain⟨x,rfl⟩:=Int.eq_ofNat_of_zero_le b1.1
    simp only[Int.toNat_natCast]
    omega
   have s1:zqZ (.str ⟨B.toArray⟩) none (some (zhP vs k:Int))=.ok (.str ⟨(B.take (zhP vs k)).toArray⟩):=by
    rw[zn2 (by rw[zjb];omega),zpO (by omega)]
   have s2:zqZ (.str ⟨B.toArray⟩) (some ((zhP vs k:Int)+1)) (some (nsz vs k:Int))=.ok (.str ⟨((B.drop (zhP vs k+1)).take (nsz vs k-(zhP vs k+1))).toArray⟩):=by
    have:((zhP vs k:Int)+1)=((zhP vs k+1:Nat):Int):=by omega
    rw[zn2 (by rw[zjb];omega),this,zpP (by omega) (by omega)]
   have t1:zbe (.str ⟨(B.take (zhP vs k)).toArray⟩) (.str ⟨#[97+nsg vs by_ k]⟩)=.ok (.str ⟨(B.take (zhP vs k)++[97+nsg vs by_ k]).toArray⟩):=by
    have e1:(⟨#[97+nsg vs by_ k]⟩:Str)=⟨([97+nsg vs by_ k]:List Nat).toArray⟩:=rfl
    rw[e1,zm7 (by rw[zjb,zjb];simp;omega),zlj]
   have t2:zbe (.str ⟨(B.take (zhP vs k)++[97+nsg vs by_ k]).toArray⟩) (.str ⟨((B.drop (zhP vs k+1)).take (nsz vs k-(zhP vs k+1))).toArray⟩)=.ok (.str ⟨(ncs vs by_ B k).toArray⟩):=by
    rw[zm7 (by rw[zjb,zjb];simp;omega),zlj]
    unfold ncs
    rw[List.append_assoc];rfl
   have happ:((List.range k).map fun j=>D.str ⟨(ncs vs by_ B j).toArray⟩)++[D.str ⟨(ncs vs by_ B k).toArray⟩]=(List.range (k+1)).map fun j=>D.str ⟨(ncs vs by_ B j).toArray⟩:=by
    rw[List.range_succ,List.map_append];rfl
   have hlt:decide (((List.range k).map fun j=>D.str ⟨(ncs vs by_ B j).toArray⟩).length<=999)=true:=decide_eq_true (by simp;omega)
   cases h4:(d4==1) with
   | true =>
    have hz:1+e=(nsz vs k:Int):=by unfold nsz;rw[g4,eq_of_beq h4,if_pos rfl,ge];simp only[Option.getD_some];omega
    open_line with[i0,i1,i3,i4,h4,ie',hz,hz0,hatI,zmU hmul,hsgI,hsig,s1,s2,t1,t2,ev_app1 hlt,happ]
    exact⟨_,rfl,_,_,_,_,rfl⟩
   | false =>
    have hz:1+d0=(nsz vs k:Int):=by unfold nsz;rw[g4,if_neg (by intro z;cases z;simp at h4),g0];simp only[Option.getD_some];omega
    open_line with[i0,i1,i3,i4,h4,hz,hz0,hatI,zmU hmul,hsgI,hsig,s1,s2,t1,t2,ev_app1 hlt,happ]
    exact⟨_,rfl,_,_,_,_,rfl⟩)
  ⟨.no,.no,.no,.no,rfl⟩
 subst hρ
 have hby3:dIx (.lst [.int 1,.int 3,.int 5,.int 7,.int 9,.int 11,.int 15,.int 17,.int 19,.int 21,.int 23,.int 25]) (.int d2)=.ok (.int by_):=hby2
 have hd':zaI [.int c,.lst [D.int 8,D.int 8,D.int 12,D.int 26,D.int 2,D.int 26,D.int 26,D.int 26,D.int 26,D.int 26,D.int 26,D.int 26,D.int 26,D.int 8,D.int 8,D.int 8,D.int 8,D.int 8,D.int 8,D.int 8,D.int 8]]=.ok (.lst (vs.map D.int)):=hd
 refine⟨(List.range n).map fun j=>⟨(ncs vs by_ B j).toArray⟩,?_,by simp,?_⟩
 ·rw[zch,zd7]
  open_line with[List.length_append,List.length_replicate]
  rw[hd']
  open_line with[i2,hby3,hcut]
  rw[hcomp]
  open_line with[znt (show B.length<=1000 by omega),zij (show n<=1000000 by omega)]
  rw[hloop]
  open_line with[List.map_map]
  rfl
 ·refine⟨?_,fun z hz=>?_⟩
  ·rw[List.nodup_iff_pairwise_ne,List.pairwise_map]
   refine List.Pairwise.imp_of_mem ?_ List.pairwise_lt_range
   intro k j hk hj hlt heq
   rw[List.mem_range] at hk hj
   have hs:=hsz k hk
   have hs':=hsz j hj
   have e:ncs vs by_ B k=ncs vs by_ B j:=by
    have:=congrArg (fun s:Str=>s.cps.toList) heq
    simpa using this
   have el:nsz vs k=nsz vs j:=by rw[← zl2 (by_:=by_) hB hs.2 hs.1,e,zl2 hB hs'.2 hs'.1]
   have ea:zhP vs k=zhP vs j:=by unfold zhP;rw[el]
   have h1:=zra (by_:=by_) hB hs.2 hs.1
   have h2:=zra (by_:=by_) hB hs'.2 hs'.1
   rw[e,ea,h2] at h1
   have h3:nsg vs by_ k=nsg vs by_ j:=by have:=Option.some.inj h1;omega
   unfold nsg at h3
   have hd3:((vs[3]?).getD 0).toNat < 26:=by rw[g3,Option.getD_some];omega
   have:=zoB by_ hbm k (by omega) j (by omega) _ hd3 h3
   omega
  ·obtain⟨k,hk,rfl⟩:=List.mem_map.mp hz
   rw[List.mem_range] at hk
   have hs:=hsz k hk
   unfold zkg
   rw[zjb,zl2 hB hs.2 hs.1]
   simp only[Bool.and_eq_true,decide_eq_true_eq]
   refine⟨hs.1,hs.2,List.all_eq_true.mpr fun x hx=>?_⟩
   simp only[ncs,List.mem_append,List.mem_cons] at hx
   rcases hx with hx | rfl | hx
   ·exact hBin x (List.mem_of_mem_take hx)
   ·exact zrm _ (Nat.mod_lt _ (by decide))
   ·exact hBin x (List.mem_of_mem_drop (List.mem_of_mem_take hx))
structure Tie where
 a:Str
 b:Str
 w:Str
 l:Fra
 o:Option Fra
def zcT:Option Fra->D
 | none=>.non
 | some x=>fr x
def zf1 (t:Tie):D:=.tup [.str t.a,.str t.b,.str t.w,fr t.l,zcT t.o]
structure zps (zs:List Str) (t:Tie):Prop where
 a:t.a∈zs
 b:t.b∈zs
 ne:t.a≠t.b
 w:t.w="one"∨t.w="both"
 l:znK t.l
 l0:0<=t.l.1
 o:∀ x,t.o=some x->znK x/\0 < x.1
theorem zsU {α:Type}{vs:List α}{i:Nat}{a b c:α}(h0:vs[i]?=some a)(h1:vs[i+1]?=some b)(h2:vs[i+2]?=some c):(vs.drop i).take 3=[a,b,c]:=by
 apply List.ext_getElem?
 intro j
 rcases j with _ | _ | _ | j
 ·rw[List.getElem?_take_of_lt (by decide),List.getElem?_drop];simpa using h0
 ·rw[List.getElem?_take_of_lt (by decide),List.getElem?_drop];simpa using h1
 ·rw[List.getElem?_take_of_lt (by decide),List.getElem?_drop];simpa using h2
 ·rw[List.getElem?_eq_none (by simp;omega)];simp
theorem zm1 {vs:List Int}{a b:Nat}{x y:Int}(hx:x=(a:Int))(hy:y=(b:Int))(h:b<=vs.length)(hab:a<=b):zcA (vs.map D.int) (some x) (some y)=((vs.drop a).take (b-a)).map D.int:=by
 subst hx hy
 rw[zks,HT.sIx_nat,HT.sIx_nat,Nat.min_eq_left h,Nat.min_eq_left (Nat.le_trans hab h)]
theorem zvE {vs:List Int}{i:Nat}{x y:Int}{a b c:Int}(hx:x=(i:Int))(hy:y=((i+3:Nat):Int))(h0:vs[i]?=some a)(h1:vs[i+1]?=some b)(h2:vs[i+2]?=some c):zcA (vs.map D.int) (some x) (some y)=[.int a,.int b,.int c]:=by
 have hl:i+3<=vs.length:=by have:=(List.getElem?_eq_some_iff.mp h2).1;omega
 rw[zm1 hx hy hl (by omega),show i+3-i=3 by omega,zsU h0 h1 h2]
 rfl
theorem zmw {zs:List Str}{k:Int}(h0:0<=k)(h1:k < zs.length):∃ z,zs[k.toNat]?=some z/\dIx (.lst (zs.map D.str)) (.int k)=.ok (.str z):=by
 obtain⟨n,rfl⟩:=Int.eq_ofNat_of_zero_le h0
 have hn:n < zs.length:=by omega
 refine⟨zs[n],by simp [hn],ze1 ?_⟩
 rw[List.getElem?_map,List.getElem?_eq_getElem hn];rfl
theorem zry {k:Int}(h0:0<=k)(h1:k < 2):∃ z:Str,(z="one"∨z="both")/\dIx (.lst [.str "one",.str "both"]) (.int k)=.ok (.str z):=by
 have:k=0∨k=1:=by omega
 rcases this with rfl | rfl
 ·exact⟨_,.inl rfl,ev_ixL0⟩
 ·exact⟨_,.inr rfl,ev_ixL1⟩
theorem zlu {n d e:Int}(h2:2<=n)(d0:0<=d)(d1:d < n)(e0:0<=e)(e1:e < n-1):(0<=(d+1+e).fmod n/\(d+1+e).fmod n < n)/\(d+1+e).fmod n≠d:=by
 refine⟨zha (by omega),?_⟩
 rw[Int.fmod_eq_emod_of_nonneg _ (by omega)]
 by_cases h:d+1+e < n
 ·rw[Int.emod_eq_of_lt (by omega) h];omega
 ·have:(d+1+e) % n=d+1+e-n:=by
   rw[← Int.sub_emod_right (d+1+e) n,Int.emod_eq_of_lt (by omega) (by omega)]
  rw[this];omega
theorem zkf {α:Type}{zs:List α}(nd:zs.Nodup){i j:Nat}{x y:α}(hi:zs[i]?=some x)(hj:zs[j]?=some y)(hij:i≠j):x≠y:=by
 intro e
 subst e
 obtain⟨h1,e1⟩:=List.getElem?_eq_some_iff.mp hi
 obtain⟨h2,e2⟩:=List.getElem?_eq_some_iff.mp hj
 exact hij ((List.getElem_inj nd).mp (e1.trans e2.symm))
theorem zsT {zs:List Str}{c bd:Int}(h2:2<=zs.length)(h8:zs.length<=8)(nd:zs.Nodup)(hb:0 < bd/\bd<=(N60:Int)-1):∃ t,zcH [.lst (zs.map D.str),.int c,.int bd]=.ok (zf1 t)/\zps zs t:=by
 have hN:(100:Int) < (N60:Int):=by decide
 obtain⟨vs,hd,W⟩:=zin c [(zs.length:Int),(zs.length:Int)-1,2,5,8,bd,bd,8,bd,bd] (by
  simp only[List.all_cons,List.all_nil,Bool.and_eq_true,decide_eq_true_eq,Bool.and_true]
  refine⟨?_,?_,?_,?_,?_,?_,?_,?_,?_,?_⟩<;>constructor<;>omega) (by simp)
 obtain⟨d0,g0,b0,i0⟩:=W.ix 0 0 rfl rfl
 obtain⟨d1,g1,b1,i1⟩:=W.ix 1 1 rfl rfl
 obtain⟨d2,g2,b2,i2⟩:=W.ix 2 2 rfl rfl
 obtain⟨d3,g3,b3,i3⟩:=W.ix 3 3 rfl rfl
 obtain⟨d4,g4,b4,_⟩:=W.at 4 rfl
 obtain⟨d5,g5,b5,_⟩:=W.at 5 rfl
 obtain⟨d6,g6,b6,_⟩:=W.at 6 rfl
 obtain⟨d7,g7,b7,_⟩:=W.at 7 rfl
 obtain⟨d8,g8,b8,_⟩:=W.at 8 rfl
 obtain⟨d9,g9,b9,_⟩:=W.at 9 rfl
 have c4:=zvE (x:=4) (y:=7) (i:=4) rfl rfl g4 g5 g6
 have c7:=zvE (x:=7) (y:=10) (i:=7) rfl rfl g7 g8 g9
 obtain⟨hr,hne⟩:=zlu (n:=(zs.length:Int)) (d:=d0) (e:=d1) (by omega) b0.1 b0.2 b1.1 b1.2
 obtain⟨z1,k1,j1⟩:=zmw (zs:=zs) b0.1 b0.2
 obtain⟨z2,k2,j2⟩:=zmw (zs:=zs) hr.1 hr.2
 obtain⟨wd,hw,jw⟩:=zry b2.1 b2.2
 obtain⟨x,hx,fx,lx⟩:=zgP (w:=d4) (a:=d5) (b:=d6) (l:=0) ⟨b5.1,by omega⟩ ⟨b6.1,by omega⟩ (by decide)
 obtain⟨y,hy,fy,ly⟩:=zgP (w:=d7) (a:=d8) (b:=d9) (l:=1) ⟨b8.1,by omega⟩ ⟨b9.1,by omega⟩ (by decide)
 have hn0:((zs.length:Int)==0)=false:=beq_eq_false_iff_ne.mpr (by omega)
 have hz12:z1≠z2:=zkf nd k1 k2 (by omega)
 have hd':zaI [.int c,.lst [.int (zs.length:Int),.int ((zs.length:Int)-1),.int 2,.int 5,.int 8,.int bd,.int bd,.int 8,.int bd,.int bd]]=.ok (.lst (vs.map D.int)):=hd
 by_cases h3:0 < d3
 ·refine⟨⟨z1,z2,wd,x,some y⟩,?_,List.mem_of_getElem? k1,List.mem_of_getElem? k2,hz12,hw,fx,lx,fun v hv=>?_⟩
  ·open_line with[zcH,zeC,List.length_map,hd',i3,decide_eq_true h3,c7,hy,i0,j1,i1,hn0,j2,i2,jw,c4,hx]
   rfl
  ·cases hv;exact⟨fy,by omega⟩
 ·refine⟨⟨z1,z2,wd,x,none⟩,?_,List.mem_of_getElem? k1,List.mem_of_getElem? k2,hz12,hw,fx,lx,fun v hv=>nomatch hv⟩
  open_line with[zcH,zeC,List.length_map,hd',i3,decide_eq_false h3,i0,j1,i1,hn0,j2,i2,jw,c4,hx]
  rfl
def zeX:Ev->Res Fl :=
 (zan (zcy (zhC (zal (zad (zaf 0) zar) zco) (zab (zab (zaf 0) (dC (.int 0)) dIx) (dC (.int 0)) dGe)))
 zaj)
def zcP:List D->Res D:=zc6 1 zeX
def zgg:Ev->Res Fl :=
 (zan (zcy (dOr (zab (zaf 0) (dC (.non)) zly) (zhC (zal (zad (zaf 0) zar) zco) (zab (zab (zaf 0) (dC (.int 0)) dIx) (dC (.int 0)) dGt))))
 zaj)
def zdw:List D->Res D:=zc6 1 zgg
def zio:Ev->Res Fl :=
 (zan (sIf (dOr (zc3 (zbi (zaf 0) (zcq "tuple"))) (zab (zal (zad (zaf 0) zar) (m1 zey)) (dC (.int 5)) dNe))
 (zan (zcy (dC (.bl false)))
 zaj)
 zaj)
 (zan (sIf (dOr (zc3 (zal (zad (zab (zaf 0) (dC (.int 0)) dIx) zar) zcg)) (dOr (zc3 (zal (zad (zab (zaf 0) (dC (.int 1)) dIx) zar) zcg)) (zab (zab (zaf 0) (dC (.int 0)) dIx) (zab (zaf 0) (dC (.int 1)) dIx) dEq)))
 (zan (zcy (dC (.bl false)))
 zaj)
 zaj)
 (zan (sIf (dOr (zc3 (zbi (zab (zaf 0) (dC (.int 2)) dIx) (zcq "str"))) (zab (zab (zaf 0) (dC (.int 2)) dIx) (dC (.tup [(.str "one"),(.str "both")])) ze2))
 (zan (zcy (dC (.bl false)))
 zaj)
 zaj)
 (zan (zcy (zhC (zal (zad (zab (zaf 0) (dC (.int 3)) dIx) zar) zcP) (zal (zad (zab (zaf 0) (dC (.int 4)) dIx) zar) zdw)))
 zaj))))
def zdZ:List D->Res D:=zc6 1 zio
def za4:Ev->Res Fl :=
 (zan (sIf (dOr (zc3 (zbi (zaf 0) (zcq "list"))) (zc3 (zfK dLe dLe (dC (.int 2)) (zal (zad (zaf 0) zar) (m1 zey)) (dC (.int 7)))))
 (zan zes
 zaj)
 zaj)
 (zan (zj3 (zrH (zaf 0)) (zoP [1,2])
 (zan (sIf (dOr (zc3 (zal (zad (zaf 2) zar) zcg)) (zab (zaf 2) (zgS (zaf 0) zeN (zbh (zaf 1))) dIn))
 (zan zes
 zaj)
 zaj)
 zaj))
 zaj))
def zaQ:List D->Res D:=zc6 3 za4
def zbf:Ev->Res Fl :=
 (zan (sIf (dOr (zc3 (zbi (zaf 0) (zcq "list"))) (zab (zal (zad (zaf 0) zar) (m1 zey)) (dC (.int 14)) dGt))
 (zan zes
 zaj)
 zaj)
 (zan (zj3 (zrH (zaf 0)) (zoP [2,3])
 (zan (sIf (dOr (zc3 (zal (zad (zaf 3) zar) zdZ)) (dOr (zab (zab (zaf 3) (dC (.int 0)) dIx) (zaf 1) ze2) (zab (zab (zaf 3) (dC (.int 1)) dIx) (zaf 1) ze2)))
 (zan zes
 zaj)
 zaj)
 zaj))
 zaj))
def za0:List D->Res D:=zc6 4 zbf
def zeB:Ev->Res Fl :=
 (zan (zcy (zhC (zal (zad (zaf 0) zar) zcg) (zab (zaf 0) (zaf 1) dIn)))
 zaj)
def zcp:List D->Res D:=zc6 2 zeB
def zbF:Ev->Res Fl :=
 (zan (sIf (dOr (zc3 (zbi (zaf 0) (zcq "tuple"))) (zab (zal (zad (zaf 0) zar) (m1 zey)) (dC (.int 4)) dNe))
 (zan zes
 zaj)
 zaj)
 (zan (zj4 (zal (zad (zab (zaf 0) (dC (.int 0)) dIx) zar) zaQ))
 (zan (zj4 (zal (zad (zab (zaf 0) (dC (.int 1)) dIx) (zad (zab (zaf 0) (dC (.int 0)) dIx) zar)) za0))
 (zan (sIf (zc3 (zal (zad (zab (zaf 0) (dC (.int 2)) dIx) (zad (zab (zaf 0) (dC (.int 0)) dIx) zar)) zcp))
 (zan zes
 zaj)
 zaj)
 (zan (sIf (dOr (zc3 (zal (zad (zab (zaf 0) (dC (.int 3)) dIx) (zad (zab (zaf 0) (dC (.int 0)) dIx) zar)) zcp)) (zab (zab (zaf 0) (dC (.int 3)) dIx) (zab (zaf 0) (dC (.int 2)) dIx) dEq))
 (zan zes
 zaj)
 zaj)
 zaj)))))
def za6:List D->Res D:=zc6 1 zbF
def zaW:Ev->Res Fl :=
 (zan (zcy (zhC (zal (zad (zaf 1) zar) zbQ) (zfK dLe dLt (dC (.int 0)) (zaf 1) (zal (zad (zab (zaf 0) (dC (.int 1)) dIx) zar) (m1 zey)))))
 zaj)
def zaA:List D->Res D:=zc6 2 zaW
def za3:Ev->Res Fl :=
 (zan (sIf (dOr (zc3 (zal (zad (zaf 0) zar) zco)) (zab (zab (zaf 0) (dC (.int 0)) dIx) (dC (.int 0)) dLt))
 (zan zes
 zaj)
 zaj)
 zaj)
def zaq:List D->Res D:=zc6 1 za3
structure Web where
 ps:List Str
 ts:List Tie
 fi:Str
 la:Str
def zcc (w:Web):D:=.tup [.lst (w.ps.map D.str),.lst (w.ts.map zf1),.str w.fi,.str w.la]
structure zkI (w:Web):Prop where
 n2:2<=w.ps.length
 n7:w.ps.length<=7
 nm:zjm w.ps
 t14:w.ts.length<=14
 ts:∀ t∈w.ts,zps w.ps t
 fi:w.fi∈w.ps
 la:w.la∈w.ps
 ne:w.fi≠w.la
theorem zg2 {z:Str}(h:zkg z=true):zcg [.str z]=.ok (.bl true):=by
 have hl:z.length<=8:=by
  unfold zkg at h
  simp only[Bool.and_eq_true,decide_eq_true_eq] at h
  exact h.2.1
 rw[znu (show fit (.str z)=true from decide_eq_true (Nat.le_trans hl (by decide)))]
 show Res.ok (D.bl (zkg z))=_
 rw[h]
theorem zf7 {x:Fra}(h:Low x):zco [fr x]=.ok (.bl true):=by
 rw[zla]
 show Res.ok (D.bl (zkW (.tup [.int x.1,.int x.2])))=_
 have h1:=h.q1
 have h2:=h.g1
 show Res.ok (D.bl (decide (1<=x.2)&&(Int.gcd x.1 x.2==1)))=_
 rw[decide_eq_true h1,h2];rfl
theorem zl6 {x:Fra}(h:Low x)(h0:0<=x.1):zcP [fr x]=.ok (.bl true):=by
 have e:fr x=.tup [.int x.1,.int x.2]:=rfl
 have h1:=zf7 h
 rw[e] at h1 ⊢
 open_line with[zcP,zeX,h1,decide_eq_true h0,decide_eq_true (show x.1≥0 from h0)]
theorem zna {o:Option Fra}(h:∀ x,o=some x->Low x/\0 < x.1):zdw [zcT o]=.ok (.bl true):=by
 cases o with
 | none=>rfl
 | some x =>
  obtain⟨hx,h0⟩:=h x rfl
  have e:zcT (some x)=.tup [.int x.1,.int x.2]:=rfl
  have h1:=zf7 hx
  rw[show fr x=.tup [.int x.1,.int x.2] from rfl] at h1
  rw[e]
  open_line with[zdw,zgg,h1,decide_eq_true h0]
theorem zo1 {x y:Str}:dEq (.str x) (.str y)=.ok (.bl (x==y)):=by unfold dEq;rw[if_pos ⟨rfl,rfl⟩,eqD]
theorem zpD {zs:List Str}{t:Tie}(nm:zjm zs)(h:zps zs t):zdZ [zf1 t]=.ok (.bl true):=by
 obtain⟨a,b,w,l,o⟩:=t
 obtain⟨ha,hb,hne,hw,hl,hl0,ho⟩:=h
 have h1:=zg2 (nm.nm a ha)
 have h2:=zg2 (nm.nm b hb)
 have h3:=zl6 hl.toLow hl0
 have h4:=zna (o:=o) fun x hx=>⟨(ho x hx).1.toLow,(ho x hx).2⟩
 have h5:(a==b)=false:=beq_eq_false_iff_ne.mpr hne
 have h6:ze2 (.str w) (.tup [.str "one",.str "both"])=.ok (.bl false):=by
  rcases hw with rfl | rfl<;>rfl
 have e:zf1 ⟨a,b,w,l,o⟩=.tup [.str a,.str b,.str w,fr l,zcT o]:=rfl
 rw[e]
 open_line with[zdZ,zio,h1,h2,zo1,h5,h6,h3,h4]
theorem zpp {zs:List Str}{z:Str}:(zs.map D.str).any (fun d=>eqD d (.str z))=decide (z∈zs):=by
 induction zs with
 | nil=>rfl
 | cons y zs ih =>
  rw[List.map_cons,List.any_cons,ih]
  show((y==z)||decide (z∈zs))=_
  by_cases h:y=z
  ·subst h;simp
  ·have:(y==z)=false:=beq_eq_false_iff_ne.mpr h
   rw[this,Bool.false_or]
   have:z∈y::zs↔z∈zs:=by simp [Ne.symm h]
   exact decide_eq_decide.mpr this.symm
theorem ziJ {n:Nat}{zs:List Str}:(zs.map D.str).all (zba n)=true:=List.all_eq_true.mpr fun d hd=>by
 obtain⟨z,_,rfl⟩:=List.mem_map.mp hd
 cases n<;>rfl
theorem zoN {zs:List Str}{z:Str}:dIn (.str z) (.lst (zs.map D.str))=.ok (.bl (decide (z∈zs))):=by
 have e:inD (.str z) (.lst (zs.map D.str))=some (decide (z∈zs)):=(if_pos ⟨rfl,ziJ⟩).trans (congrArg some zpp)
 unfold dIn
 rw[e]
theorem zno {zs:List Str}{z:Str}:ze2 (.str z) (.lst (zs.map D.str))=.ok (.bl (!(decide (z∈zs)))):=by
 have e:inD (.str z) (.lst (zs.map D.str))=some (decide (z∈zs)):=(if_pos ⟨rfl,ziJ⟩).trans (congrArg some zpp)
 unfold ze2
 rw[e]
theorem zjz {zs:List Str}{z:Str}(h:zkg z=true)(hz:z∈zs):zcp [.str z,.lst (zs.map D.str)]=.ok (.bl true):=by
 open_line with[zcp,zeB,zg2 h,zoN,decide_eq_true hz]
theorem zhO {α:Type}{F:α->D}{xs:List α}{k:Nat}{d:D}(h:(zcn 0 (xs.map F))[k]?=some d):∃ x,xs[k]?=some x/\d=.tup [.int (k:Int),F x]:=by
 rw[zfv,List.getElem?_map] at h
 cases e:xs[k]? with
 | none=>rw[e] at h;cases h
 | some x =>
  rw[e] at h
  cases h
  exact⟨x,rfl,by simp⟩
theorem zri {α:Type}{F:α->D}{xs:List α}{k:Nat}(h:k<=xs.length):zcA (xs.map F) none (some (k:Int))=(xs.take k).map F:=by
 rw[zks,HT.sIx_none,HT.sIx_nat,Nat.min_eq_left h,List.drop_zero,Nat.sub_zero]
theorem zok {zs:List Str}(h2:2<=zs.length)(h7:zs.length<=7)(nm:zjm zs):zaQ [.lst (zs.map D.str)]=.ok .non:=by
 obtain⟨ρ',hl,_⟩:=zoT (ds:=zcn 0 (zs.map D.str)) (tg:=zoP [1,2]) (ρ:=[.sh (.lst (zs.map D.str)),.no,.no])
  (body:=(zan (sIf (dOr (zc3 (zal (zad (zaf 2) zar) zcg)) (zab (zaf 2) (zgS (zaf 0) zeN (zbh (zaf 1))) dIn)) (zan zes zaj) zaj) zaj))
  (fun k ρ=>∃ a b,ρ=[.sh (.lst (zs.map D.str)),a,b]) (by
   rintro k d hd ρ ⟨a,b,rfl⟩
   obtain⟨z,hz,rfl⟩:=zhO hd
   refine⟨_,[.sh (.lst (zs.map D.str)),.sh (.int (k:Int)),.sh (.str z)],ev_gU rfl,?_,_,_,rfl⟩
   have hk:k < zs.length:=(List.getElem?_eq_some_iff.mp hz).1
   have hnot:decide (z∈zs.take k)=false:=decide_eq_false fun hm=>by
    obtain⟨j,hj⟩:=List.mem_iff_getElem?.mp hm
    have hjk:j < k:=by have:=(List.getElem?_eq_some_iff.mp hj).1;simp at this;omega
    rw[List.getElem?_take_of_lt hjk] at hj
    exact zkf nm.nd hj hz (by omega) rfl
   open_line with[zg2 (nm.nm z (List.mem_of_getElem? hz)),zri (Nat.le_of_lt hk),zoN,hnot]) ⟨.no,.no,rfl⟩
 have e1:decide ((2:Int)<=(zs.length:Int))=true:=decide_eq_true (by omega)
 have e2:decide ((zs.length:Int)<=7)=true:=decide_eq_true (by omega)
 open_line with[zaQ,za4,List.length_map,e1,e2,hl]
theorem zrC {zs:List Str}{ts:List Tie}(h14:ts.length<=14)(nm:zjm zs)(ht:∀ t∈ts,zps zs t):za0 [.lst (ts.map zf1),.lst (zs.map D.str)]=.ok .non:=by
 obtain⟨ρ',hl,_⟩:=zoT (ds:=zcn 0 (ts.map zf1)) (tg:=zoP [2,3]) (ρ:=[.sh (.lst (ts.map zf1)),.sh (.lst (zs.map D.str)),.no,.no])
  (body:=(zan (sIf (dOr (zc3 (zal (zad (zaf 3) zar) zdZ)) (dOr (zab (zab (zaf 3) (dC (.int 0)) dIx) (zaf 1) ze2) (zab (zab (zaf 3) (dC (.int 1)) dIx) (zaf 1) ze2))) (zan zes zaj) zaj) zaj))
  (fun k ρ=>∃ a b,ρ=[.sh (.lst (ts.map zf1)),.sh (.lst (zs.map D.str)),a,b]) (by
   rintro k d hd ρ ⟨a,b,rfl⟩
   obtain⟨t,ht',rfl⟩:=zhO hd
   refine⟨_,[.sh (.lst (ts.map zf1)),.sh (.lst (zs.map D.str)),.sh (.int (k:Int)),.sh (zf1 t)],ev_gU rfl,?_,_,_,rfl⟩
   have hT:=ht t (List.mem_of_getElem? ht')
   have h1:=zpD nm hT
   rw[show zf1 t=.tup [.str t.a,.str t.b,.str t.w,fr t.l,zcT t.o] from rfl] at h1 ⊢
   open_line with[h1,zno,decide_eq_true hT.a,decide_eq_true hT.b]) ⟨.no,.no,rfl⟩
 have e1:decide ((14:Int) < (ts.length:Int))=false:=decide_eq_false (by omega)
 open_line with[za0,zbf,List.length_map,e1,decide_eq_false (show ¬ (ts.length:Int) > 14 by omega),hl]
theorem zsP {w:Web}(h:zkI w):za6 [zcc w]=.ok .non:=by
 obtain⟨ps,ts,fi,la⟩:=w
 have h1:=zok h.n2 h.n7 h.nm
 have h2:=zrC h.t14 h.nm h.ts
 have h3:=zjz (h.nm.nm fi h.fi) h.fi
 have h4:=zjz (h.nm.nm la h.la) h.la
 have h5:(la==fi)=false:=beq_eq_false_iff_ne.mpr (Ne.symm h.ne)
 rw[show zcc ⟨ps,ts,fi,la⟩=.tup [.lst (ps.map D.str),.lst (ts.map zf1),.str fi,.str la] from rfl]
 open_line with[za6,zbF,h1,h2,h3,h4,zo1,h5]
theorem zpW {x:Fra}(h:Low x)(h0:0<=x.1):zaq [fr x]=.ok .non:=by
 have h1:=zf7 h
 rw[show fr x=.tup [.int x.1,.int x.2] from rfl] at h1 ⊢
 open_line with[zaq,za3,h1,decide_eq_false (show ¬ x.1 < 0 by omega)]
def zcV (ks:List Nat):D:=.lst (ks.map fun(k:Nat)=>D.int (k:Int))
theorem zqV {w:Web}{k:Nat}{t:Tie}(h:w.ts[k]?=some t):dIx (.lst (w.ts.map zf1)) (.int (k:Int))=.ok (zf1 t):=ze1 (by rw[List.getElem?_map,h];rfl)
theorem zmM:∀ ns:List Int,zgp (ns.map D.int)=some ns
 | []=>rfl
 | n::ns=>by show(zgp (ns.map D.int)).map _=_;rw[zmM ns];rfl
def zb9:Ev->Res Fl :=
 (zan (sIf (zab (zaf 1) (zal (zad (zaf 0) zar) (m1 zey)) dLt)
 (zan (zcy (zab (zaf 0) (zaf 1) dIx))
 zaj)
 zaj)
 (zan (zcy (zab (zab (dC (.int 7919)) (zaf 1) zcv) (zab (dC (.int 31)) (zal (zad (zaf 0) zar) (m1 zey)) zcv) zbe))
 zaj))
def za7:List D->Res D:=zc6 2 zb9
def zgh:Ev->Res Fl :=
 (zan (zbc 2 (zal (zad (zaf 0) (zad (zaf 1) zar)) za7))
 (zan (zbc 3 (zal (zad (zaf 2) (zad (zal (zad (dC (.int 6)) (zad (dC (.int 15)) (zad (dC (.int 7)) (zad (dC (.int 6)) zar)))) zdm) zar)) zaI))
 (zan (zbc 4 (zal (zad (zab (zaf 2) (dC (.int 3780)) zmf) (zad (zab (dC (.int 2)) (zab (zaf 3) (dC (.int 0)) dIx) zbe) zar)) zch))
 (zan (zsJ 5 (zal zar zdm))
 (zan (zkT (zab (zaf 3) (dC (.int 1)) dIx) (zdW 6)
 (zan (zbc 7 (zab (zal (zad (zab (zab (dC (.int 10)) (dC (.int 60)) zjN) (dC (.int 1)) zhg) (zad (zab (dC (.int 10)) (dC (.int 9)) zjN) zar)) zdm) (zal (zad (zab (zab (zaf 6) (dC (.int 5)) zdV) (dC (.int 0)) dGt) zar) (m1 zcY)) dIx))
 (zan (zc5 5 (zal (zad (zaf 4) (zad (zal (zad (zaf 0) (zad (zab (zab (zaf 1) (dC (.int 1)) zbe) (zaf 6) zbe) zar)) za7) (zad (zaf 7) zar))) zcH))
 zaj)))
 (zan (zbc 8 (zab (zab (zaf 3) (dC (.int 2)) dIx) (zal (zad (zaf 4) zar) (m1 zey)) zdV))
 (zan (zbc 9 (zab (zab (zab (zaf 8) (dC (.int 1)) zbe) (zab (zab (zaf 3) (dC (.int 3)) dIx) (zab (zal (zad (zaf 4) zar) (m1 zey)) (dC (.int 1)) zhg) zdV) zbe) (zal (zad (zaf 4) zar) (m1 zey)) zdV))
 (zan (zcy (zal (zad (zaf 4) (zad (zaf 5) (zad (zab (zaf 4) (zaf 8) dIx) (zad (zab (zaf 4) (zaf 9) dIx) zar)))) zjC))
 zaj))))))))
def zcG:List D->Res D:=zc6 10 zgh
theorem zpj {ns:List Int}(hn:ns.length<=1000){k:Int}(h0:0<=k)(h1:k<=1000):∃ c:Int,za7 [.lst (ns.map D.int),.int k]=.ok (.int c):=by
 obtain⟨n,rfl⟩:=Int.eq_ofNat_of_zero_le h0
 by_cases h:n < ns.length
 ·refine⟨ns[n],?_⟩
  have hix:dIx (.lst (ns.map D.int)) (.int (n:Int))=.ok (.int ns[n]):=ze1 (by rw[List.getElem?_map,List.getElem?_eq_getElem h];rfl)
  open_line with[za7,zb9,List.length_map,decide_eq_true (show(n:Int) < (ns.length:Int) by omega),hix]
 ·refine⟨7919*(n:Int)+31*(ns.length:Int),?_⟩
  open_line with[za7,zb9,List.length_map,decide_eq_false (show ¬ (n:Int) < (ns.length:Int) by omega),zmU (zdl (i:=7919) (j:=(n:Int)) (by decide) (by omega)),zmU (zdl (i:=31) (j:=(ns.length:Int)) (by decide) (by omega))]
theorem zqM {k:Int}:∃ bd:Int,(0 < bd/\bd<=(N60:Int)-1)/\∀ (ρ:Ev),ρ[6]?=some (.sh (.int k))->(zab (zal (zad (zab (zab (dC (.int 10)) (dC (.int 60)) zjN) (dC (.int 1)) zhg) (zad (zab (dC (.int 10)) (dC (.int 9)) zjN) zar)) zdm) (zal (zad (zab (zab (zaf 6) (dC (.int 5)) zdV) (dC (.int 0)) dGt) zar) (m1 zcY)) dIx) ρ=.ok (.int bd):=by
 have p9:zjN (.int 10) (.int 9)=.ok (.int 1000000000):=rfl
 by_cases h:0 < k.fmod 5
 ·refine⟨1000000000,⟨by decide,by decide⟩,fun ρ hρ=>?_⟩
  have e:zcY (.bl true)=.ok (.int 1):=rfl
  open_line with[hρ,p9,decide_eq_true (show k.fmod 5 > 0 from h),decide_eq_true h,e]
 ·refine⟨(N60:Int)-1,⟨by decide,by decide⟩,fun ρ hρ=>?_⟩
  have e:zcY (.bl false)=.ok (.int 0):=rfl
  open_line with[hρ,p9,decide_eq_false (show ¬ k.fmod 5 > 0 from h),decide_eq_false h,e]
theorem znS {ns:List Int}(hn:ns.length<=1000){at_:Int}(h0:0<=at_)(h1:at_<=900):∃ w,zcG [.lst (ns.map D.int),.int at_]=.ok (zcc w)/\zkI w:=by
 obtain⟨c,hc⟩:=zpj hn (k:=at_) h0 (by omega)
 obtain⟨vs,hd,W⟩:=zin c [6,15,7,6] (by decide) (by decide)
 have hd':zaI [.int c,.lst [.int 6,.int 15,.int 7,.int 6]]=.ok (.lst (vs.map D.int)):=hd
 obtain⟨d0,g0,b0,i0⟩:=W.ix 0 0 rfl rfl
 obtain⟨d1,g1,b1,i1⟩:=W.ix 1 1 rfl rfl
 obtain⟨d2,g2,b2,i2⟩:=W.ix 2 2 rfl rfl
 obtain⟨d3,g3,b3,i3⟩:=W.ix 3 3 rfl rfl
 obtain⟨m,rfl⟩:=Int.eq_ofNat_of_zero_le b0.1
 obtain⟨zs,hz,hzl,nm⟩:=zp8 (c.fdiv 3780) (2+m) (by omega)
 have hz':zch [.int (c.fdiv 3780),.int (2+(m:Int))]=.ok (.lst (zs.map D.str)):=hz
 have hdiv:zmf (.int c) (.int 3780)=.ok (.int (c.fdiv 3780)):=zt6 (zss (by decide) (Nat.lt_of_lt_of_le (show(3780:Int).natAbs < N60 by decide) zuo))
 obtain⟨tn,rfl⟩:=Int.eq_ofNat_of_zero_le b1.1
 obtain⟨ρ',hl,ts,hts,hall,x,y,rfl⟩:=zoR (i:=6) (n:=tn)
  (ρ:=[.sh (.lst (ns.map D.int)),.sh (.int at_),.sh (.int c),.sh (.lst (vs.map D.int)),.sh (.lst (zs.map D.str)),.ow (.lst []),.no,.no,.no,.no])
  (body:=(zan (zbc 7 (zab (zal (zad (zab (zab (dC (.int 10)) (dC (.int 60)) zjN) (dC (.int 1)) zhg) (zad (zab (dC (.int 10)) (dC (.int 9)) zjN) zar)) zdm) (zal (zad (zab (zab (zaf 6) (dC (.int 5)) zdV) (dC (.int 0)) dGt) zar) (m1 zcY)) dIx))
   (zan (zc5 5 (zal (zad (zaf 4) (zad (zal (zad (zaf 0) (zad (zab (zab (zaf 1) (dC (.int 1)) zbe) (zaf 6) zbe) zar)) za7) (zad (zaf 7) zar))) zcH))
   zaj)))
  (fun k ρ=>∃ ts:List Tie,ts.length=k/\(∀ t∈ts,zps zs t)/\∃ x y,ρ=[.sh (.lst (ns.map D.int)),.sh (.int at_),.sh (.int c),.sh (.lst (vs.map D.int)),.sh (.lst (zs.map D.str)),.ow (.lst (ts.map zf1)),x,y,.no,.no]) (by
   rintro k hk ρ ⟨ts,rfl,hall,x,y,rfl⟩
   obtain⟨bd,hb,hbd⟩:=zqM (k:=((ts.length:Nat):Int))
   obtain⟨c',hc'⟩:=zpj hn (k:=at_+1+(ts.length:Int)) (by omega) (by omega)
   obtain⟨t,ht,hT⟩:=zsT (zs:=zs) (c:=c') (bd:=bd) (by omega) (by omega) nm.nd hb
   refine⟨[.sh (.lst (ns.map D.int)),.sh (.int at_),.sh (.int c),.sh (.lst (vs.map D.int)),.sh (.lst (zs.map D.str)),.ow (.lst ((ts++[t]).map zf1)),.sh (.int (ts.length:Int)),.sh (.int bd),.no,.no],?_,ts++[t],by simp,fun u hu=>?_,_,_,rfl⟩
   ·rw[ev_seq,ev_set,hbd _ rfl]
    open_line with[hc',ht,ev_app1 (ds:=ts.map zf1) (decide_eq_true (by rw[List.length_map];omega)),List.map_append]
   ·rw[List.mem_append] at hu
    rcases hu with hu | hu
    ·exact hall u hu
    ·have:u=t:=by simpa using hu
     subst this;exact hT) ⟨[],rfl,fun t ht=>(nomatch ht),_,_,rfl⟩
 have hn0:((zs.length:Int)==0)=false:=beq_eq_false_iff_ne.mpr (by omega)
 have hn1:((zs.length:Int)-1==0)=false:=beq_eq_false_iff_ne.mpr (by omega)
 have f1:=zha (a:=d2) (b:=(zs.length:Int)) (by omega)
 have f2:=zha (a:=d3) (b:=(zs.length:Int)-1) (by omega)
 obtain⟨hr,hne⟩:=zlu (n:=(zs.length:Int)) (d:=d2.fmod (zs.length:Int)) (e:=d3.fmod ((zs.length:Int)-1)) (by omega) f1.1 f1.2 f2.1 f2.2
 obtain⟨z1,k1,j1⟩:=zmw (zs:=zs) f1.1 f1.2
 obtain⟨z2,k2,j2⟩:=zmw (zs:=zs) hr.1 hr.2
 refine⟨⟨zs,ts,z1,z2⟩,?_,⟨by show 2<=zs.length;omega,by show zs.length<=7;omega,nm,by show ts.length<=14;omega,hall,List.mem_of_getElem? k1,List.mem_of_getElem? k2,zkf nm.nd k1 k2 (by omega)⟩⟩
 open_line with[zcG,zgh,hc,hd',hdiv,i0,hz',i1,ev_forR,zij (k:=tn) (show tn<=1000000 by omega),hl,i2,i3,List.length_map,hn0,hn1,j1,j2]
 rfl
def isW (w:Web)(k:Nat):Bool:=((w.ts[k]?).bind Tie.o).isSome
def ztc (i:Nat)(ρ:Ev)(d:D):Res Fl:=if zrc d=true then .ok (.nx (ρ.set i (.sh d))) else .stuck
theorem zvv {i:Nat}{f:Ev->Res D}{ρ:Ev}:zuX i f ρ=(f (shr ρ)).bind (ztc i ρ):=rfl
theorem zuV {i:Nat}{ρ:Ev}{x:Fra}:ztc i ρ (fr x)=.ok (.nx (ρ.set i (.sh (fr x)))):=rfl
theorem zpQ {n:Nat}{t:Tie}:zba (n+3) (zf1 t)=true:=by
 obtain⟨a,b,w,l,o⟩:=t
 cases o<;>cases n<;>rfl
end Com
namespace DL
open PySem L2
section
variable {α β:Type}
def Rf (a b:Res α):Prop:=a=.stuck∨a=b
theorem zfp {a b:Res α}{f g:α->Res β}(h:Rf a b)(k:∀ x,Rf (f x) (g x)):Rf (a.bind f) (b.bind g):=by
 rcases h with rfl | rfl
 ·exact .inl rfl
 ·cases a with
  | ok x=>exact k x
  | exn x=>exact .inr rfl
  | stuck=>exact .inl rfl
structure RfF (f g:Ev->Res α):Prop where
 o:∀ ρ,Rf (f ρ) (g ρ)
end
structure RfM (f g:List D->Res D):Prop where
 o:∀ ds,Rf (f ds) (g ds)
theorem RfM.ok {f g:List D->Res D}(h:RfM f g){ds:List D}{d:D}(e:f ds=.ok d):g ds=.ok d:=by
 rcases h.o ds with q | q
 ·rw[q] at e;cases e
 ·rw[← q];exact e
theorem rf_refl {α:Type}{f:Ev->Res α}:RfF f f:=⟨fun _=>.inr rfl⟩
section
variable {s s' t t':Ev->Res Fl}{c c' f f':Ev->Res D}{fa fa':Ev->Res (List D)}{m m':List D->Res D}
theorem rf_stuck:RfF zes s:=⟨fun _=>.inl rfl⟩
theorem rf_seq (h1:RfF s s')(h2:RfF t t'):RfF (zan s t) (zan s' t'):=⟨fun ρ=>zfp (h1.o ρ) fun r=>by
 cases r with
 | nx ρ'=>exact h2.o ρ'
 | _=>exact .inr rfl⟩
theorem rf_if (hc:RfF c c')(h1:RfF s s')(h2:RfF t t'):RfF (sIf c s t) (sIf c' s' t'):=⟨fun ρ=>zfp (hc.o _) fun r=>by
 cases r with
 | bl b=>cases b with
  | true=>exact h1.o ρ
  | false=>exact h2.o ρ
 | _=>exact .inr rfl⟩
theorem zlP {tg:Ev->D->Res Ev}(h:RfF s s'):∀ (ds:List D) (ρ:Ev),Rf (zcX tg s ds ρ) (zcX tg s' ds ρ)
 | [],ρ=>.inr rfl
 | d::r,ρ=>by
  unfold zcX
  refine zfp (.inr rfl) fun ρ1=>zfp (h.o ρ1) fun x=>?_
  cases x with
  | nx ρ2=>exact zlP h r ρ2
  | ct ρ2=>exact zlP h r ρ2
  | bk ρ2=>exact .inr rfl
  | rt d=>exact .inr rfl
theorem rf_forI {tg:Ev->D->Res Ev}{src:Ev->Res (List D)}(h:RfF s s'):RfF (zj3 src tg s) (zj3 src tg s'):=⟨fun ρ=>zfp (.inr rfl) fun ds=>zlP h ds ρ⟩
theorem rf_drop (h:RfF f f'):RfF (zj4 f) (zj4 f'):=⟨fun ρ=>zfp (h.o _) fun _=>.inr rfl⟩
theorem rf_bA (h:RfF fa fa')(hm:RfM m m'):RfF (zal fa m) (zal fa' m'):=⟨fun ρ=>zfp (h.o _) fun ds=>hm.o ds⟩
theorem zmy {n:Nat}(h:RfF s s'):RfM (zc6 n s) (zc6 n s'):=⟨fun ds=>zfp (h.o _) fun r=>.inr rfl⟩
end
end DL
local macro_rules | `(tactic| open_line with[rf_go])=>`(tactic| repeat (first | with_reducible exact DL.rf_refl | with_reducible exact DL.rf_stuck | with_reducible assumption | with_reducible exact DL.rfm_refl | with_reducible refine DL.rf_seq ?_ ?_ | with_reducible refine DL.rf_if ?_ ?_ ?_ | with_reducible refine DL.rf_for ?_ ?_ | with_reducible refine DL.rf_forI ?_ | with_reducible refine DL.rf_drop ?_ | with_reducible refine DL.rf_ret ?_ | with_reducible refine DL.rf_set ?_ | with_reducible refine DL.rf_not ?_ | with_reducible refine DL.rf_bA ?_ ?_ | with_reducible refine DL.rf_cons ?_ ?_ | with_reducible refine DL.rf_b1 ?_ | with_reducible refine DL.rf_b2 ?_ ?_))
namespace Wex
open PySem L2 DL Com
def za4:Ev->Res Fl :=
 (zan (sIf (dOr (zc3 (zbi (zaf 0) (zcq "list"))) (zc3 (zfK dLe dLe (dC (.int 2)) (zal (zad (zaf 0) zar) (m1 zey)) (dC (.int 7)))))
 (zan (zeL "NoWeb" 2 (zad (dC (.str "places")) (zad (dC (.non)) zar)))
 zaj)
 zaj)
 (zan (zj3 (zrH (zaf 0)) (zoP [1,2])
 (zan (sIf (dOr (zc3 (zal (zad (zaf 2) zar) zcg)) (zab (zaf 2) (zgS (zaf 0) zeN (zbh (zaf 1))) dIn))
 (zan (zeL "NoWeb" 2 (zad (dC (.str "places")) (zad (zaf 1) zar)))
 zaj)
 zaj)
 zaj))
 zaj))
def zaQ:List D->Res D:=zc6 3 za4
def zbf:Ev->Res Fl :=
 (zan (sIf (dOr (zc3 (zbi (zaf 0) (zcq "list"))) (zab (zal (zad (zaf 0) zar) (m1 zey)) (dC (.int 14)) dGt))
 (zan (zeL "NoWeb" 2 (zad (dC (.str "ties")) (zad (dC (.non)) zar)))
 zaj)
 zaj)
 (zan (zj3 (zrH (zaf 0)) (zoP [2,3])
 (zan (sIf (dOr (zc3 (zal (zad (zaf 3) zar) zdZ)) (dOr (zab (zab (zaf 3) (dC (.int 0)) dIx) (zaf 1) ze2) (zab (zab (zaf 3) (dC (.int 1)) dIx) (zaf 1) ze2)))
 (zan (zeL "NoWeb" 2 (zad (dC (.str "ties")) (zad (zaf 2) zar)))
 zaj)
 zaj)
 zaj))
 zaj))
def za0:List D->Res D:=zc6 4 zbf
def zbF:Ev->Res Fl :=
 (zan (sIf (dOr (zc3 (zbi (zaf 0) (zcq "tuple"))) (zab (zal (zad (zaf 0) zar) (m1 zey)) (dC (.int 4)) dNe))
 (zan (zeL "NoWeb" 2 (zad (dC (.str "web")) (zad (dC (.non)) zar)))
 zaj)
 zaj)
 (zan (zj4 (zal (zad (zab (zaf 0) (dC (.int 0)) dIx) zar) zaQ))
 (zan (zj4 (zal (zad (zab (zaf 0) (dC (.int 1)) dIx) (zad (zab (zaf 0) (dC (.int 0)) dIx) zar)) za0))
 (zan (sIf (zc3 (zal (zad (zab (zaf 0) (dC (.int 2)) dIx) (zad (zab (zaf 0) (dC (.int 0)) dIx) zar)) zcp))
 (zan (zeL "NoWeb" 2 (zad (dC (.str "first")) (zad (dC (.non)) zar)))
 zaj)
 zaj)
 (zan (sIf (dOr (zc3 (zal (zad (zab (zaf 0) (dC (.int 3)) dIx) (zad (zab (zaf 0) (dC (.int 0)) dIx) zar)) zcp)) (zab (zab (zaf 0) (dC (.int 3)) dIx) (zab (zaf 0) (dC (.int 2)) dIx) dEq))
 (zan (zeL "NoWeb" 2 (zad (dC (.str "last")) (zad (dC (.non)) zar)))
 zaj)
 zaj)
 zaj)))))
def za6:List D->Res D:=zc6 1 zbF
def zbw:Ev->Res Fl :=
 (zan (zj4 (zal (zad (zaf 0) zar) za6))
 (zan (sIf (zc3 (zbi (zaf 1) (zcq "list")))
 (zan (zfo "NoTaking" (zad (dC (.str "a taking is a list")) zar))
 zaj)
 zaj)
 (zan (zbc 2 (zbi (dC (.int 1)) zpu))
 (zan (zq1 (zaf 1) (zdW 3)
 (zan (sIf (dOr (zc3 (zal (zad (zaf 0) (zad (zaf 3) zar)) zaA)) (zab (zaf 3) (zaf 2) dLe))
 (zan (zfo "NoTaking" (zad (dC (.str "a taking is of rising numbers of ties")) zar))
 zaj)
 zaj)
 (zan (sIf (zab (zab (zab (zab (zaf 0) (dC (.int 1)) dIx) (zaf 3) dIx) (dC (.int 4)) dIx) (dC (.non)) zly)
 (zan (zfo "NoTaking" (zad (dC (.str "a watched tie can't be taken")) zar))
 zaj)
 zaj)
 (zan (zbc 2 (zaf 3))
 zaj))))
 zaj))))
def zaz:List D->Res D:=zc6 4 zbw
def zml:Ev->Res Fl :=
 (zan (sIf (dOr (zc3 (zal (zad (zaf 0) zar) zbQ)) (zc3 (zal (zad (zaf 1) zar) zbQ)))
 (zan (zfo "NoNumber" (zad (dC (.str "a fraction is made of two whole numbers")) zar))
 zaj)
 zaj)
 (zan (sIf (zab (zaf 1) (dC (.int 0)) dEq)
 (zan (zfo "NoNumber" (zad (dC (.str "a fraction's second number is not 0")) zar))
 zaj)
 zaj)
 (zan (zbc 2 (zal (zad (zaf 0) (zad (zaf 1) zar)) zbb))
 (zan (sIf (zab (zaf 1) (dC (.int 0)) dLt)
 (zan (zbc 2 (zbi (zaf 2) zpu))
 zaj)
 zaj)
 (zan (zcy (zal (zad (zab (zaf 0) (zaf 2) zmf) (zad (zab (zaf 1) (zaf 2) zmf) zar)) zjC))
 zaj)))))
def zl5:List D->Res D:=zc6 3 zml
def zpo:Ev->Res Fl :=
 (zan (zcy (zal (zad (zab (zab (zab (zaf 0) (dC (.int 0)) dIx) (zab (zaf 1) (dC (.int 1)) dIx) zcv) (zab (zab (zaf 1) (dC (.int 0)) dIx) (zab (zaf 0) (dC (.int 1)) dIx) zcv) zbe) (zad (zab (zab (zaf 0) (dC (.int 1)) dIx) (zab (zaf 1) (dC (.int 1)) dIx) zcv) zar)) zl5))
 zaj)
def zoC:List D->Res D:=zc6 2 zpo
def zkG:Ev->Res Fl :=
 (zan (zbc 1 (dC (.tup [(.int 0),(.int 1)])))
 (zan (zq1 (zaf 0) (zdW 2)
 (zan (zbc 1 (zal (zad (zaf 1) (zad (zaf 2) zar)) zoC))
 zaj))
 (zan (zcy (zaf 1))
 zaj)))
def zqb:List D->Res D:=zc6 3 zkG
def za3:Ev->Res Fl :=
 (zan (sIf (dOr (zc3 (zal (zad (zaf 0) zar) zco)) (zab (zab (zaf 0) (dC (.int 0)) dIx) (dC (.int 0)) dLt))
 (zan (zfo "NoPurse" (zad (dC (.str "a purse is a fraction from 0 on")) zar))
 zaj)
 zaj)
 zaj)
def zaq:List D->Res D:=zc6 1 za3
theorem zn9:RfM Com.zaQ zaQ:=zmy (by unfold Com.za4 za4;open_line with[rf_go])
theorem zrK:RfM Com.za0 za0:=zmy (by unfold Com.zbf zbf;open_line with[rf_go])
theorem zti:RfM Com.za6 za6:=by
 have h1:=zn9;have h2:=zrK
 exact zmy (by unfold Com.zbF zbF;open_line with[rf_go])
theorem zpS:RfM Com.zaq zaq:=zmy (by unfold Com.za3 za3;open_line with[rf_go])
theorem zuG {w:Web}(W:zkI w):za6 [zcc w]=.ok .non:=zti.ok (zsP W)
theorem purseX {x:Fra}(h:Low x)(h0:0<=x.1):zaq [fr x]=.ok .non:=zpS.ok (zpW h h0)
section
variable {d t p:D}{x:Exn}
end
theorem zn4 {n:Nat}{t:List Nat}:zba (n+1) (zcV t)=true:=by
 show(t.map fun(k:Nat)=>D.int (k:Int)).all (zba n)=true
 exact List.all_eq_true.mpr fun d hd=>by
  obtain⟨z,_,rfl⟩:=List.mem_map.mp hd
  cases n<;>rfl
theorem nums_some {k:Nat}{t:List Nat}:dNe (zcV (k::t)) (.lst [])=.ok (.bl true):=by
 unfold dNe
 rw[if_pos ⟨zn4,rfl⟩]
 unfold zcV
 rw[zmc,zil _ _ (by simp)];rfl
def zqY (d:D):Res (List D):=match d with
 | .int j=>if -4611686018427387904<=j/\j < 4611686018427387904 then .ok (DL.intsFrom 0 j.toNat) else .stuck
 | _=>.stuck
theorem ev_srcR1 {f:Ev->Res D}{ρ:Ev}:zlJ f ρ=(f ρ).bind zqY:=zaw rfl
theorem srcR1_nat {k:Nat}(h:k<=1000000):zqY (.int (k:Int))=.ok (DL.intsFrom 0 k):=by
 show(if -4611686018427387904<=(k:Int)/\(k:Int) < 4611686018427387904 then Res.ok (DL.intsFrom 0 (k:Int).toNat) else .stuck)=_
 rw[if_pos (by omega),Int.toNat_natCast]
theorem comp_rng {m n:Nat}{fr:List Nat}{tt fe:Ev->Res D}{ρ:Ev}{q:Nat->Bool}{G:Nat->D}(hn:n<=1000000)(h:∀ k,k < n->∃ ρ1,zdW 0 (zcZ m fr ρ) (.int (k:Int))=.ok ρ1/\tt ρ1=.ok (.bl (q k))/\(q k=true->fe ρ1=.ok (G k))) :
  zjv m fr (zdW 0) tt fe ρ (DL.intsFrom 0 n)=.ok (.lst (((List.range n).filter q).map G)):=by
 have hi:DL.intsFrom 0 n=(List.range n).map fun(k:Nat)=>D.int (k:Int):=by
  unfold DL.intsFrom
  exact List.map_congr_left fun k _=>by rw[Int.zero_add]
 rw[hi]
 rw[zmh (F:=fun d=>match d with | .int v=>G v.toNat | d=>d) (p:=fun d=>match d with | .int v=>q v.toNat | _=>false) (by simpa using hn)]
 ·rw[List.filter_map,List.map_map]
  rfl
 ·intro d hd
  obtain⟨k,hk,rfl⟩:=List.mem_map.mp hd
  obtain⟨ρ1,h1,h2,h3⟩:=h k (List.mem_range.mp hk)
  exact⟨ρ1,h1,by simpa using h2,fun z=>by simpa using h3 (by simpa using z)⟩
theorem isW_at {w:Web}{k:Nat}(h:k < w.ts.length):∃ t,w.ts[k]?=some t/\isW w k=t.o.isSome/\dIx (.lst (w.ts.map zf1)) (.int (k:Int))=.ok (.tup [.str t.a,.str t.b,.str t.w,fr t.l,zcT t.o]):=by
 have ht:w.ts[k]?=some w.ts[k]:=List.getElem?_eq_getElem h
 exact⟨_,ht,by unfold isW;rw[ht];rfl,zqV ht⟩
def plainD:D->Bool
 | .non=>true
 | .bl _=>true
 | .int _=>true
 | .str _=>true
 | .tup _=>true
 | .lst _=>true
 | _=>false
def takB (w:Web):Int->List D->Bool
 | _,[]=>true
 | a,d::r=>match d with
  | .int n=>decide (0<=n)&&decide (n < (w.ts.length:Int))&&decide (a < n)&&isW w n.toNat&&takB w n r
  | _=>false
theorem znm {w:Web}{d:D}(hd:plainD d=true)(hi:∀ n,d≠.int n):zaA [zcc w,d]=.ok (.bl false):=by
 rw[show zcc w=.tup [.lst (w.ps.map D.str),.lst (w.ts.map zf1),.str w.fi,.str w.la] from rfl]
 cases d with
 | int n=>exact absurd rfl (hi n)
 | non=>open_line with[zaA,zaW,zbl,isI]
 | bl b=>open_line with[zaA,zaW,zbl,isI]
 | str b=>open_line with[zaA,zaW,zbl,isI]
 | tup b=>open_line with[zaA,zaW,zbl,isI]
 | lst b=>open_line with[zaA,zaW,zbl,isI]
 | _=>cases hd
theorem znn {w:Web}{n:Int}:zaA [zcc w,.int n]=.ok (.bl (decide (0<=n)&&decide (n < (w.ts.length:Int)))):=by
 rw[show zcc w=.tup [.lst (w.ps.map D.str),.lst (w.ts.map zf1),.str w.fi,.str w.la] from rfl]
 cases h:decide ((0:Int)<=n) with
 | false=>open_line with[zaA,zaW,zbl,isI,List.length_map,h,Bool.false_and]
 | true=>open_line with[zaA,zaW,zbl,isI,List.length_map,h,Bool.true_and]
abbrev zeJ:Ev->Res Fl:=(zan (sIf (dOr (zc3 (zal (zad (zaf 0) (zad (zaf 3) zar)) zaA)) (zab (zaf 3) (zaf 2) dLe))
 (zan (zfo "NoTaking" (zad (dC (.str "a taking is of rising numbers of ties")) zar))
 zaj)
 zaj)
 (zan (sIf (zab (zab (zab (zab (zaf 0) (dC (.int 1)) dIx) (zaf 3) dIx) (dC (.int 4)) dIx) (dC (.non)) zly)
 (zan (zfo "NoTaking" (zad (dC (.str "a watched tie can't be taken")) zar))
 zaj)
 zaj)
 (zan (zbc 2 (zaf 3))
 zaj)))
theorem zjY {w:Web}{L:Sl}:∀ (ds:List D) (a:Int) (x:Sl),(∀ d∈ds,plainD d=true)->(takB w a ds=true->∃ ρ',zcX (zdW 3) zeJ ds [.sh (zcc w),L,.sh (.int a),x]=.ok (.nx ρ'))/\(takB w a ds=false->zcX (zdW 3) zeJ ds [.sh (zcc w),L,.sh (.int a),x]=.exn ⟨"NoTaking",[]⟩)
 | [],a,x,_=>⟨fun _=>⟨_,rfl⟩,fun h=>by cases h⟩
 | d::ds,a,x,hp=>by
  have ih:=fun n y=>zjY (w:=w) (L:=L) ds n y fun d hd=>hp d (List.mem_cons_of_mem _ hd)
  have hd:=hp d List.mem_cons_self
  have e0:zdW 3 [.sh (zcc w),L,.sh (.int a),x] d=.ok [.sh (zcc w),L,.sh (.int a),.sh d]:=rfl
  have red:∀ r:Res Fl,zeJ [.sh (zcc w),L,.sh (.int a),.sh d]=r->zcX (zdW 3) zeJ (d::ds) [.sh (zcc w),L,.sh (.int a),x]=r.bind fun x=>match x with
   | .nx ρ2=>zcX (zdW 3) zeJ ds ρ2
   | .ct ρ2=>zcX (zdW 3) zeJ ds ρ2
   | .bk ρ2=>.ok (.nx ρ2)
   | .rt d=>.ok (.rt d):=fun r hr=>by rw[← hr];(conv=>lhs;unfold zcX;rw[e0]);rfl
  by_cases hi:∃ n,d=.int n
  ·obtain⟨n,rfl⟩:=hi
   have hn:=znn (w:=w) (n:=n)
   have hT:takB w a (.int n::ds)=(decide (0<=n)&&decide (n < (w.ts.length:Int))&&decide (a < n)&&isW w n.toNat&&takB w n ds):=rfl
   rw[hT]
   cases hc:(decide (0<=n)&&decide (n < (w.ts.length:Int))) with
   | false =>
    rw[hc] at hn
    refine⟨fun h=>(by cases h),fun _=>?_⟩
    rw[red (.exn ⟨"NoTaking",[]⟩) (by open_line with[hn,zhc,zgb,zex])]
    rfl
   | true =>
    rw[hc] at hn
    cases ha:decide (a < n) with
    | false =>
     have ha':¬ a < n:=of_decide_eq_false ha
     refine⟨fun h=>(by cases h),fun _=>?_⟩
     rw[red (.exn ⟨"NoTaking",[]⟩) (by open_line with[hn,decide_eq_true (show n<=a by omega),zhc,zgb,zex])]
     rfl
    | true =>
     have ha':a < n:=of_decide_eq_true ha
     simp only[Bool.and_eq_true,decide_eq_true_eq] at hc
     have hlt:n.toNat < w.ts.length:=by omega
     have ht:w.ts[n.toNat]?=some w.ts[n.toNat]:=List.getElem?_eq_getElem hlt
     have hix:=zqV ht
     rw[show((n.toNat:Nat):Int)=n by omega] at hix
     have hW:isW w n.toNat=(w.ts[n.toNat].o).isSome:=by unfold isW;rw[ht];rfl
     rw[show zf1 w.ts[n.toNat]=.tup [.str w.ts[n.toNat].a,.str w.ts[n.toNat].b,.str w.ts[n.toNat].w,fr w.ts[n.toNat].l,zcT w.ts[n.toNat].o] from rfl] at hix
     rw[hW]
     rw[show zcc w=.tup [.lst (w.ps.map D.str),.lst (w.ts.map zf1),.str w.fi,.str w.la] from rfl] at hn red ih ⊢
     cases ho:w.ts[n.toNat].o with
     | none =>
      rw[ho] at hix
      refine⟨fun h=>(by cases h),fun _=>?_⟩
      rw[red (.exn ⟨"NoTaking",[]⟩) (by open_line with[hn,decide_eq_false (show ¬ n<=a by omega),hix,zcT,zhc,zgb,zex])]
      rfl
     | some v =>
      rw[ho] at hix
      have hb:zeJ [.sh (.tup [.lst (w.ps.map D.str),.lst (w.ts.map zf1),.str w.fi,.str w.la]),L,.sh (.int a),.sh (.int n)]=.ok (.nx [.sh (.tup [.lst (w.ps.map D.str),.lst (w.ts.map zf1),.str w.fi,.str w.la]),L,.sh (.int n),.sh (.int n)]):=by
       open_line with[hn,decide_eq_false (show ¬ n<=a by omega),hix,zcT,fr,znL]
      rw[red _ hb]
      exact ih n (.sh (.int n))
  ·have ho:=znm (w:=w) hd fun n z=>hi ⟨n,z⟩
   have hf:takB w a (d::ds)=false:=by
    unfold takB
    cases d with
    | int n=>exact absurd ⟨n,rfl⟩ hi
    | _=>rfl
   refine⟨fun h=>(by rw[hf] at h;cases h),fun _=>?_⟩
   rw[red (.exn ⟨"NoTaking",[]⟩) (by open_line with[ho,zhc,zgb,zex])]
   rfl
theorem tak_all {w:Web}(W:zkI w){ds:List D}(hp:∀ d∈ds,plainD d=true)(h:takB w (-1) ds=false):zaz [zcc w,.lst ds]=.exn ⟨"NoTaking",[]⟩:=by
 have hl:=(zjY (w:=w) (L:=.sh (.lst ds)) ds (-1) .no hp).2 h
 have hw:=zuG W
 unfold zeJ at hl
 open_line with[zaz,zbw,hw,hl,zhc]
theorem tak_yes {w:Web}(W:zkI w){ds:List D}(hp:∀ d∈ds,plainD d=true)(h:takB w (-1) ds=true):zaz [zcc w,.lst ds]=.ok .non:=by
 obtain⟨ρ',hl⟩:=(zjY (w:=w) (L:=.sh (.lst ds)) ds (-1) .no hp).1 h
 have hw:=zuG W
 unfold zeJ at hl
 open_line with[zaz,zbw,hw,hl]
theorem tak_none {w:Web}(W:zkI w){d:D}(h:zcq "list" d=.ok (.bl false)):zaz [zcc w,d]=.exn ⟨"NoTaking",[]⟩:=by
 have hw:=zuG W
 open_line with[zaz,zbw,hw,h,zhc,zgb,zex]
end Wex
namespace K07
open PySem L2 DL
def zev:List (Str×Bool):=[("NoPurse",true),("NoTaking",true),("NoWeb",true)]
def zsY:Str->Option Bool:=zkK [("NoPurse",true),("NoTaking",false),("NoWeb",false)]
def zsX:Str->Option Bool:=zkK [("NoPurse",false),("NoTaking",true),("NoWeb",false)]
def zsW:Str->Option Bool:=zkK [("NoPurse",true),("NoTaking",true),("NoWeb",true)]
def zsV:Str->Option Bool:=zkK [("NoPurse",false),("NoTaking",false),("NoWeb",true)]
abbrev za7:List D->Res D:=Com.za7
abbrev zaI:List D->Res D:=Com.zaI
abbrev zch:List D->Res D:=Com.zch
abbrev zb8:List D->Res D:=Com.zb8
abbrev zbE:List D->Res D:=Com.zbE
abbrev zaF:List D->Res D:=Com.zaF
abbrev zcH:List D->Res D:=Com.zcH
abbrev zcG:List D->Res D:=Com.zcG
def zaC:Ev->Res Fl :=
 (zan (zuu [3,4,5,6] (zaf 2))
 (zan (zbc 7 (zfL 1 [0] (zlJ (zal (zad (zab (zaf 0) (dC (.int 1)) dIx) zar) (m1 zey))) (zdW 0) (zab (zab (zab (zab (zaf 1) (dC (.int 1)) dIx) (zaf 0) dIx) (dC (.int 4)) dIx) (dC (.non)) zly) (zaf 0)))
 (zan (zbc 8 (zab (zaf 4) (zab (zal (zad (zaf 1) zar) (m1 zey)) (dC (.int 1)) zbe) zdV))
 (zan (sIf (zab (zaf 3) (dC (.int 8)) dEq)
 (zan (zbc 9 (zal (zad (dC (.bl true)) (zad (dC (.non)) (zad (dC (.str "0")) (zad (zal (zad (dC (.int 0)) (zad (dC (.int 1)) zar)) zjC) (zad (zal (zad (dC (.int 0)) zar) zdm) (zad (dC (.bl false)) (zad (dC (.str "")) (zad (zaf 6) zar)))))))) zdm))
 (zan (zcy (zab (zab (zgS (zaf 1) zeN (zbh (zaf 8))) (zal (zad (zab (zaf 9) (zaf 5) dIx) zar) zdm) zbe) (zgS (zaf 1) (zbh (zab (zaf 8) (dC (.int 1)) zbe)) zeN) zbe))
 zaj))
 zaj)
 (zan (sIf (zhC (zab (zaf 3) (dC (.int 9)) dEq) (zab (zal (zad (zaf 1) zar) (m1 zey)) (dC (.int 0)) dGt))
 (zan (zbc 10 (zab (zaf 1) (zab (zaf 4) (zal (zad (zaf 1) zar) (m1 zey)) zdV) dIx))
 (zan (zcy (zab (zab (zgS (zaf 1) zeN (zbh (zaf 8))) (zal (zad (zab (zab (zaf 10) (zaf 5) zbe) (dC (.int 3)) zhg) zar) zdm) zbe) (zgS (zaf 1) (zbh (zaf 8)) zeN) zbe))
 zaj))
 zaj)
 (zan (sIf (zab (zaf 3) (dC (.int 10)) dEq)
 (zan (zcy (zab (zab (zgS (zaf 1) zeN (zbh (zaf 8))) (zq2 (zux (zaf 1) (zbh (zaf 8)) (zbh (zab (zaf 8) (dC (.int 1)) zbe))) (dC (.int 2))) zbe) (zgS (zaf 1) (zbh (zab (zaf 8) (dC (.int 1)) zbe)) zeN) zbe))
 zaj)
 zaj)
 (zan (sIf (zab (zaf 3) (dC (.int 11)) dEq)
 (zan (zbc 11 (zgS (zaf 1) (zbh (zaf 8)) (zbh (zab (zaf 8) (dC (.int 2)) zbe))))
 (zan (zcy (zab (zab (zgS (zaf 1) zeN (zbh (zaf 8))) (zbi (zaf 11) zvC) zbe) (zgS (zaf 1) (zbh (zab (zaf 8) (dC (.int 2)) zbe)) zeN) zbe))
 zaj))
 zaj)
 (zan (sIf (zhC (zab (zaf 3) (dC (.int 12)) dEq) (zab (zaf 7) (zal zar zdm) dNe))
 (zan (zcy (zal (zad (zab (zaf 1) (zal (zad (zab (zaf 7) (zab (zaf 4) (zal (zad (zaf 7) zar) (m1 zey)) zdV) dIx) zar) zdm) zbe) zar) (m1 zqE)))
 zaj)
 zaj)
 (zan (sIf (zab (zaf 3) (dC (.int 13)) dEq)
 (zan (zcy (zab (zaf 1) (zal (zad (zab (zal (zad (zab (zaf 0) (dC (.int 1)) dIx) zar) (m1 zey)) (zaf 5) zbe) zar) zdm) zbe))
 zaj)
 zaj)
 (zan (sIf (zab (zaf 3) (dC (.int 14)) dEq)
 (zan (zcy (zab (zal (zad (zab (zbi (dC (.int 1)) zpu) (zaf 5) zhg) zar) zdm) (zaf 1) zbe))
 zaj)
 zaj)
 (zan (sIf (zab (zaf 3) (dC (.int 15)) dEq)
 (zan (zcy (zab (zal (zad (zal (zad (zaf 1) zar) (m1 zpa)) (zad (dC (.non)) (zad (dC (.bl true)) (zad (dC (.str "0")) (zad (dC (.dic [] [])) (zad (zal zar zjC) (zad (dC (.int 0)) (zad (dC (.str "[]")) zar)))))))) zdm) (zaf 5) dIx))
 zaj)
 zaj)
 (zan (zcy (zaf 1))
 zaj))))))))))))
def zau:List D->Res D:=zc6 12 zaC
abbrev zbd:List D->Res D:=Com.zbd
def zbz:Ev->Res Fl :=
 (zan (sIf (zc3 (zbi (zaf 1) (zcq "list")))
 (zan (zcy (dC (.bl false)))
 zaj)
 zaj)
 (zan (zkT (zal (zad (zaf 1) zar) (m1 zey)) (zdW 2)
 (zan (sIf (dOr (zc3 (zal (zad (zab (zaf 1) (zaf 2) dIx) zar) zbd)) (dOr (zab (zab (zaf 1) (zaf 2) dIx) (dC (.int 0)) dLt) (zab (zab (zaf 1) (zaf 2) dIx) (zal (zad (zab (zaf 0) (dC (.int 1)) dIx) zar) (m1 zey)) dGe)))
 (zan (zcy (dC (.bl false)))
 zaj)
 zaj)
 (zan (sIf (dOr (zab (zab (zab (zab (zaf 0) (dC (.int 1)) dIx) (zab (zaf 1) (zaf 2) dIx) dIx) (dC (.int 4)) dIx) (dC (.non)) zly) (zhC (zab (zaf 2) (dC (.int 0)) dGt) (zab (zab (zaf 1) (zab (zaf 2) (dC (.int 1)) zhg) dIx) (zab (zaf 1) (zaf 2) dIx) dGe)))
 (zan (zcy (dC (.bl false)))
 zaj)
 zaj)
 zaj)))
 (zan (zcy (dC (.bl true)))
 zaj)))
def zaR:List D->Res D:=zc6 3 zbz
abbrev zcg:List D->Res D:=Com.zcg
abbrev zaQ:List D->Res D:=Wex.zaQ
abbrev zbQ:List D->Res D:=Com.zbQ
abbrev zbb:List D->Res D:=Com.zbb
abbrev zco:List D->Res D:=Com.zco
abbrev zcP:List D->Res D:=Com.zcP
abbrev zdw:List D->Res D:=Com.zdw
abbrev zdZ:List D->Res D:=Com.zdZ
abbrev za0:List D->Res D:=Wex.za0
abbrev zcp:List D->Res D:=Com.zcp
abbrev za6:List D->Res D:=Wex.za6
abbrev zaA:List D->Res D:=Com.zaA
abbrev zaz:List D->Res D:=Wex.zaz
abbrev zaq:List D->Res D:=Wex.zaq
def zci:Ev->Res Fl :=
 (zan (zbc 3 (dC (.str "none")))
 (zan (zbc 4 (dC (.int 1)))
 (zan (zsI (zn8 (zaf 2)
 (znf 4 (zad (zaf 0) (zad (zaf 1) zar)) zaz)
 (znf 4 (zad (zaf 1) zar) zaq)) (znx zev) 5
 (zan (zbc 6 (zal (zad (zbi (zaf 5) (zpw zsX)) (zad (zbi (zaf 5) (zpw zsY)) zar)) zdm))
 (zan (zbc 6 (zab (zaf 6) (zal (zad (zbi (zaf 5) (zpw zsV)) (zad (zc3 (zbi (zaf 5) (zpw zsW))) zar)) zdm) zbe))
 (zan (zbc 3 (dC (.str "another")))
 (zan (sIf (zhC (zab (zmg (zaf 6) (dC (.bl true))) (dC (.int 1)) dEq) (zhC (zc3 (zab (zaf 6) (dC (.int 2)) dIx)) (zc3 (zab (zaf 6) (dC (.int 3)) dIx))))
 (zan (zbc 3 (zab (zal (zad (dC (.str "taking")) (zad (dC (.str "purse")) zar)) zdm) (zkr (zaf 6) (dC (.bl true))) dIx))
 zaj)
 zaj)
 zaj)))))
 (zan (sIf (zhC (zab (zaf 3) (dC (.str "none")) dEq) (zab (zaf 4) (dC (.non)) zh9))
 (zan (zcy (dC (.str "another")))
 zaj)
 zaj)
 (zan (zcy (zaf 3))
 zaj)))))
def zaJ:List D->Res D:=zc6 7 zci
def zc1:Ev->Res Fl :=
 (zan (zbc 3 (zal (zad (dC (.non)) (zad (dC (.bl true)) (zad (dC (.int 0)) (zad (dC (.int 1)) (zad (dC (.str "0")) (zad (zal (zad (zbi (dC (.int 1)) zpu) (zad (dC (.int 1)) zar)) zjC) (zad (zal (zad (dC (.int 2)) (zad (dC (.int 2)) zar)) zjC) zar))))))) zdm))
 (zan (zbc 3 (zab (zaf 3) (zal (zad (zal (zad (dC (.int 1)) (zad (dC (.int 0)) zar)) zjC) (zad (zal (zad (dC (.int 0)) (zad (dC (.int 2)) zar)) zjC) (zad (zal (zad (dC (.int 0)) (zad (dC (.int 1)) zar)) zdm) (zad (zal (zad (dC (.bl true)) (zad (dC (.int 1)) zar)) zjC) (zad (zal (zad (zab (zbi (dC (.int 1)) zpu) (zaf 2) zhg) (zad (dC (.int 1)) zar)) zjC) (zad (zal (zad (dC (.int 1)) (zad (zbi (dC (.int 1)) zpu) zar)) zjC) (zad (zal zar zjC) zar))))))) zdm) zbe))
 (zan (sIf (zab (zaf 1) (dC (.int 14)) dLt)
 (zan (zcy (zab (zaf 3) (zaf 1) dIx))
 zaj)
 zaj)
 (zan (zcy (zal (zad (zaf 0) (zad (dC (.int 0)) zar)) zaF))
 zaj))))
def zcI:List D->Res D:=zc6 4 zc1
abbrev zaP:List D->Res D:=Com.zaP
def zsD:Ev->Res Fl :=
 (zan (zbc 1 (zal (zad (zaf 0) (zad (dC (.int 0)) zar)) zcG))
 (zan (zbc 2 (zal (zad (zal (zad (zab (zaf 1) (dC (.int 0)) dIx) zar) (m1 zkq)) (zad (zal (zad (zab (zaf 1) (dC (.int 1)) dIx) zar) (m1 zkq)) (zad (zab (zaf 1) (dC (.int 2)) dIx) (zad (zab (zaf 1) (dC (.int 3)) dIx) zar)))) zjC))
 (zan (zbc 3 (zfL 1 [1] (zlJ (zal (zad (zab (zaf 1) (dC (.int 1)) dIx) zar) (m1 zey))) (zdW 0) (zab (zab (zab (zab (zaf 1) (dC (.int 1)) dIx) (zaf 0) dIx) (dC (.int 4)) dIx) (dC (.non)) zh9) (zaf 0)))
 (zan (zq1 (zab (zgS (zaf 0) (zbh (dC (.int 15))) (zbh (dC (.int 63)))) (zal (zad (dC (.int 15)) zar) zdm) zbe) (zdW 4)
 (zan (zbc 5 (zal (zad (dC (.int 8)) (zad (zab (zab (dC (.int 10)) (dC (.int 60)) zjN) (dC (.int 1)) zhg) (zad (zab (zab (dC (.int 10)) (dC (.int 60)) zjN) (dC (.int 1)) zhg) zar))) zdm))
 (zan (zbc 6 (zal (zad (zaf 4) (zad (zab (zab (zab (zal (zad (dC (.int 16)) (zad (dC (.int 14)) (zad (dC (.int 8)) (zad (dC (.int 4)) (zad (dC (.int 28)) zar))))) zdm) (zq2 (zal (zad (dC (.int 2)) zar) zdm) (dC (.int 14))) zbe) (zaf 5) zbe) (zal (zad (zab (zab (dC (.int 10)) (dC (.int 60)) zjN) (dC (.int 1)) zhg) zar) zdm) zbe) zar)) zaI))
 (zan (zbc 7 (zfL 1 [3,6] (zlJ (zal (zad (zaf 3) zar) (m1 zey))) (zdW 0) (zab (zab (zaf 2) (zab (dC (.int 5)) (zaf 0) zbe) dIx) (dC (.int 1)) dEq) (zab (zaf 1) (zaf 0) dIx)))
 (zan (sIf (zab (zab (zaf 6) (dC (.int 3)) dIx) (dC (.int 0)) dEq)
 (zan (zbc 7 (zgS (zaf 7) zeN (zbh (dC (.int 3)))))
 zaj)
 zaj)
 (zan (zbc 8 (zal (zad (zaf 1) (zad (zaf 7) (zad (zab (zgS (zaf 6) zeN (zbh (dC (.int 3)))) (zgS (zaf 6) (zbh (dC (.int 22))) (zbh (dC (.int 23)))) zbe) zar))) zau))
 (zan (zbc 9 (zaf 8))
 (zan (sIf (zbi (zaf 8) (zcq "list"))
 (zan (zbc 9 (zal (zad (zaf 8) zar) (m1 zkq)))
 zaj)
 zaj)
 (zan (zbc 10 (zab (zal (zad (dC (.str "taking")) (zad (dC (.str "none")) zar)) zdm) (zal (zad (zal (zad (zaf 1) (zad (zaf 8) zar)) zaR) zar) (m1 zcY)) dIx))
 (zan (sIf (dOr (zab (zal (zad (zaf 1) (zad (zaf 9) (zad (dC (.bl true)) zar))) zaJ) (zaf 10) dNe) (dOr (zab (zaf 9) (zaf 8) zpv) (zab (zaf 1) (zaf 2) dNe)))
 (zan (zcy (dC (.bl false)))
 zaj)
 zaj)
 (zan (zbc 11 (zal (zad (zgS (zaf 6) (zbh (dC (.int 19))) (zbh (dC (.int 22)))) (zad (zab (zaf 6) (dC (.int 4)) dIx) (zad (zab (zaf 6) (dC (.int 22)) dIx) zar))) zcI))
 (zan (zbc 10 (zab (zal (zad (dC (.str "purse")) (zad (dC (.str "none")) zar)) zdm) (zal (zad (zhC (zal (zad (zaf 11) zar) zaP) (zab (zab (zaf 11) (dC (.int 0)) dIx) (dC (.int 0)) dGe)) zar) (m1 zcY)) dIx))
 (zan (sIf (zab (zal (zad (zaf 1) (zad (zaf 11) (zad (dC (.bl false)) zar))) zaJ) (zaf 10) dNe)
 (zan (zcy (dC (.bl false)))
 zaj)
 zaj)
 zaj)))))))))))))
 (zan (zcy (dC (.bl true)))
 zaj)))))
def zoD:List D->Res D:=zc6 12 zsD
end K07
namespace K07
open PySem L2 DL Com
theorem zvx:zaI=Com.zaI:=rfl
theorem znB:zaF=Com.zaF:=rfl
theorem zvw:zcG=Com.zcG:=rfl
theorem zgc:zaP=Com.zaP:=rfl
theorem zgQ:zbd=Com.zbd:=rfl
def zd5:Ev->Res Fl:=(zan (sIf (dOr (zc3 (zal (zad (zab (zaf 1) (zaf 2) dIx) zar) zbd)) (dOr (zab (zab (zaf 1) (zaf 2) dIx) (dC (.int 0)) dLt) (zab (zab (zaf 1) (zaf 2) dIx) (zal (zad (zab (zaf 0) (dC (.int 1)) dIx) zar) (m1 zey)) dGe)))
 (zan (zcy (dC (.bl false)))
 zaj)
 zaj)
 (zan (sIf (dOr (zab (zab (zab (zab (zaf 0) (dC (.int 1)) dIx) (zab (zaf 1) (zaf 2) dIx) dIx) (dC (.int 4)) dIx) (dC (.non)) zly) (zhC (zab (zaf 2) (dC (.int 0)) dGt) (zab (zab (zaf 1) (zab (zaf 2) (dC (.int 1)) zhg) dIx) (zab (zaf 1) (zaf 2) dIx) dGe)))
 (zan (zcy (dC (.bl false)))
 zaj)
 zaj)
 zaj))
theorem zoK {w:Web}{ds:List D}(hp:∀ d∈ds,Wex.plainD d=true):∀ (m k:Nat) (a:Int) (x:Sl),k+m=ds.length->((k=0/\a=-1)∨(0 < k/\ds[k-1]?=some (.int a))) ->
  (Wex.takB w a (ds.drop k)=true->∃ x',zcX (zdW 2) zd5 ((DL.intsFrom 0 ds.length).drop k) [.sh (zcc w),.sh (.lst ds),x]=.ok (.nx [.sh (zcc w),.sh (.lst ds),x']))/\(Wex.takB w a (ds.drop k)=false->zcX (zdW 2) zd5 ((DL.intsFrom 0 ds.length).drop k) [.sh (zcc w),.sh (.lst ds),x]=.ok (.rt (.bl false)))
 | 0,k,a,x,hk,ha=>by
  have e1:ds.drop k=[]:=List.drop_eq_nil_of_le (by omega)
  have e2:(DL.intsFrom 0 ds.length).drop k=[]:=List.drop_eq_nil_of_le (by unfold DL.intsFrom;simp;omega)
  rw[e1,e2]
  exact⟨fun _=>⟨x,rfl⟩,fun h=>(by cases h)⟩
 | m+1,k,a,x,hk,ha=>by
  have hlt:k < ds.length:=by omega
  have hd:ds[k]?=some ds[k]:=List.getElem?_eq_getElem hlt
  have e1:ds.drop k=ds[k]::ds.drop (k+1):=List.drop_eq_getElem_cons hlt
  have e2:(DL.intsFrom 0 ds.length).drop k=.int (k:Int)::(DL.intsFrom 0 ds.length).drop (k+1):=by
   rw[List.drop_eq_getElem_cons (by unfold DL.intsFrom;simpa using hlt)]
   congr 1
   unfold DL.intsFrom
   simp
  have ih:=fun n y z=>zoK (w:=w) hp m (k+1) n y (by omega) z
  have hpl:=hp ds[k] (List.getElem_mem hlt)
  have hix:=ze1 hd
  generalize hde:ds[k]=d at *
  rw[e1,e2]
  have red:∀ r:Res Fl,zd5 [.sh (zcc w),.sh (.lst ds),.sh (.int (k:Int))]=r->zcX (zdW 2) zd5 (.int (k:Int)::(DL.intsFrom 0 ds.length).drop (k+1)) [.sh (zcc w),.sh (.lst ds),x]=r.bind fun x=>match x with
   | .nx ρ2=>zcX (zdW 2) zd5 ((DL.intsFrom 0 ds.length).drop (k+1)) ρ2
   | .ct ρ2=>zcX (zdW 2) zd5 ((DL.intsFrom 0 ds.length).drop (k+1)) ρ2
   | .bk ρ2=>.ok (.nx ρ2)
   | .rt d=>.ok (.rt d):=fun r hr=>by rw[← hr];(conv=>lhs;unfold zcX);rfl
  have hwh:=zpC d
  by_cases hi:∃ n,d=.int n
  ·obtain⟨n,rfl⟩:=hi
   have hT:Wex.takB w a (.int n::ds.drop (k+1))=(decide (0<=n)&&decide (n < (w.ts.length:Int))&&decide (a < n)&&isW w n.toNat&&Wex.takB w n (ds.drop (k+1))):=rfl
   rw[hT]
   have l1:dIx (zcc w) (.int 1)=.ok (.lst (w.ts.map zf1)):=rfl
   rw[show isI (.int n)=true from rfl] at hwh
   by_cases c0:n < 0
   ·rw[decide_eq_false (show ¬ 0<=n by omega)]
    refine⟨fun h=>(by cases h),fun _=>?_⟩
    rw[red (.ok (.rt (.bl false))) (by unfold zd5;open_line with[hix,zgQ,hwh,decide_eq_true c0])]
    rfl
   ·by_cases c1:n < (w.ts.length:Int)
    ·rw[decide_eq_true (show 0<=n by omega),decide_eq_true c1]
     have hnl:n.toNat < w.ts.length:=by omega
     obtain⟨t,ht,hW,hix2⟩:=Wex.isW_at hnl
     rw[show((n.toNat:Nat):Int)=n by omega] at hix2
     have q1:decide (n < 0)=false:=decide_eq_false c0
     have q2:decide (n≥(w.ts.length:Int))=false:=decide_eq_false (by omega)
     rw[hW]
     cases ho:t.o with
     | none =>
      rw[ho] at hix2
      refine⟨fun h=>(by simp at h),fun _=>?_⟩
      rw[red (.ok (.rt (.bl false))) (by unfold zd5;open_line with[hix,zgQ,hwh,q1,l1,List.length_map,q2,hix2,zcT])]
      rfl
     | some v =>
      rw[ho] at hix2
      rcases ha with⟨hk0,rfl⟩ | ⟨hk0,hprev⟩
      ·have q3:decide ((k:Int) > 0)=false:=decide_eq_false (by omega)
       rw[decide_eq_true (show(-1:Int) < n by omega)]
       rw[red (.ok (.nx [.sh (zcc w),.sh (.lst ds),.sh (.int (k:Int))])) (by unfold zd5;open_line with[hix,zgQ,hwh,q1,l1,List.length_map,q2,hix2,zcT,fr,znL,q3])]
       simp only[Option.isSome_some,Bool.and_self,Bool.true_and];exact ih n (.sh (.int (k:Int))) (.inr ⟨by omega,by simpa using hd⟩)
      ·have q3:decide ((k:Int) > 0)=true:=decide_eq_true (by omega)
       have hixp:dIx (.lst ds) (.int ((k:Int)-1))=.ok (.int a):=by
        rw[show((k:Int)-1)=((k-1:Nat):Int) by omega];exact ze1 hprev
       by_cases c2:a < n
       ·rw[decide_eq_true c2]
        rw[red (.ok (.nx [.sh (zcc w),.sh (.lst ds),.sh (.int (k:Int))])) (by unfold zd5;open_line with[hix,zgQ,hwh,q1,l1,List.length_map,q2,hix2,zcT,fr,znL,q3,zhg,hixp,decide_eq_false (show ¬ a≥n by omega)])]
        simp only[Option.isSome_some,Bool.and_self,Bool.true_and];exact ih n (.sh (.int (k:Int))) (.inr ⟨by omega,by simpa using hd⟩)
       ·rw[decide_eq_false c2]
        refine⟨fun h=>(by simp at h),fun _=>?_⟩
        rw[red (.ok (.rt (.bl false))) (by unfold zd5;open_line with[hix,zgQ,hwh,q1,l1,List.length_map,q2,hix2,zcT,fr,znL,q3,zhg,hixp,decide_eq_true (show a≥n by omega)])]
        rfl
    ·rw[decide_eq_false c1]
     refine⟨fun h=>(by simp at h),fun _=>?_⟩
     have l1:dIx (zcc w) (.int 1)=.ok (.lst (w.ts.map zf1)):=rfl
     rw[red (.ok (.rt (.bl false))) (by unfold zd5;open_line with[hix,zgQ,hwh,decide_eq_false c0,l1,List.length_map,decide_eq_true (show n≥(w.ts.length:Int) by omega)])]
     rfl
  ·have hf:Wex.takB w a (d::ds.drop (k+1))=false:=by
    unfold Wex.takB
    cases d with
    | int n=>exact absurd ⟨n,rfl⟩ hi
    | _=>rfl
   have hno:isI d=false:=by
    cases d with
    | int n=>exact absurd ⟨n,rfl⟩ hi
    | _=>rfl
   rw[hno] at hwh
   refine⟨fun h=>(by rw[hf] at h;cases h),fun _=>?_⟩
   rw[red (.ok (.rt (.bl false))) (by unfold zd5;open_line with[hix,zgQ,hwh])]
   rfl
theorem zoJ {w:Web}{ds:List D}(hl:ds.length<=1000)(hp:∀ d∈ds,Wex.plainD d=true):zaR [zcc w,.lst ds]=.ok (.bl (Wex.takB w (-1) ds)):=by
 have h:=zoK (w:=w) hp ds.length 0 (-1) .no (by omega) (.inl ⟨rfl,rfl⟩)
 rw[List.drop_zero,List.drop_zero] at h
 unfold zd5 at h
 cases e:Wex.takB w (-1) ds with
 | true =>
  obtain⟨x',hl'⟩:=h.1 e
  open_line with[zaR,zbz,zij (show ds.length<=1000000 by omega),hl']
 | false =>
  have hl':=h.2 e
  open_line with[zaR,zbz,zij (show ds.length<=1000000 by omega),hl']
theorem zk9 {w:Web}{d:D}(h:zcq "list" d=.ok (.bl false)):zaR [zcc w,d]=.ok (.bl false):=by
 open_line with[zaR,zbz,h]
section
variable {W T d:D}{c z:Str}
def zjx:List (Str×Str):=[("NoTaking","taking"),("NoPurse","purse")]
theorem zm2 {b:Bool}{r:Res D}(h:∀ ρ:Ev,ρ=[.sh W,.sh T,.sh (.bl b),.sh (.str "none"),.sh (.int 1),.no,.no]->(zn8 (zaf 2)
 (znf 4 (zad (zaf 0) (zad (zaf 1) zar)) zaz)
 (znf 4 (zad (zaf 1) zar) zaq)) ρ=r.bind (zuW 4 ρ)) :
  (r=.ok .non->zaJ [W,T,.bl b]=.ok (.str "none"))/\(∀ c z,r=.exn ⟨c,[]⟩->(c,z)∈zjx->zaJ [W,T,.bl b]=.ok (.str z)):=by
 refine⟨fun hr=>?_,fun c z hr hc=>?_⟩
 ·subst hr
  have h':=h _ rfl
  open_line with[zaJ,zci,zo0,h',zsq,show dEq (.str "none") (.str "none")=.ok (.bl true) from rfl]
 ·subst hr
  have h':=h _ rfl
  unfold zjx at hc
  simp only[List.mem_cons,List.not_mem_nil,or_false,Prod.mk.injEq] at hc
  rcases hc with⟨rfl,rfl⟩ | ⟨rfl,rfl⟩
  ·open_line with[zaJ,zci,zo0,h',zhc,zoZ (show znx zev "NoTaking"=true from rfl)]
   rfl
  ·open_line with[zaJ,zci,zo0,h',zhc,zoZ (show znx zev "NoPurse"=true from rfl)]
   rfl
theorem zph:(zaz [W,T]=.ok .non->zaJ [W,T,.bl true]=.ok (.str "none"))/\(∀ c z,zaz [W,T]=.exn ⟨c,[]⟩->(c,z)∈zjx->zaJ [W,T,.bl true]=.ok (.str z)):=zm2 fun ρ e=>by subst e;rfl
theorem zpi:(zaq [T]=.ok .non->zaJ [W,T,.bl false]=.ok (.str "none"))/\(∀ c z,zaq [T]=.exn ⟨c,[]⟩->(c,z)∈zjx->zaJ [W,T,.bl false]=.ok (.str z)):=zm2 fun ρ e=>by subst e;rfl
end
abbrev nI (k:Nat):D:=.int (k:Int)
structure PL (ds:List D):Prop where
 p:∀ x∈ds,Wex.plainD x=true
 s:∀ x∈ds,zba 39 x=true
theorem PL.app {a b:List D}(ha:PL a)(hb:PL b):PL (a++b):=⟨fun x hx=>(List.mem_append.mp hx).elim (ha.p x) (hb.p x),fun x hx=>(List.mem_append.mp hx).elim (ha.s x) (hb.s x)⟩
theorem PL.one {x:D}(h1:Wex.plainD x=true)(h2:zba 39 x=true):PL [x]:=⟨fun y hy=>by rw[List.mem_singleton.mp hy];exact h1,fun y hy=>by rw[List.mem_singleton.mp hy];exact h2⟩
theorem PL.sub {a b:List D}(ha:PL a)(h:∀ x∈b,x∈a):PL b:=⟨fun x hx=>ha.p x (h x hx),fun x hx=>ha.s x (h x hx)⟩
theorem PL.cut {a:List D}(ha:PL a){lo hi:Option Int}:PL (zcA a lo hi):=ha.sub fun x hx=>by
 unfold zcA at hx
 exact List.mem_of_mem_drop (List.mem_of_mem_take hx)
theorem PL.ints (ns:List Int):PL (ns.map D.int):=⟨fun x hx=>by obtain⟨_,_,rfl⟩:=List.mem_map.mp hx;rfl,fun x hx=>by obtain⟨_,_,rfl⟩:=List.mem_map.mp hx;rfl⟩
theorem PL.nums (ks:List Nat):PL (ks.map nI):=⟨fun x hx=>by obtain⟨_,_,rfl⟩:=List.mem_map.mp hx;rfl,fun x hx=>by obtain⟨_,_,rfl⟩:=List.mem_map.mp hx;rfl⟩
def Th (d:D):Prop:=(∃ ds,d=.lst ds/\PL ds/\ds.length<=100)∨(zcq "list" d=.ok (.bl false)/\zpv d d=.ok (.bl false))
theorem ad {a b:List D}(ha:a.length<=100)(hb:b.length<=100):zbe (.lst a) (.lst b)=.ok (.lst (a++b)):=ev_addL (decide_eq_true (by omega))
theorem zgM {d:D}(h:zcq "list" d=.ok (.bl false))(hs:zba 40 d=true)(hd:∀ k x,d≠.dic k x):Th d:=.inr ⟨h,by
 have:zpv d d=dNe d d:=by
  unfold zpv
  split
  ·exact absurd rfl (hd _ _)
  ·rfl
 rw[this];unfold dNe
 rw[if_pos ⟨hs,hs⟩,zeR 40 _ hs];rfl⟩
theorem znb {w:Web}(h14:w.ts.length<=14)(A:List Sl):zjv 1 [0] (zdW 0) (zab (zab (zab (zab (zaf 1) (dC (.int 1)) dIx) (zaf 0) dIx) (dC (.int 4)) dIx) (dC (.non)) zly) (zaf 0) (.sh (zcc w)::A) (DL.intsFrom 0 w.ts.length)=.ok (.lst (((List.range w.ts.length).filter (fun k=>!(isW w k))).map nI)) :=
  Wex.comp_rng (by omega) fun k hk=>by
   obtain⟨t,_,hW,hix⟩:=Wex.isW_at hk
   refine⟨[.sh (.int (k:Int)),.sh (zcc w)],rfl,?_,fun _=>rfl⟩
   rw[show zcc w=.tup [.lst (w.ps.map D.str),.lst (w.ts.map zf1),.str w.fi,.str w.la] from rfl,hW]
   cases ho:t.o with
   | none=>rw[ho] at hix;open_line with[hix,zcT];rfl
   | some v=>rw[ho] at hix;open_line with[hix,zcT,fr,znL];rfl
theorem zrI {w:Web}{ks:List Nat}(W:zkI w)(hl:ks.length<=14){v0 v1 v2 v3:Int}(b2:0<=v2/\v2 < 8):∃ d,zau [zcc w,zcV ks,.lst [.int v0,.int v1,.int v2,.int v3]]=.ok d/\Th d:=by
 have h14:=W.t14
 have hsrc:=Wex.srcR1_nat (k:=w.ts.length) (by omega)
 have hw:=znb h14 [.sh (zcV ks),.sh (.lst [.int v0,.int v1,.int v2,.int v3]),.sh (.int v0),.sh (.int v1),.sh (.int v2),.sh (.int v3),.no,.no,.no,.no,.no]
 have hwl:((List.range w.ts.length).filter (fun k=>!(isW w k))).length<=14:=Nat.le_trans (List.length_filter_le _ _) (by simpa using h14)
 generalize (List.range w.ts.length).filter (fun k=>!(isW w k))=ws at *
 have i1:dIx (zcc w) (.int 1)=.ok (.lst (w.ts.map zf1)):=rfl
 have eA:zcV ks=.lst (ks.map nI):=rfl
 have pA:=PL.nums ks
 have lA:(ks.map nI).length<=14:=by simpa using hl
 have hAi:∀ i,i < ks.length->∃ n:Int,(ks.map nI)[i]?=some (.int n):=fun i hi=>⟨_,by rw[List.getElem?_map,List.getElem?_eq_getElem hi];rfl⟩
 have hAlen:(ks.map nI).length=ks.length:=List.length_map ..
 have hsort:∀ x:Nat,zbe (.lst (ks.map nI)) (.lst [nI x])=.ok (.lst ((ks.map (fun(k:Nat)=>(k:Int))++[(x:Int)]).map D.int))/\zqE (.lst ((ks.map (fun(k:Nat)=>(k:Int))++[(x:Int)]).map D.int))=.ok (.lst ((zgY (ks.map (fun(k:Nat)=>(k:Int))++[(x:Int)])).map D.int))/\(zgY (ks.map (fun(k:Nat)=>(k:Int))++[(x:Int)])).length<=15:=fun x=>by
  refine⟨?_,?_,?_⟩
  ·rw[ad (by omega) (by simp),List.map_append,List.map_map];rfl
  ·show(match zgp ((ks.map (fun(k:Nat)=>(k:Int))++[(x:Int)]).map D.int) with | some ns=>if ns.length < 64 then Res.ok (D.lst ((zgY ns).map D.int)) else .stuck | none=>.stuck)=_
   rw[zmM]
   exact if_pos (by simp;omega)
  ·rw[(zf4 _).length_eq];simp;omega
 rw[eA] at hw ⊢
 generalize ks.map nI=A at *
 have hn0:(((A.length:Int)+1)==0)=false:=beq_eq_false_iff_ne.mpr (by omega)
 have cl:∀ lo hi,(zcA A lo hi).length<=14:=fun lo hi=>Nat.le_trans zsy lA
 generalize hsp:v1.fmod ((A.length:Int)+1)=sp
 have pc:∀ lo hi,PL (zcA A lo hi):=fun lo hi=>pA.cut
 have base:=fun(e8:(v0==8)=false) (e9:((v0==9)&&decide ((A.length:Int) > 0))=false) (e10:(v0==10)=false) (e11:(v0==11)=false) (e12:((v0==12)&&!(ws.isEmpty))=false) (e13:(v0==13)=false) (e14:(v0==14)=false) (e15:(v0==15)=false) =>
  show zau [zcc w,.lst A,.lst [.int v0,.int v1,.int v2,.int v3]]=.ok (.lst A) by
   have n1:dNe (.lst (ws.map nI)) (.lst [])=.ok (.bl (!(ws.isEmpty))):=by
    cases ws with
    | nil=>rfl
    | cons a r=>exact Wex.nums_some
   cases f9:(v0==9)<;>cases f12:(v0==12)
   ·open_line with[zau,zaC,i1,List.length_map,Wex.ev_srcR1,hsrc,hw,hn0,hsp,e8,f9,e10,e11,f12,e13,e14,e15]
   ·rw[f12,Bool.true_and] at e12
    rw[e12] at n1
    open_line with[zau,zaC,i1,List.length_map,Wex.ev_srcR1,hsrc,hw,hn0,hsp,e8,f9,e10,e11,f12,n1,e13,e14,e15]
   ·rw[f9,Bool.true_and] at e9
    open_line with[zau,zaC,i1,List.length_map,Wex.ev_srcR1,hsrc,hw,hn0,hsp,e8,f9,e9,e10,e11,f12,e13,e14,e15]
   ·rw[f9,Bool.true_and] at e9
    rw[f12,Bool.true_and] at e12
    rw[e12] at n1
    open_line with[zau,zaC,i1,List.length_map,Wex.ev_srcR1,hsrc,hw,hn0,hsp,e8,f9,e9,e10,e11,f12,n1,e13,e14,e15]
 have tA:Th (.lst A):=.inl ⟨A,rfl,pA,by omega⟩
 by_cases w8:v0=8
 ·subst w8
  have hk:v2=0∨v2=1∨v2=2∨v2=3∨v2=4∨v2=5∨v2=6∨v2=7:=by omega
  obtain⟨o,ho,op,os⟩:∃ o,dIx (.lst [.bl true,.non,.str "0",.tup [.int 0,.int 1],.lst [.int 0],.bl false,.str "",.int v3]) (.int v2)=.ok o/\Wex.plainD o=true/\zba 39 o=true:=by
   rcases hk with rfl | rfl | rfl | rfl | rfl | rfl | rfl | rfl<;>exact⟨_,rfl,rfl,rfl⟩
  have q1:zbe (.lst (zcA A none (some sp))) (.lst [o])=.ok (.lst (zcA A none (some sp)++[o])):=ad (by have:=cl none (some sp);omega) (by simp)
  have q2:zbe (.lst (zcA A none (some sp)++[o])) (.lst (zcA A (some (sp+1)) none))=.ok (.lst (zcA A none (some sp)++[o]++zcA A (some (sp+1)) none)):=ad (by have:=cl none (some sp);simp;omega) (by have:=cl (some (sp+1)) none;omega)
  refine⟨_,?_,.inl ⟨zcA A none (some sp)++[o]++zcA A (some (sp+1)) none,rfl,((pc _ _).app (PL.one op os)).app (pc _ _),by have h1:=cl none (some sp);have h2:=cl (some (sp+1)) none;simp;omega⟩⟩
  open_line with[zau,zaC,i1,List.length_map,Wex.ev_srcR1,hsrc,hw,hn0,hsp,ho,q1,q2]
 ·have e8:(v0==8)=false:=beq_eq_false_iff_ne.mpr w8
  by_cases w9:v0=9/\0 < A.length
  ·obtain⟨rfl,hpos⟩:=w9
   have f:=zha (a:=v1) (b:=(A.length:Int)) (by omega)
   obtain⟨i,hi⟩:=Int.eq_ofNat_of_zero_le f.1
   obtain⟨n,hn⟩:=hAi i (by omega)
   have hix:dIx (.lst A) (.int (v1.fmod (A.length:Int)))=.ok (.int n):=by rw[hi];exact ze1 hn
   have hz:((A.length:Int)==0)=false:=beq_eq_false_iff_ne.mpr (by omega)
   have q1:zbe (.lst (zcA A none (some sp))) (.lst [.int (n+v2-3)])=.ok (.lst (zcA A none (some sp)++[.int (n+v2-3)])):=ad (by have:=cl none (some sp);omega) (by simp)
   have q2:zbe (.lst (zcA A none (some sp)++[.int (n+v2-3)])) (.lst (zcA A (some sp) none))=.ok (.lst (zcA A none (some sp)++[.int (n+v2-3)]++zcA A (some sp) none)):=ad (by have:=cl none (some sp);simp;omega) (by have:=cl (some sp) none;omega)
   refine⟨_,?_,.inl ⟨zcA A none (some sp)++[.int (n+v2-3)]++zcA A (some sp) none,rfl,((pc _ _).app (PL.one rfl rfl)).app (pc _ _),by have h1:=cl none (some sp);have h2:=cl (some sp) none;simp;omega⟩⟩
   open_line with[zau,zaC,i1,List.length_map,Wex.ev_srcR1,hsrc,hw,hn0,hsp,decide_eq_true (show(A.length:Int) > 0 by omega),hz,hix,zhg,q1,q2]
  ·have e9:((v0==9)&&decide ((A.length:Int) > 0))=false:=by
    by_cases c:v0=9
    ·rw[decide_eq_false (show ¬ (A.length:Int) > 0 from fun z=>w9 ⟨c,by omega⟩),Bool.and_false]
    ·rw[beq_eq_false_iff_ne.mpr c];rfl
   have g9:∀ u:Int,u≠9->(u==9)=false:=fun u h=>beq_eq_false_iff_ne.mpr h
   by_cases w10:v0=10
   ·subst w10
    have hsl:∀ x7 x9 x10 x11:Sl,zux (zaf 1) (zbh (zaf 8)) (zbh (zab (zaf 8) (dC (.int 1)) zbe)) [.sh (zcc w),.sh (.lst A),.sh (.lst [.int 10,.int v1,.int v2,.int v3]),.sh (.int 10),.sh (.int v1),.sh (.int v2),.sh (.int v3),x7,.sh (.int sp),x9,x10,x11]=.ok (.lst (zcA A (some sp) (some (sp+1)))):=fun _ _ _ _=>rfl
    have hc1:=cl none (some sp);have hc2:=cl (some sp) (some (sp+1));have hc3:=cl (some (sp+1)) none
    have hrep:zqF (.lst (zcA A (some sp) (some (sp+1)))) (.int 2)=.ok (.lst (zcA A (some sp) (some (sp+1))++zcA A (some sp) (some (sp+1)))):=by
     have e:(List.replicate (2:Int).toNat (zcA A (some sp) (some (sp+1)))).flatten=zcA A (some sp) (some (sp+1))++zcA A (some sp) (some (sp+1)):=by
      show(List.replicate 2 _).flatten=_
      simp [List.replicate]
     show(if _ then _ else _)=_
     rw[if_pos ⟨Nat.le_trans (show _<=1000 from by show(zcA A (some sp) (some (sp+1))).length*2<=1000;omega) (by decide),by decide,by decide⟩,e]
    have q1:=ad (a:=zcA A none (some sp)) (b:=zcA A (some sp) (some (sp+1))++zcA A (some sp) (some (sp+1))) (by omega) (by rw[List.length_append];omega)
    have q2:=ad (a:=zcA A none (some sp)++(zcA A (some sp) (some (sp+1))++zcA A (some sp) (some (sp+1)))) (b:=zcA A (some (sp+1)) none) (by rw[List.length_append,List.length_append];omega) (by omega)
    refine⟨_,?_,.inl ⟨_,rfl,((pc none (some sp)).app ((pc (some sp) (some (sp+1))).app (pc (some sp) (some (sp+1))))).app (pc (some (sp+1)) none),by rw[List.length_append,List.length_append,List.length_append];omega⟩⟩
    open_line with[zau,zaC,i1,List.length_map,Wex.ev_srcR1,hsrc,hw,hn0,hsp,hsl,hrep,q1,q2]
   ·have e10:(v0==10)=false:=beq_eq_false_iff_ne.mpr w10
    by_cases w11:v0=11
    ·subst w11
     have hc1:=cl none (some sp);have hc2:=cl (some sp) (some (sp+2));have hc3:=cl (some (sp+2)) none
     have hrv:zvC (.lst (zcA A (some sp) (some (sp+2))))=.ok (.lst (zcA A (some sp) (some (sp+2))).reverse):=rfl
     have q1:=ad (a:=zcA A none (some sp)) (b:=(zcA A (some sp) (some (sp+2))).reverse) (by omega) (by rw[List.length_reverse];omega)
     have q2:=ad (a:=zcA A none (some sp)++(zcA A (some sp) (some (sp+2))).reverse) (b:=zcA A (some (sp+2)) none) (by rw[List.length_append,List.length_reverse];omega) (by omega)
     refine⟨_,?_,.inl ⟨_,rfl,((pc none (some sp)).app ((pc (some sp) (some (sp+2))).sub (fun x hx=>List.mem_reverse.mp hx))).app (pc (some (sp+2)) none),by rw[List.length_append,List.length_append,List.length_reverse];omega⟩⟩
     open_line with[zau,zaC,i1,List.length_map,Wex.ev_srcR1,hsrc,hw,hn0,hsp,hrv,q1,q2]
    ·have e11:(v0==11)=false:=beq_eq_false_iff_ne.mpr w11
     by_cases w12:v0=12/\ws≠[]
     ·obtain⟨rfl,hne⟩:=w12
      cases ws with
      | nil=>exact absurd rfl hne
      | cons a r =>
       have f:=zha (a:=v1) (b:=(((a::r).length:Nat):Int)) (by rw[List.length_cons];omega)
       obtain⟨i,hi⟩:=Int.eq_ofNat_of_zero_le f.1
       have hil:i < (a::r).length:=by omega
       have hix1:dIx (.lst ((a::r).map nI)) (.int (v1.fmod (((a::r).length:Nat):Int)))=.ok (nI (a::r)[i]):=by
        rw[hi];exact ze1 (by rw[List.getElem?_map,List.getElem?_eq_getElem hil];rfl)
       obtain⟨s1,s2,s3⟩:=hsort (a::r)[i]
       have n1:dNe (.lst ((a::r).map nI)) (.lst [])=.ok (.bl true):=Wex.nums_some
       have hz:((((a::r).length:Nat):Int)==0)=false:=beq_eq_false_iff_ne.mpr (by rw[List.length_cons];omega)
       refine⟨_,?_,.inl ⟨_,rfl,PL.ints _,by rw[List.length_map];exact Nat.le_trans s3 (by decide)⟩⟩
       have hlenR:zey (.lst ((a::r).map nI))=.ok (.int (((a::r).length:Nat):Int)):=by show Res.ok (D.int _)=_;rw[List.length_map]
       generalize hR:D.lst ((a::r).map nI)=R at *
       generalize (((a::r).length:Nat):Int)=rl at *
       generalize (a::r)[i]=x at *
       open_line with[zau,zaC,i1,List.length_map,Wex.ev_srcR1,hsrc,hw,hn0,hsp,n1,hlenR,hz,hix1,s1,s2]
     ·have e12:((v0==12)&&!(ws.isEmpty))=false:=by
       by_cases c:v0=12
       ·have:ws=[]:=Classical.byContradiction fun z=>w12 ⟨c,z⟩
        rw[this];simp
       ·rw[beq_eq_false_iff_ne.mpr c];rfl
      have n1:dNe (.lst (ws.map nI)) (.lst [])=.ok (.bl (!(ws.isEmpty))):=by
       cases ws with
       | nil=>rfl
       | cons a r=>exact Wex.nums_some
      by_cases w13:v0=13
      ·subst w13
       have q1:=ad (a:=A) (b:=[.int ((w.ts.length:Int)+v2)]) (by omega) (by simp)
       refine⟨_,?_,.inl ⟨_,rfl,pA.app (PL.one (x:=.int ((w.ts.length:Int)+v2)) rfl rfl),by rw[List.length_append];simp;omega⟩⟩
       open_line with[zau,zaC,i1,List.length_map,Wex.ev_srcR1,hsrc,hw,hn0,hsp,q1]
      ·have e13:(v0==13)=false:=beq_eq_false_iff_ne.mpr w13
       by_cases w14:v0=14
       ·subst w14
        have q1:=ad (a:=[.int (-1-v2)]) (b:=A) (by simp) (by omega)
        refine⟨_,?_,.inl ⟨_,rfl,(PL.one (x:=.int (-1-v2)) rfl rfl).app pA,by rw[List.length_append];simp;omega⟩⟩
        open_line with[zau,zaC,i1,List.length_map,Wex.ev_srcR1,hsrc,hw,hn0,hsp,zhg]
        open_line with[zhg] seeing q1
        rw[q1]
        open_line with[]
       ·have e14:(v0==14)=false:=beq_eq_false_iff_ne.mpr w14
        by_cases w15:v0=15
        ·subst w15
         have hk:v2=0∨v2=1∨v2=2∨v2=3∨v2=4∨v2=5∨v2=6∨v2=7:=by omega
         have hsh:zba 40 (.tup A)=true:=List.all_eq_true.mpr fun x hx=>pA.s x hx
         obtain⟨o,ho,ht⟩:∃ o,dIx (.lst [.tup A,.non,.bl true,.str "0",.dic [] [],.tup [],.int 0,.str "[]"]) (.int v2)=.ok o/\Th o:=by
          rcases hk with rfl | rfl | rfl | rfl | rfl | rfl | rfl | rfl
          ·exact⟨_,rfl,zgM rfl hsh fun _ _ z=>by cases z⟩
          ·exact⟨_,rfl,zgM rfl rfl fun _ _ z=>by cases z⟩
          ·exact⟨_,rfl,zgM rfl rfl fun _ _ z=>by cases z⟩
          ·exact⟨_,rfl,zgM rfl rfl fun _ _ z=>by cases z⟩
          ·exact⟨_,rfl,.inr ⟨rfl,rfl⟩⟩
          ·exact⟨_,rfl,zgM rfl rfl fun _ _ z=>by cases z⟩
          ·exact⟨_,rfl,zgM rfl rfl fun _ _ z=>by cases z⟩
          ·exact⟨_,rfl,zgM rfl rfl fun _ _ z=>by cases z⟩
         refine⟨o,?_,ht⟩
         have tu:zpa (.lst A)=.ok (.tup A):=rfl
         open_line with[zau,zaC,i1,List.length_map,Wex.ev_srcR1,hsrc,hw,hn0,hsp,tu,ho]
        ·exact⟨_,base e8 e9 e10 e11 e12 e13 e14 (beq_eq_false_iff_ne.mpr w15),tA⟩
theorem zlR {v4 v19 v20 v21 v22:Int}(b4:0<=v4)(b20:0<=v20/\v20 < (N60:Int)-1)(b21:0<=v21/\v21 < (N60:Int)-1)(b22:0<=v22):∃ d,zcI [.lst [.int v19,.int v20,.int v21],.int v4,.int v22]=.ok d /\
  ((∃ p,d=fr p/\Low p/\0<=p.1)∨(∃ p,d=fr p/\Low p/\p.1 < 0)∨(zaq [d]=.exn ⟨"NoPurse",[]⟩/\zaP [d]=.ok (.bl false))):=by
 obtain⟨p,hp,fp,lp⟩:=zgP (w:=v19) (a:=v20) (b:=v21) (l:=0) b20 b21 (by decide)
 by_cases c:v4 < 14
 ·obtain⟨i,rfl⟩:=Int.eq_ofNat_of_zero_le b4
  have hi:i < 14:=by omega
  have hL:Low (-1-v22,1):=⟨by show(1:Int)<=1;decide,by show Int.gcd (-1-v22) 1=1;exact Int.gcd_one_right ..⟩
  have hL1:Low (-1,1):=⟨by decide,by decide⟩
  have hall:∀ d,([D.non,.bl true,.int 0,.int 1,.str "0",.tup [.int (-1),.int 1],.tup [.int 2,.int 2],.tup [.int 1,.int 0],.tup [.int 0,.int 2],.lst [.int 0,.int 1],.tup [.bl true,.int 1],.tup [.int (-1-v22),.int 1],.tup [.int 1,.int (-1)],.tup []]:List D)[i]?=some d->((∃ p,d=fr p/\Low p/\0<=p.1)∨(∃ p,d=fr p/\Low p/\p.1 < 0)∨(zaq [d]=.exn ⟨"NoPurse",[]⟩/\zaP [d]=.ok (.bl false))):=fun d hd=>by
   have hd:=List.mem_of_getElem? hd
   simp only[List.mem_cons,List.not_mem_nil,or_false] at hd
   rcases hd with rfl | rfl | rfl | rfl | rfl | rfl | rfl | rfl | rfl | rfl | rfl | rfl | rfl | rfl
   ·exact .inr (.inr ⟨rfl,rfl⟩)
   ·exact .inr (.inr ⟨rfl,rfl⟩)
   ·exact .inr (.inr ⟨rfl,rfl⟩)
   ·exact .inr (.inr ⟨rfl,rfl⟩)
   ·exact .inr (.inr ⟨rfl,rfl⟩)
   ·exact .inr (.inl ⟨(-1,1),rfl,hL1,by decide⟩)
   ·exact .inr (.inr ⟨rfl,rfl⟩)
   ·exact .inr (.inr ⟨rfl,rfl⟩)
   ·exact .inr (.inr ⟨rfl,rfl⟩)
   ·exact .inr (.inr ⟨rfl,rfl⟩)
   ·exact .inr (.inr ⟨rfl,rfl⟩)
   ·exact .inr (.inl ⟨(-1-v22,1),rfl,hL,by show -1-v22 < 0;omega⟩)
   ·exact .inr (.inr ⟨rfl,rfl⟩)
   ·exact .inr (.inr ⟨rfl,rfl⟩)
  have hg:∃ d,([D.non,.bl true,.int 0,.int 1,.str "0",.tup [.int (-1),.int 1],.tup [.int 2,.int 2],.tup [.int 1,.int 0],.tup [.int 0,.int 2],.lst [.int 0,.int 1],.tup [.bl true,.int 1],.tup [.int (-1-v22),.int 1],.tup [.int 1,.int (-1)],.tup []]:List D)[i]?=some d:=⟨_,List.getElem?_eq_getElem hi⟩
  obtain⟨d,hd⟩:=hg
  have hix:=ze1 hd
  refine⟨d,?_,hall d hd⟩
  open_line with[zcI,zc1,zhg,decide_eq_true c,hix]
 ·refine⟨fr p,?_,.inl ⟨p,rfl,fp.toLow,lp⟩⟩
  open_line with[zcI,zc1,zhg,decide_eq_false c,znB,hp]
def zmJ:Ev->Res Fl:=(zan (zbc 11 (zal (zad (zgS (zaf 6) (zbh (dC (.int 19))) (zbh (dC (.int 22)))) (zad (zab (zaf 6) (dC (.int 4)) dIx) (zad (zab (zaf 6) (dC (.int 22)) dIx) zar))) zcI))
 (zan (zbc 10 (zab (zal (zad (dC (.str "purse")) (zad (dC (.str "none")) zar)) zdm) (zal (zad (zhC (zal (zad (zaf 11) zar) zaP) (zab (zab (zaf 11) (dC (.int 0)) dIx) (dC (.int 0)) dGe)) zar) (m1 zcY)) dIx))
 (zan (sIf (zab (zal (zad (zaf 1) (zad (zaf 11) (zad (dC (.bl false)) zar))) zaJ) (zaf 10) dNe)
 (zan (zcy (dC (.bl false)))
 zaj)
 zaj)
 zaj)))
def zfw:Ev->Res Fl:=(zan (zbc 5 (zal (zad (dC (.int 8)) (zad (zab (zab (dC (.int 10)) (dC (.int 60)) zjN) (dC (.int 1)) zhg) (zad (zab (zab (dC (.int 10)) (dC (.int 60)) zjN) (dC (.int 1)) zhg) zar))) zdm))
 (zan (zbc 6 (zal (zad (zaf 4) (zad (zab (zab (zab (zal (zad (dC (.int 16)) (zad (dC (.int 14)) (zad (dC (.int 8)) (zad (dC (.int 4)) (zad (dC (.int 28)) zar))))) zdm) (zq2 (zal (zad (dC (.int 2)) zar) zdm) (dC (.int 14))) zbe) (zaf 5) zbe) (zal (zad (zab (zab (dC (.int 10)) (dC (.int 60)) zjN) (dC (.int 1)) zhg) zar) zdm) zbe) zar)) zaI))
 (zan (zbc 7 (zfL 1 [3,6] (zlJ (zal (zad (zaf 3) zar) (m1 zey))) (zdW 0) (zab (zab (zaf 2) (zab (dC (.int 5)) (zaf 0) zbe) dIx) (dC (.int 1)) dEq) (zab (zaf 1) (zaf 0) dIx)))
 (zan (sIf (zab (zab (zaf 6) (dC (.int 3)) dIx) (dC (.int 0)) dEq)
 (zan (zbc 7 (zgS (zaf 7) zeN (zbh (dC (.int 3)))))
 zaj)
 zaj)
 (zan (zbc 8 (zal (zad (zaf 1) (zad (zaf 7) (zad (zab (zgS (zaf 6) zeN (zbh (dC (.int 3)))) (zgS (zaf 6) (zbh (dC (.int 22))) (zbh (dC (.int 23)))) zbe) zar))) zau))
 (zan (zbc 9 (zaf 8))
 (zan (sIf (zbi (zaf 8) (zcq "list"))
 (zan (zbc 9 (zal (zad (zaf 8) zar) (m1 zkq)))
 zaj)
 zaj)
 (zan (zbc 10 (zab (zal (zad (dC (.str "taking")) (zad (dC (.str "none")) zar)) zdm) (zal (zad (zal (zad (zaf 1) (zad (zaf 8) zar)) zaR) zar) (m1 zcY)) dIx))
 (zan (sIf (dOr (zab (zal (zad (zaf 1) (zad (zaf 9) (zad (dC (.bl true)) zar))) zaJ) (zaf 10) dNe) (dOr (zab (zaf 9) (zaf 8) zpv) (zab (zaf 1) (zaf 2) dNe)))
 (zan (zcy (dC (.bl false)))
 zaj)
 zaj)
 zmJ)))))))))
theorem zj1 {w:Web}:zba 40 (zcc w)=true:=by
 have h1:zba 39 (.lst (w.ps.map D.str))=true:=ziJ
 have h2:zba 39 (.lst (w.ts.map zf1))=true:=List.all_eq_true.mpr fun d hd=>by
  obtain⟨t,_,rfl⟩:=List.mem_map.mp hd
  exact zpQ
 show(zba 39 (.lst (w.ps.map D.str))&&(zba 39 (.lst (w.ts.map zf1))&&(zba 39 (.str w.fi)&&(zba 39 (.str w.la)&&true))))=true
 rw[h1,h2];rfl
theorem zmI {w:Web}:dNe (zcc w) (zcc w)=.ok (.bl false):=by
 unfold dNe
 rw[if_pos ⟨zj1,zj1⟩,zeR 40 _ zj1];rfl
def fre (w:Web):List Nat:=(List.range w.ts.length).filter (isW w)
theorem zgN {x:Str}:dNe (.str x) (.str x)=.ok (.bl false):=by unfold dNe;rw[if_pos ⟨rfl,rfl⟩,eqD];simp
theorem zlH {w:Web}(W:zkI w){d:D}(h:Th d):∃ z:Str,∃ b:Bool,zaR [zcc w,d]=.ok (.bl b)/\z=(if b then "none" else "taking")/\zaJ [zcc w,d,.bl true]=.ok (.str z)/\zpv d d=.ok (.bl false):=by
 have mt:(("NoTaking" : Str),("taking" : Str))∈zjx:=List.mem_cons_self
 rcases h with⟨ds,rfl,hp,hl⟩ | ⟨h1,h2⟩
 ·have hs:zba 40 (.lst ds)=true:=List.all_eq_true.mpr fun x hx=>hp.s x hx
  have hn:zpv (.lst ds) (.lst ds)=.ok (.bl false):=by
   show dNe (.lst ds) (.lst ds)=_
   unfold dNe;rw[if_pos ⟨hs,hs⟩,zeR 40 _ hs];rfl
  have hi:=zoJ (w:=w) (by omega) hp.p
  cases e:Wex.takB w (-1) ds with
  | true=>exact⟨"none",true,by rw[hi,e],rfl,zph.1 (Wex.tak_yes W hp.p e),hn⟩
  | false=>exact⟨"taking",false,by rw[hi,e],rfl,zph.2 _ _ (Wex.tak_all W hp.p e) mt,hn⟩
 ·exact⟨"taking",false,zk9 h1,rfl,zph.2 _ _ (Wex.tak_none W h1) mt,h2⟩
theorem zod {p:Fra}(h:Low p)(h0:p.1 < 0):zaq [fr p]=.exn ⟨"NoPurse",[]⟩:=by
 have h1:=zf7 h
 rw[show fr p=.tup [.int p.1,.int p.2] from rfl] at h1 ⊢
 open_line with[Wex.zaq,Wex.za3,h1,decide_eq_true h0,zhc,zgb,zex]
theorem ztN {w:Web}(W:zkI w){S:D}{c:Int}{x5 x6 x7 x8 x9 x10 x11:Sl}:∃ y5 y6 y7 y8 y9 y10 y11,zfw [.sh S,.sh (zcc w),.sh (zcc w),.sh (.lst ((fre w).map nI)),.sh (.int c),x5,x6,x7,x8,x9,x10,x11]=.ok (.nx [.sh S,.sh (zcc w),.sh (zcc w),.sh (.lst ((fre w).map nI)),.sh (.int c),y5,y6,y7,y8,y9,y10,y11]):=by
 have h14:=W.t14
 have hfl:(fre w).length<=14:=by unfold fre;exact Nat.le_trans (List.length_filter_le _ _) (by simpa using h14)
 obtain⟨vs,hd,V⟩:=zin c [16,14,8,4,28,2,2,2,2,2,2,2,2,2,2,2,2,2,2,8,(N60:Int)-1,(N60:Int)-1,(N60:Int)-1] (by decide) (by decide)
 have hlv:vs.length=23:=by have:=V.len;simpa using this
 obtain⟨v0,g0,b0,j0⟩:=V.ix 0 0 rfl rfl
 obtain⟨v1,g1,b1,j1⟩:=V.ix 1 1 rfl rfl
 obtain⟨v2,g2,b2,j2⟩:=V.ix 2 2 rfl rfl
 obtain⟨v3,g3,b3,j3⟩:=V.ix 3 3 rfl rfl
 obtain⟨v4,g4,b4,j4⟩:=V.ix 4 4 rfl rfl
 obtain⟨v19,g19,b19,j19⟩:=V.ix 19 19 rfl rfl
 obtain⟨v20,g20,b20,j20⟩:=V.ix 20 20 rfl rfl
 obtain⟨v21,g21,b21,j21⟩:=V.ix 21 21 rfl rfl
 obtain⟨v22,g22,b22,j22⟩:=V.ix 22 22 rfl rfl
 have hc:∀ A:Ev,A[3]?=some (.sh (.lst ((fre w).map nI)))->A[6]?=some (.sh (.lst (vs.map D.int)))->zjv 1 [3,6] (zdW 0) (zab (zab (zaf 2) (zab (dC (.int 5)) (zaf 0) zbe) dIx) (dC (.int 1)) dEq) (zab (zaf 1) (zaf 0) dIx) A (DL.intsFrom 0 (fre w).length)=.ok (zcV (((List.range (fre w).length).filter (fun k=>vs.getD (5+k) 0==1)).map fun k=>(fre w).getD k 0)):=fun A h3 h6=>by
  have hnum:zcV (((List.range (fre w).length).filter (fun k=>vs.getD (5+k) 0==1)).map fun k=>(fre w).getD k 0)=.lst (((List.range (fre w).length).filter (fun k=>vs.getD (5+k) 0==1)).map fun k=>nI ((fre w).getD k 0)):=by
   unfold zcV;rw[List.map_map];rfl
  rw[hnum]
  refine Wex.comp_rng (by omega) fun k hk=>?_
  have hb:zdW 0 (zcZ 1 [3,6] A) (.int (k:Int))=.ok [.sh (.int (k:Int)),.sh (.lst ((fre w).map nI)),.sh (.lst (vs.map D.int))]:=by
   unfold zcZ
   simp only[List.map_cons,List.map_nil,h3,h6]
   rfl
  refine⟨_,hb,?_,fun _=>?_⟩
  ·have hk5:5+k < vs.length:=by omega
   have hix:dIx (.lst (vs.map D.int)) (.int (5+(k:Int)))=.ok (.int (vs.getD (5+k) 0)):=by
    rw[show(5+(k:Int))=((5+k:Nat):Int) by omega]
    refine ze1 ?_
    rw[List.getElem?_map,List.getElem?_eq_getElem hk5,List.getD_eq_getElem?_getD,List.getElem?_eq_getElem hk5]
    rfl
   generalize D.lst (vs.map D.int)=Q at hix ⊢
   open_line with[hix]
  ·have hix:dIx (.lst ((fre w).map nI)) (.int (k:Int))=.ok (nI ((fre w).getD k 0)):=ze1 (by
    rw[List.getElem?_map,List.getElem?_eq_getElem hk,List.getD_eq_getElem?_getD,List.getElem?_eq_getElem hk];rfl)
   open_line with[hix]
 have hlen:(((List.range (fre w).length).filter (fun k=>vs.getD (5+k) 0==1)).map fun k=>(fre w).getD k 0).length<=14:=by
  rw[List.length_map];exact Nat.le_trans (List.length_filter_le _ _) (by simpa using hfl)
 have cA:zcA (vs.map D.int) none (some 3)=[.int v0,.int v1,.int v2]:=by
  rw[show(some (3:Int))=some ((3:Nat):Int) from rfl,zri (by omega)]
  have:=zsU (i:=0) g0 g1 g2
  rw[List.drop_zero] at this
  rw[this];rfl
 have cB:zcA (vs.map D.int) (some 22) (some 23)=[.int v22]:=by
  rw[zm1 (vs:=vs) (x:=22) (y:=23) (a:=22) (b:=23) rfl rfl (by omega) (by omega)]
  have:(vs.drop 22).take (23-22)=[v22]:=by
   rw[List.drop_eq_getElem_cons (by omega)]
   rw[List.getElem?_eq_getElem (by omega)] at g22
   simp [Option.some.inj g22]
  rw[this];rfl
 have cC:zcA (vs.map D.int) (some 19) (some 22)=[.int v19,.int v20,.int v21]:=zvE (i:=19) rfl rfl g19 g20 g21
 have hsrc:=Wex.srcR1_nat (k:=(fre w).length) (by omega)
 have hd':zaI [.int c,.lst [.int 16,.int 14,.int 8,.int 4,.int 28,.int 2,.int 2,.int 2,.int 2,.int 2,.int 2,.int 2,.int 2,.int 2,.int 2,.int 2,.int 2,.int 2,.int 2,.int 8,.int ((N60:Int)-1),.int ((N60:Int)-1),.int ((N60:Int)-1)]]=.ok (.lst (vs.map D.int)):=hd
 obtain⟨pd,hpd,hpc⟩:=zlR (v4:=v4) (v19:=v19) (v20:=v20) (v21:=v21) (v22:=v22) b4.1 b20 b21 b22.1
 have mp:(("NoPurse" : Str),("purse" : Str))∈zjx:=List.mem_cons_of_mem _ List.mem_cons_self
 have half:∀ (A7 A8 A9 A10 A11:Sl),∃ B10,zmJ [.sh S,.sh (zcc w),.sh (zcc w),.sh (.lst ((fre w).map nI)),.sh (.int c),.sh (.lst [.int 8,.int ((N60:Int)-1),.int ((N60:Int)-1)]),.sh (.lst (vs.map D.int)),A7,A8,A9,A10,A11]=.ok (.nx [.sh S,.sh (zcc w),.sh (zcc w),.sh (.lst ((fre w).map nI)),.sh (.int c),.sh (.lst [.int 8,.int ((N60:Int)-1),.int ((N60:Int)-1)]),.sh (.lst (vs.map D.int)),A7,A8,A9,B10,.sh pd]):=fun A7 A8 A9 A10 A11=>by
  have t1:zcY (.bl true)=.ok (.int 1):=rfl
  have t0:zcY (.bl false)=.ok (.int 0):=rfl
  unfold zmJ
  rcases hpc with⟨p,rfl,hL,h0⟩ | ⟨p,rfl,hL,h0⟩ | ⟨hn,hr⟩
  ·have f1:dIx (fr p) (.int 0)=.ok (.int p.1):=rfl
   have hra:=ziW hL
   have hcl:=(zpi (W:=zcc w)).1 (Wex.purseX hL h0)
   refine⟨.sh (.str "none"),?_⟩
   generalize vs.map D.int=Q at *
   open_line with[cC,j4,j22,hpd,zgc,hra,f1,decide_eq_true (show p.1≥0 by omega),t1,hcl,zgN]
  ·have f1:dIx (fr p) (.int 0)=.ok (.int p.1):=rfl
   have hra:=ziW hL
   have hcl:=(zpi (W:=zcc w)).2 _ _ (zod hL h0) mp
   refine⟨.sh (.str "purse"),?_⟩
   generalize vs.map D.int=Q at *
   open_line with[cC,j4,j22,hpd,zgc,hra,f1,decide_eq_false (show ¬ p.1≥0 by omega),t0,hcl,zgN]
  ·have hcl:=(zpi (W:=zcc w)).2 _ _ hn mp
   rw[zgc] at hr
   refine⟨.sh (.str "purse"),?_⟩
   generalize vs.map D.int=Q at *
   open_line with[cC,j4,j22,hpd,zgc,hr,t0,hcl,zgN]
 have tk0:zcY (.bl true)=.ok (.int 1):=rfl
 have tk1:zcY (.bl false)=.ok (.int 0):=rfl
 have qd:zbe (.lst [.int v0,.int v1,.int v2]) (.lst [.int v22])=.ok (.lst [.int v0,.int v1,.int v2,.int v22]):=rfl
 generalize hks:((List.range (fre w).length).filter (fun k=>vs.getD (5+k) 0==1)).map (fun k=>(fre w).getD k 0)=ks at *
 have hcut3:zqZ (zcV ks) none (some 3)=.ok (zcV (ks.take (min 3 ks.length))):=by
  show Res.ok (D.lst (zcA (ks.map fun(k:Nat)=>D.int (k:Int)) none (some 3)))=_
  rw[show(some (3:Int))=some ((3:Nat):Int) from rfl,zks,HT.sIx_none,HT.sIx_nat,List.drop_zero,Nat.sub_zero]
  rfl
 have hc':=hc [.sh S,.sh (zcc w),.sh (zcc w),.sh (.lst ((fre w).map nI)),.sh (.int c),.sh (.lst [.int 8,.int ((N60:Int)-1),.int ((N60:Int)-1)]),.sh (.lst (vs.map D.int)),x7,x8,x9,x10,x11] rfl rfl
 have fin:∀ ks',ks'.length<=14->∃ d,zau [zcc w,zcV ks',.lst [.int v0,.int v1,.int v2,.int v22]]=.ok d/\∃ z:Str,∃ b bl:Bool,zcq "list" d=.ok (.bl bl)/\(bl=true->zkq d=.ok d)/\zaR [zcc w,d]=.ok (.bl b)/\dIx (.lst [.str "taking",.str "none"]) (.int (if b then 1 else 0))=.ok (.str z)/\zcY (.bl b)=.ok (.int (if b then 1 else 0))/\zaJ [zcc w,d,.bl true]=.ok (.str z)/\zpv d d=.ok (.bl false):=fun ks' hk'=>by
  obtain⟨d,h1,h2⟩:=zrI (v0:=v0) (v1:=v1) (v2:=v2) (v3:=v22) W hk' b2
  obtain⟨z,b,h3,h4,h5,h6⟩:=zlH W h2
  have hb:∃ bl:Bool,zcq "list" d=.ok (.bl bl)/\(bl=true->zkq d=.ok d):=by
   rcases h2 with⟨ds,rfl,_⟩ | ⟨h,_⟩
   ·exact⟨true,rfl,fun _=>rfl⟩
   ·exact⟨false,h,fun z=>by cases z⟩
  obtain⟨bl,hb1,hb2⟩:=hb
  refine⟨d,h1,z,b,bl,hb1,hb2,h3,?_,?_,h5,h6⟩
  ·cases b<;>(subst h4;rfl)
  ·cases b<;>rfl
 cases e3:(v3==0) with
 | true =>
  obtain⟨d,s1,z,b,bl,s2,s3,s4,s5,s6,s7,s8⟩:=fin (ks.take (min 3 ks.length)) (by rw[List.length_take];omega)
  generalize (if b then(1:Int) else 0)=bi at *
  cases bl with
  | true =>
   have s9:=s3 rfl
   obtain⟨B10,hh⟩:=half (.sh (zcV (ks.take (min 3 ks.length)))) (.sh d) (.sh d) (.sh (.str z)) x11
   refine⟨.sh (.lst [.int 8,.int ((N60:Int)-1),.int ((N60:Int)-1)]),.sh (.lst (vs.map D.int)),.sh (zcV (ks.take (min 3 ks.length))),.sh d,.sh d,B10,.sh pd,?_⟩
   unfold zfw
   generalize zcV (ks.take (min 3 ks.length))=K3 at *
   generalize zcV ks=K at *
   generalize vs.map D.int=Q at *
   open_line with[zhg,hd',List.length_map,Wex.ev_srcR1,hsrc,hc',j3,e3,hcut3,cA,cB,qd,s1,s2,s9,s4,s6,s5,s7,zgN,s8,zmI,hh]
  | false =>
   obtain⟨B10,hh⟩:=half (.sh (zcV (ks.take (min 3 ks.length)))) (.sh d) (.sh d) (.sh (.str z)) x11
   refine⟨.sh (.lst [.int 8,.int ((N60:Int)-1),.int ((N60:Int)-1)]),.sh (.lst (vs.map D.int)),.sh (zcV (ks.take (min 3 ks.length))),.sh d,.sh d,B10,.sh pd,?_⟩
   unfold zfw
   generalize zcV (ks.take (min 3 ks.length))=K3 at *
   generalize zcV ks=K at *
   generalize vs.map D.int=Q at *
   open_line with[zhg,hd',List.length_map,Wex.ev_srcR1,hsrc,hc',j3,e3,hcut3,cA,cB,qd,s1,s2,s4,s6,s5,s7,zgN,s8,zmI,hh]
 | false =>
  obtain⟨d,s1,z,b,bl,s2,s3,s4,s5,s6,s7,s8⟩:=fin ks hlen
  generalize (if b then(1:Int) else 0)=bi at *
  cases bl with
  | true =>
   have s9:=s3 rfl
   obtain⟨B10,hh⟩:=half (.sh (zcV ks)) (.sh d) (.sh d) (.sh (.str z)) x11
   refine⟨.sh (.lst [.int 8,.int ((N60:Int)-1),.int ((N60:Int)-1)]),.sh (.lst (vs.map D.int)),.sh (zcV ks),.sh d,.sh d,B10,.sh pd,?_⟩
   unfold zfw
   generalize zcV ks=K at *
   generalize vs.map D.int=Q at *
   open_line with[zhg,hd',List.length_map,Wex.ev_srcR1,hsrc,hc',j3,e3,cA,cB,qd,s1,s2,s9,s4,s6,s5,s7,zgN,s8,zmI,hh]
  | false =>
   obtain⟨B10,hh⟩:=half (.sh (zcV ks)) (.sh d) (.sh d) (.sh (.str z)) x11
   refine⟨.sh (.lst [.int 8,.int ((N60:Int)-1),.int ((N60:Int)-1)]),.sh (.lst (vs.map D.int)),.sh (zcV ks),.sh d,.sh d,B10,.sh pd,?_⟩
   unfold zfw
   generalize zcV ks=K at *
   generalize vs.map D.int=Q at *
   open_line with[zhg,hd',List.length_map,Wex.ev_srcR1,hsrc,hc',j3,e3,cA,cB,qd,s1,s2,s4,s6,s5,s7,zgN,s8,zmI,hh]
theorem zqc (ns:List Int)(hn:ns.length<=63):zoD [.lst (ns.map D.int)]=.ok (.bl true):=by
 obtain⟨w,hw,W⟩:=znS (ns:=ns) (by omega) (at_:=0) (by decide) (by decide)
 have h14:=W.t14
 have hsrc:∃ es:List Int,∀ x1 x2 x3 x4 x5 x6 x7 x8 x9 x10 x11:Sl,(zab (zgS (zaf 0) (zbh (dC (.int 15))) (zbh (dC (.int 63)))) (zal (zad (dC (.int 15)) zar) zdm) zbe) [.sh (.lst (ns.map D.int)),x1,x2,x3,x4,x5,x6,x7,x8,x9,x10,x11]=.ok (.lst (es.map D.int)):=by
  have hl:∀ xs:List D,xs.length<=63->decide (xs.length+([D.int 15]:List D).length<=1000)=true:=fun xs h=>decide_eq_true (by simp;omega)
  refine⟨(ns.drop (HT.sIx (ns.map D.int).length 0 (some 15))).take (HT.sIx (ns.map D.int).length (ns.map D.int).length (some 63)-HT.sIx (ns.map D.int).length 0 (some 15))++[15],fun x1 x2 x3 x4 x5 x6 x7 x8 x9 x10 x11=>?_⟩
  have e:zcA (ns.map D.int) (some 15) (some 63)=((ns.drop (HT.sIx (ns.map D.int).length 0 (some 15))).take (HT.sIx (ns.map D.int).length (ns.map D.int).length (some 63)-HT.sIx (ns.map D.int).length 0 (some 15))).map D.int:=by
   unfold zcA;rw[List.map_take,List.map_drop]
  open_line with[e]
  rw[ev_addL (hl _ (by rw[List.length_map];exact Nat.le_trans (List.length_take_le' ..) (by rw[List.length_drop];omega))),List.map_append]
  rfl
 obtain⟨es,hes⟩:=hsrc
 obtain⟨ρ',hl,_⟩:=zoU (tg:=zdW 4) (body:=zfw) (fun ρ=>∃ x4 x5 x6 x7 x8 x9 x10 x11,ρ=[.sh (.lst (ns.map D.int)),.sh (zcc w),.sh (zcc w),.sh (.lst ((fre w).map nI)),x4,x5,x6,x7,x8,x9,x10,x11]) (ds:=es.map D.int) (fun d hd ρ ⟨x4,x5,x6,x7,x8,x9,x10,x11,hρ⟩=>by
  subst hρ
  obtain⟨c,_,rfl⟩:=List.mem_map.mp hd
  obtain⟨y5,y6,y7,y8,y9,y10,y11,h⟩:=ztN W (S:=.lst (ns.map D.int)) (c:=c) (x5:=x5) (x6:=x6) (x7:=x7) (x8:=x8) (x9:=x9) (x10:=x10) (x11:=x11)
  exact⟨_,_,rfl,h,_,_,_,_,_,_,_,_,rfl⟩) [.sh (.lst (ns.map D.int)),.sh (zcc w),.sh (zcc w),.sh (.lst ((fre w).map nI)),.no,.no,.no,.no,.no,.no,.no,.no] ⟨_,_,_,_,_,_,_,_,rfl⟩
 have hf:=(zt3 (tg:=zdW 4) (s:=zfw) (hes (.sh (zcc w)) (.sh (zcc w)) (.sh (.lst ((fre w).map nI))) .no .no .no .no .no .no .no .no)).trans hl
 unfold zfw zmJ at hf
 have hcf:zjv 1 [1] (zdW 0) (zab (zab (zab (zab (zaf 1) (dC (.int 1)) dIx) (zaf 0) dIx) (dC (.int 4)) dIx) (dC (.non)) zh9) (zaf 0) [.sh (.lst (ns.map D.int)),.sh (zcc w),.sh (zcc w),.no,.no,.no,.no,.no,.no,.no,.no,.no] (DL.intsFrom 0 w.ts.length)=.ok (.lst ((fre w).map nI)) :=
  Wex.comp_rng (by omega) fun k hk=>by
   obtain⟨t,_,hW,hix⟩:=Wex.isW_at hk
   refine⟨[.sh (.int (k:Int)),.sh (zcc w)],rfl,?_,fun _=>rfl⟩
   rw[show zcc w=.tup [.lst (w.ps.map D.str),.lst (w.ts.map zf1),.str w.fi,.str w.la] from rfl,hW]
   cases ho:t.o with
   | none=>rw[ho] at hix;open_line with[hix,zcT];rfl
   | some v=>rw[ho] at hix;open_line with[hix,zcT,fr,znL];rfl
 have hsr:=Wex.srcR1_nat (k:=w.ts.length) (by omega)
 have i0:dIx (zcc w) (.int 0)=.ok (.lst (w.ps.map D.str)):=rfl
 have i1:dIx (zcc w) (.int 1)=.ok (.lst (w.ts.map zf1)):=rfl
 have i2:dIx (zcc w) (.int 2)=.ok (.str w.fi):=rfl
 have i3:dIx (zcc w) (.int 3)=.ok (.str w.la):=rfl
 have hco:D.tup [.lst (w.ps.map D.str),.lst (w.ts.map zf1),.str w.fi,.str w.la]=zcc w:=rfl
 open_line with[zoD,zsD,zvw,hw,i0,i1,i2,i3,hco,List.length_map,Wex.ev_srcR1,hsr,hcf]
 open_line with[] seeing hf
 rw[hf]
 open_line with[]
end K07
namespace K07
open PySem L2 DL
def top (i:Nat):Stmt:=PySem.Challenge.pw_farthestcut_k07_purses_and_takings.main.body.getD i (.Pass ⟨0,0,0,0⟩)
abbrev zb7:Stmt:=top 39
abbrev zcE:Stmt:=top 40
abbrev zcD:Stmt:=top 45
abbrev zb6:Stmt:=top 42
abbrev zcm:Stmt:=top 43
abbrev zbO:Stmt:=top 46
abbrev zdv:Stmt:=top 47
abbrev zdu:Stmt:=top 48
abbrev zb5:Stmt:=top 49
abbrev zcB:Stmt:=top 41
abbrev zbv:Stmt:=top 50
abbrev zer:Stmt:=top 12
abbrev zbt:Stmt:=top 32
abbrev zdr:Stmt:=top 10
abbrev zbu:Stmt:=top 6
abbrev zds:Stmt:=top 11
abbrev zcN:Stmt:=top 28
abbrev zdq:Stmt:=top 29
abbrev zf6:Stmt:=top 27
abbrev zb4:Stmt:=top 33
abbrev zdt:Stmt:=top 34
abbrev zcl:Stmt:=top 31
abbrev zbM:Stmt:=top 30
abbrev zbs:Stmt:=top 37
abbrev zbL:Stmt:=top 36
abbrev zcF:Stmt:=top 51
abbrev zcC:Stmt:=top 52
abbrev zbN:Stmt:=top 44
abbrev zhZ:Stmt:=top 53
theorem ziK:zaM ["_law_script","_law_k"] ["_law_script","_law_k"] (defScope zb7):=⟨rfl,rfl,rfl,by decide +kernel,rfl,by decide +kernel,by decide +kernel⟩
theorem zbA:zaM ["_law_cell","_law_sizes","_law_number","_law_left","_law_found","_law_k","_law_one"] ["_law_cell","_law_sizes"] (defScope zcE):=⟨rfl,rfl,rfl,by decide +kernel,rfl,by decide +kernel,by decide +kernel⟩
theorem za1:zaM ["_law_cell","_law_many","_law_letters","_law_digits","_law_by","_law_base","_law_found","_law_k","_law_size","_law_at","_law_sign"] ["_law_cell","_law_many"] (defScope zcD):=⟨rfl,rfl,rfl,by decide +kernel,rfl,by decide +kernel,by decide +kernel⟩
theorem zfn:zaM ["_law_one","_law_other"] ["_law_one","_law_other"] (defScope zb6):=⟨rfl,rfl,rfl,by decide +kernel,rfl,by decide +kernel,by decide +kernel⟩
theorem zgm:zaM ["_law_top","_law_bottom","_law_share"] ["_law_top","_law_bottom"] (defScope zcm):=⟨rfl,rfl,rfl,by decide +kernel,rfl,by decide +kernel,by decide +kernel⟩
theorem zcx:zaM ["_law_digits","_law_least","_law_way","_law_above","_law_below"] ["_law_digits","_law_least"] (defScope zbO):=⟨rfl,rfl,rfl,by decide +kernel,rfl,by decide +kernel,by decide +kernel⟩
theorem zcd:zaM ["_law_places","_law_cell","_law_bound","_law_big","_law_digits","_law_worth","_law_one","_law_other","_law_word"] ["_law_places","_law_cell","_law_bound"] (defScope zdv):=⟨rfl,rfl,rfl,by decide +kernel,rfl,by decide +kernel,by decide +kernel⟩
theorem zbW:zaM ["_law_script","_law_at","_law_first","_law_digits","_law_places","_law_ties","_law_k","_law_bound","_law_begin","_law_end"] ["_law_script","_law_at"] (defScope zdu):=⟨rfl,rfl,rfl,by decide +kernel,rfl,by decide +kernel,by decide +kernel⟩
theorem zaV:zaM ["_law_web_here","_law_some","_law_digits","_law_way","_law_at","_law_kind","_law_number","_law_watched","_law_spot","_law_odd","_law_one","_law_two"] ["_law_web_here","_law_some","_law_digits"] (defScope zb5):=⟨rfl,rfl,rfl,by decide +kernel,rfl,by decide +kernel,by decide +kernel⟩
theorem zj2:zaM ["_law_thing"] ["_law_thing"] (defScope zcB):=⟨rfl,rfl,rfl,by decide +kernel,rfl,by decide +kernel,by decide +kernel⟩
theorem zeq:zaM ["_law_web_here","_law_thing","_law_k"] ["_law_web_here","_law_thing"] (defScope zbv):=⟨rfl,rfl,rfl,by decide +kernel,rfl,by decide +kernel,by decide +kernel⟩
theorem zne:zaM ["thing"] ["thing"] (defScope zer):=⟨rfl,rfl,rfl,by decide +kernel,rfl,by decide +kernel,by decide +kernel⟩
theorem zcM:zaM ["places","number","place"] ["places"] (defScope zbt):=⟨rfl,rfl,rfl,by decide +kernel,rfl,by decide +kernel,by decide +kernel⟩
theorem zlM:zaM ["thing"] ["thing"] (defScope zdr):=⟨rfl,rfl,rfl,by decide +kernel,rfl,by decide +kernel,by decide +kernel⟩
theorem zbg:zaM ["one","other","larger","smaller","rest"] ["one","other"] (defScope zbu):=⟨rfl,rfl,rfl,by decide +kernel,rfl,by decide +kernel,by decide +kernel⟩
theorem zlN:zaM ["thing"] ["thing"] (defScope zds):=⟨rfl,rfl,rfl,by decide +kernel,rfl,by decide +kernel,by decide +kernel⟩
theorem zkR:zaM ["thing"] ["thing"] (defScope zcN):=⟨rfl,rfl,rfl,by decide +kernel,rfl,by decide +kernel,by decide +kernel⟩
theorem zlL:zaM ["thing"] ["thing"] (defScope zdq):=⟨rfl,rfl,rfl,by decide +kernel,rfl,by decide +kernel,by decide +kernel⟩
theorem zn7:zaM ["thing"] ["thing"] (defScope zf6):=⟨rfl,rfl,rfl,by decide +kernel,rfl,by decide +kernel,by decide +kernel⟩
theorem zdB:zaM ["ties","places","number","tie"] ["ties","places"] (defScope zb4):=⟨rfl,rfl,rfl,by decide +kernel,rfl,by decide +kernel,by decide +kernel⟩
theorem zlO:zaM ["thing","places"] ["thing","places"] (defScope zdt):=⟨rfl,rfl,rfl,by decide +kernel,rfl,by decide +kernel,by decide +kernel⟩
theorem zjq:zaM ["thing"] ["thing"] (defScope zcl):=⟨rfl,rfl,rfl,by decide +kernel,rfl,by decide +kernel,by decide +kernel⟩
theorem zhX:zaM ["web","thing"] ["web","thing"] (defScope zbM):=⟨rfl,rfl,rfl,by decide +kernel,rfl,by decide +kernel,by decide +kernel⟩
theorem zck:zaM ["web","thing","ahead","number"] ["web","thing"] (defScope zbs):=⟨rfl,rfl,rfl,by decide +kernel,rfl,by decide +kernel,by decide +kernel⟩
theorem zhW:zaM ["thing"] ["thing"] (defScope zbL):=⟨rfl,rfl,rfl,by decide +kernel,rfl,by decide +kernel,by decide +kernel⟩
theorem za5:zaM ["_law_web_here","_law_thing","_law_of_web","_law_told","_law_found","e","_law_some"] ["_law_web_here","_law_thing","_law_of_web"] (defScope zcF):=⟨rfl,rfl,rfl,by decide +kernel,rfl,by decide +kernel,by decide +kernel⟩
theorem zeK:zaM ["_law_digits","_law_kind","_law_number","_law_some"] ["_law_digits","_law_kind","_law_number"] (defScope zcC):=⟨rfl,rfl,rfl,by decide +kernel,rfl,by decide +kernel,by decide +kernel⟩
theorem zhY:zaM ["_law_thing"] ["_law_thing"] (defScope zbN):=⟨rfl,rfl,rfl,by decide +kernel,rfl,by decide +kernel,by decide +kernel⟩
theorem zdC:zaM ["_law_script","_law_web_here","_law_copy","_law_free","_law_cell","_law_big","_law_digits","_law_some","_law_thing","_law_handed","_law_due","_law_purse_here"] ["_law_script"] (defScope zhZ):=⟨rfl,rfl,rfl,by decide +kernel,rfl,by decide +kernel,by decide +kernel⟩
abbrev zf5:Stmt:=zsk (top 4) 0
theorem zn6:zaM ["self","part","number"] ["self","part","number"] (defScope zf5):=⟨rfl,rfl,rfl,by decide +kernel,rfl,by decide +kernel,by decide +kernel⟩
structure Adr where
 zcS:Addr
 zkh:FuncData
 zaH:Addr
 zao:Addr
 zam:Addr
 zav:Addr
 zek:Addr
 zef:FuncData
 zfT:Addr
 zfI:FuncData
 zfS:Addr
 zfH:FuncData
 zej:Addr
 zee:FuncData
 zeZ:Addr
 zeV:FuncData
 zdU:Addr
 zdP:FuncData
 zhI:Addr
 zhB:FuncData
 zhH:Addr
 zhA:FuncData
 zei:Addr
 zed:FuncData
 zfQ:Addr
 zfF:FuncData
 zdi:Addr
 zde:FuncData
 zjl:Addr
 zi9:FuncData
 zdg:Addr
 zdc:FuncData
 zhE:Addr
 zhx:FuncData
 zdh:Addr
 zdd:FuncData
 zhF:Addr
 zhy:FuncData
 zgU:Addr
 zgR:FuncData
 zhD:Addr
 zhw:FuncData
 zkH:Addr
 zkp:FuncData
 zeh:Addr
 zec:FuncData
 zhG:Addr
 zhz:FuncData
 zeY:Addr
 zeU:FuncData
 zdS:Addr
 zdN:FuncData
 zdf:Addr
 zdb:FuncData
 zdR:Addr
 zdM:FuncData
 zfU:Addr
 zfJ:FuncData
 zfR:Addr
 zfG:FuncData
 zdT:Addr
 zdO:FuncData
 zmn:Addr
 znE:FuncData
structure Txt (K:W.Frag) (mg:Str->Option Value) (t:Adr):Prop where
 zem:Fun K "_law_cell_at" "_law_cell_at" zb7 t.zek t.zef
 zb9:zbZ K t.zef ["_law_script","_law_k"] []
 zgr:mg "_law_cell_at"=some (.ref t.zek)
 zc2:Fun K "_law_draws" "_law_draws" zcE t.zfT t.zfI
 zbV:zbZ K t.zfI ["_law_cell","_law_sizes"] []
 zd6:mg "_law_draws"=some (.ref t.zfT)
 zhT:Fun K "_law_names" "_law_names" zcD t.zfS t.zfH
 zd7:zbZ K t.zfH ["_law_cell","_law_many"] []
 zld:mg "_law_names"=some (.ref t.zfS)
 zel:Fun K "_law_divisor" "_law_divisor" zb6 t.zej t.zee
 zbH:zbZ K t.zee ["_law_one","_law_other"] []
 zgq:mg "_law_divisor"=some (.ref t.zej)
 ze0:Fun K "_law_lowest" "_law_lowest" zcm t.zeZ t.zeV
 zbY:zbZ K t.zeV ["_law_top","_law_bottom"] []
 zg9:mg "_law_lowest"=some (.ref t.zeZ)
 zcL:Fun K "_law_fraction" "_law_fraction" zbO t.zdU t.zdP
 za9:zbZ K t.zdP ["_law_digits","_law_least"] []
 zdG:mg "_law_fraction"=some (.ref t.zdU)
 zjT:Fun K "_law_tie" "_law_tie" zdv t.zhI t.zhB
 zeC:zbZ K t.zhB ["_law_places","_law_cell","_law_bound"] []
 znA:mg "_law_tie"=some (.ref t.zhI)
 zjS:Fun K "_law_web" "_law_web" zdu t.zhH t.zhA
 zgh:zbZ K t.zhA ["_law_script","_law_at"] []
 znz:mg "_law_web"=some (.ref t.zhH)
 zgw:Fun K "_law_spoiled" "_law_spoiled" zb5 t.zei t.zed
 zaC:zbZ K t.zed ["_law_web_here","_law_some","_law_digits"] []
 zjt:mg "_law_spoiled"=some (.ref t.zei)
 zd8:Fun K "_law_whole" "_law_whole" zcB t.zfQ t.zfF
 zc0:zbZ K t.zfF ["_law_thing"] []
 zfC:mg "_law_whole"=some (.ref t.zfQ)
 ze6:Fun K "_law_is_taking" "_law_is_taking" zbv t.zdi t.zde
 zbz:zbZ K t.zde ["_law_web_here","_law_thing"] []
 zh7:mg "_law_is_taking"=some (.ref t.zdi)
 zfY:Fun K "is_name" "is_name" zer t.zjl t.zi9
 zcw:zbZ K t.zi9 ["thing"] []
 zg8:mg "is_name"=some (.ref t.zjl)
 ze4:Fun K "look_at_places" "look_at_places" zbt t.zdg t.zdc
 za4:zbZ K t.zdc ["places"] []
 zh5:mg "look_at_places"=some (.ref t.zdg)
 zgi:Fun K "is_whole" "is_whole" zdr t.zhE t.zhx
 zeA:zbZ K t.zhx ["thing"] []
 zht:mg "is_whole"=some (.ref t.zhE)
 ze5:Fun K "common_divisor" "common_divisor" zbu t.zdh t.zdd
 zby:zbZ K t.zdd ["one","other"] []
 zh6:mg "common_divisor"=some (.ref t.zdh)
 zgj:Fun K "is_ratio" "is_ratio" zds t.zhF t.zhy
 zbx:zbZ K t.zhy ["thing"] []
 zhu:mg "is_ratio"=some (.ref t.zhF)
 zjn:Fun K "is_length" "is_length" zcN t.zgU t.zgR
 zeX:zbZ K t.zgR ["thing"] []
 zmb:mg "is_length"=some (.ref t.zgU)
 zjR:Fun K "is_worth" "is_worth" zdq t.zhD t.zhw
 zgg:zbZ K t.zhw ["thing"] []
 zny:mg "is_worth"=some (.ref t.zhD)
 zm8:Fun K "is_tie" "is_tie" zf6 t.zkH t.zkp
 zio:zbZ K t.zkp ["thing"] []
 zqr:mg "is_tie"=some (.ref t.zkH)
 zgv:Fun K "look_at_ties" "look_at_ties" zb4 t.zeh t.zec
 zbf:zbZ K t.zec ["ties","places"] []
 zjs:mg "look_at_ties"=some (.ref t.zeh)
 zhJ:Fun K "is_place" "is_place" zdt t.zhG t.zhz
 zeB:zbZ K t.zhz ["thing","places"] []
 zjH:mg "is_place"=some (.ref t.zhG)
 zhj:Fun K "look_at_web" "look_at_web" zcl t.zeY t.zeU
 zbF:zbZ K t.zeU ["thing"] []
 zki:mg "look_at_web"=some (.ref t.zeY)
 zfX:Fun K "is_tie_number" "is_tie_number" zbM t.zdS t.zdN
 zaW:zbZ K t.zdN ["web","thing"] []
 zi3:mg "is_tie_number"=some (.ref t.zdS)
 ze3:Fun K "look_at_taking" "look_at_taking" zbs t.zdf t.zdb
 zbw:zbZ K t.zdb ["web","thing"] []
 zh4:mg "look_at_taking"=some (.ref t.zdf)
 zfW:Fun K "look_at_purse" "look_at_purse" zbL t.zdR t.zdM
 za3:zbZ K t.zdM ["thing"] []
 zi2:mg "look_at_purse"=some (.ref t.zdR)
 zf0:Fun K "_law_class" "_law_class" zcF t.zfU t.zfJ
 zci:zbZ K t.zfJ ["_law_web_here","_law_thing","_law_of_web"] []
 zhQ:mg "_law_class"=some (.ref t.zfU)
 zhS:Fun K "_law_purse" "_law_purse" zcC t.zfR t.zfG
 zc1:zbZ K t.zfG ["_law_digits","_law_kind","_law_number"] []
 zlc:mg "_law_purse"=some (.ref t.zfR)
 zfZ:Fun K "_law_is_ratio" "_law_is_ratio" zbN t.zdT t.zdO
 zbU:zbZ K t.zdO ["_law_thing"] []
 zi4:mg "_law_is_ratio"=some (.ref t.zdT)
 zvK:Fun K "law" "law" zhZ t.zmn t.znE
 zsD:zbZ K t.znE ["_law_script"] []
 zvr:mg "law"=some (.ref t.zmn)
 n_ValueError:mg "ValueError"=none
 n_abs:mg "abs"=none
 n_all:mg "all"=none
 n_bool:mg "bool"=none
 n_enumerate:mg "enumerate"=none
 n_int:mg "int"=none
 n_isinstance:mg "isinstance"=none
 n_len:mg "len"=none
 n_list:mg "list"=none
 n_max:mg "max"=none
 n_range:mg "range"=none
 n_sorted:mg "sorted"=none
 n_str:mg "str"=none
 n_tuple:mg "tuple"=none
 zjI:mg "CutError"=some (.ref t.zaH)
 zhs:zm9 K "CutError" t.zaH
 zle:mg "NoPurse"=some (.ref t.zao)
 zi0:zm9 K "NoPurse" t.zao
 zga:mg "NoTaking"=some (.ref t.zam)
 zhr:zm9 K "NoTaking" t.zam
 zfD:mg "NoWeb"=some (.ref t.zav)
 zl9:zm9 K "NoWeb" t.zav
 zct:zqP K "NoPurse" t.zao
 zbr:zqP K "NoTaking" t.zam
 zcr:zsF K "NoWeb" t.zav
 zqQ:Fun K "__init__" "NoWeb.__init__" zf5 t.zcS t.zkh
 zdp:zbZ K t.zkh ["self","part","number"] []
 zeG:XIn K t.zav t.zcS
 zeF:XSt K t.zav ["part","number"]
 zeH:W.isFn K (.ref t.zcS)=true
 zlD:zsG K t.zaH
 zbD:W.subIn K (.ref t.zao) (.ref t.zaH)=some true
 zbP:W.subIn K (.ref t.zao) (.ref t.zao)=some true
 zbC:W.subIn K (.ref t.zao) (.ref t.zam)=some false
 zcf:W.subIn K (.ref t.zao) (.ref t.zav)=some false
 zbk:W.subIn K (.ref t.zam) (.ref t.zaH)=some true
 zbB:W.subIn K (.ref t.zam) (.ref t.zao)=some false
 zbj:W.subIn K (.ref t.zam) (.ref t.zam)=some true
 zb3:W.subIn K (.ref t.zam) (.ref t.zav)=some false
 zb2:W.subIn K (.ref t.zav) (.ref t.zaH)=some true
 zce:W.subIn K (.ref t.zav) (.ref t.zao)=some false
 zb1:W.subIn K (.ref t.zav) (.ref t.zam)=some false
 zcJ:W.subIn K (.ref t.zav) (.ref t.zav)=some true
 zdQ:Kon K mg "FEWEST_PLACES" (.int 2)
 zkD:Kon K mg "FIRST" (.int 2)
 zm5:Kon K mg "LAST" (.int 3)
 zkC:Kon K mg "LENGTH" (.int 3)
 zjj:Kon K mg "LETTERS" (.str "abcdefghijklmnopqrstuvwxyz")
 zeg:Kon K mg "LONGEST_NAME" (.int 8)
 zeW:Kon K mg "MOST_PLACES" (.int 7)
 zgT:Kon K mg "MOST_TIES" (.int 14)
 zpn:Kon K mg "ONE" (.int 0)
 zji:Kon K mg "OTHER" (.int 1)
 zgf:Kon K mg "PLACES" (.int 0)
 zlo:Kon K mg "TIES" (.int 1)
 zm4:Kon K mg "WORD" (.int 2)
 zmk:Kon K mg "WORDS" (.tup [(.str "one"),(.str "both")])
 zkB:Kon K mg "WORTH" (.int 4)
section
variable {P:Program}{w:World}{K:W.Frag}{mg:Str->Option Value}{base:Heap}{t:Adr}
theorem zi1 (T:Txt K mg t):∀ x C,znx zev x=true->XC K x C->W.exmOne K (.ref C) (.ref t.zaH)=some true :=
 zqn fun q hq=>by
  unfold zev at hq
  simp only[List.mem_cons,List.not_mem_nil,or_false] at hq
  rcases hq with rfl | rfl | rfl
  ·exact⟨t.zao,T.zct.xcls.xc,T.zhs.exm T.zbD⟩
  ·exact⟨t.zam,T.zbr.xcls.xc,T.zhs.exm T.zbk⟩
  ·exact⟨t.zav,T.zcr.xc,T.zhs.exm T.zb2⟩
theorem zpI (T:Txt K mg t):zlw K zsY (.ref t.zao) :=
 zeo (p:=fun _ C b=>W.kitOne K (.ref C) (.ref t.zao)=some b) fun q hq=>by
  simp only[List.mem_cons,List.not_mem_nil,or_false] at hq
  rcases hq with rfl | rfl | rfl
  ·exact⟨t.zao,T.zct.xcls.xc,T.zi0.kit T.zct.self T.zbP⟩
  ·exact⟨t.zam,T.zbr.xcls.xc,T.zi0.kit T.zbr.self T.zbB⟩
  ·exact⟨t.zav,T.zcr.xc,T.zi0.kit T.zcr.self T.zce⟩
theorem zpH (T:Txt K mg t):zlw K zsX (.ref t.zam) :=
 zeo (p:=fun _ C b=>W.kitOne K (.ref C) (.ref t.zam)=some b) fun q hq=>by
  simp only[List.mem_cons,List.not_mem_nil,or_false] at hq
  rcases hq with rfl | rfl | rfl
  ·exact⟨t.zao,T.zct.xcls.xc,T.zhr.kit T.zct.self T.zbC⟩
  ·exact⟨t.zam,T.zbr.xcls.xc,T.zhr.kit T.zbr.self T.zbj⟩
  ·exact⟨t.zav,T.zcr.xc,T.zhr.kit T.zcr.self T.zb1⟩
theorem zpG (T:Txt K mg t):zlw K zsW (.type "ValueError") :=
 zeo (p:=fun _ C b=>W.kitOne K (.ref C) (.type "ValueError")=some b) fun q hq=>by
  simp only[List.mem_cons,List.not_mem_nil,or_false] at hq
  rcases hq with rfl | rfl | rfl
  ·exact⟨t.zao,T.zct.xcls.xc,zk8 zhq T.zct.ve⟩
  ·exact⟨t.zam,T.zbr.xcls.xc,zk8 zhq T.zbr.ve⟩
  ·exact⟨t.zav,T.zcr.xc,zk8 zhq T.zcr.ve⟩
theorem zpF (T:Txt K mg t):zlw K zsV (.ref t.zav) :=
 zeo (p:=fun _ C b=>W.kitOne K (.ref C) (.ref t.zav)=some b) fun q hq=>by
  simp only[List.mem_cons,List.not_mem_nil,or_false] at hq
  rcases hq with rfl | rfl | rfl
  ·exact⟨t.zao,T.zct.xcls.xc,T.zl9.kit T.zct.self T.zcf⟩
  ·exact⟨t.zam,T.zbr.xcls.xc,T.zl9.kit T.zbr.self T.zb3⟩
  ·exact⟨t.zav,T.zcr.xc,T.zl9.kit T.zcr.self T.zcJ⟩
theorem zcR (T:Txt K mg t):zdy P w K mg base CX0 1 t.zcS t.zkh ["self","part","number"] (zut K ["part","number"]) :=
 zvu T.zqQ zn6 rfl (by decide) fun cdv A outer s0 H E=>(zuF (i:=1) T.zlD rfl T.zjI (zlQ (i:=1) rfl (Or.inl rfl) (zlQ (i:=2) rfl (Or.inl rfl) zto)) rfl rfl (Or.inl rfl) (Or.inl rfl) (zrr (i:=2) rfl rfl (Or.inl rfl) (Or.inl rfl) zsN))
theorem zfs (T:Txt K mg t):zdy P w K mg base CX0 1 t.zek t.zef ["_law_script","_law_k"] (spD K 2 za7) :=
 zaL T.zem ziK fun cdv A outer s0 H H₀ E hr=>(
 (zac (zbG (zaG zk1 (zbq fun _ _ _ _=>rb _) (dv 1) (zaD zaS zbT rfl T.n_len PyProof.Rows.Boot.«len» (zaa (dv 0) zai)) nm)
 (zac (zaK (zak (dv 0) (dv 1)))
 zag)
 zag)
 (zac (zaK (zaE (zhe zae (dv 1)) (zhe zae (zaD zaS zbT rfl T.n_len PyProof.Rows.Boot.«len» (zaa (dv 0) zai)))))
 zag)))
theorem zdk (T:Txt K mg t):zdy P w K mg base CX0 1 t.zfT t.zfI ["_law_cell","_law_sizes"] (spD K 2 zaI) :=
 zaL T.zc2 zbA fun cdv A outer s0 H H₀ E hr=>(
 (zac (zaB (i:=2) zbA.nd rfl (Or.inl rfl) (zaD (zpm rfl) zug rfl T.n_max PyProof.Rows.Boot.«max» (zaa (dv 0) (zaa (zfE (zjM zae) (dv 0)) zai))))
 (zac (zaB (i:=3) zbA.nd rfl (Or.inl rfl) (dv 2))
 (zac (zo3 (i:=4) zbA.nd rfl (Or.inl rfl) (zjK zai))
 (zac (zkn PassesOwn.never rfl rfl T.n_range (zaD zaS zbT rfl T.n_len PyProof.Rows.Boot.«len» (zaa (dv 1) zai)) (zdJ (i:=5) zbA.nd rfl (Or.inl rfl)) zen
 (zac (zbG (DW.dt (zi5 (zaG znk (zbq fun _ _ _ _=>rb _) (dv 2) (zjL zae zae) nm) (zdx (zaG zlY (zbq fun _ _ _ _=>rb _) (dv 3) zae nm))))
 (zac (zhd (i:=4) rfl (Or.inl rfl) (zcu (dv 3) (zak (dv 1) (dv 5))))
 (zac (zaB (i:=3) zbA.nd rfl (Or.inl rfl) (zli (dv 3) (zak (dv 1) (dv 5))))
 zag))
 (zac (zaB (i:=6) zbA.nd rfl (Or.inl rfl) (zcu (zhe (zaE (zaE (zaE (zcu (dv 2) zae) (zhe (zhe zae (dv 5)) (dv 5))) (zhe zae (dv 5))) zae) zae) zae))
 (zac (zaB (i:=6) zbA.nd rfl (Or.inl rfl) (zcu (zhe (zaE (zcu (zhe (dv 6) (dv 6)) zae) (dv 5)) zae) zae))
 (zac (zhd (i:=4) rfl (Or.inl rfl) (zcu (zli (dv 6) zae) (zak (dv 1) (dv 5))))
 zag))))
 zag))
 (zac (zaK (dv 4))
 zag))))))
theorem zkc (T:Txt K mg t):zdy P w K mg base CX0 2 t.zfS t.zfH ["_law_cell","_law_many"] (spD K 2 zch) :=
 zaL T.zhT za1 fun cdv A outer s0 H H₀ E hr=>(
 (zac (zaB (i:=2) za1.nd rfl (Or.inr rfl) zbo)
 (zac (zaB (i:=3) za1.nd rfl (Or.inl rfl) (zax ((zdk T).mono (by decide:1<=1)) hr rfl T.zd6 T.zc2.kp T.zbV zcb (zaa (dv 0) (zaa (zaE (zaE (zbI (zaa zae (zaa zae (zaa zae (zaa zae (zaa zae zai)))))) (zmZ (zjK (zaa zae zai)) zae)) (zmZ (zjK (zaa zae zai)) zae)) zai)) rfl (fun ρ ds h=>(fun _ h=>zah (fun _ h=>zah (fun _ h=>zap h) h) h) ds h)))
 (zac (zaB (i:=4) za1.nd rfl (Or.inl rfl) (zak (zbI (zaa zae (zaa zae (zaa zae (zaa zae (zaa zae (zaa zae (zaa zae (zaa zae (zaa zae (zaa zae (zaa zae (zaa zae zai))))))))))))) (zak (dv 3) zae)))
 (zac (zaB (i:=5) za1.nd rfl (Or.inl rfl) (zsu zbo (zaa (zsx (zue ["_law_digit","_law_letters"] 1 [2] rfl (zst (zaY (dv 3) (zaZ zae) (zaZ zae))) (zgX (by decide)) (fun s H C fp pn=>⟨fun He H0e=>(zdJ (i:=0) (show List.Nodup (["_law_digit","_law_letters"]:List Str) from by decide) rfl (Or.inl rfl)),zo5,(zak (dv 1) (dv 0))⟩) ⟨rfl,rfl⟩ rfl rfl rfl rfl)) zai)))
 (zac (zo3 (i:=6) za1.nd rfl (Or.inl rfl) (zjK zai))
 (zac (zkn PassesOwn.never rfl rfl T.n_range (dv 1) (zdJ (i:=7) za1.nd rfl (Or.inl rfl)) zen
 (zac (zaB (i:=8) za1.nd rfl (Or.inl rfl) (zaE zae (zak (dv 3) zae)))
 (zac (zbG (zaG (zcU hr.units) zft (zak (dv 3) zae) zae nm)
 (zac (zaB (i:=8) za1.nd rfl (Or.inl rfl) (zaE zae (zak (dv 3) (zaE zae (dv 7)))))
 zag)
 zag)
 (zac (zaB (i:=9) za1.nd rfl (Or.inl rfl) (zcu (zak (dv 3) zae) (dv 8)))
 (zac (zaB (i:=10) za1.nd rfl (Or.inl rfl) (zak (dv 2) (zcu (zaE (zak (dv 3) zae) (zhe (dv 7) (dv 4))) zae)))
 (zac (zhd (i:=6) rfl (Or.inl rfl) (zaE (zaE (zaY (dv 5) zda (zaZ (dv 9))) (dv 10)) (zaY (dv 5) (zaZ (zaE (dv 9) zae)) (zaZ (dv 8)))))
 zag))))))
 (zac (zaK (dv 6))
 zag))))))))
theorem zfr (T:Txt K mg t):zdy P w K mg base CX0 1 t.zej t.zee ["_law_one","_law_other"] (spD K 2 zb8) :=
 zaL T.zel zfn fun cdv A outer s0 H H₀ E hr=>(
 (zac (zmX _ PassesOwn.never (zaG (zfq hr.units) ziQ (dv 1) zae nm)
 (zac (zt9 (i:=0) (j:=1) rfl zfn.nd rfl rfl (by decide) rfl rfl (zaa (dv 1) (zaa (zcu (dv 0) (dv 1)) zai)) rfl)
 zag))
 (zac (zaK (zaD zkA zpl rfl T.n_abs PyProof.Rows.Boot.«abs» (zaa (dv 0) zai)))
 zag)))
theorem zgo (T:Txt K mg t):zdy P w K mg base CX0 2 t.zeZ t.zeV ["_law_top","_law_bottom"] (spD K 2 zbE) :=
 zaL T.ze0 zgm fun cdv A outer s0 H H₀ E hr=>(
 (zac (zaB (i:=2) zgm.nd rfl (Or.inl rfl) (zax ((zfr T).mono (by decide:1<=1)) hr rfl T.zgq T.zel.kp T.zbH zcb (zaa (dv 0) (zaa (dv 1) zai)) rfl (fun ρ ds h=>(fun _ h=>zah (fun _ h=>zah (fun _ h=>zap h) h) h) ds h)))
 (zac (zaK (zdK (zaa (zli (dv 0) (dv 2)) (zaa (zli (dv 1) (dv 2)) zai))))
 zag)))
theorem zc8 (T:Txt K mg t):zdy P w K mg base CX0 3 t.zdU t.zdP ["_law_digits","_law_least"] (spD K 2 zaF) :=
 zaL T.zcL zcx fun cdv A outer s0 H H₀ E hr=>(
 (zac (zrd rfl (dv 0) (zcK (i:=2) zcx.nd rfl (Or.inl rfl) (zcK (i:=3) zcx.nd rfl (Or.inl rfl) (zcK (i:=4) zcx.nd rfl (Or.inl rfl) zko))))
 (zac (zbG (zaG zk1 (zbq fun _ _ _ _=>rb _) (dv 2) zae nm)
 (zac (zaK (zdK (zaa (zaE (dv 1) (zcu (dv 3) zae)) (zaa zae zai))))
 zag)
 zag)
 (zac (zbG (zaG zk1 (zbq fun _ _ _ _=>rb _) (dv 2) zae nm)
 (zac (zaK (zax ((zgo T).mono (by decide:2<=2)) hr rfl T.zg9 T.ze0.kp T.zbY zcb (zaa (zaE (dv 1) (zcu (dv 3) zae)) (zaa (zaE zae (zcu (dv 4) zae)) zai)) rfl (fun ρ ds h=>(fun _ h=>zah (fun _ h=>zah (fun _ h=>zap h) h) h) ds h)))
 zag)
 zag)
 (zac (zaK (zax ((zgo T).mono (by decide:2<=2)) hr rfl T.zg9 T.ze0.kp T.zbY zcb (zaa (zaE (dv 1) (dv 3)) (zaa (zaE zae (dv 4)) zai)) rfl (fun ρ ds h=>(fun _ h=>zah (fun _ h=>zah (fun _ h=>zap h) h) h) ds h)))
 zag)))))
theorem zl1 (T:Txt K mg t):zdy P w K mg base CX0 4 t.zhI t.zhB ["_law_places","_law_cell","_law_bound"] (spD K 3 zcH) :=
 zaL T.zjT zcd fun cdv A outer s0 H H₀ E hr=>(
 (zac (zaB (i:=3) zcd.nd rfl (Or.inl rfl) (zbI (zaa zae (zaa (dv 2) (zaa (dv 2) zai)))))
 (zac (zaB (i:=4) zcd.nd rfl (Or.inl rfl) (zax ((zdk T).mono (by decide:1<=3)) hr rfl T.zd6 T.zc2.kp T.zbV zcb (zaa (dv 1) (zaa (zaE (zaE (zbI (zaa (zaD zaS zbT rfl T.n_len PyProof.Rows.Boot.«len» (zaa (dv 0) zai)) (zaa (zfE (zaD zaS zbT rfl T.n_len PyProof.Rows.Boot.«len» (zaa (dv 0) zai)) zae) (zaa zae (zaa zae zai))))) (dv 3)) (dv 3)) zai)) rfl (fun ρ ds h=>(fun _ h=>zah (fun _ h=>zah (fun _ h=>zap h) h) h) ds h)))
 (zac (zaB (i:=5) zcd.nd rfl (Or.inl rfl) zdL)
 (zac (zbG (zaG zlY (zbq fun _ _ _ _=>rb _) (zak (dv 4) zae) zae nm)
 (zac (zaB (i:=5) zcd.nd rfl (Or.inl rfl) (zax ((zc8 T).mono (by decide:3<=3)) hr rfl T.zdG T.zcL.kp T.za9 zcb (zaa (zaY (dv 4) (zaZ zae) (zaZ zae)) (zaa zae zai)) rfl (fun ρ ds h=>(fun _ h=>zah (fun _ h=>zah (fun _ h=>zap h) h) h) ds h)))
 zag)
 zag)
 (zac (zaB (i:=6) zcd.nd rfl (Or.inl rfl) (zak (dv 0) (zak (dv 4) zae)))
 (zac (zaB (i:=7) zcd.nd rfl (Or.inl rfl) (zak (dv 0) (zcu (zaE (zaE (zak (dv 4) zae) zae) (zak (dv 4) zae)) (zaD zaS zbT rfl T.n_len PyProof.Rows.Boot.«len» (zaa (dv 0) zai)))))
 (zac (zaB (i:=8) zcd.nd rfl (Or.inl rfl) (zak (zbI (zaa zbo (zaa zbo zai))) (zak (dv 4) zae)))
 (zac (zaK (zdK (zaa (dv 6) (zaa (dv 7) (zaa (dv 8) (zaa (zax ((zc8 T).mono (by decide:3<=3)) hr rfl T.zdG T.zcL.kp T.za9 zcb (zaa (zaY (dv 4) (zaZ zae) (zaZ zae)) (zaa zae zai)) rfl (fun ρ ds h=>(fun _ h=>zah (fun _ h=>zah (fun _ h=>zap h) h) h) ds h)) (zaa (dv 5) zai)))))))
 zag)))))))))
theorem zl0 (T:Txt K mg t):zdy P w K mg base CX0 5 t.zhH t.zhA ["_law_script","_law_at"] (spD K 2 zcG) :=
 zaL T.zjS zbW fun cdv A outer s0 H H₀ E hr=>(
 (zac (zaB (i:=2) zbW.nd rfl (Or.inl rfl) (zax ((zfs T).mono (by decide:1<=4)) hr rfl T.zgr T.zem.kp T.zb9 zcb (zaa (dv 0) (zaa (dv 1) zai)) rfl (fun ρ ds h=>(fun _ h=>zah (fun _ h=>zah (fun _ h=>zap h) h) h) ds h)))
 (zac (zaB (i:=3) zbW.nd rfl (Or.inl rfl) (zax ((zdk T).mono (by decide:1<=4)) hr rfl T.zd6 T.zc2.kp T.zbV zcb (zaa (dv 2) (zaa (zbI (zaa zae (zaa zae (zaa zae (zaa zae zai))))) zai)) rfl (fun ρ ds h=>(fun _ h=>zah (fun _ h=>zah (fun _ h=>zap h) h) h) ds h)))
 (zac (zaB (i:=4) zbW.nd rfl (Or.inl rfl) (zax ((zkc T).mono (by decide:2<=4)) hr rfl T.zld T.zhT.kp T.zd7 zcb (zaa (zli (dv 2) zae) (zaa (zaE zae (zak (dv 3) zae)) zai)) rfl (fun ρ ds h=>(fun _ h=>zah (fun _ h=>zah (fun _ h=>zap h) h) h) ds h)))
 (zac (zo3 (i:=5) zbW.nd rfl (Or.inl rfl) (zjK zai))
 (zac (zkn PassesOwn.never rfl rfl T.n_range (zak (dv 3) zae) (zdJ (i:=6) zbW.nd rfl (Or.inl rfl)) zen
 (zac (zaB (i:=7) zbW.nd rfl (Or.inl rfl) (zak (zbI (zaa (zfE (zjL zae zae) zae) (zaa (zjL zae zae) zai))) (zeT zjh zpk rfl T.n_int PyProof.Rows.Boot.«int» (zaa (zgt zlY (zbq fun _ _ _ _=>rb _) (zcu (dv 6) zae) zae nm) zai))))
 (zac (zhd (i:=5) rfl (Or.inl rfl) (zax ((zl1 T).mono (by decide:4<=4)) hr rfl T.znA T.zjT.kp T.zeC zcb (zaa (dv 4) (zaa (zax ((zfs T).mono (by decide:1<=4)) hr rfl T.zgr T.zem.kp T.zb9 zcb (zaa (dv 0) (zaa (zaE (zaE (dv 1) zae) (dv 6)) zai)) rfl (fun ρ ds h=>(fun _ h=>zah (fun _ h=>zah (fun _ h=>zap h) h) h) ds h)) (zaa (dv 7) zai))) rfl (fun ρ ds h=>(fun _ h=>zah (fun _ h=>zah (fun _ h=>zah (fun _ h=>zap h) h) h) h) ds h)))
 zag)))
 (zac (zaB (i:=8) zbW.nd rfl (Or.inl rfl) (zcu (zak (dv 3) zae) (zaD zaS zbT rfl T.n_len PyProof.Rows.Boot.«len» (zaa (dv 4) zai))))
 (zac (zaB (i:=9) zbW.nd rfl (Or.inl rfl) (zcu (zaE (zaE (dv 8) zae) (zcu (zak (dv 3) zae) (zfE (zaD zaS zbT rfl T.n_len PyProof.Rows.Boot.«len» (zaa (dv 4) zai)) zae))) (zaD zaS zbT rfl T.n_len PyProof.Rows.Boot.«len» (zaa (dv 4) zai))))
 (zac (zaK (zdK (zaa (dv 4) (zaa (dv 5) (zaa (zak (dv 4) (dv 8)) (zaa (zak (dv 4) (dv 9)) zai))))))
 zag)))))))))
theorem ziP (T:Txt K mg t):zdy P w K mg base CX0 1 t.zei t.zed ["_law_web_here","_law_some","_law_digits"] (spD K 3 zau) :=
 zaL T.zgw zaV fun cdv A outer s0 H H₀ E hr=>(
 (zac (zrd rfl (dv 2) (zcK (i:=3) zaV.nd rfl (Or.inl rfl) (zcK (i:=4) zaV.nd rfl (Or.inl rfl) (zcK (i:=5) zaV.nd rfl (Or.inl rfl) (zcK (i:=6) zaV.nd rfl (Or.inl rfl) zko)))))
 (zac (zo2 (i:=7) zaV.nd rfl rfl zjc (zue ["_law_k","_law_web_here"] 1 [0] rfl (zi7 rfl T.n_range (zaD zaS zbT rfl T.n_len PyProof.Rows.Boot.«len» (zaa (zak (dv 0) zae) zai))) (zgX (by decide)) (fun s H C fp pn=>⟨fun He H0e=>(zdJ (i:=0) (show List.Nodup (["_law_k","_law_web_here"]:List Str) from by decide) rfl (Or.inl rfl)),(zme (zaG zmD zmE (zak (zak (zak (dv 1) zae) (dv 0)) zae) zdL nm)),(dv 0)⟩) ⟨rfl,rfl⟩ rfl rfl rfl rfl))
 (zac (zaB (i:=8) zaV.nd rfl (Or.inl rfl) (zcu (dv 4) (zaE (zaD zaS zbT rfl T.n_len PyProof.Rows.Boot.«len» (zaa (dv 1) zai)) zae)))
 (zac (zbG (zaG (zcU hr.units) zft (dv 3) zae nm)
 (zac (zaB (i:=9) zaV.nd rfl (Or.inl rfl) (zbI (zaa zdo (zaa zdL (zaa zbo (zaa (zdK (zaa zae (zaa zae zai))) (zaa (zbI (zaa zae zai)) (zaa zdo (zaa zbo (zaa (dv 6) zai))))))))))
 (zac (zaK (zaE (zaE (zaY (dv 1) zda (zaZ (dv 8))) (zbI (zaa (zak (dv 9) (dv 5)) zai))) (zaY (dv 1) (zaZ (zaE (dv 8) zae)) zda)))
 zag))
 zag)
 (zac (zbG (DW.dt (zi5 (zaG (zcU hr.units) zft (dv 3) zae nm) (zdx (zaG zlY (zbq fun _ _ _ _=>rb _) (zaD zaS zbT rfl T.n_len PyProof.Rows.Boot.«len» (zaa (dv 1) zai)) zae nm))))
 (zac (zaB (i:=10) zaV.nd rfl (Or.inl rfl) (zak (dv 1) (zcu (dv 4) (zaD zaS zbT rfl T.n_len PyProof.Rows.Boot.«len» (zaa (dv 1) zai)))))
 (zac (zaK (zaE (zaE (zaY (dv 1) zda (zaZ (dv 8))) (zbI (zaa (zfE (zaE (dv 10) (dv 5)) zae) zai))) (zaY (dv 1) (zaZ (dv 8)) zda)))
 zag))
 zag)
 (zac (zbG (zaG (zcU hr.units) zft (dv 3) zae nm)
 (zac (zaK (zaE (zaE (zaY (dv 1) zda (zaZ (dv 8))) (zmZ (zqy (dv 1) (zaZ (dv 8)) (zaZ (zaE (dv 8) zae))) zae)) (zaY (dv 1) (zaZ (zaE (dv 8) zae)) zda)))
 zag)
 zag)
 (zac (zbG (zaG (zcU hr.units) zft (dv 3) zae nm)
 (zac (zaB (i:=11) zaV.nd rfl (Or.inl rfl) (zaY (dv 1) (zaZ (dv 8)) (zaZ (zaE (dv 8) zae))))
 (zac (zaK (zaE (zaE (zaY (dv 1) zda (zaZ (dv 8))) (zud (dv 11))) (zaY (dv 1) (zaZ (zaE (dv 8) zae)) zda)))
 zag))
 zag)
 (zac (zbG (DW.dt (zi5 (zaG (zcU hr.units) zft (dv 3) zae nm) (zdx (zaG (zfq hr.units) ziQ (dv 7) (zbI zai) nm))))
 (zac (zaK (zaD znG zsA rfl T.n_sorted PyProof.Rows.Boot.«sorted» (zaa (zaE (dv 1) (zbI (zaa (zak (dv 7) (zcu (dv 4) (zaD zaS zbT rfl T.n_len PyProof.Rows.Boot.«len» (zaa (dv 7) zai)))) zai))) zai)))
 zag)
 zag)
 (zac (zbG (zaG (zcU hr.units) zft (dv 3) zae nm)
 (zac (zaK (zaE (dv 1) (zbI (zaa (zaE (zaD zaS zbT rfl T.n_len PyProof.Rows.Boot.«len» (zaa (zak (dv 0) zae) zai)) (dv 5)) zai))))
 zag)
 zag)
 (zac (zbG (zaG (zcU hr.units) zft (dv 3) zae nm)
 (zac (zaK (zaE (zbI (zaa (zfE (zjM zae) (dv 5)) zai)) (dv 1)))
 zag)
 zag)
 (zac (zbG (zaG (zcU hr.units) zft (dv 3) zae nm)
 (zac (zaK (zak (zbI (zaa (zeT zkz zqJ rfl T.n_tuple PyProof.Rows.Boot.«tuple» (zaa (dv 1) zai)) (zaa zdL (zaa zdo (zaa zbo (zaa zsw (zaa (zdK zai) (zaa zae (zaa zbo zai))))))))) (dv 5)))
 zag)
 zag)
 (zac (zaK (dv 1))
 zag)))))))))))))
theorem zeM (T:Txt K mg t):zdy P w K mg base CX0 1 t.zfQ t.zfF ["_law_thing"] (spD K 1 zbd) :=
 zaL T.zd8 zj2 fun cdv A outer s0 H H₀ E hr=>(
 (zac (zaK (zhf (zbm zjF rfl T.n_isinstance rfl T.n_int PyProof.Rows.Boot.«int» (dv 0)) (zgs (zo7 (zbm ziT rfl T.n_isinstance rfl T.n_bool PyProof.Rows.Boot.«bool» (dv 0))))))
 zag))
theorem zhp (T:Txt K mg t):zdy P w K mg base CX0 2 t.zdi t.zde ["_law_web_here","_law_thing"] (spD K 2 zaR) :=
 zaL T.ze6 zeq fun cdv A outer s0 H H₀ E hr=>(
 (zac (zbG (zbS (zbR (zbm zdF rfl T.n_isinstance rfl T.n_list PyProof.Rows.Boot.«list» (dv 1))))
 (zac (zaK zdo)
 zag)
 zag)
 (zac (zkn PassesOwn.never rfl rfl T.n_range (zaD zaS zbT rfl T.n_len PyProof.Rows.Boot.«len» (zaa (dv 1) zai)) (zdJ (i:=2) zeq.nd rfl (Or.inl rfl)) zen
 (zac (zbG (DW.dt (zdn (zbS (zbR (zax ((zeM T).mono (by decide:1<=1)) hr rfl T.zfC T.zd8.kp T.zc0 zcb (zaa (zak (dv 1) (dv 2)) zai) rfl (fun ρ ds h=>(fun _ h=>zah (fun _ h=>zap h) h) ds h)))) (zdn (zaG zk1 (zbq fun _ _ _ _=>rb _) (zak (dv 1) (dv 2)) zae nm) (za2 (zaG znk (zbq fun _ _ _ _=>rb _) (zak (dv 1) (dv 2)) (zaD zaS zbT rfl T.n_len PyProof.Rows.Boot.«len» (zaa (zak (dv 0) zae) zai)) nm)))))
 (zac (zaK zdo)
 zag)
 zag)
 (zac (zbG (DW.dt (zdn (zaG zmD zmE (zak (zak (zak (dv 0) zae) (zak (dv 1) (dv 2))) zae) zdL nm) (za2 (DW.dt (zi5 (zaG zlY (zbq fun _ _ _ _=>rb _) (dv 2) zae nm) (zdx (zaG znk (zbq fun _ _ _ _=>rb _) (zak (dv 1) (zfE (dv 2) zae)) (zak (dv 1) (dv 2)) nm)))))))
 (zac (zaK zdo)
 zag)
 zag)
 zag)))
 (zac (zaK zdo)
 zag))))
theorem zf8 (T:Txt K mg t):zdy P w K mg base CX0 1 t.zjl t.zi9 ["thing"] (spD K 1 zcg) :=
 zaL T.zfY zne fun cdv A outer s0 H H₀ E hr=>(
 (zac (zbG (DW.dt (zdn (zbS (zbR (zbm zjE rfl T.n_isinstance rfl T.n_str PyProof.Rows.Boot.«str» (dv 0)))) (za2 (zbS (zmW znj znj (zet fun _ _ _ _=>rb _) (zet fun _ _ _ _=>rb _) zeu zeu zae (zaD zaS zbT rfl T.n_len PyProof.Rows.Boot.«len» (zaa (dv 0) zai)) (zbJ T.zeg rfl))))))
 (zac (zaK zdo)
 zag)
 zag)
 (zac (zaK (zaD (zqK rfl) zuh rfl T.n_all PyProof.Rows.Boot.«all» (zaa (zsx (zue ["sign"] 1 [] rfl (zub (dv 0)) (zgX (by decide)) (fun s H C fp pn=>⟨fun He H0e=>(zdJ (i:=0) (show List.Nodup (["sign"]:List Str) from by decide) rfl (Or.inl rfl)),zo5,(zgt (zr0 hr.units) zr5 (dv 0) (zbJ T.zjj rfl) rfl)⟩) ⟨rfl,rfl⟩ rfl rfl rfl rfl)) zai)))
 zag)))
theorem zhn (T:Txt K mg t):zdy P w K mg base (CXE P w) 3 t.zdg t.zdc ["places"] (spD K 1 zaQ) :=
 zew T.ze4 zcM fun cdv A outer s0 H H₀ E hr=>(
 (zac (zbG (DW.dt (zdn (zbS (zbR (zbm zdF rfl T.n_isinstance rfl T.n_list PyProof.Rows.Boot.«list» (dv 0)))) (za2 (zbS (zmW znj znj (zet fun _ _ _ _=>rb _) (zet fun _ _ _ _=>rb _) zeu zeu (zbJ T.zdQ rfl) (zaD zaS zbT rfl T.n_len PyProof.Rows.Boot.«len» (zaa (dv 0) zai)) (zbJ T.zeW rfl))))))
 (zac (zdI T.zcr.xc T.zeG T.zeF T.zeH ((zcR T).mono (by decide:1<=1)) T.zdp (by decide) hr T.zfD hr.hd rfl (zaa zbo (zaa zdL zai)))
 zag)
 zag)
 (zac (zo4 PassesOwn.leaving rfl (zo6 rfl T.n_enumerate (dv 0)) (zrg rfl (zcK (i:=1) zcM.nd rfl (Or.inl rfl) (zcK (i:=2) zcM.nd rfl (Or.inl rfl) zko))) zkJ
 (zac (zbG (DW.dt (zdn (zbS (zbR (zax ((zf8 T).mono (by decide:1<=2)) hr rfl T.zg8 T.zfY.kp T.zcw zjA (zaa (dv 2) zai) rfl (fun ρ ds h=>(fun _ h=>zah (fun _ h=>zap h) h) ds h)))) (za2 (zaG (zr0 hr.units) zr5 (dv 2) (zaY (dv 0) zda (zaZ (dv 1))) rfl))))
 (zac (zdI T.zcr.xc T.zeG T.zeF T.zeH ((zcR T).mono (by decide:1<=1)) T.zdp (by decide) hr T.zfD hr.hd rfl (zaa zbo (zaa (dv 1) zai)))
 zag)
 zag)
 zag))
 zag)))
theorem zgK (T:Txt K mg t):zdy P w K mg base CX0 1 t.zhE t.zhx ["thing"] (spD K 1 zbQ) :=
 zaL T.zgi zlM fun cdv A outer s0 H H₀ E hr=>(
 (zac (zaK (zhf (zbm zjF rfl T.n_isinstance rfl T.n_int PyProof.Rows.Boot.«int» (dv 0)) (zgs (zo7 (zbm ziT rfl T.n_isinstance rfl T.n_bool PyProof.Rows.Boot.«bool» (dv 0))))))
 zag))
theorem zho (T:Txt K mg t):zdy P w K mg base CX0 1 t.zdh t.zdd ["one","other"] (spD K 2 zbb) :=
 zaL T.ze5 zbg fun cdv A outer s0 H H₀ E hr=>(
 (zac (zaB (i:=2) zbg.nd rfl (Or.inl rfl) (zaD zkA zpl rfl T.n_abs PyProof.Rows.Boot.«abs» (zaa (dv 0) zai)))
 (zac (zaB (i:=3) zbg.nd rfl (Or.inl rfl) (zaD zkA zpl rfl T.n_abs PyProof.Rows.Boot.«abs» (zaa (dv 1) zai)))
 (zac (zmX _ PassesOwn.never (zaG (zfq hr.units) ziQ (dv 3) zae nm)
 (zac (zaB (i:=4) zbg.nd rfl (Or.inl rfl) (zcu (dv 2) (dv 3)))
 (zac (zaB (i:=2) zbg.nd rfl (Or.inl rfl) (dv 3))
 (zac (zaB (i:=3) zbg.nd rfl (Or.inl rfl) (dv 4))
 zag))))
 (zac (zaK (dv 2))
 zag)))))
theorem zgL (T:Txt K mg t):zdy P w K mg base CX0 2 t.zhF t.zhy ["thing"] (spD K 1 zco) :=
 zaL T.zgj zlN fun cdv A outer s0 H H₀ E hr=>(
 (zac (zbG (DW.dt (zdn (zbS (zbR (zbm zd3 rfl T.n_isinstance rfl T.n_tuple PyProof.Rows.Boot.«tuple» (dv 0)))) (za2 (zaG (zfq hr.units) ziQ (zaD zaS zbT rfl T.n_len PyProof.Rows.Boot.«len» (zaa (dv 0) zai)) zae nm))))
 (zac (zaK zdo)
 zag)
 zag)
 (zac (zbG (DW.dt (zdn (zbS (zbR (zax ((zgK T).mono (by decide:1<=1)) hr rfl T.zht T.zgi.kp T.zeA zcb (zaa (zak (dv 0) zae) zai) rfl (fun ρ ds h=>(fun _ h=>zah (fun _ h=>zap h) h) ds h)))) (za2 (zbS (zbR (zax ((zgK T).mono (by decide:1<=1)) hr rfl T.zht T.zgi.kp T.zeA zcb (zaa (zak (dv 0) zae) zai) rfl (fun ρ ds h=>(fun _ h=>zah (fun _ h=>zap h) h) ds h)))))))
 (zac (zaK zdo)
 zag)
 zag)
 (zac (zaK (zhf (zgt znk (zbq fun _ _ _ _=>rb _) (zak (dv 0) zae) zae nm) (zgs (zgt (zcU hr.units) zft (zax ((zho T).mono (by decide:1<=1)) hr rfl T.zh6 T.ze5.kp T.zby zcb (zaa (zak (dv 0) zae) (zaa (zak (dv 0) zae) zai)) rfl (fun ρ ds h=>(fun _ h=>zah (fun _ h=>zah (fun _ h=>zap h) h) h) ds h)) zae nm))))
 zag))))
theorem zk2 (T:Txt K mg t):zdy P w K mg base CX0 3 t.zgU t.zgR ["thing"] (spD K 1 zcP) :=
 zaL T.zjn zkR fun cdv A outer s0 H H₀ E hr=>(
 (zac (zaK (zhf (zax ((zgL T).mono (by decide:2<=2)) hr rfl T.zhu T.zgj.kp T.zbx zcb (zaa (dv 0) zai) rfl (fun ρ ds h=>(fun _ h=>zah (fun _ h=>zap h) h) ds h)) (zgs (zgt znk (zbq fun _ _ _ _=>rb _) (zak (dv 0) zae) zae nm))))
 zag))
theorem zlZ (T:Txt K mg t):zdy P w K mg base CX0 3 t.zhD t.zhw ["thing"] (spD K 1 zdw) :=
 zaL T.zjR zlL fun cdv A outer s0 H H₀ E hr=>(
 (zac (zaK (zvA (zgt zmD zmE (dv 0) zdL nm) (zgs (zhf (zax ((zgL T).mono (by decide:2<=2)) hr rfl T.zhu T.zgj.kp T.zbx zcb (zaa (dv 0) zai) rfl (fun ρ ds h=>(fun _ h=>zah (fun _ h=>zap h) h) ds h)) (zgs (zgt zlY (zbq fun _ _ _ _=>rb _) (zak (dv 0) zae) zae nm))))))
 zag))
theorem zou (T:Txt K mg t):zdy P w K mg base CX0 4 t.zkH t.zkp ["thing"] (spD K 1 zdZ) :=
 zaL T.zm8 zn7 fun cdv A outer s0 H H₀ E hr=>(
 (zac (zbG (DW.dt (zdn (zbS (zbR (zbm zd3 rfl T.n_isinstance rfl T.n_tuple PyProof.Rows.Boot.«tuple» (dv 0)))) (za2 (zaG (zfq hr.units) ziQ (zaD zaS zbT rfl T.n_len PyProof.Rows.Boot.«len» (zaa (dv 0) zai)) zae nm))))
 (zac (zaK zdo)
 zag)
 zag)
 (zac (zbG (DW.dt (zdn (zbS (zbR (zax ((zf8 T).mono (by decide:1<=3)) hr rfl T.zg8 T.zfY.kp T.zcw zcb (zaa (zak (dv 0) (zbJ T.zpn rfl)) zai) rfl (fun ρ ds h=>(fun _ h=>zah (fun _ h=>zap h) h) ds h)))) (zdn (zbS (zbR (zax ((zf8 T).mono (by decide:1<=3)) hr rfl T.zg8 T.zfY.kp T.zcw zcb (zaa (zak (dv 0) (zbJ T.zji rfl)) zai) rfl (fun ρ ds h=>(fun _ h=>zah (fun _ h=>zap h) h) ds h)))) (za2 (zaG (zcU hr.units) zft (zak (dv 0) (zbJ T.zpn rfl)) (zak (dv 0) (zbJ T.zji rfl)) nm)))))
 (zac (zaK zdo)
 zag)
 zag)
 (zac (zbG (DW.dt (zdn (zbS (zbR (zbm zjE rfl T.n_isinstance rfl T.n_str PyProof.Rows.Boot.«str» (zak (dv 0) (zbJ T.zm4 rfl))))) (za2 (zaG (zka hr.units) zkd (zak (dv 0) (zbJ T.zm4 rfl)) (zbJ T.zmk rfl) rfl))))
 (zac (zaK zdo)
 zag)
 zag)
 (zac (zaK (zhf (zax ((zk2 T).mono (by decide:3<=3)) hr rfl T.zmb T.zjn.kp T.zeX zcb (zaa (zak (dv 0) (zbJ T.zkC rfl)) zai) rfl (fun ρ ds h=>(fun _ h=>zah (fun _ h=>zap h) h) ds h)) (zgs (zax ((zlZ T).mono (by decide:3<=3)) hr rfl T.zny T.zjR.kp T.zgg zcb (zaa (zak (dv 0) (zbJ T.zkB rfl)) zai) rfl (fun ρ ds h=>(fun _ h=>zah (fun _ h=>zap h) h) ds h)))))
 zag)))))
theorem ziN (T:Txt K mg t):zdy P w K mg base (CXE P w) 5 t.zeh t.zec ["ties","places"] (spD K 2 za0) :=
 zew T.zgv zdB fun cdv A outer s0 H H₀ E hr=>(
 (zac (zbG (DW.dt (zdn (zbS (zbR (zbm zdF rfl T.n_isinstance rfl T.n_list PyProof.Rows.Boot.«list» (dv 0)))) (za2 (zaG zlY (zbq fun _ _ _ _=>rb _) (zaD zaS zbT rfl T.n_len PyProof.Rows.Boot.«len» (zaa (dv 0) zai)) (zbJ T.zgT rfl) nm))))
 (zac (zdI T.zcr.xc T.zeG T.zeF T.zeH ((zcR T).mono (by decide:1<=3)) T.zdp (by decide) hr T.zfD hr.hd rfl (zaa zbo (zaa zdL zai)))
 zag)
 zag)
 (zac (zo4 PassesOwn.leaving rfl (zo6 rfl T.n_enumerate (dv 0)) (zrg rfl (zcK (i:=2) zdB.nd rfl (Or.inl rfl) (zcK (i:=3) zdB.nd rfl (Or.inl rfl) zko))) zkJ
 (zac (zbG (DW.dt (zdn (zbS (zbR (zax ((zou T).mono (by decide:4<=4)) hr rfl T.zqr T.zm8.kp T.zio zjA (zaa (dv 3) zai) rfl (fun ρ ds h=>(fun _ h=>zah (fun _ h=>zap h) h) ds h)))) (zdn (zaG (zka hr.units) zkd (zak (dv 3) (zbJ T.zpn rfl)) (dv 1) rfl) (za2 (zaG (zka hr.units) zkd (zak (dv 3) (zbJ T.zji rfl)) (dv 1) rfl)))))
 (zac (zdI T.zcr.xc T.zeG T.zeF T.zeH ((zcR T).mono (by decide:1<=3)) T.zdp (by decide) hr T.zfD hr.hd rfl (zaa zbo (zaa (dv 2) zai)))
 zag)
 zag)
 zag))
 zag)))
theorem ziO (T:Txt K mg t):zdy P w K mg base CX0 2 t.zhG t.zhz ["thing","places"] (spD K 2 zcp) :=
 zaL T.zhJ zlO fun cdv A outer s0 H H₀ E hr=>(
 (zac (zaK (zhf (zax ((zf8 T).mono (by decide:1<=1)) hr rfl T.zg8 T.zfY.kp T.zcw zcb (zaa (dv 0) zai) rfl (fun ρ ds h=>(fun _ h=>zah (fun _ h=>zap h) h) ds h)) (zgs (zgt (zr0 hr.units) zr5 (dv 0) (dv 1) rfl))))
 zag))
theorem zjr (T:Txt K mg t):zdy P w K mg base (CXE P w) 6 t.zeY t.zeU ["thing"] (spD K 1 za6) :=
 zew T.zhj zjq fun cdv A outer s0 H H₀ E hr=>(
 (zac (zbG (DW.dt (zdn (zbS (zbR (zbm zd3 rfl T.n_isinstance rfl T.n_tuple PyProof.Rows.Boot.«tuple» (dv 0)))) (za2 (zaG (zfq hr.units) ziQ (zaD zaS zbT rfl T.n_len PyProof.Rows.Boot.«len» (zaa (dv 0) zai)) zae nm))))
 (zac (zdI T.zcr.xc T.zeG T.zeF T.zeH ((zcR T).mono (by decide:1<=4)) T.zdp (by decide) hr T.zfD hr.hd rfl (zaa zbo (zaa zdL zai)))
 zag)
 zag)
 (zac (zmd (zax ((zhn T).mono (by decide:3<=5)) hr rfl T.zh5 T.ze4.kp T.za4 zlW (zaa (zak (dv 0) (zbJ T.zgf rfl)) zai) rfl (fun ρ ds h=>(fun _ h=>zah (fun _ h=>zap h) h) ds h)))
 (zac (zmd (zax ((ziN T).mono (by decide:5<=5)) hr rfl T.zjs T.zgv.kp T.zbf zlW (zaa (zak (dv 0) (zbJ T.zlo rfl)) (zaa (zak (dv 0) (zbJ T.zgf rfl)) zai)) rfl (fun ρ ds h=>(fun _ h=>zah (fun _ h=>zah (fun _ h=>zap h) h) h) ds h)))
 (zac (zbG (zbS (zbR (zax ((ziO T).mono (by decide:2<=5)) hr rfl T.zjH T.zhJ.kp T.zeB zjA (zaa (zak (dv 0) (zbJ T.zkD rfl)) (zaa (zak (dv 0) (zbJ T.zgf rfl)) zai)) rfl (fun ρ ds h=>(fun _ h=>zah (fun _ h=>zah (fun _ h=>zap h) h) h) ds h))))
 (zac (zdI T.zcr.xc T.zeG T.zeF T.zeH ((zcR T).mono (by decide:1<=4)) T.zdp (by decide) hr T.zfD hr.hd rfl (zaa zbo (zaa zdL zai)))
 zag)
 zag)
 (zac (zbG (DW.dt (zdn (zbS (zbR (zax ((ziO T).mono (by decide:2<=5)) hr rfl T.zjH T.zhJ.kp T.zeB zjA (zaa (zak (dv 0) (zbJ T.zm5 rfl)) (zaa (zak (dv 0) (zbJ T.zgf rfl)) zai)) rfl (fun ρ ds h=>(fun _ h=>zah (fun _ h=>zah (fun _ h=>zap h) h) h) ds h)))) (za2 (zaG (zcU hr.units) zft (zak (dv 0) (zbJ T.zm5 rfl)) (zak (dv 0) (zbJ T.zkD rfl)) nm))))
 (zac (zdI T.zcr.xc T.zeG T.zeF T.zeH ((zcR T).mono (by decide:1<=4)) T.zdp (by decide) hr T.zfD hr.hd rfl (zaa zbo (zaa zdL zai)))
 zag)
 zag)
 zag))))))
theorem zh1 (T:Txt K mg t):zdy P w K mg base CX0 2 t.zdS t.zdN ["web","thing"] (spD K 2 zaA) :=
 zaL T.zfX zhX fun cdv A outer s0 H H₀ E hr=>(
 (zac (zaK (zhf (zax ((zgK T).mono (by decide:1<=1)) hr rfl T.zht T.zgi.kp T.zeA zcb (zaa (dv 1) zai) rfl (fun ρ ds h=>(fun _ h=>zah (fun _ h=>zap h) h) ds h)) (zgs (zqC znj zk1 (zet fun _ _ _ _=>rb _) (zet fun _ _ _ _=>rb _) zeu zeu zae (dv 1) (zaD zaS zbT rfl T.n_len PyProof.Rows.Boot.«len» (zaa (zak (dv 0) (zbJ T.zlo rfl)) zai))))))
 zag))
theorem zhm (T:Txt K mg t):zdy P w K mg base (CXE P w) 7 t.zdf t.zdb ["web","thing"] (spD K 2 zaz) :=
 zew T.ze3 zck fun cdv A outer s0 H H₀ E hr=>(
 (zac (zmd (zax ((zjr T).mono (by decide:6<=6)) hr rfl T.zki T.zhj.kp T.zbF zlW (zaa (dv 0) zai) rfl (fun ρ ds h=>(fun _ h=>zah (fun _ h=>zap h) h) ds h)))
 (zac (zbG (zbS (zbR (zbm zdF rfl T.n_isinstance rfl T.n_list PyProof.Rows.Boot.«list» (dv 1))))
 (zac (zim T.zbr.xcls T.zga hr.hd rfl (zaa zbo zai))
 zag)
 zag)
 (zac (zaB (i:=2) zck.nd rfl (Or.inl rfl) (zjM zae))
 (zac (zre PassesOwn.leaving rfl (dv 1) (zdJ (i:=3) zck.nd rfl (Or.inl rfl)) zen
 (zac (zbG (DW.dt (zdn (zbS (zbR (zax ((zh1 T).mono (by decide:2<=6)) hr rfl T.zi3 T.zfX.kp T.zaW zjA (zaa (dv 0) (zaa (dv 3) zai)) rfl (fun ρ ds h=>(fun _ h=>zah (fun _ h=>zah (fun _ h=>zap h) h) h) ds h)))) (za2 (zaG znj (zbq fun _ _ _ _=>rb _) (dv 3) (dv 2) nm))))
 (zac (zim T.zbr.xcls T.zga hr.hd rfl (zaa zbo zai))
 zag)
 zag)
 (zac (zbG (zaG zmD zmE (zak (zak (zak (dv 0) (zbJ T.zlo rfl)) (dv 3)) (zbJ T.zkB rfl)) zdL nm)
 (zac (zim T.zbr.xcls T.zga hr.hd rfl (zaa zbo zai))
 zag)
 zag)
 (zac (zaB (i:=2) zck.nd rfl (Or.inl rfl) (dv 3))
 zag))))
 zag)))))
theorem zh0 (T:Txt K mg t):zdy P w K mg base (CXE P w) 3 t.zdR t.zdM ["thing"] (spD K 1 zaq) :=
 zew T.zfW zhW fun cdv A outer s0 H H₀ E hr=>(
 (zac (zbG (DW.dt (zdn (zbS (zbR (zax ((zgL T).mono (by decide:2<=2)) hr rfl T.zhu T.zgj.kp T.zbx zjA (zaa (dv 0) zai) rfl (fun ρ ds h=>(fun _ h=>zah (fun _ h=>zap h) h) ds h)))) (za2 (zaG zk1 (zbq fun _ _ _ _=>rb _) (zak (dv 0) zae) zae nm))))
 (zac (zim T.zct.xcls T.zle hr.hd rfl (zaa zbo zai))
 zag)
 zag)
 zag))
theorem zg1 (T:Txt K mg t):zdy P w K mg base CX0 8 t.zfU t.zfJ ["_law_web_here","_law_thing","_law_of_web"] (spD K 3 zaJ) :=
 zaL T.zf0 za5 fun cdv A outer s0 H H₀ E hr=>(
 (zac (zaB (i:=3) za5.nd rfl (Or.inl rfl) zbo)
 (zac (zaB (i:=4) za5.nd rfl (Or.inl rfl) zae)
 (zac (zt8 ⟨rfl,rfl⟩ (zuJ (zbR (dv 2)) (zqW (i:=4) za5.nd rfl (Or.inl rfl) ((zhm T).mono (by decide:7<=7)) hr rfl T.zh4 T.ze3.kp T.zbw (zaa (dv 0) (zaa (dv 1) zai)) rfl (fun ρ ds h=>(fun _ h=>zah (fun _ h=>zah (fun _ h=>zap h) h) h) ds h)) (zqW (i:=4) za5.nd rfl (Or.inl rfl) ((zh0 T).mono (by decide:3<=7)) hr rfl T.zi2 T.zfW.kp T.za3 (zaa (dv 1) zai) rfl (fun ρ ds h=>(fun _ h=>zah (fun _ h=>zap h) h) ds h))) rfl T.zjI (zi1 T) za5.nd rfl rfl (fun ea=>(zac (zaB (i:=6) za5.nd rfl (Or.inl rfl) (zbI (zaa (zi8 rfl T.zga (zpH T) rfl T.n_isinstance (dv 5)) (zaa (zi8 rfl T.zle (zpI T) rfl T.n_isinstance (dv 5)) zai))))
 (zac (zaB (i:=6) za5.nd rfl (Or.inl rfl) (zaE (dv 6) (zbI (zaa (zi8 rfl T.zfD (zpF T) rfl T.n_isinstance (dv 5)) (zaa (zo7 (zo8 rfl T.n_ValueError PyProof.Rows.Boot.«ValueError» (zpG T) rfl T.n_isinstance (dv 5))) zai)))))
 (zac (zaB (i:=3) za5.nd rfl (Or.inl rfl) zbo)
 (zac (zbG (DW.dt (zi5 (zaG (zcU hr.units) zft (zqB hr.units (dv 6) zdo) zae nm) (zi5 (zbS (zbR (zak (dv 6) zae))) (zdx (zbS (zbR (zak (dv 6) zae)))))))
 (zac (zaB (i:=3) za5.nd rfl (Or.inl rfl) (zak (zbI (zaa zbo (zaa zbo zai))) (zqA hr.units (dv 6) zdo)))
 zag)
 zag)
 zag))))))
 (zac (zbG (DW.dt (zi5 (zaG (zcU hr.units) zft (dv 3) zbo nm) (zdx (zaG zor zox (dv 4) zdL nm))))
 (zac (zaK zbo)
 zag)
 zag)
 (zac (zaK (dv 3))
 zag))))))
theorem zkb (T:Txt K mg t):zdy P w K mg base CX0 4 t.zfR t.zfG ["_law_digits","_law_kind","_law_number"] (spD K 3 zcI) :=
 zaL T.zhS zeK fun cdv A outer s0 H H₀ E hr=>(
 (zac (zaB (i:=3) zeK.nd rfl (Or.inl rfl) (zbI (zaa zdL (zaa zdo (zaa zae (zaa zae (zaa zbo (zaa (zdK (zaa (zjM zae) (zaa zae zai))) (zaa (zdK (zaa zae (zaa zae zai))) zai)))))))))
 (zac (zaB (i:=3) zeK.nd rfl (Or.inl rfl) (zaE (dv 3) (zbI (zaa (zdK (zaa zae (zaa zae zai))) (zaa (zdK (zaa zae (zaa zae zai))) (zaa (zbI (zaa zae (zaa zae zai))) (zaa (zdK (zaa zdo (zaa zae zai))) (zaa (zdK (zaa (zfE (zjM zae) (dv 2)) (zaa zae zai))) (zaa (zdK (zaa zae (zaa (zjM zae) zai))) (zaa (zdK zai) zai))))))))))
 (zac (zbG (zaG zk1 (zbq fun _ _ _ _=>rb _) (dv 1) zae nm)
 (zac (zaK (zak (dv 3) (dv 1)))
 zag)
 zag)
 (zac (zaK (zax ((zc8 T).mono (by decide:3<=3)) hr rfl T.zdG T.zcL.kp T.za9 zcb (zaa (dv 0) (zaa zae zai)) rfl (fun ρ ds h=>(fun _ h=>zah (fun _ h=>zah (fun _ h=>zap h) h) h) ds h)))
 zag)))))
theorem zh2 (T:Txt K mg t):zdy P w K mg base CX0 2 t.zdT t.zdO ["_law_thing"] (spD K 1 zaP) :=
 zaL T.zfZ zhY fun cdv A outer s0 H H₀ E hr=>(
 (zac (zbG (DW.dt (zdn (zbS (zbR (zbm zd3 rfl T.n_isinstance rfl T.n_tuple PyProof.Rows.Boot.«tuple» (dv 0)))) (za2 (zaG (zfq hr.units) ziQ (zaD zaS zbT rfl T.n_len PyProof.Rows.Boot.«len» (zaa (dv 0) zai)) zae nm))))
 (zac (zaK zdo)
 zag)
 zag)
 (zac (zbG (DW.dt (zdn (zbS (zbR (zax ((zeM T).mono (by decide:1<=1)) hr rfl T.zfC T.zd8.kp T.zc0 zcb (zaa (zak (dv 0) zae) zai) rfl (fun ρ ds h=>(fun _ h=>zah (fun _ h=>zap h) h) ds h)))) (zdn (zbS (zbR (zax ((zeM T).mono (by decide:1<=1)) hr rfl T.zfC T.zd8.kp T.zc0 zcb (zaa (zak (dv 0) zae) zai) rfl (fun ρ ds h=>(fun _ h=>zah (fun _ h=>zap h) h) ds h)))) (za2 (zaG zk1 (zbq fun _ _ _ _=>rb _) (zak (dv 0) zae) zae nm)))))
 (zac (zaK zdo)
 zag)
 zag)
 (zac (zaK (zgt (zcU hr.units) zft (zax ((zfr T).mono (by decide:1<=1)) hr rfl T.zgq T.zel.kp T.zbH zcb (zaa (zak (dv 0) zae) (zaa (zak (dv 0) zae) zai)) rfl (fun ρ ds h=>(fun _ h=>zah (fun _ h=>zah (fun _ h=>zap h) h) h) ds h)) zae nm))
 zag))))
theorem ztO (T:Txt K mg t):zdy P w K mg base CX0 9 t.zmn t.znE ["_law_script"] (spD K 1 zoD) :=
 zaL T.zvK zdC fun cdv A outer s0 H H₀ E hr=>(
 (zac (zaB (i:=1) zdC.nd rfl (Or.inr rfl) (zax ((zl0 T).mono (by decide:5<=8)) hr rfl T.znz T.zjS.kp T.zgh zcb (zaa (dv 0) (zaa zae zai)) rfl (fun ρ ds h=>(fun _ h=>zah (fun _ h=>zah (fun _ h=>zap h) h) h) ds h)))
 (zac (zaB (i:=2) zdC.nd rfl (Or.inl rfl) (zdK (zaa (zeT zfN zmi rfl T.n_list PyProof.Rows.Boot.«list» (zaa (zak (dv 1) zae) zai)) (zaa (zeT zfN zmi rfl T.n_list PyProof.Rows.Boot.«list» (zaa (zak (dv 1) zae) zai)) (zaa (zak (dv 1) zae) (zaa (zak (dv 1) zae) zai))))))
 (zac (zaB (i:=3) zdC.nd rfl (Or.inr rfl) (zsx (zue ["_law_k","_law_web_here"] 1 [1] rfl (zi7 rfl T.n_range (zaD zaS zbT rfl T.n_len PyProof.Rows.Boot.«len» (zaa (zak (dv 1) zae) zai))) (zgX (by decide)) (fun s H C fp pn=>⟨fun He H0e=>(zdJ (i:=0) (show List.Nodup (["_law_k","_law_web_here"]:List Str) from by decide) rfl (Or.inl rfl)),(zme (zaG zor zox (zak (zak (zak (dv 1) zae) (dv 0)) zae) zdL nm)),(dv 0)⟩) ⟨rfl,rfl⟩ rfl rfl rfl rfl)))
 (zac (zre PassesOwn.never rfl (zaE (zaY (dv 0) (zaZ zae) (zaZ zae)) (zbI (zaa zae zai))) (zdJ (i:=4) zdC.nd rfl (Or.inl rfl)) zen
 (zac (zaB (i:=5) zdC.nd rfl (Or.inl rfl) (zbI (zaa zae (zaa (zfE (zjL zae zae) zae) (zaa (zfE (zjL zae zae) zae) zai)))))
 (zac (zaB (i:=6) zdC.nd rfl (Or.inr rfl) (zax ((zdk T).mono (by decide:1<=8)) hr rfl T.zd6 T.zc2.kp T.zbV zcb (zaa (dv 4) (zaa (zaE (zaE (zaE (zbI (zaa zae (zaa zae (zaa zae (zaa zae (zaa zae zai)))))) (zmZ (zjK (zaa zae zai)) zae)) (dv 5)) (zbI (zaa (zfE (zjL zae zae) zae) zai))) zai)) rfl (fun ρ ds h=>(fun _ h=>zah (fun _ h=>zah (fun _ h=>zap h) h) h) ds h)))
 (zac (zo2 (i:=7) zdC.nd rfl rfl zjc (zue ["_law_k","_law_free","_law_digits"] 1 [3,6] rfl (zi7 rfl T.n_range (zaD zaS zbT rfl T.n_len PyProof.Rows.Boot.«len» (zaa (dv 3) zai))) (zgX (by decide)) (fun s H C fp pn=>⟨fun He H0e=>(zdJ (i:=0) (show List.Nodup (["_law_k","_law_free","_law_digits"]:List Str) from by decide) rfl (Or.inl rfl)),(zme (zaG (zcU hr.units) zft (zak (dv 2) (zaE zae (dv 0))) zae nm)),(zak (dv 1) (dv 0))⟩) ⟨rfl,rfl⟩ rfl rfl rfl rfl))
 (zac (zbG (zaG (zcU hr.units) zft (zak (dv 6) zae) zae nm)
 (zac (zaB (i:=7) zdC.nd rfl (Or.inl rfl) (zaY (dv 7) zda (zaZ zae)))
 zag)
 zag)
 (zac (zaB (i:=8) zdC.nd rfl (Or.inl rfl) (zax ((ziP T).mono (by decide:1<=8)) hr rfl T.zjt T.zgw.kp T.zaC zcb (zaa (dv 1) (zaa (dv 7) (zaa (zaE (zaY (dv 6) zda (zaZ zae)) (zaY (dv 6) (zaZ zae) (zaZ zae))) zai))) rfl (fun ρ ds h=>(fun _ h=>zah (fun _ h=>zah (fun _ h=>zah (fun _ h=>zap h) h) h) h) ds h)))
 (zac (zaB (i:=9) zdC.nd rfl (Or.inl rfl) (dv 8))
 (zac (zbG (zbR (zbm zdF rfl T.n_isinstance rfl T.n_list PyProof.Rows.Boot.«list» (dv 8)))
 (zac (zaB (i:=9) zdC.nd rfl (Or.inl rfl) (zeT zfN zmi rfl T.n_list PyProof.Rows.Boot.«list» (zaa (dv 8) zai)))
 zag)
 zag)
 (zac (zaB (i:=10) zdC.nd rfl (Or.inl rfl) (zak (zbI (zaa zbo (zaa zbo zai))) (zeT zjh zpk rfl T.n_int PyProof.Rows.Boot.«int» (zaa (zax ((zhp T).mono (by decide:2<=8)) hr rfl T.zh7 T.ze6.kp T.zbz zcb (zaa (dv 1) (zaa (dv 8) zai)) rfl (fun ρ ds h=>(fun _ h=>zah (fun _ h=>zah (fun _ h=>zap h) h) h) ds h)) zai))))
 (zac (zbG (DW.dt (zdn (zaG (zfq hr.units) ziQ (zax ((zg1 T).mono (by decide:8<=8)) hr rfl T.zhQ T.zf0.kp T.zci zcb (zaa (dv 1) (zaa (dv 9) (zaa zdo zai))) rfl (fun ρ ds h=>(fun _ h=>zah (fun _ h=>zah (fun _ h=>zah (fun _ h=>zap h) h) h) h) ds h)) (dv 10) nm) (zdn (zaG (ztK hr.units) ztP (dv 9) (dv 8) nm) (za2 (zaG (zfq hr.units) ziQ (dv 1) (dv 2) nm)))))
 (zac (zaK zdo)
 zag)
 zag)
 (zac (zaB (i:=11) zdC.nd rfl (Or.inl rfl) (zax ((zkb T).mono (by decide:4<=8)) hr rfl T.zlc T.zhS.kp T.zc1 zcb (zaa (zaY (dv 6) (zaZ zae) (zaZ zae)) (zaa (zak (dv 6) zae) (zaa (zak (dv 6) zae) zai))) rfl (fun ρ ds h=>(fun _ h=>zah (fun _ h=>zah (fun _ h=>zah (fun _ h=>zap h) h) h) h) ds h)))
 (zac (zaB (i:=10) zdC.nd rfl (Or.inl rfl) (zak (zbI (zaa zbo (zaa zbo zai))) (zeT zjh zpk rfl T.n_int PyProof.Rows.Boot.«int» (zaa (zhf (zax ((zh2 T).mono (by decide:2<=8)) hr rfl T.zi4 T.zfZ.kp T.zbU zcb (zaa (dv 11) zai) rfl (fun ρ ds h=>(fun _ h=>zah (fun _ h=>zap h) h) ds h)) (zgs (zgt znk (zbq fun _ _ _ _=>rb _) (zak (dv 11) zae) zae nm))) zai))))
 (zac (zbG (zaG (zfq hr.units) ziQ (zax ((zg1 T).mono (by decide:8<=8)) hr rfl T.zhQ T.zf0.kp T.zci zcb (zaa (dv 1) (zaa (dv 11) (zaa zdo zai))) rfl (fun ρ ds h=>(fun _ h=>zah (fun _ h=>zah (fun _ h=>zah (fun _ h=>zap h) h) h) h) ds h)) (dv 10) nm)
 (zac (zaK zdo)
 zag)
 zag)
 zag)))))))))))))
 (zac (zaK zdo)
 zag))))))
end
theorem txt_mk {K:W.Frag}{h:Heap}{mg:Str->Option Value}(X:K.In h)(G:h.Ns mainGlobals mg){zcS:Addr}{zaH:Addr}{zao:Addr}{zam:Addr}{zav:Addr}{a_0:Addr}{a_1:Addr}{a_2:Addr}{a_3:Addr}{a_4:Addr}{a_5:Addr}{a_6:Addr}{a_7:Addr}{a_8:Addr}{a_9:Addr}{a_10:Addr}{a_11:Addr}{a_12:Addr}{a_13:Addr}{a_14:Addr}{a_15:Addr}{a_16:Addr}{a_17:Addr}{a_18:Addr}{a_19:Addr}{a_20:Addr}{a_21:Addr}{a_22:Addr}{a_23:Addr}{a_24:Addr}{a_25:Addr}{a_26:Addr}{a_27:Addr}{a_28:Addr}
  {oc_0 kV_0 dc_0 pm_0 cd_0 ct_0:Value}{od_0 an_0:Option Addr}{sl_0:Array (Option Value)}
  (e1_0:W.nsIn K mainGlobals "_law_cell_at"=some (some (.ref a_0))) (e2_0:K.lookup a_0=some ⟨oc_0,od_0,.func (W.fnOf "_law_cell_at" "_law_cell_at" (defArgs zb7) (defBody zb7) (defScope zb7) .none kV_0 dc_0 pm_0 an_0 cd_0 ct_0),sl_0⟩) (e3_0:W.codeIn K cd_0 "_law_cell_at"=true) (e4_0:W.keepIn K (.ref a_0)=true)
  {oc_1 kV_1 dc_1 pm_1 cd_1 ct_1:Value}{od_1 an_1:Option Addr}{sl_1:Array (Option Value)}
  (e1_1:W.nsIn K mainGlobals "_law_draws"=some (some (.ref a_1))) (e2_1:K.lookup a_1=some ⟨oc_1,od_1,.func (W.fnOf "_law_draws" "_law_draws" (defArgs zcE) (defBody zcE) (defScope zcE) .none kV_1 dc_1 pm_1 an_1 cd_1 ct_1),sl_1⟩) (e3_1:W.codeIn K cd_1 "_law_draws"=true) (e4_1:W.keepIn K (.ref a_1)=true)
  {oc_2 kV_2 dc_2 pm_2 cd_2 ct_2:Value}{od_2 an_2:Option Addr}{sl_2:Array (Option Value)}
  (e1_2:W.nsIn K mainGlobals "_law_names"=some (some (.ref a_2))) (e2_2:K.lookup a_2=some ⟨oc_2,od_2,.func (W.fnOf "_law_names" "_law_names" (defArgs zcD) (defBody zcD) (defScope zcD) .none kV_2 dc_2 pm_2 an_2 cd_2 ct_2),sl_2⟩) (e3_2:W.codeIn K cd_2 "_law_names"=true) (e4_2:W.keepIn K (.ref a_2)=true)
  {oc_3 kV_3 dc_3 pm_3 cd_3 ct_3:Value}{od_3 an_3:Option Addr}{sl_3:Array (Option Value)}
  (e1_3:W.nsIn K mainGlobals "_law_divisor"=some (some (.ref a_3))) (e2_3:K.lookup a_3=some ⟨oc_3,od_3,.func (W.fnOf "_law_divisor" "_law_divisor" (defArgs zb6) (defBody zb6) (defScope zb6) .none kV_3 dc_3 pm_3 an_3 cd_3 ct_3),sl_3⟩) (e3_3:W.codeIn K cd_3 "_law_divisor"=true) (e4_3:W.keepIn K (.ref a_3)=true)
  {oc_4 kV_4 dc_4 pm_4 cd_4 ct_4:Value}{od_4 an_4:Option Addr}{sl_4:Array (Option Value)}
  (e1_4:W.nsIn K mainGlobals "_law_lowest"=some (some (.ref a_4))) (e2_4:K.lookup a_4=some ⟨oc_4,od_4,.func (W.fnOf "_law_lowest" "_law_lowest" (defArgs zcm) (defBody zcm) (defScope zcm) .none kV_4 dc_4 pm_4 an_4 cd_4 ct_4),sl_4⟩) (e3_4:W.codeIn K cd_4 "_law_lowest"=true) (e4_4:W.keepIn K (.ref a_4)=true)
  {oc_5 kV_5 dc_5 pm_5 cd_5 ct_5:Value}{od_5 an_5:Option Addr}{sl_5:Array (Option Value)}
  (e1_5:W.nsIn K mainGlobals "_law_fraction"=some (some (.ref a_5))) (e2_5:K.lookup a_5=some ⟨oc_5,od_5,.func (W.fnOf "_law_fraction" "_law_fraction" (defArgs zbO) (defBody zbO) (defScope zbO) .none kV_5 dc_5 pm_5 an_5 cd_5 ct_5),sl_5⟩) (e3_5:W.codeIn K cd_5 "_law_fraction"=true) (e4_5:W.keepIn K (.ref a_5)=true)
  {oc_6 kV_6 dc_6 pm_6 cd_6 ct_6:Value}{od_6 an_6:Option Addr}{sl_6:Array (Option Value)}
  (e1_6:W.nsIn K mainGlobals "_law_tie"=some (some (.ref a_6))) (e2_6:K.lookup a_6=some ⟨oc_6,od_6,.func (W.fnOf "_law_tie" "_law_tie" (defArgs zdv) (defBody zdv) (defScope zdv) .none kV_6 dc_6 pm_6 an_6 cd_6 ct_6),sl_6⟩) (e3_6:W.codeIn K cd_6 "_law_tie"=true) (e4_6:W.keepIn K (.ref a_6)=true)
  {oc_7 kV_7 dc_7 pm_7 cd_7 ct_7:Value}{od_7 an_7:Option Addr}{sl_7:Array (Option Value)}
  (e1_7:W.nsIn K mainGlobals "_law_web"=some (some (.ref a_7))) (e2_7:K.lookup a_7=some ⟨oc_7,od_7,.func (W.fnOf "_law_web" "_law_web" (defArgs zdu) (defBody zdu) (defScope zdu) .none kV_7 dc_7 pm_7 an_7 cd_7 ct_7),sl_7⟩) (e3_7:W.codeIn K cd_7 "_law_web"=true) (e4_7:W.keepIn K (.ref a_7)=true)
  {oc_8 kV_8 dc_8 pm_8 cd_8 ct_8:Value}{od_8 an_8:Option Addr}{sl_8:Array (Option Value)}
  (e1_8:W.nsIn K mainGlobals "_law_spoiled"=some (some (.ref a_8))) (e2_8:K.lookup a_8=some ⟨oc_8,od_8,.func (W.fnOf "_law_spoiled" "_law_spoiled" (defArgs zb5) (defBody zb5) (defScope zb5) .none kV_8 dc_8 pm_8 an_8 cd_8 ct_8),sl_8⟩) (e3_8:W.codeIn K cd_8 "_law_spoiled"=true) (e4_8:W.keepIn K (.ref a_8)=true)
  {oc_9 kV_9 dc_9 pm_9 cd_9 ct_9:Value}{od_9 an_9:Option Addr}{sl_9:Array (Option Value)}
  (e1_9:W.nsIn K mainGlobals "_law_whole"=some (some (.ref a_9))) (e2_9:K.lookup a_9=some ⟨oc_9,od_9,.func (W.fnOf "_law_whole" "_law_whole" (defArgs zcB) (defBody zcB) (defScope zcB) .none kV_9 dc_9 pm_9 an_9 cd_9 ct_9),sl_9⟩) (e3_9:W.codeIn K cd_9 "_law_whole"=true) (e4_9:W.keepIn K (.ref a_9)=true)
  {oc_10 kV_10 dc_10 pm_10 cd_10 ct_10:Value}{od_10 an_10:Option Addr}{sl_10:Array (Option Value)}
  (e1_10:W.nsIn K mainGlobals "_law_is_taking"=some (some (.ref a_10))) (e2_10:K.lookup a_10=some ⟨oc_10,od_10,.func (W.fnOf "_law_is_taking" "_law_is_taking" (defArgs zbv) (defBody zbv) (defScope zbv) .none kV_10 dc_10 pm_10 an_10 cd_10 ct_10),sl_10⟩) (e3_10:W.codeIn K cd_10 "_law_is_taking"=true) (e4_10:W.keepIn K (.ref a_10)=true)
  {oc_11 kV_11 dc_11 pm_11 cd_11 ct_11:Value}{od_11 an_11:Option Addr}{sl_11:Array (Option Value)}
  (e1_11:W.nsIn K mainGlobals "is_name"=some (some (.ref a_11))) (e2_11:K.lookup a_11=some ⟨oc_11,od_11,.func (W.fnOf "is_name" "is_name" (defArgs zer) (defBody zer) (defScope zer) .none kV_11 dc_11 pm_11 an_11 cd_11 ct_11),sl_11⟩) (e3_11:W.codeIn K cd_11 "is_name"=true) (e4_11:W.keepIn K (.ref a_11)=true)
  {oc_12 kV_12 dc_12 pm_12 cd_12 ct_12:Value}{od_12 an_12:Option Addr}{sl_12:Array (Option Value)}
  (e1_12:W.nsIn K mainGlobals "look_at_places"=some (some (.ref a_12))) (e2_12:K.lookup a_12=some ⟨oc_12,od_12,.func (W.fnOf "look_at_places" "look_at_places" (defArgs zbt) (defBody zbt) (defScope zbt) .none kV_12 dc_12 pm_12 an_12 cd_12 ct_12),sl_12⟩) (e3_12:W.codeIn K cd_12 "look_at_places"=true) (e4_12:W.keepIn K (.ref a_12)=true)
  {oc_13 kV_13 dc_13 pm_13 cd_13 ct_13:Value}{od_13 an_13:Option Addr}{sl_13:Array (Option Value)}
  (e1_13:W.nsIn K mainGlobals "is_whole"=some (some (.ref a_13))) (e2_13:K.lookup a_13=some ⟨oc_13,od_13,.func (W.fnOf "is_whole" "is_whole" (defArgs zdr) (defBody zdr) (defScope zdr) .none kV_13 dc_13 pm_13 an_13 cd_13 ct_13),sl_13⟩) (e3_13:W.codeIn K cd_13 "is_whole"=true) (e4_13:W.keepIn K (.ref a_13)=true)
  {oc_14 kV_14 dc_14 pm_14 cd_14 ct_14:Value}{od_14 an_14:Option Addr}{sl_14:Array (Option Value)}
  (e1_14:W.nsIn K mainGlobals "common_divisor"=some (some (.ref a_14))) (e2_14:K.lookup a_14=some ⟨oc_14,od_14,.func (W.fnOf "common_divisor" "common_divisor" (defArgs zbu) (defBody zbu) (defScope zbu) .none kV_14 dc_14 pm_14 an_14 cd_14 ct_14),sl_14⟩) (e3_14:W.codeIn K cd_14 "common_divisor"=true) (e4_14:W.keepIn K (.ref a_14)=true)
  {oc_15 kV_15 dc_15 pm_15 cd_15 ct_15:Value}{od_15 an_15:Option Addr}{sl_15:Array (Option Value)}
  (e1_15:W.nsIn K mainGlobals "is_ratio"=some (some (.ref a_15))) (e2_15:K.lookup a_15=some ⟨oc_15,od_15,.func (W.fnOf "is_ratio" "is_ratio" (defArgs zds) (defBody zds) (defScope zds) .none kV_15 dc_15 pm_15 an_15 cd_15 ct_15),sl_15⟩) (e3_15:W.codeIn K cd_15 "is_ratio"=true) (e4_15:W.keepIn K (.ref a_15)=true)
  {oc_16 kV_16 dc_16 pm_16 cd_16 ct_16:Value}{od_16 an_16:Option Addr}{sl_16:Array (Option Value)}
  (e1_16:W.nsIn K mainGlobals "is_length"=some (some (.ref a_16))) (e2_16:K.lookup a_16=some ⟨oc_16,od_16,.func (W.fnOf "is_length" "is_length" (defArgs zcN) (defBody zcN) (defScope zcN) .none kV_16 dc_16 pm_16 an_16 cd_16 ct_16),sl_16⟩) (e3_16:W.codeIn K cd_16 "is_length"=true) (e4_16:W.keepIn K (.ref a_16)=true)
  {oc_17 kV_17 dc_17 pm_17 cd_17 ct_17:Value}{od_17 an_17:Option Addr}{sl_17:Array (Option Value)}
  (e1_17:W.nsIn K mainGlobals "is_worth"=some (some (.ref a_17))) (e2_17:K.lookup a_17=some ⟨oc_17,od_17,.func (W.fnOf "is_worth" "is_worth" (defArgs zdq) (defBody zdq) (defScope zdq) .none kV_17 dc_17 pm_17 an_17 cd_17 ct_17),sl_17⟩) (e3_17:W.codeIn K cd_17 "is_worth"=true) (e4_17:W.keepIn K (.ref a_17)=true)
  {oc_18 kV_18 dc_18 pm_18 cd_18 ct_18:Value}{od_18 an_18:Option Addr}{sl_18:Array (Option Value)}
  (e1_18:W.nsIn K mainGlobals "is_tie"=some (some (.ref a_18))) (e2_18:K.lookup a_18=some ⟨oc_18,od_18,.func (W.fnOf "is_tie" "is_tie" (defArgs zf6) (defBody zf6) (defScope zf6) .none kV_18 dc_18 pm_18 an_18 cd_18 ct_18),sl_18⟩) (e3_18:W.codeIn K cd_18 "is_tie"=true) (e4_18:W.keepIn K (.ref a_18)=true)
  {oc_19 kV_19 dc_19 pm_19 cd_19 ct_19:Value}{od_19 an_19:Option Addr}{sl_19:Array (Option Value)}
  (e1_19:W.nsIn K mainGlobals "look_at_ties"=some (some (.ref a_19))) (e2_19:K.lookup a_19=some ⟨oc_19,od_19,.func (W.fnOf "look_at_ties" "look_at_ties" (defArgs zb4) (defBody zb4) (defScope zb4) .none kV_19 dc_19 pm_19 an_19 cd_19 ct_19),sl_19⟩) (e3_19:W.codeIn K cd_19 "look_at_ties"=true) (e4_19:W.keepIn K (.ref a_19)=true)
  {oc_20 kV_20 dc_20 pm_20 cd_20 ct_20:Value}{od_20 an_20:Option Addr}{sl_20:Array (Option Value)}
  (e1_20:W.nsIn K mainGlobals "is_place"=some (some (.ref a_20))) (e2_20:K.lookup a_20=some ⟨oc_20,od_20,.func (W.fnOf "is_place" "is_place" (defArgs zdt) (defBody zdt) (defScope zdt) .none kV_20 dc_20 pm_20 an_20 cd_20 ct_20),sl_20⟩) (e3_20:W.codeIn K cd_20 "is_place"=true) (e4_20:W.keepIn K (.ref a_20)=true)
  {oc_21 kV_21 dc_21 pm_21 cd_21 ct_21:Value}{od_21 an_21:Option Addr}{sl_21:Array (Option Value)}
  (e1_21:W.nsIn K mainGlobals "look_at_web"=some (some (.ref a_21))) (e2_21:K.lookup a_21=some ⟨oc_21,od_21,.func (W.fnOf "look_at_web" "look_at_web" (defArgs zcl) (defBody zcl) (defScope zcl) .none kV_21 dc_21 pm_21 an_21 cd_21 ct_21),sl_21⟩) (e3_21:W.codeIn K cd_21 "look_at_web"=true) (e4_21:W.keepIn K (.ref a_21)=true)
  {oc_22 kV_22 dc_22 pm_22 cd_22 ct_22:Value}{od_22 an_22:Option Addr}{sl_22:Array (Option Value)}
  (e1_22:W.nsIn K mainGlobals "is_tie_number"=some (some (.ref a_22))) (e2_22:K.lookup a_22=some ⟨oc_22,od_22,.func (W.fnOf "is_tie_number" "is_tie_number" (defArgs zbM) (defBody zbM) (defScope zbM) .none kV_22 dc_22 pm_22 an_22 cd_22 ct_22),sl_22⟩) (e3_22:W.codeIn K cd_22 "is_tie_number"=true) (e4_22:W.keepIn K (.ref a_22)=true)
  {oc_23 kV_23 dc_23 pm_23 cd_23 ct_23:Value}{od_23 an_23:Option Addr}{sl_23:Array (Option Value)}
  (e1_23:W.nsIn K mainGlobals "look_at_taking"=some (some (.ref a_23))) (e2_23:K.lookup a_23=some ⟨oc_23,od_23,.func (W.fnOf "look_at_taking" "look_at_taking" (defArgs zbs) (defBody zbs) (defScope zbs) .none kV_23 dc_23 pm_23 an_23 cd_23 ct_23),sl_23⟩) (e3_23:W.codeIn K cd_23 "look_at_taking"=true) (e4_23:W.keepIn K (.ref a_23)=true)
  {oc_24 kV_24 dc_24 pm_24 cd_24 ct_24:Value}{od_24 an_24:Option Addr}{sl_24:Array (Option Value)}
  (e1_24:W.nsIn K mainGlobals "look_at_purse"=some (some (.ref a_24))) (e2_24:K.lookup a_24=some ⟨oc_24,od_24,.func (W.fnOf "look_at_purse" "look_at_purse" (defArgs zbL) (defBody zbL) (defScope zbL) .none kV_24 dc_24 pm_24 an_24 cd_24 ct_24),sl_24⟩) (e3_24:W.codeIn K cd_24 "look_at_purse"=true) (e4_24:W.keepIn K (.ref a_24)=true)
  {oc_25 kV_25 dc_25 pm_25 cd_25 ct_25:Value}{od_25 an_25:Option Addr}{sl_25:Array (Option Value)}
  (e1_25:W.nsIn K mainGlobals "_law_class"=some (some (.ref a_25))) (e2_25:K.lookup a_25=some ⟨oc_25,od_25,.func (W.fnOf "_law_class" "_law_class" (defArgs zcF) (defBody zcF) (defScope zcF) .none kV_25 dc_25 pm_25 an_25 cd_25 ct_25),sl_25⟩) (e3_25:W.codeIn K cd_25 "_law_class"=true) (e4_25:W.keepIn K (.ref a_25)=true)
  {oc_26 kV_26 dc_26 pm_26 cd_26 ct_26:Value}{od_26 an_26:Option Addr}{sl_26:Array (Option Value)}
  (e1_26:W.nsIn K mainGlobals "_law_purse"=some (some (.ref a_26))) (e2_26:K.lookup a_26=some ⟨oc_26,od_26,.func (W.fnOf "_law_purse" "_law_purse" (defArgs zcC) (defBody zcC) (defScope zcC) .none kV_26 dc_26 pm_26 an_26 cd_26 ct_26),sl_26⟩) (e3_26:W.codeIn K cd_26 "_law_purse"=true) (e4_26:W.keepIn K (.ref a_26)=true)
  {oc_27 kV_27 dc_27 pm_27 cd_27 ct_27:Value}{od_27 an_27:Option Addr}{sl_27:Array (Option Value)}
  (e1_27:W.nsIn K mainGlobals "_law_is_ratio"=some (some (.ref a_27))) (e2_27:K.lookup a_27=some ⟨oc_27,od_27,.func (W.fnOf "_law_is_ratio" "_law_is_ratio" (defArgs zbN) (defBody zbN) (defScope zbN) .none kV_27 dc_27 pm_27 an_27 cd_27 ct_27),sl_27⟩) (e3_27:W.codeIn K cd_27 "_law_is_ratio"=true) (e4_27:W.keepIn K (.ref a_27)=true)
  {oc_28 kV_28 dc_28 pm_28 cd_28 ct_28:Value}{od_28 an_28:Option Addr}{sl_28:Array (Option Value)}
  (e1_28:W.nsIn K mainGlobals "law"=some (some (.ref a_28))) (e2_28:K.lookup a_28=some ⟨oc_28,od_28,.func (W.fnOf "law" "law" (defArgs zhZ) (defBody zhZ) (defScope zhZ) .none kV_28 dc_28 pm_28 an_28 cd_28 ct_28),sl_28⟩) (e3_28:W.codeIn K cd_28 "law"=true) (e4_28:W.keepIn K (.ref a_28)=true)
  (z_ValueError:W.nsIn K mainGlobals "ValueError"=some none)
  (z_abs:W.nsIn K mainGlobals "abs"=some none)
  (z_all:W.nsIn K mainGlobals "all"=some none)
  (z_bool:W.nsIn K mainGlobals "bool"=some none)
  (z_enumerate:W.nsIn K mainGlobals "enumerate"=some none)
  (z_int:W.nsIn K mainGlobals "int"=some none)
  (z_isinstance:W.nsIn K mainGlobals "isinstance"=some none)
  (z_len:W.nsIn K mainGlobals "len"=some none)
  (z_list:W.nsIn K mainGlobals "list"=some none)
  (z_max:W.nsIn K mainGlobals "max"=some none)
  (z_range:W.nsIn K mainGlobals "range"=some none)
  (z_sorted:W.nsIn K mainGlobals "sorted"=some none)
  (z_str:W.nsIn K mainGlobals "str"=some none)
  (z_tuple:W.nsIn K mainGlobals "tuple"=some none)
  (zd2:W.nsIn K mainGlobals "CutError"=some (some (.ref zaH))) (zfx:W.typeIn K (.ref zaH)=some (.type "type")) (zfy:W.mroIn K zaH (.type "object")=some true) (zfA:W.subIn K (.ref zaH) (.type "BaseException")=some true)
  (zdE:W.nsIn K mainGlobals "NoPurse"=some (some (.ref zao))) (zeO:W.typeIn K (.ref zao)=some (.type "type")) (zeP:W.mroIn K zao (.type "object")=some true) (zeQ:W.subIn K (.ref zao) (.type "BaseException")=some true)
  (zcW:W.nsIn K mainGlobals "NoTaking"=some (some (.ref zam))) (zd0:W.typeIn K (.ref zam)=some (.type "type")) (zd1:W.mroIn K zam (.type "object")=some true) (zd4:W.subIn K (.ref zam) (.type "BaseException")=some true)
  (zfz:W.nsIn K mainGlobals "NoWeb"=some (some (.ref zav))) (zg4:W.typeIn K (.ref zav)=some (.type "type")) (zg5:W.mroIn K zav (.type "object")=some true) (zg6:W.subIn K (.ref zav) (.type "BaseException")=some true)
  (zfl:W.findIn K (.ref zao) "__class__"=some (some (.builtin "object.__class__"))) (zgI:W.findIn K (.ref zao) "__getattribute__"=some (some (.builtin "BaseException.__getattribute__"))) (zgH:W.findIn K (.ref zao) "__getattr__"=some none) (zgF:W.subIn K (.ref zao) (.type "NoneType")=some false) (zgE:W.subIn K (.ref zao) (.type "bool")=some false) (zgD:W.subIn K (.ref zao) (.type "int")=some false) (zgC:W.subIn K (.ref zao) (.type "str")=some false) (zgB:W.subIn K (.ref zao) (.type "tuple")=some false) (zgA:W.subIn K (.ref zao) (.type "list")=some false) (zgz:W.subIn K (.ref zao) (.type "dict")=some false) (zgy:W.subIn K (.ref zao) (.type "ValueError")=some true) (zeE:W.subIn K (.ref zao) (.ref zao)=some true) (zgJ:W.excIn K zao [.type "ValueError",.type "Exception",.type "BaseException",.type "object"] "ValueError.__new__"=true)
  (zeI:W.findIn K (.ref zam) "__class__"=some (some (.builtin "object.__class__"))) (zfi:W.findIn K (.ref zam) "__getattribute__"=some (some (.builtin "BaseException.__getattribute__"))) (zfh:W.findIn K (.ref zam) "__getattr__"=some none) (zfe:W.subIn K (.ref zam) (.type "NoneType")=some false) (zfd:W.subIn K (.ref zam) (.type "bool")=some false) (zfc:W.subIn K (.ref zam) (.type "int")=some false) (zfb:W.subIn K (.ref zam) (.type "str")=some false) (zfa:W.subIn K (.ref zam) (.type "tuple")=some false) (ze9:W.subIn K (.ref zam) (.type "list")=some false) (ze8:W.subIn K (.ref zam) (.type "dict")=some false) (ze7:W.subIn K (.ref zam) (.type "ValueError")=some true) (zea:W.subIn K (.ref zam) (.ref zam)=some true) (zfk:W.excIn K zam [.type "ValueError",.type "Exception",.type "BaseException",.type "object"] "ValueError.__new__"=true)
  (zhk:W.findIn K (.ref zav) "__class__"=some (some (.builtin "object.__class__"))) (ziE:W.findIn K (.ref zav) "__getattribute__"=some (some (.builtin "BaseException.__getattribute__"))) (ziD:W.findIn K (.ref zav) "__getattr__"=some none) (ziA:W.subIn K (.ref zav) (.type "NoneType")=some false) (ziz:W.subIn K (.ref zav) (.type "bool")=some false) (ziy:W.subIn K (.ref zav) (.type "int")=some false) (zix:W.subIn K (.ref zav) (.type "str")=some false) (ziw:W.subIn K (.ref zav) (.type "tuple")=some false) (ziv:W.subIn K (.ref zav) (.type "list")=some false) (ziu:W.subIn K (.ref zav) (.type "dict")=some false) (zit:W.subIn K (.ref zav) (.type "ValueError")=some true) (zgG:W.subIn K (.ref zav) (.ref zav)=some true)
  {zoz zoG zo9 zoj zln zpb:Value}{zow zpq:Option Addr}{zn1:Array (Option Value)}
  {zp7 zpV:Str}{zl3:Addr}{zqL zpL:List Value}{zql zqO:Bool}{zpN:List Str}{zpf:Option Bool}{zqD zqw:Option Addr}{zqi zqh zqg zqf zqe:Option Value}{zqI:Value}{zmV:Array DictEntry}{zqt:Nat}{zpM:Array (Option Value)}
  (zid:K.lookup zav=some (excClassObj zp7 zpV zav zl3 zqL [.ref zaH,.type "ValueError",.type "Exception",.type "BaseException",.type "object"] zql zpN zpL zqO zpf zqD zqi zqh zqg zqf zqe "ValueError.__new__")) (zic:K.lookup zl3=some ⟨zqI,zqw,.dict zmV zqt,zpM⟩) (zie:zmV.toList.all ztQ=true) (zib:W.nsIn K zl3 "__init__"=some (some (.ref zcS)))
  (zj6:W.isFn K (.ref zcS)=true) (zih:K.lookup zcS=some ⟨zoz,zow,.func (W.fnOf "__init__" "NoWeb.__init__" (defArgs zf5) (defBody zf5) (defScope zf5) .none zoG zo9 zoj zpq zln zpb),zn1⟩) (zig:W.codeIn K zln "NoWeb.__init__"=true) (zif:W.keepIn K (.ref zcS)=true)
  (ziB:W.findIn K (.ref zav) "__setattr__"=some (some (.builtin "object.__setattr__"))) (ziC:W.hasDictIn K zav=true) (zeb:W.findIn K (.ref zav) "part"=some none) (zc4:W.findIn K (.ref zav) "number"=some none)
  (zdX:W.excIn K zaH [.type "ValueError",.type "Exception",.type "BaseException",.type "object"] "ValueError.__new__"=true) (zfg:W.readsIn K zaH (.type "type")=true) (zfj:W.findCls K (.ref zaH) (.type "type") "__init__"=some (.val (.builtin "ValueError.__init__"))) (zff:W.specialIn K (.ref zaH) "__getattribute__"=some (some (.builtin "type.__getattribute__")))
  (zbD:W.subIn K (.ref zao) (.ref zaH)=some true)
  (zbP:W.subIn K (.ref zao) (.ref zao)=some true)
  (zbC:W.subIn K (.ref zao) (.ref zam)=some false)
  (zcf:W.subIn K (.ref zao) (.ref zav)=some false)
  (zbk:W.subIn K (.ref zam) (.ref zaH)=some true)
  (zbB:W.subIn K (.ref zam) (.ref zao)=some false)
  (zbj:W.subIn K (.ref zam) (.ref zam)=some true)
  (zb3:W.subIn K (.ref zam) (.ref zav)=some false)
  (zb2:W.subIn K (.ref zav) (.ref zaH)=some true)
  (zce:W.subIn K (.ref zav) (.ref zao)=some false)
  (zb1:W.subIn K (.ref zav) (.ref zam)=some false)
  (zcJ:W.subIn K (.ref zav) (.ref zav)=some true)
  {ziH:Tok}(zdz:W.nsIn K mainGlobals "FEWEST_PLACES"=some (some (.int 2 ziH)))
  {zrF:Tok}(zlC:W.nsIn K mainGlobals "FIRST"=some (some (.int 2 zrF)))
  {zs1:Tok}(znP:W.nsIn K mainGlobals "LAST"=some (some (.int 3 zs1)))
  {zpK:Tok}(zjW:W.nsIn K mainGlobals "LENGTH"=some (some (.int 3 zpK)))
  {znX:Tok}(zis:W.nsIn K mainGlobals "LETTERS"=some (some (.str "abcdefghijklmnopqrstuvwxyz" znX)))
  {zjp:Tok}(zd9:W.nsIn K mainGlobals "LONGEST_NAME"=some (some (.int 8 zjp)))
  {zjZ:Tok}(zeD:W.nsIn K mainGlobals "MOST_PLACES"=some (some (.int 7 zjZ)))
  {zlI:Tok}(zgx:W.nsIn K mainGlobals "MOST_TIES"=some (some (.int 14 zlI)))
  {zuK:Tok}(zrq:W.nsIn K mainGlobals "ONE"=some (some (.int 0 zuK)))
  {zrE:Tok}(zlB:W.nsIn K mainGlobals "OTHER"=some (some (.int 1 zrE)))
  {zpJ:Tok}(zjV:W.nsIn K mainGlobals "PLACES"=some (some (.int 0 zpJ)))
  {zs0:Tok}(znO:W.nsIn K mainGlobals "TIES"=some (some (.int 1 zs0)))
  {zsZ:Tok}(znN:W.nsIn K mainGlobals "WORD"=some (some (.int 2 zsZ)))
  {zob:Addr}{zoA:Obj}(zlA:W.nsIn K mainGlobals "WORDS"=some (some (.ref zob))) (zlE:K.lookup zob=some zoA) (zlF:∃ od its n sl vs,zoA=⟨.type "tuple",od,.seq its n,sl⟩/\zb0 vs its.toList/\its.size<=sizeLine/\∀ H,Reps K H [.str "one",.str "both"] vs)
  {zrD:Tok}(zlz:W.nsIn K mainGlobals "WORTH"=some (some (.int 4 zrD))) :
  ∃ t:Adr,Txt K mg t/\t.zmn=a_28/\∃ kV doc pm an cdv ct,t.znE=W.fnOf "law" "law" (defArgs zhZ) (defBody zhZ) (defScope zhZ) .none kV doc pm an cdv ct:=by
 refine⟨⟨zcS,_,zaH,zao,zam,zav,a_0,_,a_1,_,a_2,_,a_3,_,a_4,_,a_5,_,a_6,_,a_7,_,a_8,_,a_9,_,a_10,_,a_11,_,a_12,_,a_13,_,a_14,_,a_15,_,a_16,_,a_17,_,a_18,_,a_19,_,a_20,_,a_21,_,a_22,_,a_23,_,a_24,_,a_25,_,a_26,_,a_27,_,a_28,_⟩,⟨zay e2_0 e3_0 e4_0,?b_0,W.mg_of X G e1_0,zay e2_1 e3_1 e4_1,?b_1,W.mg_of X G e1_1,zay e2_2 e3_2 e4_2,?b_2,W.mg_of X G e1_2,zay e2_3 e3_3 e4_3,?b_3,W.mg_of X G e1_3,zay e2_4 e3_4 e4_4,?b_4,W.mg_of X G e1_4,zay e2_5 e3_5 e4_5,?b_5,W.mg_of X G e1_5,zay e2_6 e3_6 e4_6,?b_6,W.mg_of X G e1_6,zay e2_7 e3_7 e4_7,?b_7,W.mg_of X G e1_7,zay e2_8 e3_8 e4_8,?b_8,W.mg_of X G e1_8,zay e2_9 e3_9 e4_9,?b_9,W.mg_of X G e1_9,zay e2_10 e3_10 e4_10,?b_10,W.mg_of X G e1_10,zay e2_11 e3_11 e4_11,?b_11,W.mg_of X G e1_11,zay e2_12 e3_12 e4_12,?b_12,W.mg_of X G e1_12,zay e2_13 e3_13 e4_13,?b_13,W.mg_of X G e1_13,zay e2_14 e3_14 e4_14,?b_14,W.mg_of X G e1_14,zay e2_15 e3_15 e4_15,?b_15,W.mg_of X G e1_15,zay e2_16 e3_16 e4_16,?b_16,W.mg_of X G e1_16,zay e2_17 e3_17 e4_17,?b_17,W.mg_of X G e1_17,zay e2_18 e3_18 e4_18,?b_18,W.mg_of X G e1_18,zay e2_19 e3_19 e4_19,?b_19,W.mg_of X G e1_19,zay e2_20 e3_20 e4_20,?b_20,W.mg_of X G e1_20,zay e2_21 e3_21 e4_21,?b_21,W.mg_of X G e1_21,zay e2_22 e3_22 e4_22,?b_22,W.mg_of X G e1_22,zay e2_23 e3_23 e4_23,?b_23,W.mg_of X G e1_23,zay e2_24 e3_24 e4_24,?b_24,W.mg_of X G e1_24,zay e2_25 e3_25 e4_25,?b_25,W.mg_of X G e1_25,zay e2_26 e3_26 e4_26,?b_26,W.mg_of X G e1_26,zay e2_27 e3_27 e4_27,?b_27,W.mg_of X G e1_27,zay e2_28 e3_28 e4_28,?b_28,W.mg_of X G e1_28,W.mg_none_of X G z_ValueError,W.mg_none_of X G z_abs,W.mg_none_of X G z_all,W.mg_none_of X G z_bool,W.mg_none_of X G z_enumerate,W.mg_none_of X G z_int,W.mg_none_of X G z_isinstance,W.mg_none_of X G z_len,W.mg_none_of X G z_list,W.mg_none_of X G z_max,W.mg_none_of X G z_range,W.mg_none_of X G z_sorted,W.mg_none_of X G z_str,W.mg_none_of X G z_tuple,W.mg_of X G zd2,⟨zd2,zfx,zfy,zfA⟩,W.mg_of X G zdE,⟨zdE,zeO,zeP,zeQ⟩,W.mg_of X G zcW,⟨zcW,zd0,zd1,zd4⟩,W.mg_of X G zfz,⟨zfz,zg4,zg5,zg6⟩,⟨⟨zdE,zeO,zeP,zeQ⟩,zfl,zgI,zgH,zgF,zgE,zgD,zgC,zgB,zgA,zgz,zgy,zeE,zgJ⟩,⟨⟨zcW,zd0,zd1,zd4⟩,zeI,zfi,zfh,zfe,zfd,zfc,zfb,zfa,ze9,ze8,ze7,zea,zfk⟩,⟨⟨zfz,zg4,zg5,zg6⟩,zhk,ziE,ziD,ziA,ziz,ziy,zix,ziw,ziv,ziu,zit,zgG⟩,zay zih zig zif,?zdp,zqS zid zic zie zib zdX,zsM (zqS zid zic zie zib zdX) ziB ziC (zmH zeb ( zmH zc4 (zr7))),zj6,⟨zfg,zfj,zff⟩,zbD,zbP,zbC,zcf,zbk,zbB,zbj,zb3,zb2,zce,zb1,zcJ,?zdQ,?zkD,?zm5,?zkC,?zjj,?zeg,?zeW,?zgT,?zpn,?zji,?zgf,?zlo,?zm4,?zmk,?zkB⟩,rfl,_,_,_,_,_,_,rfl⟩
 case zdp=>exact(zay (st:=zf5) zih zig zif).binds fun _ _ _ _ _ _ us hl=>match us,hl with | [_,_,_],_=>rfl
 case b_0=>exact(zay (st:=zb7) e2_0 e3_0 e4_0).binds fun _ _ _ _ _ _ us hl=>match us,hl with | [_,_],_=>rfl
 case b_1=>exact(zay (st:=zcE) e2_1 e3_1 e4_1).binds fun _ _ _ _ _ _ us hl=>match us,hl with | [_,_],_=>rfl
 case b_2=>exact(zay (st:=zcD) e2_2 e3_2 e4_2).binds fun _ _ _ _ _ _ us hl=>match us,hl with | [_,_],_=>rfl
 case b_3=>exact(zay (st:=zb6) e2_3 e3_3 e4_3).binds fun _ _ _ _ _ _ us hl=>match us,hl with | [_,_],_=>rfl
 case b_4=>exact(zay (st:=zcm) e2_4 e3_4 e4_4).binds fun _ _ _ _ _ _ us hl=>match us,hl with | [_,_],_=>rfl
 case b_5=>exact(zay (st:=zbO) e2_5 e3_5 e4_5).binds fun _ _ _ _ _ _ us hl=>match us,hl with | [_,_],_=>rfl
 case b_6=>exact(zay (st:=zdv) e2_6 e3_6 e4_6).binds fun _ _ _ _ _ _ us hl=>match us,hl with | [_,_,_],_=>rfl
 case b_7=>exact(zay (st:=zdu) e2_7 e3_7 e4_7).binds fun _ _ _ _ _ _ us hl=>match us,hl with | [_,_],_=>rfl
 case b_8=>exact(zay (st:=zb5) e2_8 e3_8 e4_8).binds fun _ _ _ _ _ _ us hl=>match us,hl with | [_,_,_],_=>rfl
 case b_9=>exact(zay (st:=zcB) e2_9 e3_9 e4_9).binds fun _ _ _ _ _ _ us hl=>match us,hl with | [_],_=>rfl
 case b_10=>exact(zay (st:=zbv) e2_10 e3_10 e4_10).binds fun _ _ _ _ _ _ us hl=>match us,hl with | [_,_],_=>rfl
 case b_11=>exact(zay (st:=zer) e2_11 e3_11 e4_11).binds fun _ _ _ _ _ _ us hl=>match us,hl with | [_],_=>rfl
 case b_12=>exact(zay (st:=zbt) e2_12 e3_12 e4_12).binds fun _ _ _ _ _ _ us hl=>match us,hl with | [_],_=>rfl
 case b_13=>exact(zay (st:=zdr) e2_13 e3_13 e4_13).binds fun _ _ _ _ _ _ us hl=>match us,hl with | [_],_=>rfl
 case b_14=>exact(zay (st:=zbu) e2_14 e3_14 e4_14).binds fun _ _ _ _ _ _ us hl=>match us,hl with | [_,_],_=>rfl
 case b_15=>exact(zay (st:=zds) e2_15 e3_15 e4_15).binds fun _ _ _ _ _ _ us hl=>match us,hl with | [_],_=>rfl
 case b_16=>exact(zay (st:=zcN) e2_16 e3_16 e4_16).binds fun _ _ _ _ _ _ us hl=>match us,hl with | [_],_=>rfl
 case b_17=>exact(zay (st:=zdq) e2_17 e3_17 e4_17).binds fun _ _ _ _ _ _ us hl=>match us,hl with | [_],_=>rfl
 case b_18=>exact(zay (st:=zf6) e2_18 e3_18 e4_18).binds fun _ _ _ _ _ _ us hl=>match us,hl with | [_],_=>rfl
 case b_19=>exact(zay (st:=zb4) e2_19 e3_19 e4_19).binds fun _ _ _ _ _ _ us hl=>match us,hl with | [_,_],_=>rfl
 case b_20=>exact(zay (st:=zdt) e2_20 e3_20 e4_20).binds fun _ _ _ _ _ _ us hl=>match us,hl with | [_,_],_=>rfl
 case b_21=>exact(zay (st:=zcl) e2_21 e3_21 e4_21).binds fun _ _ _ _ _ _ us hl=>match us,hl with | [_],_=>rfl
 case b_22=>exact(zay (st:=zbM) e2_22 e3_22 e4_22).binds fun _ _ _ _ _ _ us hl=>match us,hl with | [_,_],_=>rfl
 case b_23=>exact(zay (st:=zbs) e2_23 e3_23 e4_23).binds fun _ _ _ _ _ _ us hl=>match us,hl with | [_,_],_=>rfl
 case b_24=>exact(zay (st:=zbL) e2_24 e3_24 e4_24).binds fun _ _ _ _ _ _ us hl=>match us,hl with | [_],_=>rfl
 case b_25=>exact(zay (st:=zcF) e2_25 e3_25 e4_25).binds fun _ _ _ _ _ _ us hl=>match us,hl with | [_,_,_],_=>rfl
 case b_26=>exact(zay (st:=zcC) e2_26 e3_26 e4_26).binds fun _ _ _ _ _ _ us hl=>match us,hl with | [_,_,_],_=>rfl
 case b_27=>exact(zay (st:=zbN) e2_27 e3_27 e4_27).binds fun _ _ _ _ _ _ us hl=>match us,hl with | [_],_=>rfl
 case b_28=>exact(zay (st:=zhZ) e2_28 e3_28 e4_28).binds fun _ _ _ _ _ _ us hl=>match us,hl with | [_],_=>rfl
 case zdQ=>exact zcQ (W.mg_of X G zdz)
 case zkD=>exact zcQ (W.mg_of X G zlC)
 case zm5=>exact zcQ (W.mg_of X G znP)
 case zkC=>exact zcQ (W.mg_of X G zjW)
 case zjj=>exact zsf (W.mg_of X G zis)
 case zeg=>exact zcQ (W.mg_of X G zd9)
 case zeW=>exact zcQ (W.mg_of X G zeD)
 case zgT=>exact zcQ (W.mg_of X G zgx)
 case zpn=>exact zcQ (W.mg_of X G zrq)
 case zji=>exact zcQ (W.mg_of X G zlB)
 case zgf=>exact zcQ (W.mg_of X G zjV)
 case zlo=>exact zcQ (W.mg_of X G znO)
 case zm4=>exact zcQ (W.mg_of X G znN)
 case zmk =>
  obtain⟨od,its,n,sl,vs,rfl,h1,h2,h3⟩:=zlF
  exact zse (W.mg_of X G zlA) zlE h1 h2 h3
 case zkB=>exact zcQ (W.mg_of X G zlz)
theorem txt_wr {K:W.Frag}{mg:Str->Option Value}{a:Addr}{R:Adr->Prop}(h:∃ t:Adr,Txt K mg t/\t.zmn=a/\R t):∃ t:Adr,Txt K mg t/\mg "law"=some (.ref t.zmn)/\R t:=h.elim fun t ⟨T,_,r⟩=>⟨t,T,T.zvr,r⟩
theorem zs8 (K:W.Frag)(H:Hp)(a:Addr)(ns:List Int)(hl:ns.length<=63)(hS:SqL K H a (ns.map V.int)):spD K 1 zoD [.ref a] H (fun v _=>v=.bl true) fun _ _ _=>False:=by
 refine⟨rfl,H,[.lst (ns.map D.int)],zaT.refl _,Reps.cons (Rep.lst_iff.mpr ⟨a,_,rfl,hS,Reps.ints ns⟩) Reps.nil,?_⟩
 rw[zqc ns hl]
 exact fun v H' H₀' _ r=>Rep.bl_iff.mp r
end K07
def PySem.W.Fast.tw16839048404126143712 : Nat := 0
def PySem.W.Fast.tw10886136630261926052 : Nat := 0
def PySem.W.Fast.tw11224081777374632685 : Nat := 0
def PySem.W.Fast.tw11263553724227928975 : Nat := 0
def PySem.W.Fast.tw14353169310354247637 : Nat := 0
def PySem.W.Fast.tw10308745631802284055 : Nat := 0
def PySem.W.Fast.tw9793851038839110906 : Nat := 0
def PySem.W.Fast.tw1416918140716067035 : Nat := 0
def PySem.W.Fast.tw13728854040174774077 : Nat := 0
def PySem.W.Fast.tw2417301014457253598 : Nat := 0
def PySem.W.Fast.tw8647121977497482975 : Nat := 0
def PySem.W.Fast.tw923124646483331807 : Nat := 0
open PySem PySem.W PyProof.Rows
set_option maxRecDepth 100000 in
set_option maxHeartbeats 0 in
theorem PySem.Challenge.cw_farthestcut_k07_purses_and_takings_holds : PySem.Challenge.rw_farthestcut_k07_purses_and_takings.Holds := by
 w_on;o_law;k_head;(case hw=>w_witness2)
 k_fill
 refine L2.walk_ofK (l:=PySem.Challenge.rw_farthestcut_k07_purses_and_takings) (n:=63) (k:=9) (x:="_law_script") (CX:=L2.CX0) (sp:=fun K=>DL.spD K 1 K07.zoD) rfl (by decide) rfl ⟨rfl,by decide,by decide⟩ (fun w h Y=>W.kIn_of Y) ?F ?S ?C
 case S=>exact fun K H a ns hl _ hS=>K07.zs8 K H a ns hl hS
 case C=>exact fun _ _ _ _ h=>h
 case F =>
  intro w mg fa h KX G hmg
  have T:∃ t:K07.Adr,K07.Txt (L2.KOf KX) mg t/\mg "law"=some (.ref t.zmn)/\∃ kV doc pm an cdv ct,t.znE=W.fnOf "law" "law" (L2.defArgs K07.zhZ) (L2.defBody K07.zhZ) (L2.defScope K07.zhZ) .none kV doc pm an cdv ct:=by
   dsimp only[L2.KOf]
   refine' K07.txt_wr (K07.txt_mk KX G ?e1_0 ?e2_0 ?e3_0 ?e4_0 ?e1_1 ?e2_1 ?e3_1 ?e4_1 ?e1_2 ?e2_2 ?e3_2 ?e4_2 ?e1_3 ?e2_3 ?e3_3 ?e4_3 ?e1_4 ?e2_4 ?e3_4 ?e4_4 ?e1_5 ?e2_5 ?e3_5 ?e4_5 ?e1_6 ?e2_6 ?e3_6 ?e4_6 ?e1_7 ?e2_7 ?e3_7 ?e4_7 ?e1_8 ?e2_8 ?e3_8 ?e4_8 ?e1_9 ?e2_9 ?e3_9 ?e4_9 ?e1_10 ?e2_10 ?e3_10 ?e4_10 ?e1_11 ?e2_11 ?e3_11 ?e4_11 ?e1_12 ?e2_12 ?e3_12 ?e4_12 ?e1_13 ?e2_13 ?e3_13 ?e4_13 ?e1_14 ?e2_14 ?e3_14 ?e4_14 ?e1_15 ?e2_15 ?e3_15 ?e4_15 ?e1_16 ?e2_16 ?e3_16 ?e4_16 ?e1_17 ?e2_17 ?e3_17 ?e4_17 ?e1_18 ?e2_18 ?e3_18 ?e4_18 ?e1_19 ?e2_19 ?e3_19 ?e4_19 ?e1_20 ?e2_20 ?e3_20 ?e4_20 ?e1_21 ?e2_21 ?e3_21 ?e4_21 ?e1_22 ?e2_22 ?e3_22 ?e4_22 ?e1_23 ?e2_23 ?e3_23 ?e4_23 ?e1_24 ?e2_24 ?e3_24 ?e4_24 ?e1_25 ?e2_25 ?e3_25 ?e4_25 ?e1_26 ?e2_26 ?e3_26 ?e4_26 ?e1_27 ?e2_27 ?e3_27 ?e4_27 ?e1_28 ?e2_28 ?e3_28 ?e4_28 ?z_ValueError ?z_abs ?z_all ?z_bool ?z_enumerate ?z_int ?z_isinstance ?z_len ?z_list ?z_max ?z_range ?z_sorted ?z_str ?z_tuple ?zd2 ?zfx ?zfy ?zfA ?zdE ?zeO ?zeP ?zeQ ?zcW ?zd0 ?zd1 ?zd4 ?zfz ?zg4 ?zg5 ?zg6 ?zfl ?zgI ?zgH ?zgF ?zgE ?zgD ?zgC ?zgB ?zgA ?zgz ?zgy ?zeE ?zgJ ?zeI ?zfi ?zfh ?zfe ?zfd ?zfc ?zfb ?zfa ?ze9 ?ze8 ?ze7 ?zea ?zfk ?zhk ?ziE ?ziD ?ziA ?ziz ?ziy ?zix ?ziw ?ziv ?ziu ?zit ?zgG ?zid ?zic ?zie ?zib ?zj6 ?zih ?zig ?zif ?ziB ?ziC ?zeb ?zc4 ?zdX ?zfg ?zfj ?zff ?zbD ?zbP ?zbC ?zcf ?zbk ?zbB ?zbj ?zb3 ?zb2 ?zce ?zb1 ?zcJ ?zdz ?zlC ?znP ?zjW ?zis ?zd9 ?zeD ?zgx ?zrq ?zlB ?zjV ?znO ?znN ?zlA ?zlE ?zlF ?zlz)
   (case e1_0=>k_is)
   (case e2_0=>k_is)
   (case e3_0=>k_is)
   (case e4_0=>k_is)
   (case e1_1=>k_is)
   (case e2_1=>k_is)
   (case e3_1=>k_is)
   (case e4_1=>k_is)
   (case e1_2=>k_is)
   (case e2_2=>k_is)
   (case e3_2=>k_is)
   (case e4_2=>k_is)
   (case e1_3=>k_is)
   (case e2_3=>k_is)
   (case e3_3=>k_is)
   (case e4_3=>k_is)
   (case e1_4=>k_is)
   (case e2_4=>k_is)
   (case e3_4=>k_is)
   (case e4_4=>k_is)
   (case e1_5=>k_is)
   (case e2_5=>k_is)
   (case e3_5=>k_is)
   (case e4_5=>k_is)
   (case e1_6=>k_is)
   (case e2_6=>k_is)
   (case e3_6=>k_is)
   (case e4_6=>k_is)
   (case e1_7=>k_is)
   (case e2_7=>k_is)
   (case e3_7=>k_is)
   (case e4_7=>k_is)
   (case e1_8=>k_is)
   (case e2_8=>k_is)
   (case e3_8=>k_is)
   (case e4_8=>k_is)
   (case e1_9=>k_is)
   (case e2_9=>k_is)
   (case e3_9=>k_is)
   (case e4_9=>k_is)
   (case e1_10=>k_is)
   (case e2_10=>k_is)
   (case e3_10=>k_is)
   (case e4_10=>k_is)
   (case e1_11=>k_is)
   (case e2_11=>k_is)
   (case e3_11=>k_is)
   (case e4_11=>k_is)
   (case e1_12=>k_is)
   (case e2_12=>k_is)
   (case e3_12=>k_is)
   (case e4_12=>k_is)
   (case e1_13=>k_is)
   (case e2_13=>k_is)
   (case e3_13=>k_is)
   (case e4_13=>k_is)
   (case e1_14=>k_is)
   (case e2_14=>k_is)
   (case e3_14=>k_is)
   (case e4_14=>k_is)
   (case e1_15=>k_is)
   (case e2_15=>k_is)
   (case e3_15=>k_is)
   (case e4_15=>k_is)
   (case e1_16=>k_is)
   (case e2_16=>k_is)
   (case e3_16=>k_is)
   (case e4_16=>k_is)
   (case e1_17=>k_is)
   (case e2_17=>k_is)
   (case e3_17=>k_is)
   (case e4_17=>k_is)
   (case e1_18=>k_is)
   (case e2_18=>k_is)
   (case e3_18=>k_is)
   (case e4_18=>k_is)
   (case e1_19=>k_is)
   (case e2_19=>k_is)
   (case e3_19=>k_is)
   (case e4_19=>k_is)
   (case e1_20=>k_is)
   (case e2_20=>k_is)
   (case e3_20=>k_is)
   (case e4_20=>k_is)
   (case e1_21=>k_is)
   (case e2_21=>k_is)
   (case e3_21=>k_is)
   (case e4_21=>k_is)
   (case e1_22=>k_is)
   (case e2_22=>k_is)
   (case e3_22=>k_is)
   (case e4_22=>k_is)
   (case e1_23=>k_is)
   (case e2_23=>k_is)
   (case e3_23=>k_is)
   (case e4_23=>k_is)
   (case e1_24=>k_is)
   (case e2_24=>k_is)
   (case e3_24=>k_is)
   (case e4_24=>k_is)
   (case e1_25=>k_is)
   (case e2_25=>k_is)
   (case e3_25=>k_is)
   (case e4_25=>k_is)
   (case e1_26=>k_is)
   (case e2_26=>k_is)
   (case e3_26=>k_is)
   (case e4_26=>k_is)
   (case e1_27=>k_is)
   (case e2_27=>k_is)
   (case e3_27=>k_is)
   (case e4_27=>k_is)
   (case e1_28=>k_is)
   (case e2_28=>k_is)
   (case e3_28=>k_is)
   (case e4_28=>k_is)
   (case z_ValueError=>k_is)
   (case z_abs=>k_is)
   (case z_all=>k_is)
   (case z_bool=>k_is)
   (case z_enumerate=>k_is)
   (case z_int=>k_is)
   (case z_isinstance=>k_is)
   (case z_len=>k_is)
   (case z_list=>k_is)
   (case z_max=>k_is)
   (case z_range=>k_is)
   (case z_sorted=>k_is)
   (case z_str=>k_is)
   (case z_tuple=>k_is)
   (case zd2=>k_is)
   (case zfx=>k_is)
   (case zfy=>k_is)
   (case zfA=>k_is)
   (case zdE=>k_is)
   (case zeO=>k_is)
   (case zeP=>k_is)
   (case zeQ=>k_is)
   (case zcW=>k_is)
   (case zd0=>k_is)
   (case zd1=>k_is)
   (case zd4=>k_is)
   (case zfz=>k_is)
   (case zg4=>k_is)
   (case zg5=>k_is)
   (case zg6=>k_is)
   (case zfl=>k_is)
   (case zgI=>k_is)
   (case zgH=>k_is)
   (case zgF=>k_is)
   (case zgE=>k_is)
   (case zgD=>k_is)
   (case zgC=>k_is)
   (case zgB=>k_is)
   (case zgA=>k_is)
   (case zgz=>k_is)
   (case zgy=>k_is)
   (case zeE=>k_is)
   (case zgJ=>k_exc)
   (case zeI=>k_is)
   (case zfi=>k_is)
   (case zfh=>k_is)
   (case zfe=>k_is)
   (case zfd=>k_is)
   (case zfc=>k_is)
   (case zfb=>k_is)
   (case zfa=>k_is)
   (case ze9=>k_is)
   (case ze8=>k_is)
   (case ze7=>k_is)
   (case zea=>k_is)
   (case zfk=>k_exc)
   (case zhk=>k_is)
   (case ziE=>k_is)
   (case ziD=>k_is)
   (case ziA=>k_is)
   (case ziz=>k_is)
   (case ziy=>k_is)
   (case zix=>k_is)
   (case ziw=>k_is)
   (case ziv=>k_is)
   (case ziu=>k_is)
   (case zit=>k_is)
   (case zgG=>k_is)
   (case zid=>k_is)
   (case zic=>k_is)
   (case zie=>rfl)
   (case zib=>k_is)
   (case zj6=>k_is)
   (case zih=>k_is)
   (case zig=>k_is)
   (case zif=>k_is)
   (case ziB=>k_is)
   (case ziC=>k_is)
   (case zeb=>k_is)
   (case zc4=>k_is)
   (case zdX=>k_exc)
   (case zfg=>k_is)
   (case zfj=>k_is)
   (case zff=>k_is)
   (case zbD=>k_is)
   (case zbP=>k_is)
   (case zbC=>k_is)
   (case zcf=>k_is)
   (case zbk=>k_is)
   (case zbB=>k_is)
   (case zbj=>k_is)
   (case zb3=>k_is)
   (case zb2=>k_is)
   (case zce=>k_is)
   (case zb1=>k_is)
   (case zcJ=>k_is)
   (case zdz=>k_is)
   (case zlC=>k_is)
   (case znP=>k_is)
   (case zjW=>k_is)
   (case zis=>k_is)
   (case zd9=>k_is)
   (case zeD=>k_is)
   (case zgx=>k_is)
   (case zrq=>k_is)
   (case zlB=>k_is)
   (case zjV=>k_is)
   (case znO=>k_is)
   (case znN=>k_is)
   (case zlA=>k_is)
   (case zlE=>k_is)
   (case zlF=>exact⟨_,_,_,_,[.str "one",.str "both"],rfl,.cons ⟨_,rfl⟩ (.cons ⟨_,rfl⟩ (.nil)),by decide,fun H=>DL.Reps.cons (DL.Rep.str_iff.mpr rfl) (DL.Reps.cons (DL.Rep.str_iff.mpr rfl) (DL.Reps.nil))⟩)
   (case zlz=>k_is)
  obtain⟨t,T,e0,kV,doc,pm,an,cdv,ct,ed⟩:=T
  have e1:=hmg.symm.trans e0
  cases e1
  refine⟨t.znE,fun s u=>?_,fun base kb nb=>K07.ztO T⟩
  rw[ed]
  exact .of_eq rfl
