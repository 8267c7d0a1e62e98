import PyProof.Rows.All
import Wide.All
import OpenK.AllK
import Wide.FinOn
import PyProof.EqAt
import PyProof.EqKinds
import PyProof.NeKinds
import PyProof.TupleCall
import PySem.Challenge.RW_farthestcut_k08_worths_within
set_option Elab.async false
set_option linter.all false
set_option maxRecDepth 100000
set_option maxHeartbeats 4000000
namespace L2
open PySem PySem.Spec PyProof.Rows
abbrev Key:=Sum Int Str
def zCG:Key->Value->Bool
 | .inl k,v=>Value.isInt k v
 | .inr x,v=>Value.isStrOf x v
def zFe (w:World):Key->Int
 | .inl k=>hashInt k
 | .inr x=>hashStr w x
theorem zcv:∀ {k:Key}{v:Value},zCG k v=true->(∃ i t,k=Sum.inl i/\v=Value.int i t)∨(∃ x t,k=Sum.inr x/\v=Value.str x t)
 | .inl i,v,h=>by
  obtain⟨t,e⟩:=Value.isInt_shape (k:=i) (v:=v) h
  exact .inl ⟨i,t,rfl,e⟩
 | .inr x,v,h=>by
  obtain⟨t,e⟩:=Value.isStrOf_shape (x:=x) (v:=v) h
  exact .inr ⟨x,t,rfl,e⟩
theorem zCF (a b:Int):decide ((Sum.inl a:Key)=Sum.inl b)=(a==b):=by
 by_cases e:a=b
 ·subst e;simp
 ·have h:¬ (Sum.inl a:Key)=Sum.inl b:=fun q=>e (Sum.inl.inj q)
  rw[decide_eq_false h]
  exact(beq_eq_false_iff_ne.mpr e).symm
theorem zCC (a b:Str):decide ((Sum.inr a:Key)=Sum.inr b)=decide (a=b):=by
 by_cases e:a=b
 ·subst e;simp
 ·have h:¬ (Sum.inr a:Key)=Sum.inr b:=fun q=>e (Sum.inr.inj q)
  rw[decide_eq_false h,decide_eq_false e]
theorem zCE (a:Int)(b:Str):decide ((Sum.inl a:Key)=Sum.inr b)=false:=decide_eq_false (fun q=>nomatch q)
theorem zCD (a:Str)(b:Int):decide ((Sum.inr a:Key)=Sum.inl b)=false:=decide_eq_false (fun q=>nomatch q)
def zru (prog:Program)(w:World):PySem.KeyKind prog w Key where
 is:=zCG
 hash:=zFe w
 inj:=fun v a b ha hb=>by
  rcases zcv ha with⟨i,t,rfl,rfl⟩ | ⟨x,t,rfl,rfl⟩
  ·rcases zcv hb with⟨j,u,rfl,e⟩ | ⟨y,u,rfl,e⟩
   ·injection e with e1 _;rw[e1]
   ·exact nomatch e
  ·rcases zcv hb with⟨j,u,rfl,e⟩ | ⟨y,u,rfl,e⟩
   ·exact nomatch e
   ·injection e with e1 _;rw[e1]
 byValue:=fun k v h=>by
  rcases zcv h with⟨i,t,rfl,rfl⟩ | ⟨x,t,rfl,rfl⟩<;>rfl
 pyHash:=fun hv h=>by
  rcases zcv hv with⟨i,t,rfl,rfl⟩ | ⟨x,t,rfl,rfl⟩
  ·exact wpAny_pyHash_int h
  ·exact wpAny_pyHash_str h
 eqBool:=fun hu hv h=>by
  rcases zcv hu with⟨i,t,rfl,rfl⟩ | ⟨x,t,rfl,rfl⟩
  ·rcases zcv hv with⟨j,u,rfl,rfl⟩ | ⟨y,u,rfl,rfl⟩
   ·rw[zCF] at h;exact wpAny_eqBool_int h
   ·rw[zCE] at h;exact SeqAt.EqAt.int_str i t y u _ _ _ _ h
  ·rcases zcv hv with⟨j,u,rfl,rfl⟩ | ⟨y,u,rfl,rfl⟩
   ·rw[zCD] at h;exact SeqAt.EqAt.str_int x t j u _ _ _ _ h
   ·rw[zCC] at h;exact wpAny_eqBool_str h
 «strs»:=fun k x t v h=>by
  rcases zcv h with⟨i,u,rfl,e⟩ | ⟨y,u,rfl,e⟩
  ·exact nomatch e
  ·injection e with e1 _
   subst e1
   cases v<;>rfl
inductive V where
 | non | bl (b:Bool) | int (i:Int) | str (x:Str) | byt (b:Array UInt8) | flt (b:UInt64) | ref (a:Addr) | ty (n:String)
 deriving DecidableEq
def zcN:V->Value->Prop
 | .non,u=>u=Value.none
 | .bl b,u=>u=Value.bool b
 | .int i,u=>∃ t,u=Value.int i t
 | .str x,u=>∃ t,u=Value.str x t
 | .byt b,u=>∃ t,u=Value.bytes b t
 | .flt b,u=>∃ t,u=Value.float b t
 | .ref a,u=>u=Value.ref a
 | .ty n,u=>u=Value.type n
abbrev zce:List V->List Value->Prop:=Paired zcN
theorem zce.length {xs:List V}{us:List Value}(r:zce xs us):xs.length=us.length:=Paired.length r
theorem zce.get:∀ {xs:List V}{us:List Value}{i:Nat}{x:V},zce xs us->xs[i]?=some x->∃ u,us[i]?=some u/\zcN x u
 | _,_,_,_,.nil,e=>by simp at e
 | _,_,0,_,.cons r _,e=>by simp at e;subst e;exact⟨_,rfl,r⟩
 | _,_,i+1,x,.cons _ t,e=>by
  obtain⟨u,h1,h2⟩:=zce.get (i:=i) (x:=x) t (by simpa using e)
  exact⟨u,by simpa using h1,h2⟩
theorem zce.set {x:V}{u:Value}(r:zcN x u):∀ {xs:List V}{us:List Value}(i:Nat),zce xs us->zce (xs.set i x) (us.set i u)
 | _,_,_,.nil=>.nil
 | _,_,0,.cons _ t=>.cons r t
 | _,_,i+1,.cons q t=>.cons q (zce.set r i t)
theorem zce.append:∀ {xs ys:List V}{us ws:List Value},zce xs us->zce ys ws->zce (xs++ys) (us++ws)
 | _,_,_,_,.nil,s=>s
 | _,_,_,_,.cons r t,s=>.cons r (zce.append t s)
theorem zce.take:∀ {xs:List V}{us:List Value}(n:Nat),zce xs us->zce (xs.take n) (us.take n)
 | _,_,0,_=>.nil
 | _,_,_+1,.nil=>.nil
 | _,_,n+1,.cons r t=>.cons r (zce.take n t)
theorem zce.drop:∀ {xs:List V}{us:List Value}(n:Nat),zce xs us->zce (xs.drop n) (us.drop n)
 | _,_,0,r=>r
 | _,_,_+1,.nil=>.nil
 | _,_,n+1,.cons _ t=>zce.drop n t
def zy4:Option V->Option Value->Prop
 | some v,some u=>zcN v u
 | none,none=>True
 | _,_=>False
def KV {κ:Type}:List (κ×V)->List (κ×Value)->Prop:=Paired fun(p:κ×V) (q:κ×Value)=>p.1=q.1/\zcN p.2 q.2
def kV:Key->V
 | .inl i=>.int i
 | .inr x=>.str x
inductive HO where
 | lst (xs:List V)
 | tup (xs:List V)
 | dK (kvs:List (Key×V)) | dT (kvs:List (List Key×V))
 | set (S:Int->Bool) (n:Nat)
 | ins (C dx:Addr) (fs:List (Str×V))
 | own (x:Addr)
 | xd (fs:List (Str×V))
 | met (f x:Addr)
 | rng (lo hi:Int)
 | frz (o:Obj) (u:HO)
 | tbl (ps:Array Value)
 | ext (φ:Heap->Prop)
abbrev Hp:=Addr->Option HO
def upd (H:Hp)(a:Addr)(o:HO):Hp:=fun b=>if b=a then some o else H b
theorem zaB {H:Hp}{a:Addr}{o:HO}:upd H a o a=some o:=by unfold upd;rw[if_pos rfl]
theorem zaE {H:Hp}{a b:Addr}{o:HO}(h:b≠a):upd H a o b=H b:=by unfold upd;rw[if_neg h]
theorem za0 {H:Hp}{a b:Addr}{o:HO}(h:H a=some o)(h':H b=none):a≠b:=by
 intro e;subst e;rw[h] at h';cases h'
section
variable (P:Program) (w:World)
def zdg (H:Hp)(h:Heap)(a:Addr):HO->Prop
 | .lst xs=>xs.length<=sizeLine/\∃ (its:List Value) (n:Nat),zce xs its/\h.get? a=some { cls:=.type "list",data:=.seq its.toArray n }
 | .tup xs=>xs.length<=sizeLine/\∃ its:List Value,zce xs its/\IsTup h a its.toArray
 | .dK kvs=>kvs.length<=sizeLine/\(a==sysModules)=false/\∃ vs,KV kvs vs/\h.DictOf (zru P w) a vs
 | .dT kvs=>kvs.length<=sizeLine/\(a==sysModules)=false/\∃ xs:List (List Key×Addr×Value),
   Paired (fun(p:List Key×V) (q:List Key×Addr×Value)=>p.1=q.1/\H q.2.1=some (.tup (p.1.map kV))/\zcN p.2 q.2.2) kvs xs /\
   ∃ o es ep,h.get? a=some o/\o.ExactDict/\o.data=.dict es ep/\es.toList=xs.map (entryOfKey (tupleKind (zru P w)))/\(xs.map (·.1)).Nodup
 | .set S n=>h.SetOf (intKind P w) a S n
 | .ins C dx fs=>H dx=some (.own a)/\fs.length<=1000/\dx≠a/\h.get? a=some (W.instObj C dx) /\
   ∃ mA,h.Ns1 dx mA/\(∀ f,zy4 (fs.lookup f) (mA f))/\PySem.Within mA (fs.map (·.1))
 | .own _=>∃ o,h.get? a=some o
 | .xd fs=>∃ mA,h.Ns1 a mA/\∀ f,zy4 (fs.lookup f) (mA f)
 | .rng lo hi=>∃ t u v,h.get? a=some { cls:=.type "range",data:=.fields #[.int lo t,.int hi u,.int 1 v] }
 | .frz o u=>h.get? a=some o/\zdg H h a u
 | .tbl ps=>h.get? a=some { cls:=.none,data:=.fields ps }
 | .met f x=>h.get? a=some (W.methodObj (.ref f) (.ref x))
 | .ext φ=>φ h/\(∃ o,h.get? a=some o)/\∀ h1 h2:Heap,φ h1->(∀ o,h1.get? a=some o->h2.get? a=some o)->φ h2
def HOk (H:Hp)(h:Heap):Prop:=∀ a o,H a=some o->zdg P w H h a o
end
section
variable {P:Program}{w:World}{H H':Hp}{h h':Heap}{a:Addr}{o:HO}
theorem zdg.lt (x:zdg P w H h a o):a < h.objs.size:=by
 cases o with
 | lst xs=>obtain⟨_,_,_,_,e⟩:=x;exact Heap.lt_size e
 | tup xs=>obtain⟨_,_,_,p⟩:=x;exact p.lt
 | dK kvs=>obtain⟨_,_,_,_,o,_,_,e,_⟩:=x;exact Heap.lt_size e
 | dT kvs=>obtain⟨_,_,_,_,o,_,_,e,_⟩:=x;exact Heap.lt_size e
 | set S n=>obtain⟨o,_,_,_,e,_⟩:=x;exact Heap.lt_size e
 | ins C dx fs=>obtain⟨_,_,_,e,_⟩:=x;exact Heap.lt_size e
 | own y=>obtain⟨_,e⟩:=x;exact Heap.lt_size e
 | xd fs=>obtain⟨_,⟨_,_,_,e,_⟩,_⟩:=x;exact Heap.lt_size e
 | rng lo hi=>obtain⟨_,_,_,e⟩:=x;exact Heap.lt_size e
 | frz ob u=>obtain⟨e,_⟩:=x;exact Heap.lt_size e
 | tbl ps=>exact Heap.lt_size (show h.get? a=some _ from x)
 | met f y=>exact Heap.lt_size (show h.get? a=some _ from x)
 | ext φ=>obtain⟨_,⟨_,e⟩,_⟩:=x;exact Heap.lt_size e
theorem Paired.mapP {α β:Type}{F G:α->β->Prop}:∀ {l₁:List α}{l₂:List β},Paired F l₁ l₂->(∀ a b,F a b->G a b)->Paired G l₁ l₂
 | _,_,.nil,_=>.nil
 | _,_,.cons r t,f=>.cons (f _ _ r) (Paired.mapP t f)
theorem zdg.stay (x:zdg P w H h a o)(k:∀ b u,(b=a∨H b=some (.own a))->h.get? b=some u->h'.get? b=some u)
  (ho:∀ b,H b=some (.own a)->H' b=some (.own a))(ht:∀ b xs,H b=some (.tup xs)->H' b=some (.tup xs)):zdg P w H' h' a o:=by
 induction o with
 | lst xs=>obtain⟨z,its,n,r,e⟩:=x;exact⟨z,its,n,r,k _ _ (.inl rfl) e⟩
 | tup xs=>obtain⟨z,its,r,ob,e,c⟩:=x;exact⟨z,its,r,ob,k _ _ (.inl rfl) e,c⟩
 | dK kvs=>obtain⟨z,y,vs,r,ob,es,ep,e,c⟩:=x;exact⟨z,y,vs,r,ob,es,ep,k _ _ (.inl rfl) e,c⟩
 | dT kvs =>
  obtain⟨z,y,xs,r,ob,es,ep,e,c⟩:=x
  exact⟨z,y,xs,Paired.mapP r fun p q z=>⟨z.1,ht _ _ z.2.1,z.2.2⟩,ob,es,ep,k _ _ (.inl rfl) e,c⟩
 | set S n=>obtain⟨ob,es,ep,t,e,c⟩:=x;exact⟨ob,es,ep,t,k _ _ (.inl rfl) e,c⟩
 | ins C dx fs =>
  obtain⟨d,z,ne,e,mA,⟨od,es,ep,e2,c⟩,r⟩:=x
  exact⟨ho _ d,z,ne,k _ _ (.inl rfl) e,mA,⟨od,es,ep,k _ _ (.inr d) e2,c⟩,r⟩
 | own y=>obtain⟨ob,e⟩:=x;exact⟨ob,k _ _ (.inl rfl) e⟩
 | xd fs=>obtain⟨mA,⟨od,es,ep,e,c⟩,r⟩:=x;exact⟨mA,⟨od,es,ep,k _ _ (.inl rfl) e,c⟩,r⟩
 | rng lo hi=>obtain⟨t,u,v,e⟩:=x;exact⟨t,u,v,k _ _ (.inl rfl) e⟩
 | frz ob u ih=>obtain⟨e,q⟩:=x;exact⟨k _ _ (.inl rfl) e,ih q⟩
 | tbl ps =>
  have e:h.get? a=some { cls:=.none,data:=.fields ps }:=x
  show h'.get? a=some { cls:=.none,data:=.fields ps }
  exact k a _ (.inl rfl) e
 | met f y =>
  have e:h.get? a=some (W.methodObj (.ref f) (.ref y)):=x
  show h'.get? a=some (W.methodObj (.ref f) (.ref y))
  exact k a _ (.inl rfl) e
 | ext φ=>obtain⟨p,⟨o,e⟩,st⟩:=x;exact⟨st _ _ p fun o q=>k _ _ (.inl rfl) q,⟨o,k _ _ (.inl rfl) e⟩,st⟩
theorem HOk.lt (x:HOk P w H h)(e:H a=some o):a < h.objs.size:=(x a o e).lt
theorem HOk.fresh (x:HOk P w H h)(e:h.objs.size<=a):H a=none:=by
 cases q:H a with
 | none=>rfl
 | some u=>exact absurd (Nat.lt_of_lt_of_le (x.lt q) e) (Nat.lt_irrefl _)
theorem HOk.kept (x:HOk P w H h)(k:∀ b u,h.get? b=some u->h'.get? b=some u):HOk P w H h':=fun a o e =>
 (x a o e).stay (fun b u _ q=>k b u q) (fun _ q=>q) fun _ _ q=>q
theorem HOk.laid (x:HOk P w H h)(k:∀ b u,h.get? b=some u->h'.get? b=some u)(hp:h.objs.size<=a)(new:zdg P w (upd H a o) h' a o):HOk P w (upd H a o) h':=fun b u e=>by
 have hn:=x.fresh hp
 by_cases hb:b=a
 ·subst hb;rw[zaB] at e;cases e;exact new
 ·rw[zaE hb] at e
  exact(x b u e).stay (fun c v _ q=>k c v q) (fun c q=>by rw[zaE (za0 q hn)];exact q) fun c xs q=>by rw[zaE (za0 q hn)];exact q
end
def Rd (H:Hp)(a:Addr)(u:HO):Prop:=H a=some u∨∃ o,H a=some (.frz o u)
theorem Rd.ok {P:Program}{w:World}{H:Hp}{h:Heap}{a:Addr}{u:HO}(r:Rd H a u)(x:HOk P w H h):zdg P w H h a u:=by
 rcases r with r | ⟨o,r⟩
 ·exact x a u r
 ·obtain⟨_,q⟩:=x a _ r
  exact q
def Mut:Option HO->Prop
 | some (.lst _)=>True
 | some (.dK _)=>True
 | some (.dT _)=>True
 | some (.set _ _)=>True
 | some (.ins _ _ _)=>True
 | some (.ext _)=>True
 | _=>False
section
variable {P:Program}{w:World}{H:Hp}{h h':Heap}{x e:Addr}{o':HO}
theorem HOk.write (ok:HOk P w H h)(mu:Mut (H x))(he:e=x∨H e=some (.own x))(k:∀ b u,b≠e->h.get? b=some u->h'.get? b=some u)(heo:∃ u,h'.get? e=some u)
  (new:zdg P w (upd H x o') h' x o'):HOk P w (upd H x o') h':=fun b u q=>by
 have nown:∀ c y,H c=some (.own y)->c≠x:=fun c y r z=>by subst z;rw[r] at mu;exact mu
 have ntup:∀ c xs,H c=some (.tup xs)->c≠x:=fun c xs r z=>by subst z;rw[r] at mu;exact mu
 by_cases hb:b=x
 ·subst hb;rw[zaB] at q;cases q;exact new
 ·rw[zaE hb] at q
  by_cases hbe:b=e
  ·have q':H b=some (.own x):=by
    rcases he with z | z
    ·exact absurd (hbe.trans z) hb
    ·rw[hbe];exact z
   rw[q] at q';cases q'
   obtain⟨v,hv⟩:=heo
   exact⟨v,by rw[hbe];exact hv⟩
  ·refine(ok b u q).stay (fun c v hc r=>k c v ?_ r) (fun c r=>by rw[zaE (nown c b r)];exact r) fun c xs r=>by rw[zaE (ntup c xs r)];exact r
   rcases hc with rfl | hc
   ·exact hbe
   ·rintro rfl
    rcases he with z | z
    ·exact nown c b hc z
    ·rw[hc] at z;cases z;exact hb rfl
end
structure Un (fs ex:List Addr) (H H':Hp) (h h':Heap):Prop where
 keep:∀ b o,h.get? b=some o->H b=none->b∉fs->b∉ex->h'.get? b=some o
 slot:∀ b o,h.get? b=some o->H b=none->b∈fs->b∉ex->∃ sl,h'.get? b=some { o with slots:=sl }
 free:∀ b o,h.get? b=some o->H b=none->b∉ex->H' b=none
 there:∀ b o,h.get? b=some o->b∉ex->∃ o',h'.get? b=some o'
 tups:∀ b xs,H b=some (.tup xs)->H' b=some (.tup xs)
 frzs:∀ b o u,H b=some (.frz o u)->H' b=some (.frz o u)
 tbls:∀ b ps,H b=some (.tbl ps)->∃ more,H' b=some (.tbl (ps++more))
section
variable {fs fs' ex ex':List Addr}{H H1 H2:Hp}{h h1 h2 h':Heap}{a x e:Addr}{o:HO}
theorem Un.any (u:Un fs ex H H1 h h1){b:Addr}{ob:Obj}(q:h.get? b=some ob)(n:H b=none)(hx:b∉ex):∃ sl,h1.get? b=some { ob with slots:=sl }:=by
 by_cases hb:b∈fs
 ·exact u.slot b ob q n hb hx
 ·exact⟨ob.slots,u.keep b ob q n hb hx⟩
theorem Un.trans (a:Un fs ex H H1 h h1)(b:Un fs ex H1 H2 h1 h2):Un fs ex H H2 h h2 where
 keep:=fun c ob q n hc hx=>b.keep c ob (a.keep c ob q n hc hx) (a.free c ob q n hx) hc hx
 slot:=fun c ob q n hc hx=>by
  obtain⟨sl,e1⟩:=a.slot c ob q n hc hx
  obtain⟨sl',e2⟩:=b.slot c _ e1 (a.free c ob q n hx) hc hx
  exact⟨sl',e2⟩
 free:=fun c ob q n hx=>by
  obtain⟨o',e1⟩:=a.there c ob q hx
  exact b.free c o' e1 (a.free c ob q n hx) hx
 there:=fun c ob q hx=>by
  obtain⟨o',e1⟩:=a.there c ob q hx
  exact b.there c o' e1 hx
 tups:=fun c xs q=>b.tups c xs (a.tups c xs q)
 frzs:=fun c ob xs q=>b.frzs c ob xs (a.frzs c ob xs q)
 tbls:=fun c ps q=>by
  obtain⟨m1,e1⟩:=a.tbls c ps q
  obtain⟨m2,e2⟩:=b.tbls c _ e1
  exact⟨m1++m2,by rw[e2,Array.append_assoc]⟩
theorem Un.kept (k:∀ b u,h.get? b=some u->h'.get? b=some u):Un fs ex H H h h' :=
 ⟨fun b ob q _ _ _=>k b ob q,fun b ob q _ _ _=>⟨ob.slots,k b ob q⟩,fun _ _ _ n _=>n,fun b ob q _=>⟨ob,k b ob q⟩,fun _ _ q=>q,fun _ _ _ q=>q,fun _ ps q=>⟨#[],by rw[q];simp⟩⟩
theorem Un.refl:Un fs ex H H h h:=Un.kept fun _ _ q=>q
theorem Un.laid (k:∀ b u,h.get? b=some u->h'.get? b=some u)(hp:h.objs.size<=a)(hn:H a=none):Un fs ex H (upd H a o) h h' where
 keep:=fun b u q _ _ _=>k b u q
 slot:=fun b u q _ _ _=>⟨u.slots,k b u q⟩
 free:=fun b u q n _=>by rw[zaE (Nat.ne_of_lt (Nat.lt_of_lt_of_le (Heap.lt_size q) hp))];exact n
 there:=fun b u q _=>⟨u,k b u q⟩
 tups:=fun b xs q=>by rw[zaE (za0 q hn)];exact q
 frzs:=fun b u xs q=>by rw[zaE (za0 q hn)];exact q
 tbls:=fun b ps q=>⟨#[],by rw[zaE (za0 q hn),q];simp⟩
theorem Un.write (mu:Mut (H x))(he:e=x∨H e=some (.own x))(k:∀ b u,b≠e->h.get? b=some u->h'.get? b=some u)(heo:∃ u,h'.get? e=some u):Un fs ex H (upd H x o) h h':=by
 have hx:∀ b,H b=none->b≠x:=fun b n z=>by subst z;rw[n] at mu;exact mu
 have hb:∀ b,H b=none->b≠e:=fun b n z=>by
  subst z
  rcases he with r | r
  ·exact hx b n r
  ·rw[n] at r;cases r
 have hm:∀ b u,H b=some u->¬ Mut (some u)->b≠x:=fun b u q nm z=>by subst z;rw[q] at mu;exact nm mu
 refine⟨fun b u q n _ _=>k b u (hb b n) q,fun b u q n _ _=>⟨u.slots,k b u (hb b n) q⟩,fun b u q n _=>by rw[zaE (hx b n)];exact n,fun b u q _=>?_,
  fun b xs q=>by rw[zaE (hm b _ q fun z=>z)];exact q,fun b u xs q=>by rw[zaE (hm b _ q fun z=>z)];exact q,fun b ps q=>⟨#[],by rw[zaE (hm b _ q fun z=>z),q];simp⟩⟩
 by_cases hbe:b=e
 ·subst hbe;exact heo
 ·exact⟨u,k b u hbe q⟩
end
def trk (h:Heap)(H:Hp):List Addr:=(List.range h.objs.size).filter fun a=>(H a).isSome
def zys (h:Heap)(H:Hp):Heap:=W.hideAll h (trk h H)
theorem zwe (h:Heap)(H:Hp):(zys h H).objs.size=h.objs.size:=W.hideAll_size _ _
theorem zyr {h:Heap}{H:Hp}{b:Addr}{o:Obj}(e:h.get? b=some o)(n:H b=none):(zys h H).get? b=some o :=
 W.hideAll_get _ e fun hm=>by
  have q:(H b).isSome=true:=(List.mem_filter.mp hm).2
  rw[n] at q;simp at q
theorem zAD {h:Heap}{H:Hp}{b:Addr}{o:Obj}(e:(zys h H).get? b=some o):h.get? b=some o/\H b=none:=by
 have e':h.get? b=some o:=W.of_hideAll (trk h H) e
 refine⟨e',?_⟩
 cases q:H b with
 | none=>rfl
 | some x =>
  have hm:b∈trk h H:=List.mem_filter.mpr ⟨List.mem_range.mpr (Heap.lt_size e'),by simp [q]⟩
  have z:(zys h H).get? b=none:=W.hideAll_none (trk h H) hm
  rw[z] at e;cases e
structure Mod (K:W.Frag) (mg:Str->Option Value) (base:Heap):Prop where
 kin:K.In base
 glob:base.Ns mainGlobals mg
 blt:∃ mb,base.Ns builtinsNs mb/\∀ x:Str,x≠"__name__"->mb x=bootBuiltins x
 nolimit:base.NoLimit
structure Cx where
 prog:Program
 w:World
 K:W.Frag
 mg:Str->Option Value
 base:Heap
 A:Around
 N:List Str
 s₀:Shared
 H₀:Hp
 env:Env
 outer:List Env
 stack:List Env
 ex:List Addr
 fn:Str->Bool
 calm:Bool
 pn:List (Addr×Obj)
 xe:Value->Shared->Prop
def frs (l:List Env):List Addr:=l.filterMap (·.frame)
abbrev Cx.fs (X:Cx):List Addr:=frs X.outer
def Vis (sc:Scope)(x:Str):Prop:=sc.names.lookup x=some .local ∨ sc.names.lookup x=some .cell∨sc.names.lookup x=some .free
def Loc (sc:Scope)(x:Str):Prop:=sc.names.lookup x=some .local ∨ sc.names.lookup x=some .cell
def zEP (env:Env)(h:Heap)(m:Str->Option Value)(x:Str)(u:Value):Prop :=
 (env.kindOf x=some .local /\ m x=some u)∨((env.kindOf x=some .cell∨env.kindOf x=some .free)/\∃ c,env.cells.lookup x=some c/\h.IsCell c (some u))
structure Cx.Ok (X:Cx):Prop where
 mod:Mod X.K X.mg X.base
 kind:X.env.scope.kind=.function
 glob:X.env.globals=mainGlobals
 blt:X.env.builtins=builtinsNs
 above:X.s₀.heap.objs.size<=X.env.locals
 inj:∀ x y c,X.env.cells.lookup x=some c->X.env.cells.lookup y=some c->x=y
 has:∀ x,(X.env.kindOf x=some .cell∨X.env.kindOf x=some .free)->∃ c,X.env.cells.lookup x=some c
 cab:∀ x c,X.fn x=true->X.env.cells.lookup x=some c->X.s₀.heap.objs.size<=c
 hd:X.calm=true->X.A.handled=none
 frames:X.A.frames=some X.stack
 stk:X.stack=X.outer∨(X.stack=X.env::X.outer/\X.env.frame=some X.env.locals)
 exf:∀ b∈X.ex,b≠X.env.locals/\∀ x c,X.env.cells.lookup x=some c->c≠b
 bs:∀ b o,X.base.get? b=some o->X.s₀.heap.get? b=some o/\X.H₀ b=none
 bsz:X.base.objs.size<=X.s₀.heap.objs.size
 noex:∀ b o,X.base.get? b=some o->b∉X.ex
 exfs:∀ b∈X.ex,b∉X.fs
 funs:X.s₀.heap.FunFrames X.base X.outer
 frf:∀ b∈X.fs,X.H₀ b=none
structure Inv (X:Cx) (pins:List (Addr×Obj)) (σ:List (Option V)) (H:Hp) (s:Shared):Prop where
 ok:X.Ok
 os:s.os=X.s₀.os
 bare:AllBare s.gens
 base:Un X.fs X.ex X.H₀ H X.s₀.heap s.heap
 loc:∃ m,s.heap.Ns X.env.locals m/\∀ (i:Nat) (x:Str) (v:V),X.N[i]?=some x->σ[i]?=some (some v)->Vis X.env.scope x->∃ u,zcN v u/\zEP X.env s.heap m x u
 cell:∀ x c,X.env.cells.lookup x=some c->∃ v,s.heap.IsCell c v
 free:H X.env.locals=none
 freeC:∀ x c,X.env.cells.lookup x=some c->H c=none
 pin:∀ p∈X.pn++pins,s.heap.get? p.1=some p.2/\H p.1=none/\p.1≠X.env.locals/\p.1∉X.fs/\∀ v,p.2.data≠.cell v
 hok:HOk X.prog X.w H s.heap
 len:σ.length=X.N.length
section
variable {X:Cx}{pins:List (Addr×Obj)}{σ:List (Option V)}{H H':Hp}{s:Shared}{h':Heap}
theorem Cx.Ok.nofr (ok:X.Ok){b:Addr}{o:Obj}(e:X.base.get? b=some o):b∉X.fs:=fun hb=>by
 have:=(ok.funs.mem hb).1
 rw[e] at this;cases this
theorem Inv.bs (I:Inv X pins σ H s):∀ b o,X.base.get? b=some o->s.heap.get? b=some o/\H b=none:=fun b o e =>
 ⟨I.base.keep b o (I.ok.bs b o e).1 (I.ok.bs b o e).2 (I.ok.nofr e) (I.ok.noex b o e),I.base.free b o (I.ok.bs b o e).1 (I.ok.bs b o e).2 (I.ok.noex b o e)⟩
theorem Inv.bk (I:Inv X pins σ H s):∀ b o,X.base.get? b=some o->s.heap.get? b=some o:=fun b o e=>(I.bs b o e).1
theorem Inv.mod (I:Inv X pins σ H s):Mod X.K X.mg X.base:=I.ok.mod
theorem Inv.kIn (I:Inv X pins σ H s):X.K.In s.heap:=I.ok.mod.kin.keeps I.bk
theorem Inv.lt (I:Inv X pins σ H s):X.env.locals < s.heap.objs.size:=let ⟨_,hn,_⟩:=I.loc;hn.lt
theorem Inv.sz (I:Inv X pins σ H s):X.s₀.heap.objs.size<=s.heap.objs.size:=Nat.le_trans I.ok.above (Nat.le_of_lt I.lt)
theorem Inv.nofs (I:Inv X pins σ H s){a:Addr}(h:s.heap.objs.size<=a):a∉X.fs:=fun hb=>by
 obtain⟨_,o,ho,_⟩:=I.ok.funs.mem hb
 exact absurd (Nat.lt_of_lt_of_le (Heap.lt_size ho) (Nat.le_trans I.sz h)) (Nat.lt_irrefl _)
theorem Inv.cne (I:Inv X pins σ H s):∀ x c,X.env.cells.lookup x=some c->c≠X.env.locals:=fun x c e z=>by
 obtain⟨v,o,ho,hd⟩:=I.cell x c e
 obtain⟨m,⟨o',es,ep,ho',hd',_⟩,_⟩:=I.loc
 rw[z,ho'] at ho;cases ho;rw[hd'] at hd;cases hd
theorem Inv.funs (I:Inv X pins σ H s):s.heap.FunFrames X.base X.outer:=by
 have all:∀ (l:List Env),(∀ b∈frs l,b∈X.fs)->X.s₀.heap.FunFrames X.base l->s.heap.FunFrames X.base l:=by
  intro l
  induction l with
  | nil=>intro _ _;trivial
  | cons env r ih =>
   intro hs hl
   obtain⟨hk,⟨L,o,hf,hn,ho,hd⟩,hr⟩:=hl
   have hL:L∈X.fs:=hs L (by unfold frs;rw[List.filterMap_cons,hf];exact List.mem_cons_self)
   obtain⟨sl,e⟩:=I.base.slot L o ho (I.ok.frf L hL) hL fun z=>I.ok.exfs L z hL
   exact⟨hk,⟨L,_,hf,hn,e,hd⟩,ih (fun b hb=>hs b (by unfold frs;rw[List.filterMap_cons,hf];exact List.mem_cons_of_mem _ hb)) hr⟩
 exact all X.outer (fun _ hb=>hb) I.ok.funs
theorem Inv.stack (I:Inv X pins σ H s):s.heap.FunFrames X.base X.stack:=by
 rcases I.ok.stk with e | ⟨e,hf⟩
 ·rw[e];exact I.funs
 ·rw[e]
  obtain⟨m,hn,_⟩:=I.loc
  refine .cons (by rw[I.ok.kind];decide) hf hn ?_ I.funs
  exact Heap.get?_none_of_le (Nat.le_trans I.ok.bsz I.ok.above)
theorem Inv.stkSub (I:Inv X pins σ H s):∀ b∈frs X.stack,b∈X.env.locals::X.fs:=fun b hb=>by
 rcases I.ok.stk with e | ⟨e,hf⟩
 ·rw[e] at hb;exact List.mem_cons_of_mem _ hb
 ·rw[e] at hb
  unfold frs at hb
  rw[List.filterMap_cons,hf] at hb
  exact hb
theorem Inv.stkFree (I:Inv X pins σ H s):∀ b∈frs X.stack,H b=none:=fun b hb=>by
 rcases List.mem_cons.mp (I.stkSub b hb) with e | hb
 ·rw[e];exact I.free
 ·obtain⟨_,o,ho,_⟩:=I.ok.funs.mem hb
  exact I.base.free b o ho (I.ok.frf b hb) fun z=>I.ok.exfs b z hb
theorem Inv.step {g':Array GenState}{t':Nat}{d':Drawn}{ch:List Addr}(I:Inv X pins σ H s)
  (hch:∀ b∈ch,(b∈X.ex∨X.s₀.heap.objs.size<=b)/\b≠X.env.locals/\(∀ x c,X.env.cells.lookup x=some c->c≠b)/\∀ p∈X.pn++pins,p.1≠b)
  (keep:∀ b o,b≠X.env.locals->b∉X.fs->b∉ch->s.heap.get? b=some o->H b=none->h'.get? b=some o)
  (slot:∀ b o,b≠X.env.locals->b∈X.fs->b∉ch->s.heap.get? b=some o->H b=none->∃ sl,h'.get? b=some { o with slots:=sl })(free:∀ b o,b∉ch->s.heap.get? b=some o->H b=none->H' b=none)
  (there:∀ b o,b∉ch->s.heap.get? b=some o->∃ o',h'.get? b=some o')
  (tups:∀ b xs,H b=some (.tup xs)->H' b=some (.tup xs))(frzs:∀ b o u,H b=some (.frz o u)->H' b=some (.frz o u))(tbls:∀ b ps,H b=some (.tbl ps)->∃ more,H' b=some (.tbl (ps++more)))
  (ns:∀ m,s.heap.Ns X.env.locals m->h'.Ns X.env.locals m)(hok:HOk X.prog X.w H' h')(hg:AllBare g') :
  Inv X pins σ H' { s with heap:=h',gens:=g',drawn:=d',toks:=t' }:=by
 have neL:∀ b o,X.s₀.heap.get? b=some o->b≠X.env.locals:=fun b o e=>Nat.ne_of_lt (Nat.lt_of_lt_of_le (Heap.lt_size e) I.ok.above)
 have neC:∀ b o,X.s₀.heap.get? b=some o->b∉X.ex->b∉ch:=fun b o e hx hb=>by
  rcases(hch b hb).1 with z | z
  ·exact hx z
  ·exact absurd (Nat.lt_of_lt_of_le (Heap.lt_size e) z) (Nat.lt_irrefl _)
 have cellK:∀ x c,X.env.cells.lookup x=some c->∀ v,s.heap.IsCell c v->h'.IsCell c v:=fun x c e v ⟨o,ho,hd⟩=>by
  have nch:c∉ch:=fun z=>(hch c z).2.2.1 x c e rfl
  by_cases hc:c∈X.fs
  ·obtain⟨sl,q⟩:=slot c o (I.cne x c e) hc nch ho (I.freeC x c e)
   exact⟨_,q,hd⟩
  ·exact⟨o,keep c o (I.cne x c e) hc nch ho (I.freeC x c e),hd⟩
 refine⟨I.ok,I.os,hg,⟨fun b o e n hb hx=>?_,fun b o e n hb hx=>?_,fun b o e n hx=>?_,fun b o e hx=>?_,fun b xs e=>tups b xs (I.base.tups b xs e),fun b o xs e=>frzs b o xs (I.base.frzs b o xs e),fun b ps e=>?_⟩,?_,fun x c e=>?_,?_,fun x c e=>?_,fun p hp=>?_,hok,I.len⟩
 ·exact keep b o (neL b o e) hb (neC b o e hx) (I.base.keep b o e n hb hx) (I.base.free b o e n hx)
 ·obtain⟨sl,e1⟩:=I.base.slot b o e n hb hx
  obtain⟨sl',e2⟩:=slot b _ (neL b o e) hb (neC b o e hx) e1 (I.base.free b o e n hx)
  exact⟨sl',e2⟩
 ·obtain⟨o',e1⟩:=I.base.there b o e hx
  exact free b o' (neC b o e hx) e1 (I.base.free b o e n hx)
 ·obtain⟨o',e1⟩:=I.base.there b o e hx
  exact there b o' (neC b o e hx) e1
 ·obtain⟨m1,e1⟩:=I.base.tbls b ps e
  obtain⟨m2,e2⟩:=tbls b _ e1
  exact⟨m1++m2,by rw[e2,Array.append_assoc]⟩
 ·obtain⟨m,hn,hl⟩:=I.loc
  refine⟨m,ns m hn,fun i x v e1 e2 e3=>?_⟩
  obtain⟨u,r,l⟩:=hl i x v e1 e2 e3
  refine⟨u,r,?_⟩
  rcases l with l | ⟨k,c,e,z⟩
  ·exact .inl l
  ·exact .inr ⟨k,c,e,cellK x c e _ z⟩
 ·obtain⟨v,z⟩:=I.cell x c e
  exact⟨v,cellK x c e v z⟩
 ·obtain⟨m,⟨o,_,_,ho,_⟩,_⟩:=I.loc
  exact free _ o (fun z=>(hch _ z).2.1 rfl) ho I.free
 ·obtain⟨v,o,ho,hd⟩:=I.cell x c e
  exact free c o (fun z=>(hch c z).2.2.1 x c e rfl) ho (I.freeC x c e)
 ·obtain⟨e,n,ne,nf,d⟩:=I.pin p hp
  have nch:p.1∉ch:=fun z=>(hch p.1 z).2.2.2 p hp rfl
  exact⟨keep p.1 p.2 ne nf nch e n,free p.1 p.2 nch e n,ne,nf,d⟩
theorem Inv.un {t':Nat}(I:Inv X pins σ H s)(u:Un X.fs [] H H' s.heap h')(hok:HOk X.prog X.w H' h'):Inv X pins σ H' { s with heap:=h',toks:=t' }:=by
 obtain⟨m,⟨o,es,ep,ho,r⟩,_⟩:=id I.loc
 obtain⟨sl,hL⟩:=u.any ho I.free (by simp)
 exact I.step (g':=s.gens) (d':=s.drawn) (ch:=[]) (fun _ z=>nomatch z) (fun b o _ hb _ e n=>u.keep b o e n hb (by simp)) (fun b o _ hb _ e n=>u.slot b o e n hb (by simp)) (fun b o _ e n=>u.free b o e n (by simp)) (fun b o _ e=>u.there b o e (by simp)) u.tups u.frzs u.tbls (fun m' hm=>by
  obtain⟨o',es',ep',ho',r'⟩:=hm
  rw[ho] at ho';cases ho'
  exact⟨_,es',ep',hL,r'⟩) hok I.bare
theorem Inv.call {g':Array GenState}{t':Nat}{d':Drawn}{ch:List Addr}(I:Inv X pins σ H s)(u:Un (frs X.stack) ch H H' s.heap h')(hok:HOk X.prog X.w H' h')(hg:AllBare g')
  (hch:∀ b∈ch,(b∈X.ex∨X.s₀.heap.objs.size<=b)/\b≠X.env.locals/\(∀ x c,X.env.cells.lookup x=some c->c≠b)/\∀ p∈X.pn++pins,p.1≠b) :
  Inv X pins σ H' { s with heap:=h',gens:=g',drawn:=d',toks:=t' }:=by
 obtain⟨m,⟨o,es,ep,ho,r⟩,_⟩:=id I.loc
 obtain⟨sl,hL⟩:=u.any ho I.free fun z=>(hch _ z).2.1 rfl
 exact I.step (ch:=ch) hch (fun b o hL hb hc e n=>u.keep b o e n (fun z=>(List.mem_cons.mp (I.stkSub b z)).elim hL hb) hc) (fun b o _ _ hc e n=>u.any e n hc) (fun b o hc e n=>u.free b o e n hc) (fun b o hc e=>u.there b o e hc) u.tups u.frzs u.tbls (fun m' hm=>by
  obtain⟨o',es',ep',ho',r'⟩:=hm
  rw[ho] at ho';cases ho'
  exact⟨_,es',ep',hL,r'⟩) hok hg
theorem Inv.turned {t':Nat}{it:Addr}(I:Inv X pins σ H s)(k:∀ b o,b≠it->s.heap.get? b=some o->h'.get? b=some o)(hn:H it=none)(hL:it≠X.env.locals)
  (h1:it∈X.ex∨X.s₀.heap.objs.size<=it)(h2:∀ x c,X.env.cells.lookup x=some c->c≠it)(h3:∀ p∈X.pn++pins,p.1≠it):Inv X pins σ H { s with heap:=h',toks:=t' }:=by
 have nit:∀ b u,H b=some u->b≠it:=fun b u e z=>by rw[z,hn] at e;cases e
 refine I.step (g':=s.gens) (d':=s.drawn) (ch:=[it]) (fun b hb=>?_) (fun b o _ _ hc e _=>k b o (fun z=>hc (by simp [z])) e) (fun b o _ _ hc e _=>⟨o.slots,k b o (fun z=>hc (by simp [z])) e⟩) (fun _ _ _ _ n=>n)
  (fun b o hc e=>⟨o,k b o (fun z=>hc (by simp [z])) e⟩) (fun _ _ e=>e) (fun _ _ _ e=>e) (fun b ps e=>⟨#[],by rw[e];simp⟩) (fun m hm=>?_) (fun b u e=>?_) I.bare
 ·have e:b=it:=by simpa using hb
  subst e
  exact⟨h1,hL,h2,h3⟩
 ·obtain⟨o,es,ep,ho,r⟩:=hm
  exact⟨o,es,ep,k _ o (Ne.symm hL) ho,r⟩
 ·refine(I.hok b u e).stay (fun c v hc q=>k c v ?_ q) (fun _ q=>q) fun _ _ q=>q
  rcases hc with z | z
  ·rw[z];exact nit b u e
  ·exact nit c _ z
theorem Inv.tok (I:Inv X pins σ H s)(t:Nat):Inv X pins σ H { s with toks:=t }:=I.un (h':=s.heap) (t':=t) Un.refl I.hok
theorem Inv.kept {t':Nat}(I:Inv X pins σ H s)(k:∀ b u,s.heap.get? b=some u->h'.get? b=some u):Inv X pins σ H { s with heap:=h',toks:=t' }:=I.un (Un.kept k) (I.hok.kept k)
theorem Inv.laid {a:Addr}{o:HO}{t':Nat}(I:Inv X pins σ H s)(k:∀ b u,s.heap.get? b=some u->h'.get? b=some u)(hp:s.heap.objs.size<=a)(new:zdg X.prog X.w (upd H a o) h' a o) :
  Inv X pins σ (upd H a o) { s with heap:=h',toks:=t' }:=I.un (Un.laid k hp (I.hok.fresh hp)) (I.hok.laid k hp new)
theorem Inv.write {x e:Addr}{o:HO}{t':Nat}(I:Inv X pins σ H s)(mu:Mut (H x))(he:e=x∨H e=some (.own x))(k:∀ b u,b≠e->s.heap.get? b=some u->h'.get? b=some u)(heo:∃ u,h'.get? e=some u)
  (new:zdg X.prog X.w (upd H x o) h' x o):Inv X pins σ (upd H x o) { s with heap:=h',toks:=t' }:=I.un (Un.write mu he k heo) (I.hok.write mu he k heo new)
theorem Inv.pins_of {pins':List (Addr×Obj)}(I:Inv X pins σ H s)(h:∀ p∈pins',s.heap.get? p.1=some p.2/\H p.1=none/\p.1≠X.env.locals/\p.1∉X.fs/\∀ v,p.2.data≠.cell v):Inv X pins' σ H s :=
 ⟨I.ok,I.os,I.bare,I.base,I.loc,I.cell,I.free,I.freeC,fun p hp=>(List.mem_append.mp hp).elim (fun z=>I.pin p (List.mem_append_left _ z)) (h p),I.hok,I.len⟩
theorem zoo {N:List Str}(hN:N.Nodup){i j:Nat}{x:Str}(a:N[i]?=some x)(b:N[j]?=some x):i=j:=by
 obtain⟨h1,e1⟩:=List.getElem?_eq_some_iff.mp a
 obtain⟨h2,e2⟩:=List.getElem?_eq_some_iff.mp b
 exact(List.getElem_inj hN).mp (e1.trans e2.symm)
theorem zpy {M:Model}{A:Around}{E:Value->Shared->Prop}{i:Nat}{x:Str}{v:V}{u:Value}{Q:Unit->Shared->Prop}(I:Inv X pins σ H s)(hN:X.N.Nodup)(hi:X.N[i]?=some x)(hx:Loc X.env.scope x)(r:zcN v u)
  (h:∀ s',Inv X pins (σ.set i (some v)) H s'->(∃ a,Heap.SameBut a s.heap s'.heap/\(a=X.env.locals∨X.env.cells.lookup x=some a))->Q () s')(hf:X.fn x=true∨X.env.scope.names.lookup x=some .local := by first | exact .inl rfl | exact .inr rfl | assumption):wpAny M A (storeName X.env x u) Q E s:=by
 obtain⟨m,hn,hl⟩:=id I.loc
 have hcls:(X.env.scope.kind==.class||(X.env.scope.kind==.module&&X.env.locals != X.env.globals))=false:=by rw[I.ok.kind];rfl
 have hiσ:i < σ.length:=by rw[I.len];exact(List.getElem?_eq_some_iff.mp hi).1
 have cne:=I.cne
 have tracked:∀ {a:Addr}{h':Heap},(∃ o,s.heap.get? a=some o/\H a=none)->Heap.SameBut a s.heap h'->HOk X.prog X.w H h':=fun {a h'} ha hs b ob e=>by
  obtain⟨_,_,hfree⟩:=ha
  refine(I.hok b ob e).stay (fun c w' hc q=>(hs.2 c ?_).trans q) (fun _ q=>q) fun _ _ q=>q
  rintro rfl
  rcases hc with rfl | hc
  ·rw[hfree] at e;cases e
  ·rw[hfree] at hc;cases hc
 rcases hx with hk | hk
 ·refine wpAny_storeName_local hk hn (fun h' hn' hs=>?_) hcls
  obtain⟨oL,_,_,hoL,_⟩:=id hn
  refine h _ ⟨I.ok,I.os,I.bare,⟨fun b o e n hb hx=>?_,fun b o e n hb hx=>?_,I.base.free,fun b o e hx=>?_,I.base.tups,I.base.frzs,I.base.tbls⟩,⟨_,hn',fun j y v' e1 e2 e3=>?_⟩,fun y c e=>?_,I.free,I.freeC,fun p hp=>?_,tracked ⟨oL,hoL,I.free⟩ hs,by simpa using I.len⟩ ⟨_,hs,.inl rfl⟩
  ·exact(hs.2 b (Nat.ne_of_lt (Nat.lt_of_lt_of_le (Heap.lt_size e) I.ok.above))).trans (I.base.keep b o e n hb hx)
  ·obtain⟨sl,e1⟩:=I.base.slot b o e n hb hx
   exact⟨sl,(hs.2 b (Nat.ne_of_lt (Nat.lt_of_lt_of_le (Heap.lt_size e) I.ok.above))).trans e1⟩
  ·obtain⟨o',e1⟩:=I.base.there b o e hx
   exact⟨o',(hs.2 b (Nat.ne_of_lt (Nat.lt_of_lt_of_le (Heap.lt_size e) I.ok.above))).trans e1⟩
  ·by_cases hj:j=i
   ·subst hj
    rw[hi] at e1;cases e1
    rw[List.getElem?_set_self hiσ] at e2
    cases e2
    exact⟨u,r,.inl ⟨hk,by simp⟩⟩
   ·rw[List.getElem?_set_ne (Ne.symm hj)] at e2
    obtain⟨u',r',q⟩:=hl j y v' e1 e2 e3
    refine⟨u',r',?_⟩
    rcases q with⟨k,e⟩ | ⟨k,c,e,z⟩
    ·refine .inl ⟨k,?_⟩
     have:y≠x:=fun e=>hj (zoo hN e1 (e▸hi))
     simp [this,e]
    ·exact .inr ⟨k,c,e,z.sameBut hs (cne y c e)⟩
  ·obtain⟨w',z⟩:=I.cell y c e
   exact⟨w',z.sameBut hs (cne y c e)⟩
  ·obtain⟨e,n,ne,nf,d⟩:=I.pin p hp
   exact⟨(hs.2 p.1 ne).trans e,n,ne,nf,d⟩
 ·have hfn:X.fn x=true:=by
   rcases hf with z | z
   ·exact z
   ·rw[z] at hk;cases hk
  obtain⟨c,hc⟩:=I.ok.has x (.inl hk)
  obtain⟨w',z⟩:=I.cell x c hc
  refine wpAny_storeName_cell I.ok.kind hk hc z (fun h' hc' hs=>?_)
  obtain⟨oc,hoc,hocd⟩:=id z
  refine h { s with heap:=h' } ⟨I.ok,I.os,I.bare,⟨fun b o e n hb hx=>?_,fun b o e n hb hx=>?_,I.base.free,fun b o e hx=>?_,I.base.tups,I.base.frzs,I.base.tbls⟩,⟨m,hn.sameBut hs (Ne.symm (cne x c hc)),fun j y v' e1 e2 e3=>?_⟩,fun y c' e=>?_,I.free,I.freeC,fun p hp=>?_,tracked ⟨oc,hoc,I.freeC x c hc⟩ hs,by simpa using I.len⟩ ⟨c,hs,.inr hc⟩
  ·exact(hs.2 b (Nat.ne_of_lt (Nat.lt_of_lt_of_le (Heap.lt_size e) (I.ok.cab x c hfn hc)))).trans (I.base.keep b o e n hb hx)
  ·obtain⟨sl,e1⟩:=I.base.slot b o e n hb hx
   exact⟨sl,(hs.2 b (Nat.ne_of_lt (Nat.lt_of_lt_of_le (Heap.lt_size e) (I.ok.cab x c hfn hc)))).trans e1⟩
  ·obtain⟨o',e1⟩:=I.base.there b o e hx
   exact⟨o',(hs.2 b (Nat.ne_of_lt (Nat.lt_of_lt_of_le (Heap.lt_size e) (I.ok.cab x c hfn hc)))).trans e1⟩
  ·by_cases hj:j=i
   ·subst hj
    rw[hi] at e1;cases e1
    rw[List.getElem?_set_self hiσ] at e2
    cases e2
    exact⟨u,r,.inr ⟨.inl hk,c,hc,hc'⟩⟩
   ·rw[List.getElem?_set_ne (Ne.symm hj)] at e2
    obtain⟨u',r',q⟩:=hl j y v' e1 e2 e3
    refine⟨u',r',?_⟩
    rcases q with q | ⟨k,c',e,z'⟩
    ·exact .inl q
    ·refine .inr ⟨k,c',e,z'.sameBut hs ?_⟩
     rintro rfl
     exact hj (zoo hN e1 (I.ok.inj _ _ _ e hc▸hi))
  ·by_cases hcc:c'=c
   ·subst hcc;exact⟨_,hc'⟩
   ·obtain⟨w2,z2⟩:=I.cell y c' e
    exact⟨w2,z2.sameBut hs hcc⟩
  ·obtain⟨e,n,ne,nf,d⟩:=I.pin p hp
   refine⟨(hs.2 p.1 ?_).trans e,n,ne,nf,d⟩
   intro q
   rw[q,hoc] at e
   have q':oc=p.2:=Option.some.inj e
   exact d w' (by rw[← q'];exact hocd)
theorem ziJ {M:Model}{A:Around}{E:Value->Shared->Prop}{i:Nat}{x:Str}{v:V}{u:Value}{Q:Unit->Shared->Prop}(I:Inv X pins σ H s)(hN:X.N.Nodup)(hi:X.N[i]?=some x)(hx:Loc X.env.scope x)(r:zcN v u)
  (h:∀ s',Inv X pins (σ.set i (some v)) H s'->Q () s')(hf:X.fn x=true∨X.env.scope.names.lookup x=some .local := by first | exact .inl rfl | exact .inr rfl | assumption):wpAny M A (storeName X.env x u) Q E s :=
 zpy I hN hi hx r (fun s' I' _=>h s' I') hf
theorem Inv.call' {s':Shared}{ch:List Addr}(I:Inv X pins σ H s)(ho:s'.os=s.os)(u:Un (frs X.stack) ch H H' s.heap s'.heap)(hok:HOk X.prog X.w H' s'.heap)(hg:AllBare s'.gens)
  (hch:∀ b∈ch,(b∈X.ex∨X.s₀.heap.objs.size<=b)/\b≠X.env.locals/\(∀ x c,X.env.cells.lookup x=some c->c≠b)/\∀ p∈X.pn++pins,p.1≠b):Inv X pins σ H' s':=by
 obtain⟨h',g',d',t',o'⟩:=s'
 have e:o'=s.os:=ho
 subst e
 exact I.call (g':=g') (t':=t') (d':=d') u hok hg hch
end
abbrev XK:=Value->Option Addr->Hp->Prop
abbrev St:=List (Option V)
abbrev VK:=V->Hp->Prop
abbrev TE:=St->Hp->VK->Prop
abbrev TT:=St->Hp->(Bool->Hp->Prop)->Prop
abbrev TA:=St->Hp->(List V->Hp->Prop)->Prop
structure znm where
 nx:St->Hp->Prop
 rt:VK
 bk:St->Hp->Prop:=fun _ _=>False
 ct:St->Hp->Prop:=fun _ _=>False
abbrev TS:=znm->St->Hp->Prop
def EP (X:Cx)(pins:List (Addr×Obj))(σ:St)(Q:VK)(u:Value)(s':Shared):Prop:=∃ v H',Inv X pins σ H' s'/\zcN v u/\Q v H'
def TP (X:Cx)(pins:List (Addr×Obj))(σ:St)(Q:Bool->Hp->Prop)(b:Bool)(s':Shared):Prop:=∃ H',Inv X pins σ H' s'/\Q b H'
def AP (X:Cx)(pins:List (Addr×Obj))(σ:St)(Q:List V->Hp->Prop)(us:List Value)(s':Shared):Prop:=∃ vs H',Inv X pins σ H' s'/\zce vs us/\Q vs H'
def SP (X:Cx)(pins:List (Addr×Obj))(D:znm)(f:Flow)(s':Shared):Prop :=
 match f with
 | .next=>∃ σ' H',Inv X pins σ' H' s'/\D.nx σ' H'
 | .brk=>∃ σ' H',Inv X pins σ' H' s'/\D.bk σ' H'
 | .cont=>∃ σ' H',Inv X pins σ' H' s'/\D.ct σ' H'
 | .ret u=>∃ v σ' H',Inv X pins σ' H' s'/\zcN v u/\D.rt v H'
def PE (X:Cx)(e:Expr)(t:TE):Prop :=
 ∀ (pins:List (Addr×Obj)) (s:Shared) (σ:St) (H:Hp) (Q:VK),Inv X pins σ H s->t σ H Q->wpAny (model X.prog X.w) X.A (eval e X.env) (EP X pins σ Q) X.xe s
def PT (X:Cx)(e:Expr)(t:TT):Prop :=
 ∀ (pins:List (Addr×Obj)) (s:Shared) (σ:St) (H:Hp) (Q:Bool->Hp->Prop),Inv X pins σ H s->t σ H Q->wpAny (model X.prog X.w) X.A (isTrue e X.env (eval e X.env)) (TP X pins σ Q) X.xe s
def PW (X:Cx)(e:Expr)(t:TT):Prop :=
 ∀ (whole:Sem Value) (pins:List (Addr×Obj)) (s:Shared) (σ:St) (H:Hp) (Q:Bool->Hp->Prop),Inv X pins σ H s->t σ H Q->wpAny (model X.prog X.w) X.A (isTrue e X.env whole) (TP X pins σ Q) X.xe s
theorem PW.pt {X:Cx}{e:Expr}{t:TT}(h:PW X e t):PT X e t:=h _
def PA (X:Cx)(es:List Expr)(t:TA):Prop :=
 ∀ (pos:Pos) (pins:List (Addr×Obj)) (s:Shared) (σ:St) (H:Hp) (Q:List V->Hp->Prop),Inv X pins σ H s->t σ H Q->wpAny (model X.prog X.w) X.A (spliced (backTo pos (starEach es X.env))) (AP X pins σ Q) X.xe s
def PS (X:Cx)(st:Stmt)(t:TS):Prop :=
 ∀ (pins:List (Addr×Obj)) (s:Shared) (σ:St) (H:Hp) (D:znm),Inv X pins σ H s->t D σ H->wpAny (model X.prog X.w) X.A (exec st X.env) (SP X pins D) X.xe s
def PSs (X:Cx)(st:List Stmt)(t:TS):Prop :=
 ∀ (pins:List (Addr×Obj)) (s:Shared) (σ:St) (H:Hp) (D:znm),Inv X pins σ H s->t D σ H->wpAny (model X.prog X.w) X.A (execs st X.env) (SP X pins D) X.xe s
theorem thn {α:Type}{t:Sem α}{Q Q':α->Shared->Prop}{M:Model}{A:Around}{E:Value->Shared->Prop}{s:Shared}(h:wpAny M A t Q E s)(hQ:∀ a s,Q a s->Q' a s):wpAny M A t Q' E s:=wpAny_mono h hQ fun _ _ x=>x
section
variable {X:Cx}
theorem bin {a b:Expr}{ta tb:TE}(ha:PE X a ta)(hb:PE X b tb){pins:List (Addr×Obj)}{s:Shared}{σ:St}{H:Hp}{R:V->V->Hp->Prop}(I:Inv X pins σ H s)(h:ta σ H fun x H1=>tb σ H1 fun y H2=>R x y H2)
  {α:Type}{Q:α->Shared->Prop}{f:Value->Value->Sem α}
  (hf:∀ v u s2 x y H2,Inv X pins σ H2 s2->zcN x v->zcN y u->R x y H2->wpAny (model X.prog X.w) X.A (f v u) Q X.xe s2) :
  wpAny (model X.prog X.w) X.A (eval a X.env) (fun v s₁=>wpAny (model X.prog X.w) X.A (eval b X.env) (fun u s₂=>wpAny (model X.prog X.w) X.A (f v u) Q X.xe s₂) X.xe s₁) X.xe s:=by
 refine thn (ha pins s σ H _ I h) fun v s1 ⟨x,H1,I1,r1,q1⟩=>?_
 refine thn (hb pins s1 σ H1 _ I1 q1) fun u s2 ⟨y,H2,I2,r2,q2⟩=>?_
 exact hf v u s2 x y H2 I2 r1 r2 q2
def zEU (i:Nat):TE:=fun σ H Q=>∃ v,σ[i]?=some (some v)/\Q v H
def tC (v:V):TE:=fun _ H Q=>Q v H
theorem zjl {i:Nat}{x:Str}{pos:Pos}(hN:X.N[i]?=some x)(hv:Vis X.env.scope x)(hd:(x==("__debug__" : Str))=false:=by decide)(hcd:(x==("__classdict__" : Str))=false:=by decide):PE X (.Name x pos) (zEU i):=by
 intro pins s σ H Q I h
 obtain⟨v,e,h⟩:=h
 obtain⟨m,hn,hl⟩:=I.loc
 obtain⟨u,r,l⟩:=hl i x v hN e hv
 have fin:EP X pins σ Q u s:=⟨v,H,I,r,h⟩
 rcases l with⟨hk,hm⟩ | ⟨hk,c,hc,hcell⟩
 ·exact wpAny_Name (wpAny_loadName_local I.ok.kind hk hn hm fin) hd
 ·rcases hk with hk | hk
  ·exact wpAny_Name (wpAny_loadName_cell I.ok.kind hk hc hcell fin) hd
  ·exact wpAny_Name (wpAny_loadName_free I.ok.kind hk hc hcell fin hcd) hd
theorem zCm {i j pos}:PE X (.Constant (.int i) j pos) (tC (.int i)):=fun _ _ _ H _ I h=>wpAny_Constant_int ⟨.int i,H,I.tok _,⟨_,rfl⟩,h⟩
theorem zDX {b j pos}:PE X (.Constant (.bool b) j pos) (tC (.bl b)):=fun _ _ _ H _ I h=>Constant_bool ⟨.bl b,H,I,rfl,h⟩
theorem zCl {j pos}:PE X (.Constant .none j pos) (tC .non):=fun _ _ _ H _ I h=>Constant_none ⟨.non,H,I,rfl,h⟩
theorem zCi {x j pos}:PE X (.Constant (.str x) j pos) (tC (.str x)):=fun _ _ _ H _ I h=>Calls.Constant_str ⟨.str x,H,I.tok _,⟨_,rfl⟩,h⟩
def Gl (X:Cx)(x:Str):Prop:=X.env.kindOf x=some .globalImplicit
theorem zhn {E:Value->Shared->Prop}{pins:List (Addr×Obj)}{s:Shared}{σ:St}{H:Hp}{x:Str}{u:Value}{pos:Pos}{Q:Value->Shared->Prop}(I:Inv X pins σ H s)(hg:Gl X x)(hm:X.mg x=some u)(h:Q u s)
  (hd:(x==("__debug__" : Str))=false:=by decide):wpAny (model X.prog X.w) X.A (eval (.Name x pos) X.env) Q E s :=
 Calls.Name_function_global I.ok.kind hg (Calls.loadGlobal_global (by rw[I.ok.glob];exact I.mod.glob.keeps I.bk) hm h) hd
theorem zpS {E:Value->Shared->Prop}{pins:List (Addr×Obj)}{s:Shared}{σ:St}{H:Hp}{x:Str}{u:Value}{pos:Pos}{Q:Value->Shared->Prop}(I:Inv X pins σ H s)(hg:Gl X x)(hm:X.mg x=none)(hv:bootBuiltins x=some u)(h:Q u s)
  (hn:x≠"__name__":=by decide)(hd:(x==("__debug__" : Str))=false:=by decide):wpAny (model X.prog X.w) X.A (eval (.Name x pos) X.env) Q E s:=by
 obtain⟨mb,h1,h2⟩:=I.mod.blt
 exact Calls.Name_function_global I.ok.kind hg (Calls.loadGlobal_builtin (by rw[I.ok.glob];exact I.mod.glob.keeps I.bk) hm (by rw[I.ok.blt];exact h1.keeps I.bk) ((h2 x hn).trans hv) h) hd
theorem zrh {x:Str}{v:V}{u:Value}{pos:Pos}(hg:Gl X x)(hm:X.mg x=some u)(r:zcN v u)(hd:(x==("__debug__" : Str))=false:=by decide):PE X (.Name x pos) (tC v) :=
 fun _ _ _ H _ I h=>zhn I hg hm ⟨v,H,I,r,h⟩ hd
theorem zvy {x:Str}{v:V}{u:Value}{pos:Pos}(hg:Gl X x)(hm:X.mg x=none)(hv:bootBuiltins x=some u)(r:zcN v u)(hn:x≠"__name__":=by decide)(hd:(x==("__debug__" : Str))=false:=by decide):PE X (.Name x pos) (tC v) :=
 fun _ _ _ H _ I h=>zpS I hg hm hv ⟨v,H,I,r,h⟩ hn hd
variable {a b:Expr}{ta tb:TE}{pos:Pos}
def PC (X:Cx)(op:CmpOp)(a b:Expr)(t:TE):Prop :=
 ∀ (pins:List (Addr×Obj)) (s:Shared) (σ:St) (H:Hp) (Q:VK),Inv X pins σ H s->t σ H Q ->
  wpAny (model X.prog X.w) X.A (eval a X.env) (fun v s₁=>wpAny (model X.prog X.w) X.A (eval b X.env) (fun u s₂=>wpAny (model X.prog X.w) X.A (compareOp op v u) (EP X pins σ Q) X.xe s₂) X.xe s₁) X.xe s
theorem zsI (b:Expr){op:CmpOp}(h:op≠.In)(h2:op≠.NotIn):behindInMarks op b=false:=by
 have e1:(op==CmpOp.In)=false:=by cases op<;>first | rfl | exact absurd rfl h
 have e2:(op==CmpOp.NotIn)=false:=by cases op<;>first | rfl | exact absurd rfl h2
 cases b<;>simp [behindInMarks,e1,e2]
def tB (t:TE):TT:=fun σ H Q=>t σ H fun x H1=>∃ c,x=.bl c/\Q c H1
theorem zEB {op:CmpOp}{t:TE}(h:PC X op a b t)(h1:behindInMarks op b=false:=by first | exact zsI _ (by decide) (by decide) | rfl):PT X (.Compare a [op] [b] pos) (tB t):=by
 intro pins s σ H Q I hw
 refine wpAny_isTrue_Compare1 (thn (h pins s σ H _ I hw) fun v s1 h1=>thn h1 fun u s2 h2=>thn h2 fun c s3 ⟨x,H1,I1,r1,q1⟩=>?_) h1
 obtain⟨d,rfl,q⟩:=q1
 cases r1
 exact wpAny_truthy_bool ⟨H1,I1,q⟩
theorem zCa {e:Expr}{t:TE}(h:PE X e t)(he:∀ whole,isTrue e X.env whole=(do let v ← whole;standAt e.pos;holding [v] (truthy v)):=by intro _;rfl):PT X e (tB t):=by
 intro pins s σ H Q I hw
 refine isTrue_plain (thn (h pins s σ H _ I hw) fun v s1 ⟨x,H1,I1,r1,q1⟩=>?_) (he _)
 obtain⟨d,rfl,q⟩:=q1
 cases r1
 exact wpAny_truthy_bool ⟨H1,I1,q⟩
variable {tA tB':TT}{rest:List Expr}
def zE6 (t u:TT):TT:=fun σ H Q=>t σ H fun c H1=>if c=true then u σ H1 Q else Q false H1
def tOr (t u:TT):TT:=fun σ H Q=>t σ H fun c H1=>if c=true then Q true H1 else u σ H1 Q
def zE0 (t:TT):TT:=fun σ H Q=>t σ H fun c H1=>Q (!c) H1
theorem zAi (ha:PT X a tA):PW X (.BoolOp .And [a] pos) tA:=by
 intro wh pins s σ H Q I h
 refine isTrue_and (thn (ha pins s σ H Q I h) fun c s1 e=>?_)
 cases c with
 | true=>exact isTrue_and_nil e
 | false=>exact e
theorem zB6 (ha:PT X a tA):PW X (.BoolOp .Or [a] pos) tA:=by
 intro wh pins s σ H Q I h
 refine isTrue_or (thn (ha pins s σ H Q I h) fun c s1 e=>?_)
 cases c with
 | false=>exact isTrue_or_nil e
 | true=>exact e
theorem zB7 (ha:PT X a tA)(hb:PW X (.BoolOp .And (b::rest) pos) tB'):PW X (.BoolOp .And (a::b::rest) pos) (zE6 tA tB'):=by
 intro wh pins s σ H Q I h
 refine isTrue_and (thn (ha pins s σ H _ I h) fun c s1 ⟨H1,I1,q1⟩=>?_)
 cases c with
 | true=>exact hb wh pins s1 σ H1 Q I1 q1
 | false=>exact⟨H1,I1,q1⟩
theorem zDN (ha:PT X a tA)(hb:PW X (.BoolOp .Or (b::rest) pos) tB'):PW X (.BoolOp .Or (a::b::rest) pos) (tOr tA tB'):=by
 intro wh pins s σ H Q I h
 refine isTrue_or (thn (ha pins s σ H _ I h) fun c s1 ⟨H1,I1,q1⟩=>?_)
 cases c with
 | true=>exact⟨H1,I1,q1⟩
 | false=>exact hb wh pins s1 σ H1 Q I1 q1
theorem zCb (ha:PT X a tA):PT X (.UnaryOp .Not a pos) (zE0 tA):=by
 intro pins s σ H Q I h
 exact isTrue_not (ha pins s σ H (fun c H1=>Q (!c) H1) I h)
def zDB (ta tb:TE):TE:=fun σ H Q=>ta σ H fun x H1=>∃ c,x=.bl c/\if c=true then tb σ H1 Q else Q (.bl false) H1
def zEZ (ta tb:TE):TE:=fun σ H Q=>ta σ H fun x H1=>∃ c,x=.bl c/\if c=true then Q (.bl true) H1 else tb σ H1 Q
def zDt (ta:TE):TE:=fun σ H Q=>ta σ H fun x H1=>∃ c,x=.bl c/\Q (.bl (!c)) H1
theorem zCj {op}{t:TE}(h:PE X a t):PE X (.BoolOp op [a] pos) t:=fun pins s σ H Q I hw=>BoolOp_one (h pins s σ H Q I hw)
theorem zCo (ha:PE X a ta)(hb:PE X (.BoolOp .And (b::rest) pos) tb):PE X (.BoolOp .And (a::b::rest) pos) (zDB ta tb):=by
 intro pins s σ H Q I h
 refine BoolOp_and (thn (ha pins s σ H _ I h) fun v s1 ⟨x,H1,I1,r1,q1⟩=>?_)
 obtain⟨c,rfl,q1⟩:=q1
 cases r1
 refine wpAny_truthy_bool ?_
 cases c with
 | true=>exact hb pins s1 σ H1 Q I1 q1
 | false=>exact⟨.bl false,H1,I1,rfl,q1⟩
theorem zDV (ha:PE X a ta)(hb:PE X (.BoolOp .Or (b::rest) pos) tb):PE X (.BoolOp .Or (a::b::rest) pos) (zEZ ta tb):=by
 intro pins s σ H Q I h
 refine BoolOp_or (thn (ha pins s σ H _ I h) fun v s1 ⟨x,H1,I1,r1,q1⟩=>?_)
 obtain⟨c,rfl,q1⟩:=q1
 cases r1
 refine wpAny_truthy_bool ?_
 cases c with
 | false=>exact hb pins s1 σ H1 Q I1 q1
 | true=>exact⟨.bl true,H1,I1,rfl,q1⟩
theorem zCk (ha:PE X a ta):PE X (.UnaryOp .Not a pos) (zDt ta):=by
 intro pins s σ H Q I h
 refine UnaryOp_ (thn (ha pins s σ H _ I h) fun v s1 ⟨x,H1,I1,r1,q1⟩=>?_)
 obtain⟨c,rfl,q1⟩:=q1
 cases r1
 exact not_of (wpAny_truthy_bool ⟨.bl (!c),H1,I1,rfl,q1⟩)
def tIf (t:TT)(ta tb:TE):TE:=fun σ H Q=>t σ H fun c H1=>if c=true then ta σ H1 Q else tb σ H1 Q
theorem zxY {c:Expr}(hc:PT X c tA)(ha:PE X a ta)(hb:PE X b tb):PE X (.IfExp c a b pos) (tIf tA ta tb):=by
 intro pins s σ H Q I h
 refine wpAny_IfExp (thn (hc pins s σ H _ I h) fun d s1 ⟨H1,I1,q1⟩=>?_)
 cases d with
 | true=>exact ha pins s1 σ H1 Q I1 q1
 | false=>exact hb pins s1 σ H1 Q I1 q1
end
def SqL (K:W.Frag)(H:Hp)(a:Addr)(xs:List V):Prop :=
 Rd H a (.lst xs) ∨
  ∃ (o:Obj) (its:Array Value) (n:Nat),K.lookup a=some o/\o.cls=.type "list"/\o.dict=none/\o.data=.seq its n/\its.size<=sizeLine/\zce xs its.toList
def SqT (K:W.Frag)(H:Hp)(a:Addr)(xs:List V):Prop :=
 Rd H a (.tup xs) ∨
  ∃ (o:Obj) (its:Array Value) (n:Nat),K.lookup a=some o/\o.cls=.type "tuple"/\o.data=.seq its n/\its.size<=sizeLine/\zce xs its.toList
def zFl:Value->Option V
 | .none=>some .non
 | .bool b=>some (.bl b)
 | .int i _=>some (.int i)
 | .str x _=>some (.str x)
 | .bytes b _=>some (.byt b)
 | .float b _=>some (.flt b)
 | .ref a=>some (.ref a)
 | .type n=>some (.ty n)
 | _=>none
theorem zcN.abs {x:V}{u:Value}(r:zcN x u):zFl u=some x:=by
 cases x with
 | non=>cases r;rfl
 | bl _=>cases r;rfl
 | int _=>obtain⟨t,rfl⟩:=r;rfl
 | str _=>obtain⟨t,rfl⟩:=r;rfl
 | byt _=>obtain⟨t,rfl⟩:=r;rfl
 | flt _=>obtain⟨t,rfl⟩:=r;rfl
 | ref _=>cases r;rfl
 | ty _=>cases r;rfl
theorem zcN.inj {x y:V}{u:Value}(r:zcN x u)(q:zcN y u):x=y:=Option.some.inj (r.abs.symm.trans q.abs)
theorem zce.inj:∀ {xs ys:List V}{us:List Value},zce xs us->zce ys us->xs=ys
 | _,_,_,.nil,.nil=>rfl
 | _,_,_,.cons r t,.cons r' t'=>by rw[r.inj r',zce.inj t t']
section
variable {X:Cx}{pins:List (Addr×Obj)}{σ:St}{H:Hp}{s:Shared}{a:Addr}{xs ys:List V}
theorem SqL.of {K:W.Frag}(h:H a=some (.lst xs)):SqL K H a xs:=.inl (.inl h)
theorem SqT.of {K:W.Frag}(h:H a=some (.tup xs)):SqT K H a xs:=.inl (.inl h)
theorem Inv.list (I:Inv X pins σ H s)(h:SqL X.K H a xs):∃ its:List Value,zce xs its/\PlainL s.heap a its.toArray/\xs.length<=sizeLine:=by
 rcases h with h | ⟨o,its,n,hk,hc,hd,hs,hz,r⟩
 ·obtain⟨z,its,n,r,e⟩:=h.ok I.hok
  exact⟨its,r,⟨_,n,e,rfl,rfl,rfl⟩,z⟩
 ·refine⟨its.toList,r,⟨o,n,I.kIn a o hk,hc,hd,by simpa using hs⟩,?_⟩
  have e:=r.length
  simp only[Array.length_toList] at e
  omega
theorem Inv.tuple (I:Inv X pins σ H s)(h:SqT X.K H a xs):∃ its:List Value,zce xs its/\IsTup s.heap a its.toArray/\xs.length<=sizeLine:=by
 rcases h with h | ⟨o,its,n,hk,hc,hs,hz,r⟩
 ·obtain⟨z,its,r,p⟩:=h.ok I.hok
  exact⟨its,r,p,z⟩
 ·refine⟨its.toList,r,⟨o,I.kIn a o hk,hc,n,by simpa using hs⟩,?_⟩
  have e:=r.length
  simp only[Array.length_toList] at e
  omega
theorem Inv.list_inj (I:Inv X pins σ H s)(h:SqL X.K H a xs)(h':SqL X.K H a ys):xs=ys:=by
 obtain⟨its,r,⟨o,n,e,_,_,d⟩,_⟩:=I.list h
 obtain⟨its',r',⟨o',n',e',_,_,d'⟩,_⟩:=I.list h'
 rw[e] at e';cases e'
 rw[d] at d'
 injection d' with d1 _
 have:its=its':=by simpa using congrArg Array.toList d1
 subst this
 exact r.inj r'
theorem Inv.tuple_inj (I:Inv X pins σ H s)(h:SqT X.K H a xs)(h':SqT X.K H a ys):xs=ys:=by
 obtain⟨its,r,⟨o,e,_,n,d⟩,_⟩:=I.tuple h
 obtain⟨its',r',⟨o',e',_,n',d'⟩,_⟩:=I.tuple h'
 rw[e] at e';cases e'
 rw[d] at d'
 injection d' with d1 _
 have:its=its':=by simpa using congrArg Array.toList d1
 subst this
 exact r.inj r'
end
abbrev Cx.wish (X:Cx)(E:Value->Shared->Prop):Cx:={ X with xe:=E }
abbrev Cx.nox (X:Cx):Cx:=X.wish fun _ _=>False
theorem Cx.Ok.wish {X:Cx}(ok:X.Ok)(E:Value->Shared->Prop):(X.wish E).Ok :=
 ⟨ok.mod,ok.kind,ok.glob,ok.blt,ok.above,ok.inj,ok.has,ok.cab,ok.hd,ok.frames,ok.stk,ok.exf,ok.bs,ok.bsz,ok.noex,ok.exfs,ok.funs,ok.frf⟩
theorem Cx.Ok.unwish {X:Cx}{E:Value->Shared->Prop}(ok:(X.wish E).Ok):X.Ok :=
 ⟨ok.mod,ok.kind,ok.glob,ok.blt,ok.above,ok.inj,ok.has,ok.cab,ok.hd,ok.frames,ok.stk,ok.exf,ok.bs,ok.bsz,ok.noex,ok.exfs,ok.funs,ok.frf⟩
section
variable {X:Cx}{pins:List (Addr×Obj)}{σ:St}{H:Hp}{s:Shared}{E:Value->Shared->Prop}
theorem Inv.wish (I:Inv X pins σ H s)(E:Value->Shared->Prop):Inv (X.wish E) pins σ H s:=⟨I.ok.wish E,I.os,I.bare,I.base,I.loc,I.cell,I.free,I.freeC,I.pin,I.hok,I.len⟩
theorem Inv.unwish (I:Inv (X.wish E) pins σ H s):Inv X pins σ H s:=⟨I.ok.unwish,I.os,I.bare,I.base,I.loc,I.cell,I.free,I.freeC,I.pin,I.hok,I.len⟩
theorem SP.unwish {D:znm}{f:Flow}{s':Shared}(h:SP (X.wish E) pins D f s'):SP X pins D f s':=by
 cases f with
 | next=>obtain⟨σ',H',I,q⟩:=h;exact⟨σ',H',I.unwish,q⟩
 | brk=>obtain⟨σ',H',I,q⟩:=h;exact⟨σ',H',I.unwish,q⟩
 | cont=>obtain⟨σ',H',I,q⟩:=h;exact⟨σ',H',I.unwish,q⟩
 | ret u=>obtain⟨v,σ',H',I,r,q⟩:=h;exact⟨v,σ',H',I.unwish,r,q⟩
theorem PSs.nox {st:List Stmt}{t:TS}(h:PSs X.nox st t):PSs X st t:=fun pins s σ H D I hw =>
 wpAny_mono (h pins s σ H D (I.wish _) hw) (fun _ _ q=>q.unwish) fun _ _ z=>False.elim z
end
section
variable {X:Cx}{st:Stmt}{rest:List Stmt}{t u:TS}{e:Expr}{te:TE}{pos:Pos}
def zDu:TS:=fun D σ H=>D.nx σ H
def zEW (t u:TS):TS:=fun D σ H=>t { D with nx:=u D } σ H
theorem zrb:PSs X [] zDu:=fun _ _ σ H _ I h=>wpAny_execs_nil ⟨σ,H,I,h⟩
theorem zjS (h1:PS X st t)(h2:PSs X rest u):PSs X (st::rest) (zEW t u):=by
 intro pins s σ H D I h
 refine wpAny_execs_cons (thn (h1 pins s σ H { D with nx:=u D } I h) fun f s1 q=>?_)
 cases f with
 | next =>
  obtain⟨σ',H',I',q⟩:=q
  exact h2 pins s1 σ' H' D I' q
 | ret v=>exact q
 | brk=>exact q
 | cont=>exact q
theorem Inv.quiet {pins:List (Addr×Obj)}{σ:St}{H:Hp}{s:Shared}(I:Inv X pins σ H s):interactive X.env=false:=by simp [interactive,I.ok.kind]
def zDx (te:TE):TS:=fun D σ H=>te σ H fun _ H1=>D.nx σ H1
theorem zrc (he:PE X e te)(hs:swapsWith e none pos.line X.env=pure false:=by rfl):PS X (.Expr e pos) (zDx te):=by
 intro pins s σ H D I h
 exact wpAny_Expr_any (thn (he pins s σ H _ I h) fun v s1 ⟨x,H1,I1,r1,q1⟩=>⟨σ,H1,I1,q1⟩) I.quiet hs
def zEX (te:TE):TS:=fun D σ H=>te σ H D.rt
theorem zCc (he:PE X e te):PS X (.Return (some e) pos) (zEX te):=by
 intro pins s σ H D I h
 exact wpAny_Return_some (thn (he pins s σ H _ I h) fun v s1 ⟨x,H1,I1,r1,q1⟩=>⟨x,σ,H1,I1,r1,q1⟩)
def zE3 (c:TT)(t u:TS):TS:=fun D σ H=>c σ H fun b H1=>if b=true then t D σ H1 else u D σ H1
theorem zDR {c:Expr}{a b:List Stmt}{tc:TT}(hc:PT X c tc)(ha:PSs X a t)(hb:PSs X b u):PS X (.If c a b pos) (zE3 tc t u):=by
 intro pins s σ H D I h
 refine wpAny_If (thn (hc pins s σ H _ I h) fun d s1 ⟨H1,I1,q1⟩=>?_)
 cases d with
 | true=>exact ha pins s1 σ H1 D I1 q1
 | false=>exact hb pins s1 σ H1 D I1 q1
end
abbrev TG:=V->St->Hp->(St->Hp->Prop)->Prop
abbrev TGs:=List V->St->Hp->(St->Hp->Prop)->Prop
def PG (X:Cx)(target:Expr)(t:TG):Prop :=
 ∀ (pins:List (Addr×Obj)) (s:Shared) (σ:St) (H:Hp) (v:V) (u:Value) (Q:St->Hp->Prop),Inv X pins σ H s->zcN v u->t v σ H Q ->
  wpAny (model X.prog X.w) X.A (assign target X.env u) (fun _ s'=>∃ σ' H',Inv X pins σ' H' s'/\Q σ' H') X.xe s
def PGs (X:Cx)(ts:List Expr)(t:TGs):Prop :=
 ∀ (pins:List (Addr×Obj)) (s:Shared) (σ:St) (H:Hp) (vs:List V) (us:List Value) (Q:St->Hp->Prop),Inv X pins σ H s->zce vs us->t vs σ H Q ->
  wpAny (model X.prog X.w) X.A (assignInOrder ((assignEach ts X.env).map (·.2)) us) (fun _ s'=>∃ σ' H',Inv X pins σ' H' s'/\Q σ' H') X.xe s
abbrev zEn:=V->V->V->Hp->(Hp->Prop)->Prop
def zEO (X:Cx)(t:zEn):Prop :=
 ∀ (pins:List (Addr×Obj)) (s:Shared) (σ:St) (H:Hp) (o i v:V) (ov iv u:Value) (Q:Hp->Prop),Inv X pins σ H s->zcN o ov->zcN i iv->zcN v u->t o i v H Q ->
  wpAny (model X.prog X.w) X.A (setItem ov iv u) (fun _ s'=>∃ H',Inv X pins σ H' s'/\Q H') X.xe s
section
variable {X:Cx}{pos:Pos}
def zAY (i:Nat):TG:=fun v σ H Q=>Q (σ.set i (some v)) H
theorem zvw {i:Nat}{x:Str}(hN:X.N.Nodup)(hi:X.N[i]?=some x)(hx:Loc X.env.scope x)(hf:X.fn x=true∨X.env.scope.names.lookup x=some .local := by first | exact .inl rfl | exact .inr rfl | assumption):PG X (.Name x pos) (zAY i):=by
 intro pins s σ H v u Q I r h
 exact wpAny_assign_Name (ziJ I hN hi hx r (fun s' I'=>⟨_,H,I',h⟩) hf)
def zFk:TGs:=fun vs σ H Q=>vs=[]/\Q σ H
def zD8 (t:TG)(u:TGs):TGs:=fun vs σ H Q=>∃ v r,vs=v::r/\t v σ H fun σ' H'=>u r σ' H' Q
theorem zAq:PGs X [] zFk:=by
 intro pins s σ H vs us Q I r h
 obtain⟨e,h⟩:=h
 subst e
 cases r
 exact assignInOrder_nil ⟨σ,H,I,h⟩
theorem zxW {e:Expr}{es:List Expr}{t:TG}{u:TGs}(h1:PG X e t)(h2:PGs X es u)
  (hs:(assignEach (e::es) X.env).map (·.2)=assign e X.env::(assignEach es X.env).map (·.2):=by rfl):PGs X (e::es) (zD8 t u):=by
 intro pins s σ H vs us Q I r h
 obtain⟨v,vr,e1,h⟩:=h
 subst e1
 cases r with
 | cons r rr =>
  rw[hs]
  refine assignInOrder_cons (thn (h1 pins s σ H _ _ _ I r h) fun _ s1 ⟨σ1,H1,I1,q1⟩=>?_)
  exact h2 pins s1 σ1 H1 _ _ Q I1 rr q1
def zFi (K:W.Frag)(n:Nat)(t:TGs):TG:=fun v σ H Q=>∃ a xs,v=.ref a/\SqT K H a xs/\xs.length=n/\t xs σ H Q
theorem zCg {es:List Expr}{k:Nat}{t:TGs}{n:Nat}(hc:X.calm=true)(h:PGs X es t)
  (hn:(assignEach es X.env).length=n:=by rfl)(hst:(assignEach es X.env).findIdx? (·.1)=none:=by rfl):PG X (.Tuple es k pos) (zFi X.K n t):=by
 intro pins s σ H v u Q I r hw
 obtain⟨a,xs,e1,hq,hl,hw⟩:=hw
 subst e1
 cases r
 obtain⟨its,rv,ht,hz⟩:=I.tuple hq
 refine assign_Tuple_tuple (I.ok.hd hc) ht (by simp [hn,← hl,rv.length]) hst fun h' hx=>?_
 have I1:Inv X pins σ H { s with heap:=h' }:=I.kept (t':=s.toks) fun b o e=>hx b o (Nat.ne_of_lt (Heap.lt_size e)) e
 exact h pins _ σ H xs _ Q I1 (by simpa using rv) hw
def zFj (to ti:TE)(t:zEn):TG:=fun v σ H Q=>to σ H fun o H1=>ti σ H1 fun i H2=>t o i v H2 fun H3=>Q σ H3
theorem zCh {o i:Expr}{to ti:TE}{t:zEn}(ho:PE X o to)(hi:PE X i ti)(hs:zEO X t)
  (ha:∀ v,assign (.Subscript o i pos) X.env v=(do
   let ov ← holding [v] (eval o X.env)
   let iv ← holding [v,ov] (eval i X.env)
   standAt pos
   holding [v,ov,iv] (setItem ov iv v)
   release [v,ov,iv] []):=by intro _;rfl):PG X (.Subscript o i pos) (zFj to ti t):=by
 intro pins s σ H v u Q I r h
 rw[ha]
 refine wpAny_bind (wpAny_holding (thn (ho pins s σ H _ I h) fun ov s1 ⟨x,H1,I1,r1,q1⟩=>?_))
 refine wpAny_bind (wpAny_holding (thn (hi pins s1 σ H1 _ I1 q1) fun iv s2 ⟨y,H2,I2,r2,q2⟩=>?_))
 refine wpAny_bind (wpAny_standAt (wpAny_bind (wpAny_holding (thn (hs pins s2 σ H2 x y v ov iv u _ I2 r1 r2 r q2) fun _ s3 ⟨H3,I3,q3⟩=>?_))))
 exact wpAny_release ⟨σ,H3,I3,q3⟩
def zDA (te:TE)(g:TG):TS:=fun D σ H=>te σ H fun x H1=>g x σ H1 D.nx
theorem zzl {tg e:Expr}{te:TE}{g:TG}(he:PE X e te)(hg:PG X tg g)(hs:swapsWithSole [tg] e pos.line X.env=pure false:=by rfl)(hw:swappedStores [tg] e X.env=pure none:=by rfl)
  (h1:(assignEach [tg] X.env).map (·.2)=[assign tg X.env]:=by rfl):PS X (.Assign [tg] e pos) (zDA te g):=by
 intro pins s σ H D I h
 refine wpAny_Assign_stores (thn (he pins s σ H _ I h) fun v s1 ⟨x,H1,I1,r1,q1⟩=>?_) hs hw
 rw[h1]
 exact thn (hg pins s1 σ H1 x v _ I1 r1 q1) fun _ s2 q=>q
theorem zzk {i:Nat}{x:Str}{e:Expr}{te:TE}{pos':Pos}(hN:X.N.Nodup)(hi:X.N[i]?=some x)(hx:Loc X.env.scope x)(he:PE X e te)(hs:swapsWith e (some (.Name x pos')) pos.line X.env=pure false:=by rfl)(hf:X.fn x=true∨X.env.scope.names.lookup x=some .local := by first | exact .inl rfl | exact .inr rfl | assumption) :
  PS X (.Assign [.Name x pos'] e pos) (zDA te (zAY i)):=by
 intro pins s σ H D I h
 refine wpAny_Assign_Name (thn (he pins s σ H _ I h) fun v s1 ⟨y,H1,I1,r1,q1⟩=>?_) hs
 exact ziJ I1 hN hi hx r1 (fun s2 I2=>⟨_,H1,I2,q1⟩) hf
def zEY (i j:Nat)(ta:TA):TS:=fun D σ H=>ta σ H fun vs H1=>∃ v w,vs=[v,w]/\D.nx ((σ.set i (some v)).set j (some w)) H1
theorem zCd {i j:Nat}{x y:Str}{a b:Expr}{ta:TA}{px py pt:Pos}{kt k2 pt2}(hc:X.calm=true)(hN:X.N.Nodup)(hi:X.N[i]?=some x)(hj:X.N[j]?=some y)(hij:i≠j)
  (hx:X.env.scope.names.lookup x=some .local)(hy:X.env.scope.names.lookup y=some .local)(ha:PA X [a,b] ta)
  (hw:swappedStores [.Tuple [.Name x px,.Name y py] kt pt] (.Tuple [a,b] k2 pt2) X.env=pure (some [x,y]))
  (hs:swapsWithSole [.Tuple [.Name x px,.Name y py] kt pt] (.Tuple [a,b] k2 pt2) pos.line X.env=pure false:=by rfl) :
  PS X (.Assign [.Tuple [.Name x px,.Name y py] kt pt] (.Tuple [a,b] k2 pt2) pos) (zEY i j ta):=by
 intro pins s σ H D I h
 rw[exec_Assign_arm]
 refine wpAny_bind (wpAny_standAt ?_)
 rw[hs]
 refine wpAny_bind (wpAny_pure ?_)
 rw[if_neg (by decide)]
 refine wpAny_bind (Tuple_ (thn (ha _ pins s σ H _ I h) fun us s1 ⟨vs,H1,I1,r1,q1⟩=>?_))
 obtain⟨v,w,e1,q1⟩:=q1
 subst e1
 obtain⟨u1,u2,rfl,rv,rw'⟩:∃ u1 u2,us=[u1,u2]/\zcN v u1/\zcN w u2:=by
  cases r1 with
  | cons p q =>
   cases q with
   | cons p' q' =>
    cases q'
    exact⟨_,_,rfl,p,p'⟩
 refine wpAny_newObj_type ?_ (by show 2<=sizeLine;decide)
 have I2:Inv X pins σ H1 { s1 with heap:=s1.heap.push { cls:=.type "tuple",data:=.seq [u1,u2].toArray } }:=I1.kept (t':=s1.toks) fun b o e=>Heap.get?_push_of_some _ e
 rw[hw]
 refine wpAny_bind (wpAny_pure ?_)
 show wpAny (model X.prog X.w) X.A (do rule "assign.swapped-stores";let items ← unpackItems (.ref s1.heap.objs.size) 2 none;assignInOrder [fun v=>bindName X.env y v,fun v=>bindName X.env x v] items.reverse;pure Flow.next) _ _ _
 refine wpAny_bind (wpAny_rule (wpAny_bind (unpackItems_tuple (items:=#[u1,u2]) (I.ok.hd hc) (IsTup.new s1.heap _) fun h' hx'=>?_)))
 have I3:=I2.kept (h':=h') (t':=s1.toks) fun b o e=>hx' b o (Nat.ne_of_lt (Heap.lt_size e)) e
 show wpAny _ _ (assignInOrder [fun v=>bindName X.env y v,fun v=>bindName X.env x v] [u2,u1] >>= fun _=>pure Flow.next) _ _ _
 refine wpAny_bind (assignInOrder_cons (wpAny_bindName (ziJ I3 hN hj (.inl hy) rw' (fun s2 I4=>?_) (.inr hy))))
 refine assignInOrder_cons (wpAny_bindName (ziJ I4 hN hi (.inl hx) rv (fun s3 I5=>assignInOrder_nil (wpAny_pure ?_)) (.inr hx)))
 rw[List.set_comm _ _ (Ne.symm hij)] at I5
 exact⟨_,H1,I5,q1⟩
end
section
variable {X:Cx}{pos:Pos}
def zBO (c:TT)(tb:TS):TS:=fun D σ H=>∃ W:Nat->St->Hp->Prop,(∃ m,W m σ H)/\∀ m σ H,W m σ H ->
 c σ H fun b H1=>if b=true then ∃ N:St->Hp->Prop,(∀ σ' H',N σ' H'->∃ m',m' < m/\W m' σ' H')/\tb { D with nx:=N,ct:=N,bk:=D.nx } σ H1 else D.nx σ H1
theorem zxU {c:Expr}{body:List Stmt}{tc:TT}{tb:TS}(hp:PassesOwn (model X.prog X.w) X.A X.env X.xe)(hc:PT X c tc)(hb:PSs X body tb):PS X (.While c body [] pos) (zBO tc tb):=by
 intro pins s σ H D I h
 obtain⟨W,⟨m0,w0⟩,turn⟩:=h
 refine wpAny_While (codeAny_whileLoop (fun n s'=>∃ σ' H',Inv X pins σ' H' s'/\W n σ' H') ?_ m0 ⟨σ,H,I,w0⟩)
 rintro n s1 ⟨σ1,H1,I1,w1⟩
 refine wpAny_passesOwn hp (thn (hc pins s1 σ1 H1 _ I1 (turn n σ1 H1 w1)) fun b s2 ⟨H2,I2,q2⟩=>?_)
 cases b with
 | true =>
  obtain⟨N,hN,q2⟩:=q2
  rw[if_pos rfl]
  refine wpAny_passesOwn hp (thn (hb pins s2 σ1 H2 _ I2 q2) fun f s3 q3=>?_)
  cases f with
  | next =>
   obtain⟨σ3,H3,I3,n3⟩:=q3
   obtain⟨m',hm,w3⟩:=hN σ3 H3 n3
   exact⟨m',hm,σ3,H3,I3,w3⟩
  | cont =>
   obtain⟨σ3,H3,I3,n3⟩:=q3
   obtain⟨m',hm,w3⟩:=hN σ3 H3 n3
   exact⟨m',hm,σ3,H3,I3,w3⟩
  | brk=>exact q3
  | ret v=>exact q3
 | false =>
  rw[if_neg Bool.false_ne_true]
  exact wpAny_execs_nil ⟨σ1,H2,I2,q2⟩
end
structure It where
 go:Nat->Hp->Prop
 yld:Nat->Hp->V->Hp->Prop
 stop:Nat->Hp->Prop
def zum (X:Cx)(pins:List (Addr×Obj))(H:Hp)(b:Addr):Prop :=
 H b=none/\b≠X.env.locals/\b∉X.fs/\(b∈X.ex∨X.s₀.heap.objs.size<=b)/\(∀ x c,X.env.cells.lookup x=some c->c≠b)/\∀ p∈X.pn++pins,p.1≠b
theorem Inv.fpOk {X:Cx}{pins:List (Addr×Obj)}{σ:St}{H H':Hp}{s:Shared}{b:Addr}(I:Inv X pins σ H s)(hb:s.heap.objs.size<=b)(hn:H' b=none):zum X pins H' b:=by
 refine⟨hn,Nat.ne_of_gt (Nat.lt_of_lt_of_le I.lt hb),I.nofs hb,.inr (Nat.le_trans I.sz hb),fun x c e z=>?_,fun p hp z=>?_⟩
 ·obtain⟨v,q⟩:=I.cell x c e
  exact absurd (Nat.lt_of_lt_of_le q.lt (by rw[z];exact hb)) (Nat.lt_irrefl _)
 ·exact absurd (Nat.lt_of_lt_of_le (Heap.lt_size (I.pin p hp).1) (by rw[z];exact hb)) (Nat.lt_irrefl _)
structure zBo (P:Program) (w:World) (K:W.Frag) (tg:Expr) (J:It) (fp:List Addr) (it:Addr) (tn:Nat->Heap->Prop):Prop where
 mem:it∈fp
 obj:∀ i h,tn i h->∀ b∈fp,∃ o,h.get? b=some o/\∀ v,o.data≠.cell v
 keep:∀ i h h',tn i h->(∀ b∈fp,∀ o,h.get? b=some o->h'.get? b=some o)->tn i h'
 item:∀ (X:Cx),X.prog=P->X.w=w->X.K=K->X.calm=true->∀ (i:Nat) (pins:List (Addr×Obj)) (s:Shared) (σ:St) (H:Hp) (E:Value->Shared->Prop),Inv X pins σ H s->(∀ b∈fp,zum X pins H b)->tn i s.heap->J.go i H ->
  wpAny (model P w) X.A (pyNext (.ref it)) (fun r s1=>∃ u,r=some u /\
   wpAny (model P w) X.A (letOwnedTupleGo tg (.ref it) u) (fun _ s2=>∃ x H',Inv X pins σ H' s2/\zcN x u/\J.yld i H x H'/\tn (i+1) s2.heap/\∀ b∈fp,H' b=none) E s1) E s
 done:∀ (X:Cx),X.prog=P->X.w=w->X.K=K->X.calm=true->∀ (i:Nat) (pins:List (Addr×Obj)) (s:Shared) (σ:St) (H:Hp) (E:Value->Shared->Prop),Inv X pins σ H s->(∀ b∈fp,zum X pins H b)->tn i s.heap->J.stop i H ->
  wpAny (model P w) X.A (pyNext (.ref it)) (fun r s1=>r=none/\Inv X pins σ H s1) E s
 self:∀ (A:Around) (i:Nat) (s:Shared) (Q:Value->Shared->Prop) (E:Value->Shared->Prop),tn i s.heap->Q (.ref it) s->wpAny (model P w) A (pyIter (.ref it)) Q E s
abbrev TI:=St->Hp->(It->Hp->Prop)->Prop
def PIE (X:Cx)(pins:List (Addr×Obj))(σ:St)(tg:Expr)(R:It->Hp->Prop)(itv:Value)(s2:Shared):Prop :=
 ∃ (it:Addr) (fp:List Addr) (tn:Nat->Heap->Prop) (J:It) (H':Hp),itv=.ref it/\Inv X pins σ H' s2/\zBo X.prog X.w X.K tg J fp it tn/\tn 0 s2.heap/\(∀ b∈fp,zum X pins H' b)/\R J H'
def PI (X:Cx)(tg iter:Expr)(wi:TI):Prop :=
 ∀ (pins:List (Addr×Obj)) (s:Shared) (σ:St) (H:Hp) (R:It->Hp->Prop),Inv X pins σ H s->wi σ H R ->
  wpAny (model X.prog X.w) X.A (eval iter X.env) (fun v s1=>wpAny (model X.prog X.w) X.A (pyIter v) (PIE X pins σ tg R) X.xe s1) X.xe s
theorem zyt {M:Model}{A:Around}{E:Value->Shared->Prop}{s:Shared}{tg:Expr}{it:Addr}{u:Value}{o:Obj}{n:String}{vs:Array Value}{Q:Unit->Shared->Prop}(ho:s.heap.get? it=some o)(hc:o.cls=.type n)(hd:o.data=.fields vs)
  (hn:["enumerate","zip","dict_itemiterator","dict_reverseitemiterator","odict_iterator","itertools.zip_longest","itertools.pairwise"].contains n=false)(hQ:Q () s):wpAny M A (letOwnedTupleGo tg (.ref it) u) Q E s:=by
 unfold letOwnedTupleGo
 cases tg<;>first
  | exact wpAny_pure hQ
  | (cases u<;>first
    | exact wpAny_pure hQ
    | (refine wpAny_bind (wpAny_load ho ?_);rw[hc,hd];show wpAny M A (if(["enumerate","zip","dict_itemiterator","dict_reverseitemiterator","odict_iterator","itertools.zip_longest","itertools.pairwise"].contains n&&vs[0]?==some (rawInt _))=true then _ else _) Q E s;rw[if_neg (by intro h;rw[hn,Bool.false_and] at h;cases h)];exact wpAny_pure hQ))
def Itl (K:W.Frag)(a:Addr):It :=
 ⟨fun i H=>∃ xs x,SqL K H a xs/\xs[i]?=some x,fun i H x H'=>H'=H/\∀ xs,SqL K H a xs->xs[i]?=some x,fun i H=>∃ xs,SqL K H a xs/\xs.length<=i⟩
def Itr (lo:Int)(n:Nat):It:=⟨fun i _=>i < n,fun i H x H'=>H'=H/\x=.int (lo+i),fun i _=>n<=i⟩
theorem zuM {P:Program}{w:World}{K:W.Frag}{tg:Expr}(a it:Addr):zBo P w K tg (Itl K a) [it] it (fun i h=>h.IsListIter it a i) where
 mem:=by simp
 obj:=fun i h st b hb=>by
  have e:b=it:=by simpa using hb
  subst e
  obtain⟨o,e,c,d⟩:=st
  exact⟨o,e,fun v z=>by rw[d] at z;cases z⟩
 keep:=fun i h h' st k=>st.at fun o e=>k it (by simp) o e
 item:=by
  intro X hP hw hK hc i pins s σ H E I hf st hg
  subst hP hw hK
  obtain⟨xs,x,hq,hx⟩:=hg
  obtain⟨its,rv,p,hz⟩:=I.list hq
  obtain⟨u,hu,ru⟩:=rv.get hx
  obtain⟨f0,f1,f2,f3,f4,f5⟩:=hf it (by simp)
  refine wpAny_pyNext_list_item st p.isList (x:=u) (by simpa using hu) fun h' st' sb=>?_
  have I1:Inv X pins σ H { s with heap:=h' }:=I.turned (t':=s.toks) (fun b o hb e=>(sb.2 b hb).trans e) f0 f1 f3 f4 f5
  obtain⟨o,e,c,d⟩:=id st'
  exact⟨u,rfl,zyt (s:={ s with heap:=h' }) e c d (by decide) ⟨x,H,I1,ru,⟨rfl,fun ys hy=>by rw[I.list_inj hy hq];exact hx⟩,st',fun b hb=>(hf b hb).1⟩⟩
 done:=by
  intro X hP hw hK hc i pins s σ H E I hf st hg
  subst hP hw hK
  obtain⟨xs,hq,hx⟩:=hg
  obtain⟨its,rv,p,hz⟩:=I.list hq
  obtain⟨f0,f1,f2,f3,f4,f5⟩:=hf it (by simp)
  have hl:=rv.length
  exact wpAny_pyNext_list_end (I.ok.hd hc) st p.isList (by simp;omega) fun h' eb=>⟨rfl,I.turned (t':=s.toks) (fun b o hb e=>eb b o hb e) f0 f1 f3 f4 f5⟩
 self:=fun _ _ _ _ _ st h=>wpAny_pyIter_listiter st h
theorem zte {P:Program}{w:World}{K:W.Frag}{tg:Expr}(it:Addr)(lo:Int)(n:Nat):zBo P w K tg (Itr lo n) [it] it (fun i h=>IsRangeIter h it (lo+(i:Nat)*1) ((n:Int)-(i:Nat)) 1) where
 mem:=by simp
 obj:=fun i h st b hb=>by
  have e:b=it:=by simpa using hb
  subst e
  exact⟨_,st,fun v z=>by
   have z':Data.fields _=Data.cell v:=z
   cases z'⟩
 keep:=fun i h h' st k=>k it (by simp) _ st
 item:=by
  intro X hP hw hK hc i pins s σ H E I hf st hg
  subst hP hw hK
  obtain⟨f0,f1,f2,f3,f4,f5⟩:=hf it (by simp)
  have W:=Walks.range (prog:=X.prog) (w:=X.w) (I.ok.hd hc) it lo 1 n
  refine W.item i s _ _ hg st fun v h' tk hv st' kk=>?_
  obtain⟨t,rfl⟩:=hv
  have I1:Inv X pins σ H { s with heap:=h',toks:=tk }:=I.turned (fun b o hb e=>kk b o (by simpa using hb) e) f0 f1 f3 f4 f5
  refine⟨_,rfl,zyt (s:={ s with heap:=h',toks:=tk }) (n:="range_iterator") st' rfl rfl (by decide) ⟨.int (lo+i),H,I1,⟨t,?_⟩,⟨rfl,rfl⟩,st',fun b hb=>(hf b hb).1⟩⟩
  rw[Int.mul_one]
 done:=by
  intro X hP hw hK hc i pins s σ H E I hf st hg
  subst hP hw hK
  obtain⟨f0,f1,f2,f3,f4,f5⟩:=hf it (by simp)
  exact wpAny_pyNext_range_end (I.ok.hd hc) st (by have:n<=i:=hg;omega) fun h' eb=>⟨rfl,I.turned (t':=s.toks) (fun b o hb e=>eb b o hb e) f0 f1 f3 f4 f5⟩
 self:=fun _ _ _ _ _ st h=>wpAny_pyIter_rangeiter st h
section
variable {X:Cx}{tg:Expr}
def zD5 (K:W.Frag)(tl:TE):TI:=fun σ H R=>tl σ H fun x H1=>∃ a,x=.ref a/\(∃ xs,SqL K H1 a xs)/\R (Itl K a) H1
theorem zvv {l:Expr}{tl:TE}(hl:PE X l tl):PI X tg l (zD5 X.K tl):=by
 intro pins s σ H R I h
 refine thn (hl pins s σ H _ I h) fun v s1 ⟨x,H1,I1,r1,q1⟩=>?_
 obtain⟨a,e,⟨xs,hq⟩,q⟩:=q1
 subst e
 cases r1
 obtain⟨its,rv,p,hz⟩:=I1.list hq
 refine wpAny_pyIter_list p.isList ?_
 refine⟨s1.heap.objs.size,[s1.heap.objs.size],_,_,H1,rfl,I1.kept (t':=s1.toks) fun b o e=>Heap.get?_push_of_some _ e,zuM a _,⟨_,Heap.get?_push_size _ rfl,rfl,rfl⟩,fun b hb=>?_,q⟩
 have e:b=s1.heap.objs.size:=by simpa using hb
 subst e
 exact I1.fpOk (Nat.le_refl _) (I1.hok.fresh (Nat.le_refl _))
theorem zxL {pins:List (Addr×Obj)}{σ:St}{H:Hp}{s:Shared}{R:It->Hp->Prop}{E:Value->Shared->Prop}{lo hi:Int}{t u v:Tok}{tk:Nat}(I:Inv X pins σ H s)(h1:-(2 ^ 62)<=lo)(h2:lo < 2 ^ 62)(h3:-(2 ^ 62)<=hi)(h4:hi < 2 ^ 62)
  (q:R (Itr lo (hi-lo).toNat) H):wpAny (model X.prog X.w) X.A (pyIter (.ref s.heap.objs.size)) (PIE X pins σ tg R) E { s with heap:=s.heap.push { cls:=.type "range",data:=.fields #[.int lo t,.int hi u,.int 1 v] },toks:=tk }:=by
 refine wpAny_pyIter_range (IsRange.new ..) (small_one h1 h2 h3 h4) ?_
 have I1:Inv X pins σ H { s with heap:=s.heap.push { cls:=.type "range",data:=.fields #[.int lo t,.int hi u,.int 1 v] },toks:=tk }:=I.kept fun b o e=>Heap.get?_push_of_some _ e
 refine⟨(s.heap.push { cls:=.type "range",data:=.fields #[.int lo t,.int hi u,.int 1 v] }).objs.size,[(s.heap.push { cls:=.type "range",data:=.fields #[.int lo t,.int hi u,.int 1 v] }).objs.size],_,_,H,rfl,
  I1.kept (t':=tk) fun b o e=>Heap.get?_push_of_some _ e,zte _ lo (hi-lo).toNat,?_,fun b hb=>?_,q⟩
 ·have e1:lo+((0:Nat):Int)*1=lo:=by simp
  have e2:(((hi-lo).toNat:Nat):Int)-((0:Nat):Int)=Builtin.Range.rangeSize lo hi 1:=by rw[rangeSize_one];split<;>omega
  show IsRangeIter _ _ (lo+((0:Nat):Int)*1) ((((hi-lo).toNat:Nat):Int)-((0:Nat):Int)) 1
  rw[e1,e2]
  exact Heap.get?_push_size _ rfl
 ·have e:b=(s.heap.push { cls:=.type "range",data:=.fields #[.int lo t,.int hi u,.int 1 v] }).objs.size:=by simpa using hb
  subst e
  exact I1.fpOk (Nat.le_refl _) (I1.hok.fresh (Nat.le_refl _))
def zD4 (ta:TA):TI:=fun σ H R=>ta σ H fun vs H1=>∃ j:Int,vs=[.int j]/\-(2 ^ 62)<=j/\j < 2 ^ 62/\R (Itr 0 j.toNat) H1
theorem zpL {a:Expr}{ta:TA}{p pos:Pos}(hg:Gl X "range")(hm:X.mg "range"=none)(ha:PA X [a] ta)(hs:starEach [a] X.env=[(false,eval a X.env)]:=by rfl):PI X tg (.Call (.Name "range" p) [a] [] pos) (zD4 ta):=by
 intro pins s σ H R I h
 refine Call_ (zpS I hg hm boot_range (PyProof.Rows.callWith_type1 (thn (ha pos pins s σ H _ I h) fun us s1 ⟨vs,H1,I1,r1,q1⟩=>?_) hs rfl))
 obtain⟨j,e,q1,q2,q⟩:=q1
 subst e
 cases r1 with
 | cons r rr =>
  cases rr
  obtain⟨t,rfl⟩:=r
  exact call_range_1 (zxL I1 (by omega) (by omega) q1 q2 (by simpa using q))
def zE4 (wi:TI)(g:TG)(tb:TS):TS:=fun D σ H=>wi σ H fun J H1=>∃ W:Nat->Nat->St->Hp->Prop,(∃ m,W 0 m σ H1)/\∀ i m σ H,W i m σ H ->
 (J.stop i H/\D.nx σ H)∨(J.go i H/\∃ N:St->Hp->Prop,(∀ σ' H',N σ' H'->∃ m',m' < m/\W (i+1) m' σ' H')/\∀ x H',J.yld i H x H'->g x σ H' fun σ2 H2=>tb { D with nx:=N,ct:=N,bk:=D.nx } σ2 H2)
def zpK (fp:List Addr)(h:Heap):List (Addr×Obj):=fp.filterMap fun b=>(h.get? b).map fun o=>(b,o)
theorem ziS {fp:List Addr}{h:Heap}{b:Addr}{o:Obj}(hb:b∈fp)(e:h.get? b=some o):(b,o)∈zpK fp h:=List.mem_filterMap.mpr ⟨b,hb,by rw[e];rfl⟩
theorem zvF {fp:List Addr}{h:Heap}{p:Addr×Obj}(hp:p∈zpK fp h):p.1∈fp/\h.get? p.1=some p.2:=by
 obtain⟨b,hb,e⟩:=List.mem_filterMap.mp hp
 cases q:h.get? b with
 | none=>rw[q] at e;cases e
 | some o =>
  rw[q] at e
  have e':(b,o)=p:=Option.some.inj e
  subst e'
  exact⟨hb,q⟩
theorem Inv.pinned {pins:List (Addr×Obj)}{σ:St}{H:Hp}{s:Shared}{fp:List Addr}(I:Inv X pins σ H s)(hf:∀ b∈fp,zum X pins H b)(ho:∀ b∈fp,∃ o,s.heap.get? b=some o/\∀ v,o.data≠.cell v):Inv X (pins++zpK fp s.heap) σ H s :=
 I.pins_of fun p hp=>(List.mem_append.mp hp).elim (fun z=>I.pin p (List.mem_append_right _ z)) fun z=>by
  obtain⟨hb,e⟩:=zvF z
  obtain⟨f0,f1,f2,_⟩:=hf p.1 hb
  obtain⟨o,e',d⟩:=ho p.1 hb
  rw[e] at e';cases e'
  exact⟨e,f0,f1,f2,d⟩
theorem Inv.unpinned {pins pl:List (Addr×Obj)}{σ:St}{H:Hp}{s:Shared}(I:Inv X (pins++pl) σ H s):Inv X pins σ H s:=I.pins_of fun p hp=>I.pin p (List.mem_append_right _ (List.mem_append_left _ hp))
theorem zvp {iter:Expr}{body:List Stmt}{wi:TI}{g:TG}{tb:TS}{pos:Pos}(hp:PassesOwn (model X.prog X.w) X.A X.env X.xe)(hc:X.calm=true)(hi:PI X tg iter wi)(hg:PG X tg g)(hb:PSs X body tb)
  (hs:∀ x,foldedSetIterable iter X.env x=pure x:=by intro _;rfl):PS X (.For tg iter body [] pos) (zE4 wi g tb):=by
 intro pins s σ H D I h
 refine wpAny_For (thn (hi pins s σ H _ I h) fun v s1 h1=>thn h1 fun itv s2 h2=>?_) hs
 obtain⟨it,fp,tn,J,H2,e,I2,T,st2,f2,W,⟨m0,w0⟩,turn⟩:=h2
 subst e
 have stat:∀ {H':Hp},(∀ b∈fp,H' b=none)->∀ b∈fp,zum X pins H' b:=fun hn b hb=>⟨hn b hb,(f2 b hb).2⟩
 refine codeAny_forLoop_any (fun n s'=>∃ i σ' H',Inv X pins σ' H' s'/\tn i s'.heap/\(∀ b∈fp,H' b=none)/\W i n σ' H') ?_ m0 ⟨0,σ,H2,I2,st2,fun b hb=>(f2 b hb).1,w0⟩
 rintro n s3 ⟨i,σ3,H3,I3,st3,fr3,w3⟩
 rcases turn i n σ3 H3 w3 with⟨stop,qn⟩ | ⟨go,N,hN,step⟩
 ·refine wpAny_passesOwn hp (thn (T.done X rfl rfl rfl hc i pins s3 σ3 H3 X.xe I3 (stat fr3) st3 stop) fun r s4 ⟨hr,I4⟩=>?_)
  subst hr
  exact wpAny_execs_nil ⟨σ3,H3,I4,qn⟩
 ·refine wpAny_passesOwn hp (thn (T.item X rfl rfl rfl hc i pins s3 σ3 H3 X.xe I3 (stat fr3) st3 go) fun r s4 ⟨u,hr,h4⟩=>?_)
  subst hr
  refine wpAny_passesOwn hp (thn h4 fun _ s5 ⟨x,H5,I5,r5,y5,st5,fr5⟩=>?_)
  have I5':=I5.pinned (stat fr5) (T.obj _ _ st5)
  refine wpAny_passesOwn hp (thn (hg _ s5 σ3 H5 x u _ I5' r5 (step x H5 y5)) fun _ s6 ⟨σ6,H6,I6,q6⟩=>?_)
  refine wpAny_passesOwn hp (thn (hb _ s6 σ6 H6 _ I6 q6) fun f s7 q7=>?_)
  have again:∀ {σ7:St}{H7:Hp},Inv X (pins++zpK fp s5.heap) σ7 H7 s7->N σ7 H7->∃ m,m < n/\∃ i σ' H',Inv X pins σ' H' s7/\tn i s7.heap/\(∀ b∈fp,H' b=none)/\W i m σ' H':=fun {σ7 H7} I7 n7=>by
   obtain⟨m',hm,w7⟩:=hN σ7 H7 n7
   refine⟨m',hm,i+1,σ7,H7,I7.unpinned,T.keep _ _ _ st5 fun b hb o e=>(I7.pin (b,o) (List.mem_append_right _ (List.mem_append_right _ (ziS hb e)))).1,fun b hb=>?_,w7⟩
   obtain⟨o,e,d⟩:=T.obj _ _ st5 b hb
   exact(I7.pin (b,o) (List.mem_append_right _ (List.mem_append_right _ (ziS hb e)))).2.1
  cases f with
  | next=>obtain⟨σ7,H7,I7,n7⟩:=q7;exact again I7 n7
  | cont=>obtain⟨σ7,H7,I7,n7⟩:=q7;exact again I7 n7
  | brk=>obtain⟨σ7,H7,I7,q7⟩:=q7;exact⟨σ7,H7,I7.unpinned,q7⟩
  | ret v=>obtain⟨x7,σ7,H7,I7,r7,q7⟩:=q7;exact⟨x7,σ7,H7,I7.unpinned,r7,q7⟩
end
theorem zyF {K:W.Frag}{a:Addr}{xs:List V}{g:TG}{tb:TS}{D:znm}{σ:St}{H:Hp}(Pv:Nat->St->Hp->Prop)(h0:Pv 0 σ H)(hl:∀ i σ H,i<=xs.length->Pv i σ H->SqL K H a xs)
  (hs:∀ i x σ H,xs[i]?=some x->Pv i σ H->g x σ H fun σ2 H2=>tb { D with nx:=Pv (i+1),ct:=Pv (i+1),bk:=D.nx } σ2 H2)(hd:∀ σ H,Pv xs.length σ H->D.nx σ H) :
  ∃ W:Nat->Nat->St->Hp->Prop,(∃ m,W 0 m σ H)/\∀ i m σ H,W i m σ H ->
   ((Itl K a).stop i H/\D.nx σ H)∨((Itl K a).go i H/\∃ N:St->Hp->Prop,(∀ σ' H',N σ' H'->∃ m',m' < m/\W (i+1) m' σ' H')/\∀ x H',(Itl K a).yld i H x H'->g x σ H' fun σ2 H2=>tb { D with nx:=N,ct:=N,bk:=D.nx } σ2 H2):=by
 refine⟨fun i m σ H=>m=xs.length-i/\i<=xs.length/\Pv i σ H,⟨xs.length,by simp,Nat.zero_le _,h0⟩,?_⟩
 rintro i m σ H ⟨rfl,hi,p⟩
 have q:=hl i σ H hi p
 by_cases hlt:i < xs.length
 ·refine .inr ⟨⟨xs,xs[i],q,by simp [hlt]⟩,Pv (i+1),fun σ' H' p'=>⟨xs.length-(i+1),by omega,rfl,hlt,p'⟩,fun x H' y=>?_⟩
  obtain⟨e,y⟩:=y
  subst e
  exact hs i x σ _ (y xs q) p
 ·have e:i=xs.length:=by omega
  subst e
  exact .inl ⟨⟨xs,q,Nat.le_refl _⟩,hd σ H p⟩
theorem zwn {lo:Int}{n:Nat}{g:TG}{tb:TS}{D:znm}{σ:St}{H:Hp}(Pv:Nat->St->Hp->Prop)(h0:Pv 0 σ H)
  (hs:∀ i σ H,i < n->Pv i σ H->g (.int (lo+i)) σ H fun σ2 H2=>tb { D with nx:=Pv (i+1),ct:=Pv (i+1),bk:=D.nx } σ2 H2)(hd:∀ σ H,Pv n σ H->D.nx σ H) :
  ∃ W:Nat->Nat->St->Hp->Prop,(∃ m,W 0 m σ H)/\∀ i m σ H,W i m σ H ->
   ((Itr lo n).stop i H/\D.nx σ H)∨((Itr lo n).go i H/\∃ N:St->Hp->Prop,(∀ σ' H',N σ' H'->∃ m',m' < m/\W (i+1) m' σ' H')/\∀ x H',(Itr lo n).yld i H x H'->g x σ H' fun σ2 H2=>tb { D with nx:=N,ct:=N,bk:=D.nx } σ2 H2):=by
 refine⟨fun i m σ H=>m=n-i/\i<=n/\Pv i σ H,⟨n,by simp,Nat.zero_le _,h0⟩,?_⟩
 rintro i m σ H ⟨rfl,hi,p⟩
 by_cases hlt:i < n
 ·refine .inr ⟨hlt,Pv (i+1),fun σ' H' p'=>⟨n-(i+1),by omega,rfl,hlt,p'⟩,fun x H' y=>?_⟩
  obtain⟨e,y⟩:=y
  subst e y
  exact hs i σ _ hlt p
 ·have e:i=n:=by omega
  subst e
  exact .inl ⟨Nat.le_refl _,hd σ H p⟩
abbrev R2:=V->V->Hp->VK->Prop
def OpR (X:Cx)(f:Value->Value->Sem Value)(r:R2):Prop :=
 ∀ (pins:List (Addr×Obj)) (s:Shared) (σ:St) (H:Hp) (x y:V) (v u:Value) (Q:VK),Inv X pins σ H s->zcN x v->zcN y u->r x y H Q ->
  wpAny (model X.prog X.w) X.A (f v u) (EP X pins σ Q) X.xe s
def UnR (X:Cx)(f:Value->Sem Value)(r:V->Hp->VK->Prop):Prop :=
 ∀ (pins:List (Addr×Obj)) (s:Shared) (σ:St) (H:Hp) (x:V) (v:Value) (Q:VK),Inv X pins σ H s->zcN x v->r x H Q ->
  wpAny (model X.prog X.w) X.A (f v) (EP X pins σ Q) X.xe s
def zkh (X:Cx)(f:Value)(r:List V->Hp->VK->Prop):Prop :=
 ∀ (pins:List (Addr×Obj)) (s:Shared) (σ:St) (H:Hp) (xs:List V) (us:List Value) (Q:VK),Inv X pins σ H s->zce xs us->r xs H Q ->
  wpAny (model X.prog X.w) X.A (call f us) (EP X pins σ Q) X.xe s
def zFo (X:Cx)(r:V->Hp->(Bool->Hp->Prop)->Prop):Prop :=
 ∀ (pins:List (Addr×Obj)) (s:Shared) (σ:St) (H:Hp) (x:V) (v:Value) (Q:Bool->Hp->Prop),Inv X pins σ H s->zcN x v->r x H Q ->
  wpAny (model X.prog X.w) X.A (truthy v) (TP X pins σ Q) X.xe s
def tOp (r:R2)(ta tb:TE):TE:=fun σ H Q=>ta σ H fun x H1=>tb σ H1 fun y H2=>r x y H2 Q
def tUn (r:V->Hp->VK->Prop)(ta:TE):TE:=fun σ H Q=>ta σ H fun x H1=>r x H1 Q
def rI (C:Int->Int->Prop)(g:Int->Int->V):R2:=fun x y H Q=>∃ i j,x=.int i/\y=.int j/\C i j/\Q (g i j) H
def rI0 (g:Int->Int->V):R2:=fun x y H Q=>∃ i j,x=.int i/\y=.int j/\Q (g i j) H
def rU (g:Int->V):V->Hp->VK->Prop:=fun x H Q=>∃ i,x=.int i/\Q (g i) H
section
variable {X:Cx}{a b c:Expr}{ta tb tc:TE}{pos:Pos}
theorem zEl (ha:PE X a ta)(hb:PE X b tb){pins:List (Addr×Obj)}{s:Shared}{σ:St}{H:Hp}{R:V->V->Hp->Prop}(I:Inv X pins σ H s)
  (h:ta σ H fun x H1=>tb σ H1 fun y H2=>R x y H2){Q:Value->Shared->Prop}{f:Value->Value->Sem Value}
  (hf:∀ v u s2 x y H2,Inv X pins σ H2 s2->zcN x v->zcN y u->R x y H2->wpAny (model X.prog X.w) X.A (f v u) Q X.xe s2) :
  wpAny (model X.prog X.w) X.A (eval a X.env) (fun v s₁=>wpAny (model X.prog X.w) X.A (eval b X.env) (fun u s₂=>wpAny (model X.prog X.w) X.A (f v u) Q X.xe s₂) X.xe s₁) X.xe s:=by
 refine thn (ha pins s σ H _ I h) fun v s1 ⟨x,H1,I1,r1,q1⟩=>?_
 refine thn (hb pins s1 σ H1 _ I1 q1) fun u s2 ⟨y,H2,I2,r2,q2⟩=>?_
 exact hf v u s2 x y H2 I2 r1 r2 q2
theorem zAs {op:Operator}{r:R2}(ho:OpR X (binaryOp op) r)(ha:PE X a ta)(hb:PE X b tb):PE X (.BinOp a op b pos) (tOp r ta tb):=by
 intro pins s σ H Q I h
 exact wpAny_BinOp (zEl ha hb I h fun v u s2 x y H2 I2 rx ry q=>ho pins s2 σ H2 x y v u Q I2 rx ry q)
theorem zDU {op:UnaryOp}{r:V->Hp->VK->Prop}(ho:UnR X (unaryOp op) r)(ha:PE X a ta):PE X (.UnaryOp op a pos) (tUn r ta):=by
 intro pins s σ H Q I h
 exact UnaryOp_ (thn (ha pins s σ H _ I h) fun v s1 ⟨x,H1,I1,r1,q1⟩=>ho pins s1 σ H1 x v Q I1 r1 q1)
theorem opI {f:Value->Value->Sem Value}{C:Int->Int->Prop}{g:Int->Int->Int}
  (rule:∀ (i j:Int) (t u:Tok) (s:Shared) (Q:Value->Shared->Prop) (E:Value->Shared->Prop),C i j->Q (.int (g i j) s.toks) { s with toks:=s.toks+1 }->wpAny (model X.prog X.w) X.A (f (.int i t) (.int j u)) Q E s) :
  OpR X f (rI C fun i j=>.int (g i j)):=by
 intro pins s σ H x y v u Q I rx ry h
 obtain⟨i,j,rfl,rfl,hc,q⟩:=h
 obtain⟨t,rfl⟩:=rx
 obtain⟨t',rfl⟩:=ry
 exact rule i j t t' s _ _ hc ⟨.int (g i j),H,I.tok _,⟨_,rfl⟩,q⟩
theorem zEG {f:Value->Value->Sem Value}{g:Int->Int->Int}
  (rule:∀ (i j:Int) (t u:Tok) (s:Shared) (Q:Value->Shared->Prop) (E:Value->Shared->Prop),Q (.int (g i j) s.toks) { s with toks:=s.toks+1 }->wpAny (model X.prog X.w) X.A (f (.int i t) (.int j u)) Q E s) :
  OpR X f (rI0 fun i j=>.int (g i j)):=by
 intro pins s σ H x y v u Q I rx ry h
 obtain⟨i,j,rfl,rfl,q⟩:=h
 obtain⟨t,rfl⟩:=rx
 obtain⟨t',rfl⟩:=ry
 exact rule i j t t' s _ _ ⟨.int (g i j),H,I.tok _,⟨_,rfl⟩,q⟩
theorem zDc {f:Value->Value->Sem Value}{g:Int->Int->Bool}
  (rule:∀ (i j:Int) (t u:Tok) (s:Shared) (Q:Value->Shared->Prop) (E:Value->Shared->Prop),Q (.bool (g i j)) s->wpAny (model X.prog X.w) X.A (f (.int i t) (.int j u)) Q E s) :
  OpR X f (rI0 fun i j=>.bl (g i j)):=by
 intro pins s σ H x y v u Q I rx ry h
 obtain⟨i,j,rfl,rfl,q⟩:=h
 obtain⟨t,rfl⟩:=rx
 obtain⟨t',rfl⟩:=ry
 exact rule i j t t' s _ _ ⟨.bl (g i j),H,I,rfl,q⟩
def zFq (i j:Int):Prop:=0<=j/\j<=1000000/\i.natAbs < 2 ^ 64
def zER (i j:Int):Prop:=(-(2 ^ 64) < i/\i < 2 ^ 64)∨(-(2 ^ 64) < j/\j < 2 ^ 64)
theorem zER.ok {i j:Int}(h:zER i j):IntMulOk i j:=by
 rcases h with⟨h1,h2⟩ | ⟨h1,h2⟩
 ·exact .of_left (intBits_le_64 h1 h2)
 ·exact .of_right (intBits_le_64 h1 h2)
theorem zCu:OpR X (binaryOp .Add) (rI0 fun i j=>.int (i+j)):=zEG fun _ _ _ _ _ _ _ q=>add_int q
theorem zCq:OpR X (binaryOp .Sub) (rI0 fun i j=>.int (i-j)):=zEG fun _ _ _ _ _ _ _ q=>sub_int q
theorem zAx:OpR X (binaryOp .Mod) (rI (fun _ j=>j≠0) fun i j=>.int (i.fmod j)):=opI fun _ _ _ _ _ _ _ hc q=>mod_int' hc q
theorem zCs:OpR X (binaryOp .Pow) (rI zFq fun i j=>.int (i ^ j.toNat)):=opI fun _ _ _ _ _ _ _ hc q=>pow_int_small hc.1 hc.2.1 hc.2.2 q
theorem unI {f:Value->Sem Value}{g:Int->Int}
  (rule:∀ (i:Int) (t:Tok) (s:Shared) (Q:Value->Shared->Prop) (E:Value->Shared->Prop),Q (.int (g i) s.toks) { s with toks:=s.toks+1 }->wpAny (model X.prog X.w) X.A (f (.int i t)) Q E s) :
  UnR X f (rU fun i=>.int (g i)):=by
 intro pins s σ H x v Q I rx h
 obtain⟨i,rfl,q⟩:=h
 obtain⟨t,rfl⟩:=rx
 exact rule i t s _ _ ⟨.int (g i),H,I.tok _,⟨_,rfl⟩,q⟩
theorem zBy:UnR X (unaryOp .USub) (rU fun i=>.int (-i)):=unI fun _ _ _ _ _ q=>neg_int q
end
section
variable {X:Cx}{a b c:Expr}{ta tb tc:TE}{pos:Pos}
theorem zws {pins:List (Addr×Obj)}{σ:St}{H:Hp}{s:Shared}{Q:VK}{k k':Bool}(I:Inv X pins σ H s)(q:Q (.bl k) H)(e:k=k'):EP X pins σ Q (.bool k') s:=by
 subst e
 exact⟨.bl k,H,I,rfl,q⟩
theorem zkm:OpR X (compareOp .Lt) (rI0 fun i j=>.bl (decide (i < j))):=zDc fun _ _ _ _ _ _ _ q=>lt_int q
theorem zrj:OpR X (compareOp .LtE) (rI0 fun i j=>.bl (decide (i<=j))):=zDc fun _ _ _ _ _ _ _ q=>le_int q
theorem zto:OpR X (compareOp .Gt) (rI0 fun i j=>.bl (decide (j < i))):=zDc fun _ _ _ _ _ _ _ q=>gt_int q
theorem zAz:OpR X (compareOp .GtE) (rI0 fun i j=>.bl (decide (j<=i))):=zDc fun _ _ _ _ _ _ _ q=>ge_int q
theorem zvB:OpR X (compareOp .In) (fun x y H Q=>∃ i j,x=.str i/\y=.str j/\Q (.bl (!(Builtin.Str.occurrences j i 0 j.length 1).isEmpty)) H):=by
 intro pins s σ H x y v u Q I rx ry h
 obtain⟨i,j,rfl,rfl,q⟩:=h
 obtain⟨t,rfl⟩:=rx
 obtain⟨t',rfl⟩:=ry
 exact in_str (zws I q rfl)
theorem zsD:OpR X (compareOp .Is) (fun x y H Q=>y=.non/\Q (.bl (decide (x=.non))) H):=by
 intro pins s σ H x y v u Q I rx ry h
 obtain⟨rfl,q⟩:=h
 cases ry
 refine is_none_gen (zws I q ?_)
 cases x<;>first
  | (cases rx;rfl)
  | (obtain⟨t,rfl⟩:=rx;rfl)
theorem zof:OpR X (compareOp .IsNot) (fun x y H Q=>y=.non/\Q (.bl (!decide (x=.non))) H):=by
 intro pins s σ H x y v u Q I rx ry h
 obtain⟨rfl,q⟩:=h
 cases ry
 refine isnot_none_gen (zws I q ?_)
 cases x<;>first
  | (cases rx;rfl)
  | (obtain⟨t,rfl⟩:=rx;rfl)
theorem OpR.or {f:Value->Value->Sem Value}{r r':R2}(h:OpR X f r)(h':OpR X f r'):OpR X f (fun x y H Q=>r x y H Q∨r' x y H Q):=by
 intro pins s σ H x y v u Q I rx ry q
 rcases q with q | q
 ·exact h pins s σ H x y v u Q I rx ry q
 ·exact h' pins s σ H x y v u Q I rx ry q
theorem zAu {op:CmpOp}{r:R2}(ho:OpR X (compareOp op) r)(ha:PE X a ta)(hb:PE X b tb)(hm:behindInMarks op b=false):PE X (.Compare a [op] [b] pos) (tOp r ta tb):=by
 intro pins s σ H Q I h
 exact wpAny_Compare1 (zEl ha hb I h fun v u s2 x y H2 I2 rx ry q=>ho pins s2 σ H2 x y v u Q I2 rx ry q) hm
def zBP (t:TE):TT:=fun σ H Q=>t σ H fun x H'=>∃ k,x=.bl k/\Q k H'
theorem zAj {op:CmpOp}{r:R2}(ho:OpR X (compareOp op) r)(ha:PE X a ta)(hb:PE X b tb)(hm:behindInMarks op b=false):PT X (.Compare a [op] [b] pos) (zBP (tOp r ta tb)):=by
 intro pins s σ H Q I h
 refine wpAny_isTrue_Compare1 (thn (ha pins s σ H _ I h) fun v s1 ⟨x,H1,I1,r1,q1⟩=>thn (hb pins s1 σ H1 _ I1 q1) fun u s2 ⟨y,H2,I2,r2,q2⟩ =>
  thn (ho pins s2 σ H2 x y v u _ I2 r1 r2 q2) fun c s3 ⟨z,H3,I3,r3,k,e,q3⟩=>?_) hm
 subst e
 cases r3
 exact wpAny_truthy_bool ⟨H3,I3,q3⟩
def zuR (r r':R2)(ta tb tc:TE):TE:=fun σ H Q=>ta σ H fun x H1=>tb σ H1 fun y H2=>r x y H2 fun z H3=>∃ k,z=.bl k /\
 (if k=true then tc σ H3 fun w' H4=>r' y w' H4 Q else Q (.bl false) H3)
theorem zxZ {op op':CmpOp}{r r':R2}(ho:OpR X (compareOp op) r)(ho':OpR X (compareOp op') r')(ha:PE X a ta)(hb:PE X b tb)(hc:PE X c tc)
  (hm:lastMarks [op,op'] [b,c]=false:=by with_unfolding_all rfl):PE X (.Compare a [op,op'] [b,c] pos) (zuR r r' ta tb tc):=by
 intro pins s σ H Q I h
 refine Compare_chain (thn (ha pins s σ H _ I h) fun v s1 ⟨x,H1,I1,r1,q1⟩=>chain_link (thn (hb pins s1 σ H1 _ I1 q1) fun u s2 ⟨y,H2,I2,r2,q2⟩ =>
  thn (ho pins s2 σ H2 x y v u _ I2 r1 r2 q2) fun d s3 ⟨z,H3,I3,r3,k,e,q3⟩=>?_)) hm
 subst e
 cases r3
 refine wpAny_truthy_bool ?_
 cases k with
 | false=>exact ite_ff ⟨.bl false,H3,I3,rfl,q3⟩
 | true=>exact ite_tt (chain_last (thn (hc pins s3 σ H3 _ I3 q3) fun w' s4 ⟨z',H4,I4,r4,q4⟩=>ho' pins s4 σ H4 y z' u w' Q I4 r2 r4 q4))
theorem zxT {op op':CmpOp}{r r':R2}(ho:OpR X (compareOp op) r)(ho':OpR X (compareOp op') r')(ha:PE X a ta)(hb:PE X b tb)(hc:PE X c tc)
  (hm:lastMarks [op,op'] [b,c]=false:=by with_unfolding_all rfl):PT X (.Compare a [op,op'] [b,c] pos) (zBP (zuR r r' ta tb tc)):=by
 intro pins s σ H Q I h
 refine isTrue_chain (thn (ha pins s σ H _ I h) fun v s1 ⟨x,H1,I1,r1,q1⟩=>test_link (thn (hb pins s1 σ H1 _ I1 q1) fun u s2 ⟨y,H2,I2,r2,q2⟩ =>
  thn (ho pins s2 σ H2 x y v u _ I2 r1 r2 q2) fun d s3 ⟨z,H3,I3,r3,k,e,q3⟩=>?_)) hm
 subst e
 cases r3
 refine wpAny_truthy_bool ?_
 cases k with
 | false =>
  obtain⟨k',e',q'⟩:=q3
  cases e'
  exact ite_ff ⟨H3,I3,q'⟩
 | true =>
  refine ite_tt (test_last (thn (hc pins s3 σ H3 _ I3 q3) fun w' s4 ⟨z',H4,I4,r4,q4⟩=>thn (ho' pins s4 σ H4 y z' u w' _ I4 r2 r4 q4) fun d' s5 ⟨z2,H5,I5,r5,k2,e2,q5⟩=>?_))
  subst e2
  cases r5
  exact wpAny_truthy_bool ⟨H5,I5,q5⟩
def zFn (K:W.Frag)(x:V)(H:Hp)(k:Bool):Prop :=
 match x with
 | .non=>k=false
 | .bl b=>k=b
 | .int i=>k=(i != 0)
 | .str y=>y.length<=sizeLine/\k=((y.length:Int) != 0)
 | .byt y=>y.size<=sizeLine/\k=((y.size:Int) != 0)
 | .ref p=>(∃ xs,SqL K H p xs/\k=!xs.isEmpty)∨(∃ xs,SqT K H p xs/\k=!xs.isEmpty)∨∃ kvs,H p=some (.dK kvs)/\k=!kvs.isEmpty
 | _=>False
theorem ztZ {κ:Type}{kvs:List (κ×V)}{vs:List (κ×Value)}(r:KV kvs vs):(!vs.isEmpty)=!kvs.isEmpty:=by
 cases r<;>rfl
theorem znD {xs:List V}{its:List Value}(r:zce xs its):(!its.toArray.isEmpty)=!xs.isEmpty:=by
 cases r<;>simp
theorem zns:(sizeLine:Nat) < 2 ^ 63:=by rw[sizeLine_eq];decide
theorem zEr:zFo X (fun x H Q=>∃ k,zFn X.K x H k/\Q k H):=by
 intro pins s σ H x v Q I rx h
 obtain⟨k,e,q⟩:=h
 have hl:=zns
 have hs:sizeLine=16777216:=sizeLine_eq
 cases x with
 | non =>
  cases rx
  have e':k=false:=e
  subst e'
  exact truthy_none ⟨H,I,q⟩
 | bl b =>
  cases rx
  have e':k=b:=e
  subst e'
  exact wpAny_truthy_bool ⟨H,I,q⟩
 | int i =>
  obtain⟨t,rfl⟩:=rx
  have e':k=(i != 0):=e
  subst e'
  exact PySem.P.truthy_int ⟨H,I,q⟩
 | str y =>
  obtain⟨t,rfl⟩:=rx
  obtain⟨hy,e'⟩:y.length<=sizeLine/\k=((y.length:Int) != 0):=e
  subst e'
  exact PySem.P.truthy_str (by omega) ⟨H,I.tok _,q⟩
 | byt y =>
  obtain⟨t,rfl⟩:=rx
  obtain⟨hy,e'⟩:y.size<=sizeLine/\k=((y.size:Int) != 0):=e
  subst e'
  exact W.truthy_bytes (by omega) ⟨H,I.tok _,q⟩
 | ref p =>
  cases rx
  have e':(∃ xs,SqL X.K H p xs/\k=!xs.isEmpty)∨(∃ xs,SqT X.K H p xs/\k=!xs.isEmpty)∨∃ kvs,H p=some (.dK kvs)/\k=!kvs.isEmpty:=e
  rcases e' with⟨xs,hx,e'⟩ | ⟨xs,hx,e'⟩ | ⟨kvs,hx,e'⟩
  ·subst e'
   obtain⟨its,r,pl,hz⟩:=I.list hx
   have hlen:=r.length
   exact wpAny_truthy_list pl.isList (by simp only[List.size_toArray];omega) ⟨H,I.tok _,by rw[znD r];exact q⟩
  ·subst e'
   obtain⟨its,r,pl,hz⟩:=I.tuple hx
   have hlen:=r.length
   exact truthy_tuple pl (by simp only[List.size_toArray];omega) ⟨H,I.tok _,by rw[znD r];exact q⟩
  ·subst e'
   obtain⟨hz,hS,vs,r,m⟩:kvs.length<=sizeLine/\(p==sysModules)=false/\∃ vs,KV kvs vs/\s.heap.DictOf (zru X.prog X.w) p vs:=I.hok p _ hx
   have hlen:kvs.length=vs.length:=Paired.length r
   exact wpAny_truthy_dict hS m (by omega) ⟨H,I.tok _,by rw[ztZ r];exact q⟩
 | _=>exact(show False from e).elim
theorem ztp:OpR X (binaryOp .Add) (fun x y H Q=>∃ i j,x=.str i/\y=.str j/\i.length+j.length<=sizeLine/\Q (.str (i++j)) H):=by
 intro pins s σ H x y v u Q I rx ry h
 obtain⟨i,j,rfl,rfl,hz,q⟩:=h
 obtain⟨t,rfl⟩:=rx
 obtain⟨t',rfl⟩:=ry
 exact add_str (fun t' tk=>⟨.str (i++j),H,I.tok _,⟨_,rfl⟩,q⟩) hz
theorem zqV {x:V}{us:List Value}(r:zce [x] us):∃ u,us=[u]/\zcN x u:=by
 cases r with
 | cons r1 r2=>cases r2;exact⟨_,rfl,r1⟩
theorem zDn {x y:V}{us:List Value}(r:zce [x,y] us):∃ u w',us=[u,w']/\zcN x u/\zcN y w':=by
 cases r with
 | cons r1 r2 =>
  cases r2 with
  | cons r3 r4=>cases r4;exact⟨_,_,rfl,r1,r3⟩
theorem zlS:zkh X (.builtin "abs") (fun xs H Q=>∃ i,xs=[.int i]/\Q (.int (if i < 0 then -i else i)) H):=by
 intro pins s σ H xs us Q I r h
 obtain⟨i,rfl,q⟩:=h
 obtain⟨u,rfl,t,rfl⟩:=zqV r
 exact call_abs_int fun u tk=>⟨.int (if i < 0 then -i else i),H,I.tok _,⟨_,rfl⟩,q⟩
theorem zwR (hc:X.calm=true):zkh X (.builtin "max") (fun xs H Q=>∃ i j,xs=[.int i,.int j]/\Q (.int (if j > i then j else i)) H):=by
 intro pins s σ H xs us Q I r h
 obtain⟨i,j,rfl,q⟩:=h
 obtain⟨u,w',rfl,⟨t,rfl⟩,⟨t',rfl⟩⟩:=zDn r
 refine max_two_ints (I.ok.hd hc) fun h' tk k=>⟨_,H,I.kept k,?_,q⟩
 by_cases hj:j > i
 ·rw[if_pos hj,if_pos hj];exact⟨_,rfl⟩
 ·rw[if_neg hj,if_neg hj];exact⟨_,rfl⟩
theorem zqw:zkh X (.type "int") (fun xs H Q=>(∃ i,xs=[.int i]/\Q (.int i) H)∨∃ k,xs=[.bl k]/\Q (.int (if k then 1 else 0)) H):=by
 intro pins s σ H xs us Q I r h
 rcases h with⟨i,rfl,q⟩ | ⟨k,rfl,q⟩
 ·obtain⟨u,rfl,t,rfl⟩:=zqV r
  exact call_int_int ⟨.int i,H,I,⟨_,rfl⟩,q⟩
 ·obtain⟨u,rfl,r1⟩:=zqV r
  cases r1
  exact call_int_bool ⟨.int (if k then 1 else 0),H,I.tok _,⟨_,rfl⟩,q⟩
def zEQ (K:W.Frag)(x:V)(H:Hp)(n:Nat):Prop :=
 match x with
 | .str y=>y.length<=sizeLine/\n=y.length
 | .byt y=>y.size<=sizeLine/\n=y.size
 | .ref p=>(∃ xs,SqL K H p xs/\n=xs.length)∨∃ xs,SqT K H p xs/\n=xs.length
 | _=>False
theorem zbp:zkh X (.builtin "len") (fun xs H Q=>∃ x n,xs=[x]/\zEQ X.K x H n/\Q (.int n) H):=by
 intro pins s σ H xs us Q I r h
 obtain⟨x,n,rfl,e,q⟩:=h
 obtain⟨u,rfl,rx⟩:=zqV r
 have hl:=zns
 have hs:sizeLine=16777216:=sizeLine_eq
 cases x with
 | str y =>
  obtain⟨t,rfl⟩:=rx
  obtain⟨hy,e'⟩:y.length<=sizeLine/\n=y.length:=e
  subst e'
  exact len_str (by omega) ⟨.int _,H,I.tok _,⟨_,rfl⟩,q⟩
 | byt y =>
  obtain⟨t,rfl⟩:=rx
  obtain⟨hy,e'⟩:y.size<=sizeLine/\n=y.size:=e
  subst e'
  exact W.len_bytes (by omega) ⟨.int _,H,I.tok _,⟨_,rfl⟩,q⟩
 | ref p =>
  cases rx
  have e':(∃ xs,SqL X.K H p xs/\n=xs.length)∨∃ xs,SqT X.K H p xs/\n=xs.length:=e
  rcases e' with⟨xs,hx,e'⟩ | ⟨xs,hx,e'⟩
  ·subst e'
   obtain⟨its,r',pl,hz⟩:=I.list hx
   have hlen:=r'.length
   exact Calls.call_len_list pl.isList (by simp only[List.size_toArray];omega) ⟨.int xs.length,H,I.tok _,⟨_,by simp only[List.size_toArray];rw[hlen]⟩,q⟩
  ·subst e'
   obtain⟨its,r',pl,hz⟩:=I.tuple hx
   have hlen:=r'.length
   exact len_tuple pl (by simp only[List.size_toArray];omega) ⟨.int xs.length,H,I.tok _,⟨_,by simp only[List.size_toArray];rw[hlen]⟩,q⟩
 | _=>exact(show False from e).elim
end
structure zBp (h:Heap) (x dx C:Addr) (mA:Str->Option Value):Prop where
 obj:h.get? x=some (W.instObj C dx)
 ns:h.Ns1 dx mA
 ne:dx≠x
theorem zpR {h:Heap}{dx:Addr}{mA:Str->Option Value}(n:h.Ns1 dx mA):∃ od,h.get? dx=some od/\∀ name,W.lookIn name od=some (mA name):=by
 obtain⟨o,es,ep,ho,hd,hk,_,hm⟩:=n
 refine⟨o,ho,fun name=>?_⟩
 have e:=hm name
 unfold nsFind findBy at e
 rw[← Array.find?_toList] at e
 unfold W.lookIn
 rw[hd]
 dsimp only
 split
 ·rename_i y q
  rw[q] at e
  exact congrArg some e
 ·rename_i q
  rw[q] at e
  have a:es.toList.any (·.refKey)=false:=by
   rw[List.any_eq_false]
   intro y hy
   obtain⟨z,t,hkey⟩:=hk y (Array.mem_toList_iff.mp hy)
   simp [DictEntry.refKey,hkey]
  have a':¬ es.toList.any (·.refKey)=true:=by rw[a];exact Bool.false_ne_true
  rw[if_neg a']
  exact congrArg some e
theorem zBp.look {h:Heap}{x dx C:Addr}{mA:Str->Option Value}(I:zBp h x dx C mA):∃ od,W.InstAt h x (W.instObj C dx) C (some od)/\∀ name,W.lookIn name od=some (mA name) :=
 let ⟨od,ho,hl⟩:=zpR I.ns
 ⟨od,⟨I.obj,rfl,rfl,ho⟩,hl⟩
section
variable {prog:Program}{w:World}{A:Around}{E:Value->Shared->Prop}{s:Shared}{K:W.Frag}{x dx C f:Addr}{mA:Str->Option Value}{name:Str}{v:Value}
theorem zAS {expr:Bool}{Q:Value->Shared->Prop}(X:K.In s.heap)(I:zBp s.heap x dx C mA)(hg:W.plainGet K C name=true)(hh:W.hasDictIn K C=true)
  (ha:W.findIn K (.ref C) name=some none)(hv:mA name=some v)(hv':W.handedIn v=true)(h:Q v { s with toks:=s.toks+1 }) :
  wpAny (model prog w) A (getAttr (.ref x) name expr) Q E s:=by
 obtain⟨od,J,hl⟩:=I.look
 exact W.get_value X J (W.plainGet_of hg).1 (W.findObj_own hh ha rfl (by rw[hl,hv])) hv' h
theorem zz8 {ns:List Str}{Q:Unit->Shared->Prop}(X:K.In s.heap)(I:zBp s.heap x dx C mA)
  (hs:W.findIn K (.ref C) "__setattr__"=some (some (.builtin "object.__setattr__")))(hp:W.plainOver K C=true)(ht:W.takerIn K C name=some none)(hh:W.hasDictIn K C=true)
  (hw:PySem.Within mA ns)(hsz:ns.length<=sizeLine)
  (h:∀ h',zBp h' x dx C (fun y=>if y=name then some v else mA y)->Heap.SameBut dx s.heap h'->Q () { s with heap:=h',toks:=s.toks+2 }) :
  wpAny (model prog w) A (setAttr (.ref x) name v) Q E s:=by
 obtain⟨od,J,hl⟩:=I.look
 refine W.set_plain X J hs (W.osa_open (s:={ s with toks:=s.toks+1 }) (r:=none) X J hp ht fun b=>?_)
 obtain⟨cd,hc,hd'⟩:=W.any_some hh
 have hx:s.heap.get? x=some ⟨.ref C,some dx,.plain,#[]⟩:=I.obj
 refine wpAny_bind (wpAny_pure (wpAny_bind (wpAny_bind (wpAny_loadPart hx (wpAny_bind (W.Looks.here (s:={ s with toks:=s.toks+1 }) (W.looks_clsIn X hc) ?_))))))
 rw[hd']
 refine wpAny_pure (a:=some dx) (wpAny_bind (wpAny_pure (wpAny_bind ?_)))
 refine wpAny_nsSet1 (s:={ s with toks:=s.toks+1 }) I.ns fun h' hn2 hs2=>?_
 obtain⟨oD,esD,epD,hoD,hdD,hcD⟩:=hn2.count (PySem.Within.cons name v hw)
 refine wpAny_bind (wpAny_lookBehind hoD (by rw[hdD];exact pastItsLine_dict (Nat.le_trans hcD (by rw[List.length_cons];omega))) ?_)
 exact wpAny_pure (h _ ⟨(hs2.2 _ (Ne.symm I.ne)).trans I.obj,hn2,I.ne⟩ hs2)
theorem zyb {R:Result->Shared->Prop}{vs:List Value}{kw:List (Str×Value)}(X:K.In s.heap)(hm:W.makesIn K C=true)
  (hi:W.findIn K (.ref C) "__init__"=some (some (.ref f)))(hf:W.typeIn K (.ref f)=some (.type "function"))
  (h:codeAny (model prog w) (A.under (.builtin "type.__call__" ⟨.ref C::vs,kw⟩)) (.call (.ref f) ⟨.ref (s.heap.objs.size+1)::vs,kw⟩) (W.InitBack (s.heap.objs.size+1) R)
   { s with heap:=(s.heap.push W.emptyDict).push (W.instObj C s.heap.objs.size) }) :
  codeAny (model prog w) A (.call (.ref C) ⟨vs,kw⟩) R s:=by
 obtain⟨hh,g,d,t,os⟩:=s
 exact W.make_core (W.makes_of X hm) (W.looks_findIn X hi) (fun self=>W.bind_fn X self hf) (.inl rfl) h
end
def zlu (f:Str)(v:V):List (Str×V)->List (Str×V)
 | []=>[(f,v)]
 | (g,x)::r=>if g=f then(g,v)::r else(g,x)::zlu f v r
theorem zjz (f g:Str)(v:V):∀ fs:List (Str×V),(zlu f v fs).lookup g=if g=f then some v else fs.lookup g
 | []=>by
  show List.lookup g [(f,v)]=_
  by_cases h:g=f
  ·have hb:(g==f)=true:=beq_iff_eq.mpr h
   simp only[List.lookup,hb,if_pos h]
  ·have hb:(g==f)=false:=beq_eq_false_iff_ne.mpr h
   simp only[List.lookup,hb,if_neg h]
 | (k,x)::r=>by
  have ih:=zjz f g v r
  rw[show zlu f v ((k,x)::r)=(if k=f then(k,v)::r else(k,x)::zlu f v r) from rfl]
  by_cases hk:k=f
  ·rw[if_pos hk]
   by_cases h:g=k
   ·have hb:(g==k)=true:=beq_iff_eq.mpr h
    simp only[List.lookup,hb,if_pos (h.trans hk)]
   ·have hb:(g==k)=false:=beq_eq_false_iff_ne.mpr h
    simp only[List.lookup,hb,if_neg (fun e:g=f=>h (e.trans hk.symm))]
  ·rw[if_neg hk]
   by_cases h:g=k
   ·have hb:(g==k)=true:=beq_iff_eq.mpr h
    simp only[List.lookup,hb,if_neg (fun e:g=f=>hk (h.symm.trans e))]
   ·have hb:(g==k)=false:=beq_eq_false_iff_ne.mpr h
    simp only[List.lookup,hb]
    exact ih
theorem zh2 (f:Str)(v:V):∀ fs:List (Str×V),f∈(zlu f v fs).map (·.1)/\∀ g,g∈fs.map (·.1)->g∈(zlu f v fs).map (·.1)
 | []=>⟨by simp [zlu],fun g h=>by simp at h⟩
 | (k,x)::r=>by
  obtain⟨i1,i2⟩:=zh2 f v r
  rw[show zlu f v ((k,x)::r)=(if k=f then(k,v)::r else(k,x)::zlu f v r) from rfl]
  by_cases hk:k=f
  ·rw[if_pos hk]
   subst hk
   exact⟨by simp,fun g h=>by simpa using h⟩
  ·rw[if_neg hk]
   refine⟨?_,fun g h=>?_⟩
   ·rw[List.map_cons]
    exact List.mem_cons_of_mem _ i1
   ·rw[List.map_cons] at h ⊢
    rcases List.mem_cons.mp h with e | e
    ·exact List.mem_cons.mpr (.inl e)
    ·exact List.mem_cons_of_mem _ (i2 g e)
theorem zmh (f:Str)(v:V):∀ fs:List (Str×V),(zlu f v fs).length<=fs.length+1
 | []=>by simp [zlu]
 | (k,x)::r=>by
  have ih:=zmh f v r
  rw[show zlu f v ((k,x)::r)=(if k=f then(k,v)::r else(k,x)::zlu f v r) from rfl]
  by_cases hk:k=f
  ·rw[if_pos hk,List.length_cons,List.length_cons];omega
  ·rw[if_neg hk,List.length_cons,List.length_cons];omega
theorem zy4.some_of {v:V}{o:Option Value}(r:zy4 (some v) o):∃ u,o=some u/\zcN v u:=by
 cases o with
 | none=>exact(show False from r).elim
 | some u=>exact⟨u,rfl,r⟩
theorem zwf {v:V}{u:Value}(r:zcN v u):W.handedIn u=true:=by
 cases v with
 | non=>cases (show u=Value.none from r);rfl
 | bl b=>cases (show u=Value.bool b from r);rfl
 | int i=>obtain⟨t,e⟩:=(show ∃ t,u=Value.int i t from r);cases e;rfl
 | str x=>obtain⟨t,e⟩:=(show ∃ t,u=Value.str x t from r);cases e;rfl
 | byt b=>obtain⟨t,e⟩:=(show ∃ t,u=Value.bytes b t from r);cases e;rfl
 | flt b=>obtain⟨t,e⟩:=(show ∃ t,u=Value.float b t from r);cases e;rfl
 | ref a=>cases (show u=Value.ref a from r);rfl
 | ty n=>cases (show u=Value.type n from r);rfl
section
variable {P:Program}{w:World}{H H':Hp}{h h':Heap}{a C dx:Addr}{fs fs':List (Str×V)}
theorem zou (hok:HOk P w H h)(e:H a=some (.ins C dx fs)):∃ mA,zBp h a dx C mA/\(∀ f,zy4 (fs.lookup f) (mA f))/\PySem.Within mA (fs.map (·.1))/\fs.length<=1000/\H dx=some (.own a):=by
 obtain⟨d,z,ne,ob,mA,n,r,q⟩:=(show zdg P w H h a (.ins C dx fs) from hok a _ e)
 exact⟨mA,⟨ob,n,ne⟩,r,q,z,d⟩
end
structure Cls (K:W.Frag) (C:Addr):Prop where
 pg:W.plainGet K C Str.empty=true
 hd:W.hasDictIn K C=true
 po:W.plainOver K C=true
 sa:W.findIn K (.ref C) "__setattr__"=some (some (.builtin "object.__setattr__"))
theorem Cls.get {K:W.Frag}{C:Addr}(c:Cls K C)(f:Str):W.plainGet K C f=true:=c.pg
def zgn (K:W.Frag)(C:Addr)(f:Str):Prop:=W.findIn K (.ref C) f=some none
theorem zgn.taker {K:W.Frag}{C:Addr}{f:Str}(n:zgn K C f):W.takerIn K C f=some none:=by
 unfold W.takerIn
 rw[show W.findIn K (.ref C) f=some none from n]
 rfl
section
variable {X:Cx}{pins:List (Addr×Obj)}{σ:St}{H:Hp}{s:Shared}{a C dx:Addr}{fs:List (Str×V)}{f:Str}{v:V}{A:Around}{E:Value->Shared->Prop}
theorem zt3 {b:Bool}{Q:Value->Shared->Prop}(I:Inv X pins σ H s)(e:H a=some (.ins C dx fs))(c:Cls X.K C)(n:zgn X.K C f)(l:fs.lookup f=some v)
  (h:∀ u s',Inv X pins σ H s'->zcN v u->Q u s'):wpAny (model X.prog X.w) A (getAttr (.ref a) f b) Q E s:=by
 obtain⟨mA,O,r,_,_,_⟩:=zou I.hok e
 obtain⟨u,hu,ru⟩:=zy4.some_of (v:=v) (o:=mA f) (by rw[← l];exact r f)
 exact zAS I.kIn O (c.get f) c.hd n hu (zwf ru) (h u _ (I.tok _) ru)
theorem zti {y:V}{u:Value}{Q:Unit->Shared->Prop}(I:Inv X pins σ H s)(e:H a=some (.ins C dx fs))(c:Cls X.K C)(n:zgn X.K C f)(hl:fs.length < 1000)(ry:zcN y u)
  (h:∀ s',Inv X pins σ (upd H a (.ins C dx (zlu f y fs))) s'->Q () s'):wpAny (model X.prog X.w) A (setAttr (.ref a) f u) Q E s:=by
 obtain⟨mA,O,r,wi,_,ho⟩:=zou I.hok e
 have hz:(fs.map (·.1)).length<=sizeLine:=by rw[List.length_map,sizeLine_eq];omega
 refine zz8 I.kIn O c.sa c.po n.taker c.hd wi hz fun h' O' sb=>h _ ?_
 have hd:∃ o,h'.get? dx=some o:=let ⟨o,_,_,e',_⟩:=O'.ns;⟨o,e'⟩
 refine I.write (x:=a) (e:=dx) (by rw[e];exact True.intro) (.inr ho) (fun b q hb z=>(sb.2 b hb).trans z) hd ?_
 refine⟨by rw[zaE O.ne];exact ho,?_,O.ne,O'.obj,_,O'.ns,fun g=>?_,fun g hg=>?_⟩
 ·have:=zmh f y fs;omega
 ·show zy4 ((zlu f y fs).lookup g) (if g=f then some u else mA g)
  rw[zjz]
  by_cases q:g=f
  ·rw[if_pos q,if_pos q];exact ry
  ·rw[if_neg q,if_neg q];exact r g
 ·by_cases q:g=f
  ·rw[q];exact(zh2 f y fs).1
  ·refine(zh2 f y fs).2 g (wi g fun z=>hg ?_)
   show(if g=f then some u else mA g)=none
   rw[if_neg q];exact z
theorem Inv.made (I:Inv X pins σ H s):Inv X pins σ (upd (upd H s.heap.objs.size (.own (s.heap.objs.size+1))) (s.heap.objs.size+1) (.ins C s.heap.objs.size []))
  { s with heap:=(s.heap.push W.emptyDict).push (W.instObj C s.heap.objs.size) }:=by
 have e1:(s.heap.push W.emptyDict).get? s.heap.objs.size=some W.emptyDict:=Heap.get?_push_size s.heap rfl
 have e2:((s.heap.push W.emptyDict).push (W.instObj C s.heap.objs.size)).get? (s.heap.objs.size+1)=some (W.instObj C s.heap.objs.size):=by
  have:=Heap.get?_push_size (s.heap.push W.emptyDict) (o:=W.instObj C s.heap.objs.size) rfl
  rwa [Heap.size_push] at this
 have e3:(s.heap.push W.emptyDict).Ns s.heap.objs.size (fun _=>none):=⟨W.emptyDict,#[],_,e1,rfl,(fun e he=>absurd he (by simp)),fun _=>rfl⟩
 have I1:=I.laid (a:=s.heap.objs.size) (o:=.own (s.heap.objs.size+1)) (h':=s.heap.push W.emptyDict) (t':=s.toks) (fun b u q=>Heap.get?_push_of_some _ q) (Nat.le_refl _) ⟨_,e1⟩
 refine I1.laid (a:=s.heap.objs.size+1) (o:=.ins C s.heap.objs.size []) (t':=s.toks) (fun b u q=>Heap.get?_push_of_some _ q) (Nat.le_of_eq (Heap.size_push _ _)) ?_
 have ne:s.heap.objs.size≠s.heap.objs.size+1:=Nat.ne_of_lt (Nat.lt_succ_self _)
 refine⟨by rw[zaE ne,zaB],Nat.zero_le _,ne,e2,fun _=>none,(Heap.Ns1.of_empty e3).at fun o q=>Heap.get?_push_of_some _ q,fun _=>True.intro,fun y hy=>absurd rfl hy⟩
theorem zBd {prog:Program}{w:World}{env:Env}{e:Expr}{f:Str}{pos:Pos}{s:Shared}{Q:Value->Shared->Prop}(hb:attributeBase e f env (eval e env)=eval e env)
  (h:wpAny (model prog w) A (eval e env) (fun o s₁=>wpAny (model prog w) A (getAttr o f true) Q E s₁) E s):wpAny (model prog w) A (eval (.Attribute e f pos) env) Q E s :=
 Attribute_any_ h (by rw[arm_eval_Attribute,hb])
end
def zE5 (K:W.Frag)(ta:TE)(f:Str):TE:=fun σ H Q=>ta σ H fun x H1=>∃ a C dx fs v,x=.ref a/\H1 a=some (.ins C dx fs)/\Cls K C/\zgn K C f/\fs.lookup f=some v/\Q v H1
def zE8 (K:W.Frag)(ta tv:TE)(f:Str):TS:=fun D σ H=>tv σ H fun y H1=>ta σ H1 fun x H2=>∃ a C dx fs,x=.ref a/\H2 a=some (.ins C dx fs)/\Cls K C/\zgn K C f/\fs.length < 1000 /\
 D.nx σ (upd H2 a (.ins C dx (zlu f y fs)))
section
variable {X:Cx}{o e value:Expr}{f:Str}{pos pos' tpos:Pos}{ta tv:TE}
theorem zCn (he:PE X e ta)(hb:attributeBase e f X.env (eval e X.env)=eval e X.env):PE X (.Attribute e f pos) (zE5 X.K ta f):=by
 intro pins s σ H Q I h
 refine zBd hb (thn (he pins s σ H _ I h) fun u s1 ⟨x,H1,I1,rx,a,C,dx,fs,v,ex,ea,c,n,l,q⟩=>?_)
 subst ex
 obtain rfl:u=Value.ref a:=rx
 exact zt3 I1 ea c n l fun u' s2 I2 ru=>⟨v,H1,I2,ru,q⟩
theorem zCe (ha:PE X o ta)(hv:PE X value tv)(hs:swapsWith value (some (.Attribute o f pos')) pos.line X.env=pure false):PS X (.Assign [.Attribute o f pos'] value pos) (zE8 X.K ta tv f):=by
 intro pins s σ H D I h
 refine plainObj_wpAny_Assign_Attribute (thn (hv pins s σ H _ I h) fun u s1 ⟨y,H1,I1,ry,q⟩=>thn (ha pins s1 σ H1 _ I1 q) fun ov s2 ⟨x,H2,I2,rx,a,C,dx,fs,ex,ea,c,n,l,q2⟩=>?_) hs
 subst ex
 obtain rfl:ov=Value.ref a:=rx
 exact zti I2 ea c n l ry fun s3 I3=>⟨σ,_,I3,q2⟩
end
section
variable {X:Cx}{pins:List (Addr×Obj)}{σ:St}{H:Hp}{s:Shared}{A:Around}{E:Value->Shared->Prop}{Q:Value->Shared->Prop}{c:Value}{b:Bool}
inductive zuq (K:W.Frag) (H:Hp):V->Value->Prop where
 | non:zuq K H .non (.type "NoneType")
 | bl (x:Bool):zuq K H (.bl x) (.type "bool")
 | int (i:Int):zuq K H (.int i) (.type "int")
 | str (x:Str):zuq K H (.str x) (.type "str")
 | flt (x:UInt64):zuq K H (.flt x) (.type "float")
 | lst {a:Addr}{xs:List V}(e:H a=some (.lst xs)):zuq K H (.ref a) (.type "list")
 | frz {a:Addr}{o:Obj}{xs:List V}(e:H a=some (.frz o (.lst xs))):zuq K H (.ref a) (.type "list")
 | tup {a:Addr}{xs:List V}(e:H a=some (.tup xs)):zuq K H (.ref a) (.type "tuple")
 | dK {a:Addr}{kvs:List (Key×V)}(e:H a=some (.dK kvs)):zuq K H (.ref a) (.type "dict")
 | dT {a:Addr}{kvs:List (List Key×V)}(e:H a=some (.dT kvs)):zuq K H (.ref a) (.type "dict")
 | ins {a C dx:Addr}{fs:List (Str×V)}(e:H a=some (.ins C dx fs)) (cl:Cls K C) (ha:W.findIn K (.ref C) "__class__"=some (some (.builtin "object.__class__")))
   (hn:W.specialIn K (.builtin "object.__class__") "__get__"=some (some (.builtin "getset_descriptor.__get__"))) (htk:W.takesIn K (.builtin "object.__class__")=some true)
   (hm:W.mroIn K C (.type "object")=some true):zuq K H (.ref a) (.ref C)
theorem zjZ {x:V}{u t:Value}(I:Inv X pins σ H s)(rx:zcN x u)(ty:zuq X.K H x t)(e:W.kitOne X.K t c=some b)(h:∀ tk,Q (.bool b) { s with toks:=tk }) :
  wpAny (model X.prog X.w) A (call (.builtin "isinstance") [u,c]) Q E s:=by
 cases ty with
 | non=>cases (show u=Value.none from rx);exact W.kia_one W.kitx_none I.kIn True.intro e (fun z=>nomatch z) h
 | bl y=>cases (show u=Value.bool y from rx);exact W.kia_one W.kitx_bool I.kIn True.intro e (fun z=>nomatch z) h
 | int i=>obtain⟨t,q⟩:=(show ∃ t,u=Value.int i t from rx);cases q;exact W.kia_one W.kitx_int I.kIn True.intro e (fun z=>nomatch z) h
 | str y=>obtain⟨t,q⟩:=(show ∃ t,u=Value.str y t from rx);cases q;exact W.kia_one W.kitx_str I.kIn True.intro e (fun z=>nomatch z) h
 | flt y=>obtain⟨t,q⟩:=(show ∃ t,u=Value.float y t from rx);cases q;exact W.kia_one W.kitx_float I.kIn True.intro e (fun z=>nomatch z) h
 | @lst a xs ea =>
  cases (show u=Value.ref a from rx)
  obtain⟨_,_,n,_,h1⟩:=(show zdg X.prog X.w H s.heap a (.lst xs) from I.hok a _ ea)
  exact W.kia_one W.kitx_list I.kIn ⟨_,h1,rfl⟩ e (fun z=>nomatch z) h
 | @frz a ob xs ea =>
  cases (show u=Value.ref a from rx)
  obtain⟨_,_,_,n,_,h1⟩:=(show zdg X.prog X.w H s.heap a (.frz ob (.lst xs)) from I.hok a _ ea)
  exact W.kia_one W.kitx_list I.kIn ⟨_,h1,rfl⟩ e (fun z=>nomatch z) h
 | @tup a xs ea =>
  cases (show u=Value.ref a from rx)
  obtain⟨_,_,_,p⟩:=(show zdg X.prog X.w H s.heap a (.tup xs) from I.hok a _ ea)
  obtain⟨o,h1,h2,_⟩:=p
  exact W.kia_one W.kitx_tuple I.kIn ⟨o,h1,h2⟩ e (fun z=>nomatch z) h
 | @dK a kvs ea =>
  cases (show u=Value.ref a from rx)
  obtain⟨_,_,vs,_,p⟩:=(show zdg X.prog X.w H s.heap a (.dK kvs) from I.hok a _ ea)
  obtain⟨o,es,ep,h1,h2,_⟩:=p
  exact W.kia_one W.kitx_dict I.kIn ⟨o,h1,h2.1⟩ e (fun z=>nomatch z) h
 | @dT a kvs ea =>
  cases (show u=Value.ref a from rx)
  obtain⟨_,_,xs,_,o,es,ep,h1,h2,_⟩:=(show zdg X.prog X.w H s.heap a (.dT kvs) from I.hok a _ ea)
  exact W.kia_one W.kitx_dict I.kIn ⟨o,h1,h2.1⟩ e (fun z=>nomatch z) h
 | @ins a C dx fs ea cl ha hn htk hm =>
  cases (show u=Value.ref a from rx)
  obtain⟨mA,O,_⟩:=zou I.hok ea
  obtain⟨od,J,_⟩:=O.look
  exact W.kia_one (W.kitx_own (cl.get _) cl.hd ha hn htk hm) I.kIn J e (fun z=>nomatch z) h
end
structure zjd (k:Nat) (A:Around):Prop where
 hd:A.handled=none
 dp:A.depth+3*k+5 < recursionLimit
 un:A.units+16*k+200 < cLine
theorem zjd.mono {j k:Nat}{A:Around}(r:zjd k A)(h:j<=k):zjd j A:=⟨r.hd,by have:=r.dp;omega,by have:=r.un;omega⟩
theorem zjd.deeper {k:Nat}{A:Around}(r:zjd (k+1) A)(env:Env):zjd k (A.deeper env) :=
 ⟨r.hd,by have:=r.dp;show A.depth+1+3*k+5 < _;omega,by have:=r.un;show A.units+3+16*k+200 < _;omega⟩
theorem zty {A:Around}{C:Addr}{us:List Value}{kw:List (Str×Value)}:(A.under (.builtin "type.__call__" ⟨.ref C::us,kw⟩)).depth=A.depth+1:=by
 first | rfl | simp [Around.under,Code.weight,Code.isCreation,Code.isGuard,Code.isCaller,Code.frames,Code.isFrame,guardIds]
theorem ztx {A:Around}{C:Addr}{us:List Value}{kw:List (Str×Value)}:(A.under (.builtin "type.__call__" ⟨.ref C::us,kw⟩)).units=A.units+1:=by
 first | rfl | simp [Around.under,Code.cUnits,Code.frames,Code.isFrame]
theorem zjd.make {k:Nat}{A:Around}(r:zjd (k+1) A)(C:Addr)(us:List Value)(kw:List (Str×Value)):zjd k (A.under (.builtin "type.__call__" ⟨.ref C::us,kw⟩)) :=
 ⟨r.hd,by have:=r.dp;rw[zty];omega,by have:=r.un;rw[ztx];omega⟩
theorem zjd.depth {k:Nat}{A:Around}(r:zjd k A):A.depth < recursionLimit:=by have:=r.dp;omega
theorem zjd.units {k:Nat}{A:Around}(r:zjd k A):A.units+64 < cLine:=by have:=r.un;omega
def zE1:TA:=fun _ H Q=>Q [] H
def zDy (ta:TE)(tr:TA):TA:=fun σ H Q=>ta σ H fun x H1=>tr σ H1 fun xs H2=>Q (x::xs) H2
section
variable {X:Cx}{e:Expr}{es:List Expr}{te:TE}{t:TA}{pos:Pos}
theorem zhy:PA X [] zE1:=fun _ _ _ _ H Q I h=>Calls.spliced_nil ⟨[],H,I,.nil,h⟩
theorem zdo (ha:PE X e te)(hr:PA X es t)(hs:starEach (e::es) X.env=(false,eval e X.env)::starEach es X.env:=by rfl):PA X (e::es) (zDy te t):=by
 intro pos pins s σ H Q I h
 rw[hs]
 show wpAny _ _ (spliced ((false,eval e X.env)::backTo pos (starEach es X.env))) _ _ s
 refine Calls.spliced_cons (thn (ha pins s σ H _ I h) fun u s1 ⟨x,H1,I1,r1,q1⟩=>?_)
 exact thn (hr pos pins s1 σ H1 _ I1 q1) fun us s2 ⟨xs,H2,I2,r2,q2⟩=>⟨x::xs,H2,I2,.cons r1 r2,q2⟩
def zEV (t:TA):TE:=fun σ H Q=>t σ H fun xs H1=>xs.length<=sizeLine/\∀ p,H1 p=none->Q (.ref p) (upd H1 p (.tup xs))
def zE2 (t:TA):TE:=fun σ H Q=>t σ H fun xs H1=>xs.length<=sizeLine/\∀ p,H1 p=none->Q (.ref p) (upd H1 p (.lst xs))
theorem zzn {x1}(h:PA X es t):PE X (.Tuple es x1 pos) (zEV t):=by
 intro pins s σ H Q I hq
 refine wpAny_Tuple_spliced (thn (h pos pins s σ H _ I hq) fun us s1 ⟨xs,H1,I1,r,z,q⟩=>⟨by rw[← r.length];exact z,?_⟩)
 have hf:H1 s1.heap.objs.size=none:=I1.hok.fresh (Nat.le_refl _)
 refine⟨.ref s1.heap.objs.size,upd H1 s1.heap.objs.size (.tup xs),I1.laid (t':=s1.toks) (fun b u e=>Heap.get?_push_of_some _ e) (Nat.le_refl _) ?_,rfl,q _ hf⟩
 exact⟨z,us,r,⟨_,Heap.get?_push_size _ rfl,rfl,_,rfl⟩⟩
theorem zzo (h:PA X es t):PE X (.List es pos) (zE2 t):=by
 intro pins s σ H Q I hq
 refine wpAny_List_spliced (thn (h pos pins s σ H _ I hq) fun us s1 ⟨xs,H1,I1,r,z,q⟩=>⟨by rw[← r.length];exact z,?_⟩)
 have hf:H1 s1.heap.objs.size=none:=I1.hok.fresh (Nat.le_refl _)
 refine⟨.ref s1.heap.objs.size,upd H1 s1.heap.objs.size (.lst xs),I1.laid (t':=s1.toks) (fun b u e=>Heap.get?_push_of_some _ e) (Nat.le_refl _) ?_,rfl,q _ hf⟩
 exact⟨z,us,0,r,Heap.get?_push_size _ rfl⟩
end
abbrev Sp:=List V->Hp->VK->XK->Prop
abbrev CXT:=List Env->Hp->Shared->XK->Value->Shared->Prop
structure zw7 (P:Program) (w:World) (K:W.Frag) (mg:Str->Option Value) (base:Heap) (A:Around) (outer:List Env) (s:Shared) (H:Hp):Prop where
 frames:A.frames=some outer
 mod:Mod K mg base
 bs:∀ b o,base.get? b=some o->s.heap.get? b=some o/\H b=none
 bsz:base.objs.size<=s.heap.objs.size
 funs:s.heap.FunFrames base outer
 frf:∀ b∈frs outer,H b=none
 hok:HOk P w H s.heap
 bare:AllBare s.gens
def CE (outer:List Env)(P:Program)(w:World)(H:Hp)(s:Shared)(Q:VK)(u:Value)(s':Shared):Prop :=
 ∃ v H',s'.os=s.os/\AllBare s'.gens/\Un (frs outer) [] H H' s.heap s'.heap/\HOk P w H' s'.heap/\zcN v u/\Q v H'
def CR (CX:CXT)(outer:List Env)(P:Program)(w:World)(H:Hp)(s:Shared)(Q:VK)(E:XK)(r:Result)(s':Shared):Prop :=
 match r with
 | .ok (.ret u)=>CE outer P w H s Q u s'
 | .ok _=>False
 | .error e=>CX outer H s E e s'
structure zda (P:Program) (w:World) (K:W.Frag) (mg:Str->Option Value) (base:Heap) (CX:CXT) (k:Nat) (f:Addr) (fd:FuncData) (ps:List Str) (sp:Sp):Prop where
 len:∀ vs H Q E,sp vs H Q E->vs.length=ps.length
 run:∀ (A:Around) (outer:List Env) (s:Shared) (H:Hp) (args:Args) (us:List Value) (vs:List V) (Q:VK) (E:XK),zjd k A->zw7 P w K mg base A outer s H->BindsTo s fd args (ps.zip us)->zce vs us->sp vs H Q E ->
  codeAny (model P w) A (.call (.ref f) args) (CR CX outer P w H s Q E) s
theorem zda.mono {P:Program}{w:World}{K:W.Frag}{mg:Str->Option Value}{base:Heap}{CX:CXT}{j k:Nat}{f:Addr}{fd:FuncData}{ps:List Str}{sp:Sp}(F:zda P w K mg base CX j f fd ps sp)(h:j<=k) :
  zda P w K mg base CX k f fd ps sp:=⟨F.len,fun A outer s H args us vs Q E hr=>F.run A outer s H args us vs Q E (hr.mono h)⟩
theorem zw7.make {P:Program}{w:World}{K:W.Frag}{mg:Str->Option Value}{base:Heap}{A:Around}{outer:List Env}{s:Shared}{H:Hp}(e:zw7 P w K mg base A outer s H)(C:Addr)(us:List Value)(kw:List (Str×Value)) :
  zw7 P w K mg base (A.under (.builtin "type.__call__" ⟨.ref C::us,kw⟩)) outer s H:=⟨by first | exact e.frames | (simpa [Around.under,Code.envs,Code.isFrame,pushEnvs] using e.frames),e.mod,e.bs,e.bsz,e.funs,e.frf,e.hok,e.bare⟩
section
variable {X:Cx}{pins:List (Addr×Obj)}{σ:St}{H:Hp}{s s':Shared}
theorem Inv.env0 (I:Inv X pins σ H s):zw7 X.prog X.w X.K X.mg X.base X.A X.stack s H :=
 ⟨I.ok.frames,I.ok.mod,I.bs,Nat.le_trans I.ok.bsz I.sz,I.stack,I.stkFree,I.hok,I.bare⟩
theorem Inv.after {Q:VK}{u:Value}(I:Inv X pins σ H s)(h:CE X.stack X.prog X.w H s Q u s'):EP X pins σ Q u s':=by
 obtain⟨v,H',os,bare,un,hok,r,q⟩:=h
 obtain⟨hh,g,d,t,os'⟩:=s'
 obtain rfl:os'=s.os:=os
 exact⟨v,H',I.call (h':=hh) (g':=g) (d':=d) (t':=t) (ch:=[]) un hok bare (fun b z=>absurd z (by simp)),r,q⟩
end
def zDz (sp:Sp)(dvs:List V)(E:XK)(t:TA):TE:=fun σ H Q=>t σ H fun vs H1=>sp (vs++dvs) H1 Q E
def zDv (C:Addr)(sp:Sp)(dvs:List V)(E:XK)(t:TA):TE:=fun σ H Q=>t σ H fun vs H1=>∀ x dx,H1 x=none->H1 dx=none->dx≠x ->
 sp (.ref x::(vs++dvs)) (upd (upd H1 dx (.own x)) x (.ins C dx [])) (fun v H2=>v=.non/\Q (.ref x) H2) E
def zbk (K:W.Frag)(fd:FuncData)(ps:List Str)(ds:List Value):Prop :=
 ∀ (s:Shared) (us:List Value),K.In s.heap->(us++ds).length=ps.length->BindsTo s fd ⟨us,[]⟩ (ps.zip (us++ds))
theorem zbk.all {K:W.Frag}{fd:FuncData}{ps:List Str}(h:∀ us:List Value,us.length=ps.length->bindArgs fd ⟨us,[]⟩=pure (ps.zip us)):zbk K fd ps []:=fun s us _ hl=>by
 rw[List.append_nil] at hl ⊢
 exact .of_eq (h us hl)
def zkg (CX:CXT)(X:Cx)(E:XK):Prop:=∀ (pins:List (Addr×Obj)) (σ:St) (H:Hp) (s:Shared) (e:Value) (s':Shared),Inv X pins σ H s->CX X.stack H s E e s'->X.xe e s'
section
variable {X:Cx}{CX:CXT}{k:Nat}{f C:Addr}{fd:FuncData}{ps:List Str}{sp:Sp}{dvs:List V}{ds:List Value}{E:XK}{x m:Str}{p pos apos:Pos}{e o:Expr}{es:List Expr}{ta:TE}{t:TA}
theorem zB0 {pins:List (Addr×Obj)}{σ:St}{H:Hp}{s:Shared}{Q:VK}{us:List Value}{vs:List V}(F:zda X.prog X.w X.K X.mg X.base CX k f fd ps sp)(hr:zjd k X.A)(hb:zbk X.K fd ps ds)(hd:zce dvs ds)(hx:zkg CX X E)
  (I:Inv X pins σ H s)(r:zce vs us)(h:sp (vs++dvs) H Q E):wpAny (model X.prog X.w) X.A (call (.ref f) us) (EP X pins σ Q) X.xe s:=by
 have r2:zce (vs++dvs) (us++ds):=r.append hd
 have hl:(us++ds).length=ps.length:=by rw[← r2.length];exact F.len _ _ _ _ h
 refine wpAny_call (codeAny_mono (F.run X.A X.stack s H ⟨us,[]⟩ (us++ds) (vs++dvs) Q E hr I.env0 (hb s us I.kIn hl) r2 h) fun r s' hq=>?_)
 cases r with
 | error e=>exact hx pins σ H s e s' I hq
 | ok fl =>
  cases fl with
  | ret u=>exact I.after hq
  | next=>exact False.elim hq
  | brk=>exact False.elim hq
  | cont=>exact False.elim hq
theorem zAv (F:zda X.prog X.w X.K X.mg X.base CX k f fd ps sp)(hr:zjd k X.A)(hg:Gl X x)(hm:X.mg x=some (.ref f))(hk:W.keepIn X.K (.ref f)=true)(hb:zbk X.K fd ps ds)(hd:zce dvs ds)(hx:zkg CX X E)
  (ha:PA X (e::es) t)(hdb:(x==("__debug__" : Str))=false:=by decide)(he:starEach (e::es) X.env=(false,eval e X.env)::starEach es X.env:=by rfl)(hpl:(backTo pos (starEach es X.env)).any (·.1)=false:=by rfl) :
  PE X (.Call (.Name x p) (e::es) [] pos) (zDz sp dvs E t):=by
 intro pins s σ H Q I h
 refine wpAny_Call_Name_kw (zhn I hg hm ?_ hdb)
 refine W.callWith_K (h₀:=X.base) I.ok.mod.kin hk (thn (ha pos pins s σ H _ I h) fun us s1 ⟨vs,H1,I1,r,q⟩=>⟨I1.kIn,?_⟩) he hpl
 exact zB0 F hr hb hd hx I1 r q
structure Mk (K:W.Frag) (C f:Addr):Prop where
 makes:W.makesIn K C=true
 init:W.findIn K (.ref C) "__init__"=some (some (.ref f))
 fn:W.isFn K (.ref f)=true
 kp:W.keepIn K (.ref C)=true
theorem zxF {pins:List (Addr×Obj)}{σ:St}{H:Hp}{s:Shared}{Q:VK}{us:List Value}{vs:List V}(M:Mk X.K C f)(F:zda X.prog X.w X.K X.mg X.base CX k f fd ps sp)(hr:zjd (k+1) X.A)(hb:zbk X.K fd ps ds)(hd:zce dvs ds)
  (hx:zkg CX X E)(I:Inv X pins σ H s)(r:zce vs us)
  (h:∀ x dx,H x=none->H dx=none->dx≠x->sp (.ref x::(vs++dvs)) (upd (upd H dx (.own x)) x (.ins C dx [])) (fun v H2=>v=.non/\Q (.ref x) H2) E) :
  wpAny (model X.prog X.w) X.A (call (.ref C) us) (EP X pins σ Q) X.xe s:=by
 have hq:=h (s.heap.objs.size+1) s.heap.objs.size (I.hok.fresh (Nat.le_succ _)) (I.hok.fresh (Nat.le_refl _)) (Nat.ne_of_lt (Nat.lt_succ_self _))
 have I2:=Inv.made (C:=C) I
 have r2:zce (V.ref (s.heap.objs.size+1)::(vs++dvs)) (Value.ref (s.heap.objs.size+1)::(us++ds)):=.cons rfl (r.append hd)
 have hl:(Value.ref (s.heap.objs.size+1)::us++ds).length=ps.length:=by
  have e:=r2.length
  rw[F.len _ _ _ _ hq] at e
  exact e.symm
 refine wpAny_call (zyb (f:=f) I.kIn M.makes M.init (beq_iff_eq.mp M.fn) (codeAny_mono (F.run _ X.stack _ _ ⟨Value.ref (s.heap.objs.size+1)::us,[]⟩ (Value.ref (s.heap.objs.size+1)::(us++ds)) _ _ E (hr.make C us [])
  (I2.env0.make C us []) (hb _ (Value.ref (s.heap.objs.size+1)::us) I2.kIn hl) r2 hq) fun r s' hq'=>?_))
 cases r with
 | error e=>exact hx pins σ _ _ e s' I2 hq'
 | ok fl =>
  cases fl with
  | ret u =>
   obtain⟨v,H',I3,rv,ev,q3⟩:=I2.after hq'
   subst ev
   exact⟨rv,⟨V.ref (s.heap.objs.size+1),H',I3,rfl,q3⟩⟩
  | next=>exact False.elim hq'
  | brk=>exact False.elim hq'
  | cont=>exact False.elim hq'
theorem zAt (M:Mk X.K C f)(F:zda X.prog X.w X.K X.mg X.base CX k f fd ps sp)(hr:zjd (k+1) X.A)(hg:Gl X x)(hm:X.mg x=some (.ref C))(hb:zbk X.K fd ps ds)(hd:zce dvs ds)(hx:zkg CX X E)
  (ha:PA X (e::es) t)(hdb:(x==("__debug__" : Str))=false:=by decide)(he:starEach (e::es) X.env=(false,eval e X.env)::starEach es X.env:=by rfl)(hpl:(backTo pos (starEach es X.env)).any (·.1)=false:=by rfl) :
  PE X (.Call (.Name x p) (e::es) [] pos) (zDv C sp dvs E t):=by
 intro pins s σ H Q I h
 refine wpAny_Call_Name_kw (zhn I hg hm ?_ hdb)
 refine W.callWith_K (h₀:=X.base) I.ok.mod.kin M.kp (thn (ha pos pins s σ H _ I h) fun us s1 ⟨vs,H1,I1,r,q⟩=>⟨I1.kIn,?_⟩) he hpl
 exact zxF M F hr hb hd hx I1 r q
end
section
variable {X:Cx}{CX:CXT}{k:Nat}{f C:Addr}{fd:FuncData}{ps ks:List Str}{sp:Sp}{E:XK}{x m:Str}{p pos apos kpos:Pos}{e o:Expr}{es:List Expr}{kws:List Keyword}{te ta:TE}{t tk:TA}{nm:Option Str}
variable {g:List Value->List Value->List Value}{gV:List V->List V->List V}
end
structure zaD (N P:List Str) (sc:Scope):Prop where
 kind:sc.kind=.function
 co:sc.isCoroutine=false
 gen:sc.isGenerator=false
 nd:N.Nodup
 pre:N.take P.length=P
 par:∀ x∈P,sc.names.lookup x=some .local ∨ sc.names.lookup x=some .cell
 nofree:∀ y∈sc.names,y.2≠.free
theorem zqy {kindOf:Str->Option NameKind}{x:Str}:∀ {binds:List (Str×Value)}{m:Str->Option Value},(∀ v,(x,v)∉binds)->bindL kindOf binds m x=m x
 | [],_,_=>rfl
 | (n,v)::r,m,h=>by
  unfold bindL
  rw[zqy fun w hw=>h w (List.mem_cons_of_mem _ hw)]
  split
  ·have:x≠n:=by rintro rfl;exact h v List.mem_cons_self
   simp [this]
  ·rfl
theorem zqA {kindOf:Str->Option NameKind}{x:Str}:∀ {binds:List (Str×Value)}{m:Str->Option Value},(∀ v,(x,v)∉binds)->bindC kindOf binds m x=m x
 | [],_,_=>rfl
 | (n,v)::r,m,h=>by
  unfold bindC
  rw[zqA fun w hw=>h w (List.mem_cons_of_mem _ hw)]
  split
  ·rfl
  ·have:x≠n:=by rintro rfl;exact h v List.mem_cons_self
   simp [this]
theorem zqz {kindOf:Str->Option NameKind}{x:Str}{v:Value}:∀ {P:List Str}{vs:List Value}{i:Nat}{m:Str->Option Value},P.Nodup->P[i]?=some x->vs[i]?=some v->kindOf x=some .local ->
  bindL kindOf (P.zip vs) m x=some v
 | [],_,_,_,_,h,_,_=>by simp at h
 | _::_,[],_,_,_,_,h,_=>by simp at h
 | p::P,w::vs,0,m,nd,h1,h2,hk=>by
  simp at h1 h2;subst h1;subst h2
  show bindL kindOf ((p,w)::P.zip vs) m p=_
  unfold bindL
  rw[zqy fun v hv=>(List.nodup_cons.mp nd).1 (List.of_mem_zip hv).1,if_pos hk]
  simp
 | p::P,w::vs,i+1,m,nd,h1,h2,hk=>by
  show bindL kindOf ((p,w)::P.zip vs) m x=_
  unfold bindL
  exact zqz (i:=i) (List.nodup_cons.mp nd).2 (by simpa using h1) (by simpa using h2) hk
theorem zqB {kindOf:Str->Option NameKind}{x:Str}{v:Value}:∀ {P:List Str}{vs:List Value}{i:Nat}{m:Str->Option Value},P.Nodup->P[i]?=some x->vs[i]?=some v->kindOf x≠some .local ->
  bindC kindOf (P.zip vs) m x=some v
 | [],_,_,_,_,h,_,_=>by simp at h
 | _::_,[],_,_,_,_,h,_=>by simp at h
 | p::P,w::vs,0,m,nd,h1,h2,hk=>by
  simp at h1 h2;subst h1;subst h2
  show bindC kindOf ((p,w)::P.zip vs) m p=_
  unfold bindC
  rw[zqA fun v hv=>(List.nodup_cons.mp nd).1 (List.of_mem_zip hv).1,if_neg hk]
  simp
 | p::P,w::vs,i+1,m,nd,h1,h2,hk=>by
  show bindC kindOf ((p,w)::P.zip vs) m x=_
  unfold bindC
  exact zqB (i:=i) (List.nodup_cons.mp nd).2 (by simpa using h1) (by simpa using h2) hk
def start (N:List Str)(vs:List V):St:=vs.map some++List.replicate (N.length-vs.length) none
def zil (CX:CXT)(P:Program)(w:World)(K:W.Frag)(mg:Str->Option Value)(base:Heap)(N:List Str)(qual:Str)(scope:Scope)(f:Addr)(cd:Value)(A:Around)(outer:List Env)(s:Shared)(H:Hp)(E:XK):Cx where
 prog:=P
 w:=w
 K:=K
 mg:=mg
 base:=base
 A:=A.deeper (envOfC qual scope s.heap.objs.size f cd)
 N:=N
 s₀:=s
 H₀:=H
 env:=envOfC qual scope s.heap.objs.size f cd
 outer:=outer
 stack:=envOfC qual scope s.heap.objs.size f cd::outer
 ex:=[]
 calm:=true
 fn:=fun _=>true
 pn:=[]
 xe:=fun e s'=>wpAny (model P w) (A.deeper (envOfC qual scope s.heap.objs.size f cd)) (leaving (envOfC qual scope s.heap.objs.size f cd) e) (fun _ s''=>CX outer H s E e s'') (fun e' s''=>CX outer H s E e' s'') s'
theorem zs2 {sc:Scope}{n:Nat}{x:Str}(h:sc.names.lookup x=some .cell):∃ c,(cellsFrom n sc.names []).lookup x=some c:=by
 have q:=W.cellsFrom_some sc.names n [] (.inl h)
 exact Option.isSome_iff_exists.mp q
theorem zqa {CX:CXT}{P:Program}{w:World}{K:W.Frag}{mg:Str->Option Value}{base:Heap}{N ps:List Str}{qual:Str}{scope:Scope}{f:Addr}{cd:Value}{A:Around}{outer:List Env}{s s1:Shared}{H:Hp}{E:XK}{us:List Value}{vs:List V}
  (S:zaD N ps scope)(hd:A.handled=none)(e0:zw7 P w K mg base A outer s H)(hl:vs.length=ps.length)(r:zce vs us)
  (x:InCallC s s.heap.objs.size (bindL (envOfC qual scope s.heap.objs.size f cd).kindOf (ps.zip us) fun _=>none) (cellsFrom (s.heap.objs.size+1) scope.names []) (bindC (envOfC qual scope s.heap.objs.size f cd).kindOf (ps.zip us) fun _=>none) s1) :
  Inv (zil CX P w K mg base N qual scope f cd A outer s H E) [] (start N vs) H s1:=by
 have hpl:ps.length<=N.length:=by have:=congrArg List.length S.pre;rw[List.length_take] at this;omega
 obtain⟨h1,tk,rfl,hk⟩:=x.done
 have noA:∀ b:Addr,b∉(zil CX P w K mg base N qual scope f cd A outer s H E).ex:=fun b z=>absurd (show b∈([]:List Addr) from z) (by simp)
 refine⟨⟨e0.mod,S.kind,rfl,rfl,Nat.le_refl _,fun y z c h1 h2=>?_,fun y hy=>?_,fun y c _ h=>?_,fun _=>hd,Around.frames_deeper e0.frames,.inr ⟨rfl,rfl⟩,fun b z=>absurd z (noA b),e0.bs,e0.bsz,fun b _ _=>noA b,fun b z=>absurd z (noA b),e0.funs,e0.frf⟩,
  rfl,e0.bare,Un.kept hk,⟨_,x.toInCall.ns,fun i y v h1 h2 h3=>?_⟩,fun y c h=>⟨_,x.cell y c h⟩,e0.hok.fresh (Nat.le_refl _),fun y c h=>?_,fun p hp=>absurd (show p∈([]:List (Addr×Obj)) from hp) (by simp),e0.hok.kept hk,?_⟩
 ·exact name_of_addr x.apart (PySem.mem_of_lookup h1) (PySem.mem_of_lookup h2)
 ·have hy:scope.names.lookup y=some .cell∨scope.names.lookup y=some .free:=hy
  rcases hy with hy | hy
  ·exact zs2 hy
  ·exact absurd rfl (S.nofree _ (PySem.mem_of_lookup hy))
 ·exact Nat.le_of_lt (x.above y c (PySem.mem_of_lookup h))
 ·have hi:i < vs.length:=by
   unfold start at h2
   by_cases hi:i < vs.length
   ·exact hi
   ·rw[List.getElem?_append_right (by simpa using hi)] at h2
    rw[List.getElem?_replicate] at h2
    split at h2<;>cases h2
  have ha:vs[i]?=some v:=by
   unfold start at h2
   rw[List.getElem?_append_left (by simpa using hi),List.getElem?_map] at h2
   cases e:vs[i]? with
   | none=>rw[e] at h2;cases h2
   | some a=>rw[e] at h2;cases h2;rfl
  obtain⟨u,hu,rv⟩:=r.get ha
  have hp:ps[i]?=some y:=by
   rw[← S.pre,List.getElem?_take_of_lt (by omega)];exact h1
  have ndP:ps.Nodup:=by rw[← S.pre];exact S.nd.sublist (List.take_sublist _ _)
  refine⟨u,rv,?_⟩
  rcases S.par y (List.mem_of_getElem? hp) with k | k
  ·exact .inl ⟨k,zqz ndP hp hu k⟩
  ·obtain⟨c,e⟩:=zs2 (n:=s.heap.objs.size+1) k
   refine .inr ⟨.inl k,c,e,?_⟩
   have q:=x.cell y c e
   rw[zqB ndP hp hu (by show scope.names.lookup y≠_;rw[k];decide)] at q
   exact q
 ·exact e0.hok.fresh (Nat.le_of_lt (x.above y c (PySem.mem_of_lookup h)))
 ·unfold start
  show _=N.length
  rw[List.length_append,List.length_map,List.length_replicate]
  omega
theorem zCP {CX:CXT}{P:Program}{w:World}{K:W.Frag}{mg:Str->Option Value}{base:Heap}{k:Nat}{f:Addr}{name qual:Str}{params:Arguments}{body:List Stmt}{scope:Scope}{dV kV doc pm cdv ct oc:Value}{an od:Option Addr}
  {osl:Array (Option Value)}{N ps:List Str}{sp:Sp}(lk:K.lookup f=some ⟨oc,od,.func (W.fnOf name qual params body scope dV kV doc pm an cdv ct),osl⟩) (hcd:W.codeIn K cdv qual=true) (S:zaD N ps scope)
  (len:∀ vs H Q E,sp vs H Q E->vs.length=ps.length)
  (hbody:∀ (A:Around) (outer:List Env) (s:Shared) (H:Hp) (vs:List V) (Q:VK) (E:XK),zjd k (A.deeper (envOfC qual scope s.heap.objs.size f cdv))->sp vs H Q E ->
   ∃ t,PSs (zil CX P w K mg base N qual scope f cdv A outer s H E) body t/\t { nx:=fun _ H'=>Q .non H',rt:=Q } (start N vs) H) :
  zda P w K mg base CX (k+1) f (W.fnOf name qual params body scope dV kV doc pm an cdv ct) ps sp:=by
 refine⟨len,fun A outer s H args us vs Q E hr e0 hb r hsp=>?_⟩
 have hl:=len _ _ _ _ hsp
 have KX:K.In s.heap:=e0.mod.kin.keeps fun b o e=>(e0.bs b o e).1
 have lim:s.heap.NoLimit:=e0.mod.nolimit.keeps fun b o e=>(e0.bs b o e).1
 have hkind:∀ y∈ps.zip us,scope.names.lookup y.1=some .local ∨ (scope.names.lookup y.1=some .cell/\((cellsFrom (s.heap.objs.size+1) scope.names []).lookup y.1).isSome=true):=fun⟨n,v⟩ hy=>by
  rcases S.par n (List.of_mem_zip hy).1 with q | q
  ·exact .inl q
  ·exact .inr ⟨q,W.cellsFrom_some _ _ _ (.inl q)⟩
 refine codeAny_call_function hr.depth (KX _ _ lk) rfl S.co S.gen rfl (W.codeRec_of KX hcd) (hb _ _ _ _ ?_)
 refine wpAny_newFunctionEnv_cells S.kind hkind fun env he s1 x=>?_
 subst he
 refine⟨lim.keeps x.toInCall.keep,codeAny_func ?_⟩
 obtain⟨t,ht,hq⟩:=hbody A outer s H vs Q E (hr.deeper _) hsp
 have I:Inv (zil CX P w K mg base N qual scope f cdv A outer s H E) [] (start N vs) H s1:=zqa S hr.hd e0 hl r x
 refine wpAny_mono (ht [] s1 (start N vs) H _ I hq) (fun fl s' hs=>?_) fun e s' hs=>hs
 have fin:∀ {σ':St}{H':Hp}{v:V}{u:Value},Inv (zil CX P w K mg base N qual scope f cdv A outer s H E) [] σ' H' s'->zcN v u->Q v H'->CE outer P w H s Q u s' :=
  fun {σ' H' v u} J rv q=>⟨v,H',J.os,J.bare,J.base,J.hok,rv,q⟩
 cases fl with
 | ret u =>
  obtain⟨v,σ',H',J,rv,q⟩:=hs
  exact fin J rv q
 | next =>
  obtain⟨σ',H',J,q⟩:=hs
  exact fin (v:=V.non) (u:=Value.none) J rfl q
 | brk =>
  obtain⟨_,_,_,q⟩:=hs
  exact False.elim q
 | cont =>
  obtain⟨_,_,_,q⟩:=hs
  exact False.elim q
section
variable {X:Cx}{x:Str}{p pos:Pos}{e:Expr}{es:List Expr}{t:TA}{id T:String}{r:List V->Hp->VK->Prop}
def tCB (r:List V->Hp->VK->Prop)(t:TA):TE:=fun σ H Q=>t σ H fun vs H1=>r vs H1 Q
theorem zlE (hc:zkh X (.builtin id) r)(hg:Gl X x)(hm:X.mg x=none)(hv:bootBuiltins x=some (.builtin id))(ha:PA X (e::es) t)(hn:x≠"__name__":=by decide)(hdb:(x==("__debug__" : Str))=false:=by decide)
  (he:starEach (e::es) X.env=(false,eval e X.env)::starEach es X.env:=by rfl)(hpl:(backTo pos (starEach es X.env)).any (·.1)=false:=by rfl):PE X (.Call (.Name x p) (e::es) [] pos) (tCB r t):=by
 intro pins s σ H Q I h
 refine wpAny_Call_Name_kw (zpS I hg hm hv ?_ hn hdb)
 exact PyProof.Rows.callWith_builtin1 (thn (ha pos pins s σ H _ I h) fun us s1 ⟨vs,H1,I1,r1,q1⟩=>hc pins s1 σ H1 vs us Q I1 r1 q1) he hpl
theorem zvx (hc:zkh X (.type T) r)(hg:Gl X x)(hm:X.mg x=none)(hv:bootBuiltins x=some (.type T))(ha:PA X (e::es) t)(hn:x≠"__name__":=by decide)(hdb:(x==("__debug__" : Str))=false:=by decide)
  (he:starEach (e::es) X.env=(false,eval e X.env)::starEach es X.env:=by rfl)(hpl:(backTo pos (starEach es X.env)).any (·.1)=false:=by rfl):PE X (.Call (.Name x p) (e::es) [] pos) (tCB r t):=by
 intro pins s σ H Q I h
 refine wpAny_Call_Name_kw (zpS I hg hm hv ?_ hn hdb)
 exact PyProof.Rows.callWith_type1 (thn (ha pos pins s σ H _ I h) fun us s1 ⟨vs,H1,I1,r1,q1⟩=>hc pins s1 σ H1 vs us Q I1 r1 q1) he hpl
end
end L2
namespace HT
open PySem PyProof.Rows
section
open PySem.SeqAt
open PySem.AutoSeq1 (wpAny_loadPart')
open PySem.MeetsSeq PySem.MeetsSeq2 PySem.MeetsSeq3
end
section
variable {prog:Program}{w:World}{A:Around}{E:Value->Shared->Prop}{s:Shared}
theorem cat_tup {t b:Addr}{vs ws:List Value}{Q:Value->Shared->Prop}(ht:IsTup s.heap t vs.toArray)(hb:IsTup s.heap b ws.toArray)(hv:vs≠[])
  (h1:ws=[]->Q (.ref t) s)(h2:ws≠[]->Q (.ref s.heap.objs.size) { s with heap:=s.heap.push { cls:=.type "tuple",data:=.seq (vs++ws).toArray } })
  (hsz:vs.length+ws.length<=sizeLine):wpAny (model prog w) A (binaryOp .Add (.ref t) (.ref b)) Q E s:=by
 obtain⟨⟨cls,dd,data,sl⟩,ho,hc,n,hd⟩:=id ht
 obtain⟨⟨cls2,dd2,data2,sl2⟩,ho2,hc2,n2,hd2⟩:=id hb
 simp only at hc hd hc2 hd2
 subst hc hd hc2 hd2
 have e:vs.toArray++ws.toArray=(vs++ws).toArray:=by simp
 by_cases hw:ws=[]
 ·exact concat_meets ⟨_,ho,rfl⟩ ⟨_,ho2,rfl⟩ noFill_tuple_add seq_tuple_add PySem.F.slot_tuple_add PySem.F.entry_tuple_add (PySem.F.args_tuple_add_2 _ _)
   (tuple_addW1 t b vs.toArray ws.toArray n n2 dd dd2 sl sl2 (by simpa using hv) (by simp [hw])) ⟨ho,ho2,h1 hw⟩
 ·refine concat_meets ⟨_,ho,rfl⟩ ⟨_,ho2,rfl⟩ noFill_tuple_add seq_tuple_add PySem.F.slot_tuple_add PySem.F.entry_tuple_add (PySem.F.args_tuple_add_2 _ _)
   (tuple_addW2 t b vs.toArray ws.toArray n n2 dd dd2 sl sl2 (by simpa using hv) (by simpa using hw) (by rw[List.size_toArray,List.size_toArray];exact hsz)) ⟨ho,ho2,?_⟩
  rw[e]
  exact h2 hw
def sIx (n d:Nat):Option Int->Nat
 | none=>d
 | some v=>if v < 0 then(v+(n:Int)).toNat else min v.toNat n
theorem sIx_none (n d:Nat):sIx n d none=d:=rfl
theorem sIx_nat (n d k:Nat):sIx n d (some (k:Int))=min k n:=by
 show(if(k:Int) < 0 then((k:Int)+(n:Int)).toNat else min (k:Int).toNat n)=min k n
 rw[if_neg (by omega),Int.toNat_natCast]
theorem zBY (n d:Nat)(hd:d<=n)(o:Option Int):sIx n d o<=n:=by
 cases o with
 | none=>exact hd
 | some v =>
  show(if v < 0 then(v+(n:Int)).toNat else min v.toNat n)<=n
  by_cases hv:v < 0
  ·rw[if_pos hv];omega
  ·rw[if_neg hv];exact Nat.min_le_right _ _
theorem clip_eq (v:Int)(n d:Nat):(if v < 0 then max (v+(n:Int)) 0 else min v (n:Int))=((sIx n d (some v):Nat):Int):=by
 show(if v < 0 then max (v+(n:Int)) 0 else min v (n:Int))=(((if v < 0 then(v+(n:Int)).toNat else min v.toNat n):Nat):Int)
 by_cases hv:v < 0
 ·simp only[if_pos hv];omega
 ·simp only[if_neg hv];omega
theorem zul (lo hi:Option Int)(n:Nat):Builtin.Slice.sliceAdjust lo hi 1 (n:Int)=(((sIx n 0 lo:Nat):Int),((sIx n n hi:Nat):Int)):=by
 have h1:¬ ((1:Int) < 0):=by omega
 unfold Builtin.Slice.sliceAdjust
 simp only[h1,if_false]
 refine Prod.ext ?_ ?_
 ·cases lo with
  | none=>rfl
  | some v=>exact clip_eq v n 0
 ·cases hi with
  | none=>rfl
  | some v=>exact clip_eq v n n
theorem ztn (i j:Nat):Builtin.Slice.slicePlaces (i:Int) (j:Int) 1=j-i:=by
 unfold Builtin.Slice.slicePlaces
 have h1:(1:Int) > 0:=by omega
 simp only[h1,if_true,Int.ediv_one]
 split<;>omega
theorem zno {v:Value}{o:Option Int}{Q:Option Int->Shared->Prop}(p:IsPart v o)(h:Q o s):wpAny (model prog w) A (Builtin.Slice.slicePartIndex v) Q E s:=by
 cases p with
 | none=>exact slicePart_none h
 | int i t=>exact slicePart_int h
theorem zlp {sl:Addr}{vl vu:Value}{lo hi:Option Int}{n:Nat}{Q:Int×Int×Nat->Shared->Prop}(hs:s.heap.IsSliceOf sl vl vu .none)(pl:IsPart vl lo)(pu:IsPart vu hi)
  (h:Q (((sIx n 0 lo:Nat):Int),1,sIx n n hi-sIx n 0 lo) s):wpAny (model prog w) A (Builtin.Slice.sliceApplied (.ref sl) (pure (n:Int))) Q E s:=by
 obtain⟨os,hos,hcs,hds⟩:=id hs
 unfold Builtin.Slice.sliceApplied Builtin.Slice.sliceFields
 refine wpAny_bind (wpAny_bind (wpAny_field hos hds (x:=vl) rfl (wpAny_bind (wpAny_field hos hds (x:=vu) rfl (wpAny_bind (wpAny_field hos hds (x:=.none) rfl (wpAny_pure ?_)))))))
 refine wpAny_bind (slicePart_none ?_)
 show wpAny _ _ (if((1:Int)==0)=true then _ else _) _ _ s
 rw[if_neg (by decide)]
 refine wpAny_bind (zno pl (wpAny_bind (zno pu (wpAny_bind (wpAny_pure ?_)))))
 show wpAny _ _ (match Builtin.Slice.sliceAdjust lo hi 1 (n:Int) with | (lo,hi)=>pure (lo,(1:Int),Builtin.Slice.slicePlaces lo hi 1)) _ _ s
 rw[zul lo hi n]
 show wpAny _ _ (pure (((sIx n 0 lo:Nat):Int),(1:Int),Builtin.Slice.slicePlaces ((sIx n 0 lo:Nat):Int) ((sIx n n hi:Nat):Int) 1)) _ _ s
 rw[ztn]
 exact wpAny_pure h
theorem zxV (xs:Array Value)(i k:Nat):((List.range k).filterMap fun(m:Nat)=>xs[((i:Int)+(m:Int)*1).toNat]?).toArray=((xs.toList.drop i).take k).toArray:=by
 have e:(fun(m:Nat)=>xs[((i:Int)+(m:Int)*1).toNat]?)=fun m=>xs[i+m]?:=by
  funext m
  have:((i:Int)+(m:Int)*1).toNat=i+m:=by omega
  rw[this]
 rw[e]
 have:=pick_run xs i k
 rw[List.filterMap_map] at this
 have e2:((fun x=>xs[x]?)∘fun x=>i+x)=fun m=>xs[i+m]?:=rfl
 rw[e2] at this
 rw[this]
theorem getItem_tuple_cut {t sl:Addr}{items:Array Value}{vl vu:Value}{lo hi:Option Int}{Q:Value->Shared->Prop}(ht:IsTup s.heap t items)(hs:s.heap.IsSliceOf sl vl vu .none)(pl:IsPart vl lo)(pu:IsPart vu hi)
  (hw:¬ (sIx items.size 0 lo=0/\sIx items.size items.size hi=items.size))
  (h:Q (.ref s.heap.objs.size) { s with heap:=s.heap.push { cls:=.type "tuple",data:=.seq ((items.toList.drop (sIx items.size 0 lo)).take (sIx items.size items.size hi-sIx items.size 0 lo)).toArray } })
  (hsz:items.size<=sizeLine):wpAny (model prog w) A (getItem (.ref t) (.ref sl)) Q E s:=by
 have htake:sizeOk (.seq ((items.toList.drop (sIx items.size 0 lo)).take (sIx items.size items.size hi-sIx items.size 0 lo)).toArray):=by
  show((items.toList.drop (sIx items.size 0 lo)).take (sIx items.size items.size hi-sIx items.size 0 lo)).toArray.size<=sizeLine
  rw[List.size_toArray,List.length_take,List.length_drop,Array.length_toList]
  omega
 have hj:sIx items.size items.size hi<=items.size:=zBY _ _ (Nat.le_refl _) hi
 obtain⟨os,hos,hcs,hds⟩:=id hs
 have hTs:s.TypeIs (.ref sl) "slice":=⟨os,hos,hcs⟩
 unfold getItem
 try with_reducible refine wpAny_holding ?_
 first | refine wpAny_bind (wpAny_pure ?_) | skip
 refine wpAny_bind (wpAny_sequenceKey ht.typeIs (by decide) ?_)
 refine wpAny_bind (wpAny_callSpecial?_slot (name:=Str.ofString "__getitem__") ht.typeIs PyProof.Rows.slot_tuple_getitem
  (wpAny_call_entry PyProof.Rows.slot_tuple_getitem ht.typeIs entry_tuple_getitem ?_ (args_tuple_getitem _ _)))
 show wpAny _ _ (Builtin.Tuple.tupleItemsOf (.ref t) >>= _) _ _ s
 refine wpAny_bind (tupleItemsOf_ ht ?_)
 refine wpAny_bind (wpAny_typeOf hTs ?_)
 rw[if_pos (by decide)]
 refine wpAny_bind (zlp hs pl pu ?_)
 have hno:¬ ((((sIx items.size 0 lo:Nat):Int)==0&&(1:Int)==1&&(sIx items.size items.size hi-sIx items.size 0 lo)==items.size)=true):=by
  intro q
  rw[Bool.and_eq_true,Bool.and_eq_true] at q
  have q1:((sIx items.size 0 lo:Nat):Int)=0:=eq_of_beq q.1.1
  have q2:sIx items.size items.size hi-sIx items.size 0 lo=items.size:=eq_of_beq q.2
  exact hw ⟨by omega,by omega⟩
 show wpAny _ _ (if(((sIx items.size 0 lo:Nat):Int)==0&&(1:Int)==1&&(sIx items.size items.size hi-sIx items.size 0 lo)==items.size)=true then _ else _) _ _ s
 rw[if_neg hno,zxV]
 first
  | exact wpAny_bind (m:=Builtin.Tuple.tupleExact _) (wpAny_newObj_type (wpAny_pure ⟨_,rfl,wpAny_pure h⟩) htake)
  | exact wpAny_bind (m:=Builtin.Tuple.tupleExact _) (wpAny_newObj_type (wpAny_bind (wpAny_pure (wpAny_pure ⟨_,rfl,wpAny_pure h⟩))) htake)
  | exact wpAny_bind (wpAny_bind (m:=Builtin.Tuple.tupleExact _) (wpAny_newObj_type (wpAny_pure (wpAny_pure ⟨_,rfl,wpAny_pure h⟩)) htake))
  | exact wpAny_bind (wpAny_bind (m:=Builtin.Tuple.tupleExact _) (wpAny_newObj_type (wpAny_pure ⟨_,rfl,wpAny_pure h⟩) htake))
end
end HT
namespace L2
open PySem PySem.Spec PyProof.Rows
abbrev TO:=St->Hp->(Option Int->Hp->Prop)->Prop
def PO (X:Cx)(e:Option Expr)(t:TO):Prop :=
 ∀ (pins:List (Addr×Obj)) (s:Shared) (σ:St) (H:Hp) (Q:Option Int->Hp->Prop),Inv X pins σ H s->t σ H Q ->
  wpAny (model X.prog X.w) X.A (evalPart e X.env) (fun u s'=>∃ o H',Inv X pins σ H' s'/\IsPart u o/\Q o H') X.xe s
def zz4:TO:=fun _ H Q=>Q none H
def zDs (t:TE):TO:=fun σ H Q=>t σ H fun x H1=>∃ i,x=.int i/\Q (some i) H1
section
variable {X:Cx}{e:Expr}{te:TE}{lo hi:Option Expr}{tl th:TO}{pos p2:Pos}
theorem zAl:PO X none zz4:=by
 intro pins s σ H Q I h
 rw[evalPart_none]
 exact wpAny_pure ⟨none,H,I,.none,h⟩
theorem zAk (h:PE X e te):PO X (some e) (zDs te):=by
 intro pins s σ H Q I hw
 rw[evalPart_some]
 refine thn (h pins s σ H _ I hw) fun u s1 ⟨x,H1,I1,r1,q1⟩=>?_
 obtain⟨i,rfl,q⟩:=q1
 obtain⟨t,rfl⟩:=r1
 exact⟨some i,H1,I1,.int i t,q⟩
def SlR (X:Cx)(r:V->Option Int->Option Int->Hp->VK->Prop):Prop :=
 ∀ (pins:List (Addr×Obj)) (s:Shared) (σ:St) (H:Hp) (x:V) (v vl vu:Value) (lo hi:Option Int) (sl:Addr) (Q:VK),Inv X pins σ H s->zcN x v->s.heap.IsSliceOf sl vl vu .none->IsPart vl lo->IsPart vu hi->r x lo hi H Q ->
  ∃ T id,typeLookup (.type T) "__getitem__"=pure (some (.builtin id))/\s.TypeIs v T/\wpAny (model X.prog X.w) X.A (getItem v (.ref sl)) (EP X pins σ Q) X.xe s
theorem SlR.or {r r':V->Option Int->Option Int->Hp->VK->Prop}(h:SlR X r)(h':SlR X r'):SlR X (fun x lo hi H Q=>r x lo hi H Q∨r' x lo hi H Q):=by
 intro pins s σ H x v vl vu lo hi sl Q I rx hs pl pu q
 rcases q with q | q
 ·exact h pins s σ H x v vl vu lo hi sl Q I rx hs pl pu q
 ·exact h' pins s σ H x v vl vu lo hi sl Q I rx hs pl pu q
def tSl (r:V->Option Int->Option Int->Hp->VK->Prop)(te:TE)(tl th:TO):TE:=fun σ H Q=>te σ H fun x H1=>tl σ H1 fun l H2=>th σ H2 fun u H3=>r x l u H3 Q
theorem zxX {r:V->Option Int->Option Int->Hp->VK->Prop}(hr:SlR X r)(he:PE X e te)(hl:PO X lo tl)(hu:PO X hi th):PE X (.Subscript e (.Slice lo hi none p2) pos) (tSl r te tl th):=by
 intro pins s σ H Q I h
 refine Subscript_ (thn (he pins s σ H _ I h) fun v s1 ⟨x,H1,I1,r1,q1⟩=>?_)
 refine wpAny_Slice (thn (hl pins s1 σ H1 _ I1 q1) fun vl s2 ⟨l,H2,I2,pl,q2⟩=>thn (hu pins s2 σ H2 _ I2 q2) fun vu s3 ⟨u,H3,I3,pu,q3⟩=>?_)
 rw[evalPart_none]
 refine wpAny_pure ?_
 have I4:Inv X pins σ H3 { s3 with heap:=s3.heap.push { cls:=.type "slice",data:=.fields #[vl,vu,.none] } }:=I3.kept (t':=s3.toks) fun b ob q=>Heap.get?_push_of_some _ q
 obtain⟨T,id,hT,ht,hg⟩:=hr pins { s3 with heap:=s3.heap.push { cls:=.type "slice",data:=.fields #[vl,vu,.none] } } σ H3 x v vl vu l u s3.heap.objs.size Q I4 r1 (Heap.IsSliceOf.new ..) pl pu q3
 show wpAny (model X.prog X.w) X.A (subscriptTail e (.Slice lo hi none p2) v (.ref s3.heap.objs.size)) (EP X pins σ Q) X.xe { s3 with heap:=s3.heap.push { cls:=.type "slice",data:=.fields #[vl,vu,.none] } }
 exact tail_any (ops:=[.ref s3.heap.objs.size,v]) ht hT hg (by with_unfolding_all rfl)
def zzC (xs:List V)(lo hi:Option Int):List V:=(xs.drop (HT.sIx xs.length 0 lo)).take (HT.sIx xs.length xs.length hi-HT.sIx xs.length 0 lo)
theorem zmM (xs:List V)(lo hi:Option Int):(zzC xs lo hi).length<=xs.length:=by
 unfold zzC
 rw[List.length_take,List.length_drop]
 omega
def zE9 (K:W.Frag):V->Option Int->Option Int->Hp->VK->Prop:=fun x lo hi H Q=>∃ a xs,x=.ref a/\SqT K H a xs /\
 ¬ (HT.sIx xs.length 0 lo=0/\HT.sIx xs.length xs.length hi=xs.length)/\∀ p,H p=none->Q (.ref p) (upd H p (.tup (zzC xs lo hi)))
theorem zBU:SlR X (zE9 X.K):=by
 intro pins s σ H x v vl vu lo hi sl Q I rx hs pl pu h
 obtain⟨a,xs,rfl,hx,hw,q⟩:=h
 cases rx
 obtain⟨its,r,ht,hz⟩:=I.tuple hx
 have hlen:its.toArray.size=xs.length:=by rw[List.size_toArray];exact r.length.symm
 refine⟨"tuple",_,PyProof.Rows.slot_tuple_getitem.lookup,ht.typeIs,?_⟩
 refine HT.getItem_tuple_cut ht hs pl pu (by rw[hlen];exact hw) ?_ (by rw[hlen];exact hz)
 rw[hlen]
 refine⟨.ref s.heap.objs.size,_,I.laid (t':=s.toks) (o:=.tup (zzC xs lo hi)) (fun b ob q=>Heap.get?_push_of_some _ q) (Nat.le_refl _) ?_,rfl,q _ (I.hok.fresh (Nat.le_refl _))⟩
 exact⟨Nat.le_trans (zmM xs lo hi) hz,_,(r.drop (HT.sIx xs.length 0 lo)).take (HT.sIx xs.length xs.length hi-HT.sIx xs.length 0 lo),IsTup.new _ _⟩
def zDM (K:W.Frag):R2:=fun x y H Q=>∃ a b xs ys,x=.ref a/\y=.ref b/\SqT K H a xs/\SqT K H b ys/\xs≠[]/\xs.length+ys.length<=sizeLine /\
 (ys=[]->Q (.ref a) H)/\(ys≠[]->∀ p,H p=none->Q (.ref p) (upd H p (.tup (xs++ys))))
theorem zce.nil_iff {xs:List V}{us:List Value}(r:zce xs us):us=[]↔xs=[]:=by
 cases r with
 | nil=>simp
 | cons _ _=>simp
theorem zAB:OpR X (binaryOp .Add) (zDM X.K):=by
 intro pins s σ H x y v u Q I rx ry h
 obtain⟨a,b,xs,ys,rfl,rfl,ha,hb,hx,hz,q1,q2⟩:=h
 cases rx
 cases ry
 obtain⟨its,r1,p1,_⟩:=I.tuple ha
 obtain⟨its2,r2,p2,_⟩:=I.tuple hb
 refine HT.cat_tup p1 p2 (fun z=>hx (r1.nil_iff.mp z)) (fun z=>⟨.ref a,H,I,rfl,q1 (r2.nil_iff.mp z)⟩) (fun z=>?_) (by rw[← r1.length,← r2.length];exact hz)
 refine⟨.ref s.heap.objs.size,_,I.laid (t':=s.toks) (o:=.tup (xs++ys)) (fun b ob q=>Heap.get?_push_of_some _ q) (Nat.le_refl _) ?_,rfl,q2 (fun w=>z (r2.nil_iff.mpr w)) _ (I.hok.fresh (Nat.le_refl _))⟩
 exact⟨by rw[List.length_append];exact hz,_,r1.append r2,IsTup.new _ _⟩
end
def ixN (n:Nat)(i:Int):Option Nat:=if 0<=i then(if i < n then some i.toNat else none) else if -(n:Int)<=i then some (i+n).toNat else none
def atI {α:Type}(xs:List α)(i:Int):Option α:=(ixN xs.length i).bind fun j=>xs[j]?
theorem zwa {n:Nat}{i:Int}{j:Nat}(h:ixN n i=some j):seqIndex? i n=some j/\j < n/\-(n:Int)<=i/\i < n:=by
 unfold ixN at h
 by_cases h0:0<=i
 ·rw[if_pos h0] at h
  by_cases h1:i < n
  ·rw[if_pos h1] at h
   have e:i.toNat=j:=Option.some.inj h
   exact⟨by rw[seqIndex_of h0 h1,e],by omega,by omega,h1⟩
  ·rw[if_neg h1] at h;cases h
 ·rw[if_neg h0] at h
  by_cases h1:-(n:Int)<=i
  ·rw[if_pos h1] at h
   have e:(i+n).toNat=j:=Option.some.inj h
   exact⟨by rw[seqIndex_neg (by omega) h1,e],by omega,h1,by omega⟩
  ·rw[if_neg h1] at h;cases h
theorem zr1 {α:Type}{xs:List α}{i:Int}{v:α}(h:atI xs i=some v):∃ j,seqIndex? i xs.length=some j/\xs[j]?=some v/\j < xs.length/\-(xs.length:Int)<=i/\i < xs.length:=by
 unfold atI at h
 cases e:ixN xs.length i with
 | none=>rw[e] at h;cases h
 | some j =>
  rw[e] at h
  obtain⟨h1,h2,h3,h4⟩:=zwa e
  exact⟨j,h1,h,h2,h3,h4⟩
theorem zbQ {α:Type}{xs:List α}{j:Nat}{v:α}(h:xs[j]?=some v):atI xs (j:Int)=some v:=by
 have hj:j < xs.length:=(List.getElem?_eq_some_iff.mp h).1
 have e:ixN xs.length (j:Int)=some j:=by
  unfold ixN
  rw[if_pos (by omega),if_pos (by omega)];simp
 unfold atI;rw[e];exact h
def zr5 (b:Expr):Prop:=∀ o i,subscripted b false o i=operate [o,i] (getItem o i)
def IxR (X:Cx)(r:R2):Prop :=
 ∀ (value slice:Expr) (pins:List (Addr×Obj)) (s:Shared) (σ:St) (H:Hp) (x y:V) (v u:Value) (Q:VK),Inv X pins σ H s->zcN x v->zcN y u->r x y H Q ->
  subscripted slice false v u=operate [v,u] (getItem v u)->wpAny (model X.prog X.w) X.A (subscriptTail value slice v u) (EP X pins σ Q) X.xe s
def MtR (X:Cx)(id:String)(r:V->List V->Hp->VK->Prop):Prop :=
 ∀ (pins:List (Addr×Obj)) (s:Shared) (σ:St) (H:Hp) (x:V) (xs:List V) (v:Value) (us:List Value) (Q:VK),Inv X pins σ H s->zcN x v->zce xs us->r x xs H Q ->
  wpAny (model X.prog X.w) X.A (call (.builtin id) (v::us)) (EP X pins σ Q) X.xe s
section
variable {X:Cx}{a b:Expr}{ta tb:TE}{pos:Pos}
theorem IxR.or {r r':R2}(h:IxR X r)(h':IxR X r'):IxR X (fun x y H Q=>r x y H Q∨r' x y H Q):=by
 intro value slice pins s σ H x y v u Q I rx ry q hs
 rcases q with q | q
 ·exact h value slice pins s σ H x y v u Q I rx ry q hs
 ·exact h' value slice pins s σ H x y v u Q I rx ry q hs
theorem zDW {r:R2}(hr:IxR X r)(ha:PE X a ta)(hb:PE X b tb)(hs:zr5 b):PE X (.Subscript a b pos) (tOp r ta tb):=by
 intro pins s σ H Q I h
 exact Subscript_ (zEl ha hb I h fun v u s2 x y H2 I2 rx ry q=>hr a b pins s2 σ H2 x y v u Q I2 rx ry q (hs _ _))
def zEy (K:W.Frag):R2:=fun x y H Q=>∃ p xs i v,x=.ref p/\y=.int i/\SqL K H p xs/\atI xs i=some v/\Q v H
def zEw (K:W.Frag):R2:=fun x y H Q=>∃ p xs i v,x=.ref p/\y=.int i/\SqT K H p xs/\atI xs i=some v/\Q v H
def zEx:R2:=fun x y H Q=>∃ z i c,x=.str z/\y=.int i/\z.length<=sizeLine/\atI z.cps.toList i=some c/\Q (.str ⟨#[c]⟩) H
theorem zAM:IxR X (zEy X.K):=by
 intro value slice pins s σ H x y v u Q I rx ry h hs
 obtain⟨p,xs,i,z,rfl,rfl,hq,he,q⟩:=h
 cases rx
 obtain⟨t,rfl⟩:=ry
 obtain⟨its,r,pl,hz⟩:=I.list hq
 obtain⟨j,h1,h2,h3,h4,h5⟩:=zr1 he
 obtain⟨w,ew,rw'⟩:=r.get h2
 have hl:=r.length
 have hn:=zns
 have fin:EP X pins σ Q w s:=⟨z,H,I,rw',q⟩
 by_cases h0:0<=i
 ·have hj:i.toNat=j:=by
   rw[seqIndex_of h0 h5] at h1
   exact Option.some.inj h1
  exact item_listR pl.isList h0 (by omega) (by rw[hj];simpa using ew) fin hs
 ·have hj:(i+(its.toArray.size:Int)).toNat=j:=by
   rw[seqIndex_neg (by omega) h4] at h1
   rw[List.size_toArray,← hl]
   exact Option.some.inj h1
  exact subscriptTail_builtinR (x:=w) pl.isList.typeIs slot_list_getitem.lookup
   (wpAny_getItem_list_neg (Q:=fun r s'=>r=w/\EP X pins σ Q r s') pl.isList (by omega) (by rw[List.size_toArray]<;>omega) (by omega) (by rw[hj];simpa using ew) ⟨rfl,fin⟩) hs
theorem zCI:IxR X (zEw X.K):=by
 intro value slice pins s σ H x y v u Q I rx ry h hs
 obtain⟨p,xs,i,z,rfl,rfl,hq,he,q⟩:=h
 cases rx
 obtain⟨t,rfl⟩:=ry
 obtain⟨its,r,pl,hz⟩:=I.tuple hq
 obtain⟨j,h1,h2,h3,h4,h5⟩:=zr1 he
 obtain⟨w,ew,rw'⟩:=r.get h2
 have hl:=r.length
 have hn:=zns
 have fin:EP X pins σ Q w s:=⟨z,H,I,rw',q⟩
 exact subscriptTail_builtinR (x:=w) pl.typeIs slot_tuple_getitem.lookup
  (getItem_tuple (j:=j) (Q:=fun r s'=>r=w/\EP X pins σ Q r s') pl (by omega) (by omega) (by rw[List.size_toArray,← hl];exact h1) (by simpa using ew) ⟨rfl,fin⟩) hs
theorem zCJ:IxR X zEx:=by
 intro value slice pins s σ H x y v u Q I rx ry h hs
 obtain⟨z,i,c,rfl,rfl,hz,he,q⟩:=h
 obtain⟨t,rfl⟩:=rx
 obtain⟨t',rfl⟩:=ry
 obtain⟨j,h1,h2,h3,h4,h5⟩:=zr1 he
 have hl:z.cps.toList.length=z.length:=by simp [Str.length]
 rw[hl] at h1 h4 h5
 have hn:=zns
 exact tail_any (typeIs_str s z t) slot_str_getitem.lookup (getItem_str (c:=c) (by
  have e1:decide (i < -(2 ^ 63:Int))=false:=decide_eq_false (by omega)
  have e2:decide (i≥2 ^ 63)=false:=decide_eq_false (by omega)
  rw[e1,e2,Bool.or_false]) (by rw[h1];simpa using h2) ⟨.str ⟨#[c]⟩,H,I.tok _,⟨_,rfl⟩,q⟩) hs
def rIx (K:W.Frag):R2:=fun x y H Q=>zEy K x y H Q∨zEw K x y H Q∨zEx x y H Q
theorem zCK:IxR X (rIx X.K):=zAM.or (zCI.or zCJ)
theorem ztw (its:List Value)(n j:Nat)(u:Value):Obj.mapSeq (·.setIfInBounds j u) { cls:=.type "list",data:=.seq its.toArray n }={ cls:=.type "list",data:=.seq (its.set j u).toArray n }:=by
 simp [Obj.mapSeq]
theorem Inv.lst {pins:List (Addr×Obj)}{σ:St}{H:Hp}{s:Shared}{p:Addr}{xs:List V}(I:Inv X pins σ H s)(h:H p=some (.lst xs)) :
  ∃ (its:List Value) (n:Nat),zce xs its/\s.heap.get? p=some { cls:=.type "list",data:=.seq its.toArray n }/\xs.length<=sizeLine:=by
 obtain⟨z,its,n,r,e⟩:=I.hok p _ h
 exact⟨its,n,r,e,z⟩
theorem Inv.lstUpd {pins:List (Addr×Obj)}{σ:St}{H:Hp}{s:Shared}{p:Addr}{xs ys:List V}{its its':List Value}{n n':Nat}{f:Obj->Obj}(I:Inv X pins σ H s)(h:H p=some (.lst xs))
  (ho:s.heap.get? p=some { cls:=.type "list",data:=.seq its.toArray n })(hf:f { cls:=.type "list",data:=.seq its.toArray n }={ cls:=.type "list",data:=.seq its'.toArray n' })(r:zce ys its')(hz:ys.length<=sizeLine)(t:Nat) :
  Inv X pins σ (upd H p (.lst ys)) { s with heap:=s.heap.update p f,toks:=t }:=by
 have e:(s.heap.update p f).get? p=some { cls:=.type "list",data:=.seq its'.toArray n' }:=by
  rw[Heap.get?_update_self f ho (by rw[hf]<;>rfl),hf]
 refine I.write (x:=p) (e:=p) (by rw[h];trivial) (.inl rfl) (fun b u hb q=>(Heap.get?_update_other _ _ (Ne.symm hb)).trans q) ⟨_,e⟩ ?_
 exact⟨hz,its',n',r,e⟩
def zB2:V->V->V->Hp->(Hp->Prop)->Prop:=fun o i v H Q=>∃ p xs k j,o=.ref p/\i=.int k/\H p=some (.lst xs)/\ixN xs.length k=some j/\Q (upd H p (.lst (xs.set j v)))
theorem zxC:zEO X zB2:=by
 intro pins s σ H o i v ov iv u Q I ro ri rv h
 obtain⟨p,xs,k,j,rfl,rfl,hp,hj,q⟩:=h
 cases ro
 obtain⟨t,rfl⟩:=ri
 obtain⟨its,n,r,ho,hz⟩:=I.lst hp
 obtain⟨h1,h2,h3,h4⟩:=zwa hj
 have hl:=r.length
 have hn:=zns
 have I':Inv X pins σ (upd H p (.lst (xs.set j v))) { s with heap:=s.heap.update p (Obj.mapSeq (·.setIfInBounds j u)) } :=
  I.lstUpd hp ho (ztw its n j u) (r.set rv j) (by rw[List.length_set];exact hz) s.toks
 by_cases h0:0<=k
 ·have hk:k.toNat=j:=by
   rw[seqIndex_of h0 h4] at h1
   exact Option.some.inj h1
  exact W.ki_setAt ho h0 (by omega) (by rw[List.size_toArray,← hl];exact h4) (by rw[hk];exact⟨_,I',q⟩)
 ·have hk:(k+(its.toArray.size:Int)).toNat=j:=by
   rw[seqIndex_neg (by omega) h3] at h1
   rw[List.size_toArray,← hl]
   exact Option.some.inj h1
  exact W.ki_setBack ho (by omega) (by rw[List.size_toArray,← hl];exact h3) (by omega) (by rw[hk];exact⟨_,I',q⟩)
theorem zpA (lo hi:Option Int)(n:Nat):(sliceBounds lo hi none n).1=((HT.sIx n 0 lo:Nat):Int)/\(sliceBounds lo hi none n).2.1=((HT.sIx n n hi:Nat):Int)/\(sliceBounds lo hi none n).2.2=1:=by
 refine⟨?_,?_,rfl⟩
 ·cases lo with
  | none=>simp [sliceBounds,HT.sIx]
  | some i =>
   simp only[sliceBounds,HT.sIx,Option.getD_none,show(1:Int) > 0 by decide,if_true]
   by_cases h:i < 0
   ·simp only[h,if_true]<;>omega
   ·simp only[h,if_false]<;>omega
 ·cases hi with
  | none=>simp [sliceBounds,HT.sIx]
  | some i =>
   simp only[sliceBounds,HT.sIx,Option.getD_none,show(1:Int) > 0 by decide,if_true]
   by_cases h:i < 0
   ·simp only[h,if_true]<;>omega
   ·simp only[h,if_false]<;>omega
theorem zn2 (its:List Value)(lo hi:Option Int):slicePick its.toArray lo hi none=((its.drop (HT.sIx its.length 0 lo)).take (HT.sIx its.length its.length hi-HT.sIx its.length 0 lo)).toArray:=by
 obtain⟨h1,h2,h3⟩:=zpA lo hi its.toArray.size
 unfold slicePick
 rw[h1,h2,h3]
 simp only[sliceRange_one,pick_run,List.size_toArray]<;>rfl
def zFb (K:W.Frag):V->Option Int->Option Int->Hp->VK->Prop:=fun x lo hi H Q=>∃ a xs,x=.ref a/\SqL K H a xs/\∀ p,H p=none->Q (.ref p) (upd H p (.lst (zzC xs lo hi)))
theorem zz7:SlR X (zFb X.K):=by
 intro pins s σ H x v vl vu lo hi sl Q I rx hs pl pu h
 obtain⟨a,xs,rfl,hx,q⟩:=h
 cases rx
 obtain⟨its,r,ht,hz⟩:=I.list hx
 have hlen:=r.length
 refine⟨"list",_,slot_list_getitem.lookup,ht.isList.typeIs,?_⟩
 refine wpAny_getItem_list_slice ht.isList hs pl pu .none (by simp) ?_ (by rw[List.size_toArray]<;>omega)
 rw[zn2,← hlen]
 refine⟨.ref s.heap.objs.size,_,I.laid (t':=s.toks) (o:=.lst (zzC xs lo hi)) (fun b ob q=>Heap.get?_push_of_some _ q) (Nat.le_refl _) ?_,rfl,q _ (I.hok.fresh (Nat.le_refl _))⟩
 exact⟨Nat.le_trans (zmM xs lo hi) hz,_,0,(r.drop (HT.sIx xs.length 0 lo)).take (HT.sIx xs.length xs.length hi-HT.sIx xs.length 0 lo),Heap.get?_push_size _ rfl⟩
theorem zpM:OpR X (compareOp .NotIn) (fun x y H Q=>∃ i j,x=.str i/\y=.str j/\Q (.bl (!(!(Builtin.Str.occurrences j i 0 j.length 1).isEmpty))) H):=by
 intro pins s σ H x y v u Q I rx ry h
 obtain⟨i,j,rfl,rfl,q⟩:=h
 obtain⟨t,rfl⟩:=rx
 obtain⟨t',rfl⟩:=ry
 exact notIn_str ⟨.bl _,H,I,rfl,q⟩
theorem ziq:zkh X (.type "list") (fun xs H Q=>∃ p ys,xs=[.ref p]/\(SqL X.K H p ys∨SqT X.K H p ys)/\∀ l,H l=none->Q (.ref l) (upd H l (.lst ys))):=by
 intro pins s σ H xs us Q I r h
 obtain⟨p,ys,rfl,hq,q⟩:=h
 obtain⟨u,rfl,rx⟩:=zqV r
 cases rx
 have fin:∀ (its:List Value),zce ys its->ys.length<=sizeLine->∀ (h':Heap) (c':Nat),(∀ b o',s.heap.get? b=some o'->h'.get? b=some o') ->
   h'.get? s.heap.objs.size=some { cls:=.type "list",dict:=none,data:=.seq its.toArray c',slots:=#[] }->EP X pins σ Q (.ref s.heap.objs.size) { s with heap:=h' }:=fun its r' hz h' c' kp e =>
  ⟨.ref s.heap.objs.size,_,I.laid (t':=s.toks) kp (Nat.le_refl _) (show zdg X.prog X.w _ h' _ (.lst ys) from⟨hz,its,c',r',e⟩),rfl,q _ (I.hok.fresh (Nat.le_refl _))⟩
 rcases hq with hq | hq
 ·obtain⟨its,r',pl,hz⟩:=I.list hq
  have hlen:=r'.length
  obtain⟨o,ho,hc,n,hd⟩:=pl.isList
  exact call_list_seq p (.inl rfl) ho hc hd (fun h' c' kp e=>fin its r' hz h' c' kp e) (by simp only[List.size_toArray]<;>omega)
 ·obtain⟨its,r',pl,hz⟩:=I.tuple hq
  have hlen:=r'.length
  obtain⟨o,ho,hc,n,hd⟩:=pl
  exact call_list_seq p (.inr rfl) ho hc hd (fun h' c' kp e=>fin its r' hz h' c' kp e) (by simp only[List.size_toArray]<;>omega)
theorem zoU:zkh X (.type "tuple") (fun xs H Q=>∃ p ys,xs=[.ref p]/\((SqL X.K H p ys/\∀ l,H l=none->Q (.ref l) (upd H l (.tup ys)))∨(SqT X.K H p ys/\Q (.ref p) H))):=by
 intro pins s σ H xs us Q I r h
 obtain⟨p,ys,rfl,h⟩:=h
 obtain⟨u,rfl,rx⟩:=zqV r
 cases rx
 rcases h with⟨hq,q⟩ | ⟨hq,q⟩
 ·obtain⟨its,r',pl,hz⟩:=I.list hq
  have hlen:=r'.length
  refine call_tuple_list pl.isList (fun h' kp=>?_) (by simp only[List.size_toArray]<;>omega)
  have I1:Inv X pins σ H { s with heap:=h' }:=I.kept (t':=s.toks) kp
  have I2:Inv X pins σ (upd H h'.objs.size (.tup ys)) { s with heap:=h'.push { cls:=.type "tuple",data:=.seq its.toArray } } :=
   I1.laid (t':=s.toks) (fun b o e=>Heap.get?_push_of_some _ e) (Nat.le_refl _) (show zdg X.prog X.w _ _ _ (.tup ys) from⟨hz,its,r',IsTup.new _ _⟩)
  exact⟨.ref h'.objs.size,_,I2,rfl,q _ (I1.hok.fresh (Nat.le_refl _))⟩
 ·obtain⟨its,r',pl,hz⟩:=I.tuple hq
  exact call_tuple_same pl ⟨.ref p,H,I,rfl,q⟩
def tyV (K:W.Frag)(T:String)(x:V)(H:Hp):Prop:=match x with
 | .str _=>T="str"
 | .int _=>T="int"
 | .ref p=>(T="list"/\∃ xs,SqL K H p xs)∨(T="tuple"/\∃ o,K.lookup p=some o/\o.cls=.type "tuple"/\o.dict=none) ∨
   (T="dict"/\((∃ kvs,H p=some (.dK kvs))∨∃ kvs,H p=some (.dT kvs)))∨(T="set"/\∃ S n,H p=some (.set S n))
 | _=>False
theorem zBz {pins:List (Addr×Obj)}{σ:St}{H:Hp}{s:Shared}{T:String}{x:V}{v:Value}(I:Inv X pins σ H s)(r:zcN x v)(ty:tyV X.K T x H) :
  s.TypeIs v T/\∀ a,v=.ref a->∃ ob,s.heap.get? a=some ob/\ob.dict=none:=by
 cases x with
 | str z =>
  obtain⟨t,rfl⟩:=r
  cases (show T="str" from ty)
  exact⟨typeIs_str s z t,fun _ e=>nomatch e⟩
 | int i =>
  obtain⟨t,rfl⟩:=r
  cases (show T="int" from ty)
  exact⟨typeIs_int s i t,fun _ e=>nomatch e⟩
 | ref p =>
  cases r
  rcases ty with⟨rfl,xs,hq⟩ | ⟨rfl,o,hk,hc,hd⟩ | ⟨rfl,hk⟩ | ⟨rfl,S,n,hk⟩
  ·obtain⟨its,_,pl,_⟩:=I.list hq
   refine⟨pl.isList.typeIs,fun a e=>?_⟩
   cases e
   obtain⟨o,n,e,c,hd,_⟩:=pl
   exact⟨o,e,hd⟩
  ·refine⟨⟨o,I.kIn p o hk,hc⟩,fun a e=>?_⟩
   cases e
   exact⟨o,I.kIn _ o hk,hd⟩
  ·have z:∃ o,s.heap.get? p=some o/\o.ExactDict:=by
    rcases hk with⟨kvs,hk⟩ | ⟨kvs,hk⟩
    ·obtain⟨_,_,_,_,o,_,_,e,ex,_⟩:=I.hok p _ hk
     exact⟨o,e,ex⟩
    ·obtain⟨_,_,_,_,o,_,_,e,ex,_⟩:=I.hok p _ hk
     exact⟨o,e,ex⟩
   obtain⟨o,e,ex⟩:=z
   refine⟨⟨o,e,ex.1⟩,fun a e2=>?_⟩
   cases e2
   exact⟨o,e,ex.2.1⟩
  ·obtain⟨o,_,_,_,e,ex,_⟩:=I.hok p _ hk
   refine⟨⟨o,e,ex.1⟩,fun a e2=>?_⟩
   cases e2
   exact⟨o,e,ex.2.1⟩
 | _=>exact False.elim ty
def tBM (K:W.Frag)(T:String)(r:V->List V->Hp->VK->Prop)(to:TE)(t:TA):TE:=fun σ H Q=>to σ H fun x H1=>tyV K T x H1/\t σ H1 fun xs H2=>r x xs H2 Q
variable {o e:Expr}{es:List Expr}{to:TE}{t:TA}{name:Str}{apos cpos:Pos}{T id:String}{r:V->List V->Hp->VK->Prop}
theorem zx0 (pa:PlainAttrs T)(slot:Slot T name id)(hty:typeOf (.builtin id)=pure (.type "method_descriptor"))(hm:MtR X id r)(ho:PE X o to)(ha:PA X (e::es) t)
  (hbase:attributeBase o name X.env (eval o X.env)=eval o X.env:=by rfl)
  (hfew:((backTo cpos (starEach (e::es) X.env)).all (fun x=>!x.1)&&(backToKw cpos (keywordEach [] X.env)).all (fun x=>x.1.isSome)
  &&decide ((e::es).length+([]:List Keyword).length+(if([]:List Keyword).isEmpty then 0 else 1) < 30))=true:=by rfl)
  (hline:(apos.endLine==cpos.line)=true:=by rfl) (hs:starEach (e::es) X.env=(false,eval e X.env)::starEach es X.env:=by rfl) (hplain:(backTo cpos (starEach es X.env)).any (·.1)=false:=by rfl) :
  PE X (.Call (.Attribute o name apos) (e::es) [] cpos) (tBM X.K T r to t):=by
 intro pins s σ H Q I h
 refine wpAny_Call_method_late hbase hfew hline rfl (thn (ho pins s σ H _ I h) fun v s1 ⟨x,H1,I1,r1,ty,q1⟩=>?_)
 obtain⟨h1,h2⟩:=zBz I1 r1 ty
 refine⟨T,id,pa,slot,hty,h1,h2,?_⟩
 have hA:=ha cpos pins s1 σ H1 _ I1 q1
 rw[hs] at hA ⊢
 refine Calls.callWith_builtin (by show(false||(backTo cpos (starEach es X.env)).any (·.1))=false;rw[hplain]<;>rfl) (Calls.evalArgs_plain ?_)
 exact thn hA fun us s2 ⟨vs,H2,I2,r2,q2⟩=>hm pins s2 σ H2 x vs v us Q I2 r1 r2 q2
end
def MtM (X:Cx)(id:String)(r:V->List V->Hp->VK->Prop):Prop :=
 ∀ (pins:List (Addr×Obj)) (s:Shared) (σ:St) (H:Hp) (x:V) (xs:List V) (v:Value) (us:List Value) (Q:VK),Inv X pins σ H s->zcN x v->zce xs us->r x xs H Q ->
  wpAny (model X.prog X.w) X.A (call (.builtin id) (v::us)) (EP X pins σ Q) X.xe s
theorem zce.one:∀ {x:V}{us:List Value},zce [x] us->∃ u,us=[u]/\zcN x u
 | _,_,.cons r .nil=>⟨_,rfl,r⟩
theorem zce.dropLast {xs:List V}{us:List Value}(h:zce xs us):zce xs.dropLast us.dropLast:=by
 induction h with
 | nil=>exact .nil
 | cons r t ih =>
  cases t with
  | nil=>exact .nil
  | cons q t'=>exact .cons r ih
theorem zce.rep {xs:List V}{us:List Value}(h:zce xs us):∀ k:Nat,zce (List.replicate k xs).flatten (List.replicate k us).flatten
 | 0=>.nil
 | k+1=>by
  rw[List.replicate_succ,List.replicate_succ,List.flatten_cons,List.flatten_cons]
  exact zce.append h (zce.rep h k)
theorem zBm {α:Type}(l:List α):l.eraseIdx (l.length-1)=l.dropLast:=by
 induction l with
 | nil=>rfl
 | cons a r ih =>
  cases r with
  | nil=>rfl
  | cons b r =>
   have e:(a::b::r).length-1=((b::r).length-1)+1:=by
    have h1:(a::b::r).length=r.length+2:=rfl
    have h2:(b::r).length=r.length+1:=rfl
    omega
   rw[e,List.eraseIdx_cons_succ,ih]
   all_goals rfl
theorem zqj (its:List Value):∀ (k:Nat) (acc:List Value),
  List.foldl (fun x1 x2=>x1++x2) acc.toArray (List.replicate k its.toArray)=(acc++(List.replicate k its).flatten).toArray
 | 0,acc=>by simp
 | k+1,acc=>by
  have e:acc.toArray++its.toArray=(acc++its).toArray:=by simp
  have e2:(acc++its)++(List.replicate k its).flatten=acc++(List.replicate (k+1) its).flatten:=by
   rw[List.replicate_succ,List.flatten_cons,List.append_assoc]
  rw[← e2,← zqj its k (acc++its),← e,List.replicate_succ,List.foldl_cons]
section
variable {X:Cx}{pins:List (Addr×Obj)}{σ:St}{H:Hp}{s:Shared}{l b:Addr}{xs ys zs:List V}
theorem Inv.lset {its its':List Value}{n:Nat}{f:Array Value->Array Value}{t':Nat}(I:Inv X pins σ H s)(hH:H l=some (.lst xs))
  (e:s.heap.get? l=some { cls:=.type "list",data:=.seq its.toArray n })(hf:f its.toArray=its'.toArray)(hv:zce ys its')(hz:ys.length<=sizeLine) :
  Inv X pins σ (upd H l (.lst ys)) { s with heap:=s.heap.update l (Obj.mapSeq f),toks:=t' }:=by
 have q:=PySem.IsL.update e f
 rw[hf] at q
 refine I.write (x:=l) (e:=l) (by rw[hH];exact trivial) (.inl rfl) (fun b' u hb hu=>(Heap.get?_update_other s.heap (Obj.mapSeq f) (Ne.symm hb)).trans hu) ⟨_,q⟩ ?_
 exact⟨hz,its',_,hv,q⟩
theorem Inv.lnew {its:List Value}{t':Nat}(I:Inv X pins σ H s)(hv:zce ys its)(hz:ys.length<=sizeLine) :
  Inv X pins σ (upd H s.heap.objs.size (.lst ys)) { s with heap:=s.heap.push { cls:=.type "list",data:=.seq its.toArray },toks:=t' } :=
 I.laid (fun _ _ q=>Heap.get?_push_of_some _ q) (Nat.le_refl _) ⟨hz,its,0,hv,Heap.get?_push_size _ rfl⟩
theorem Inv.fresh (I:Inv X pins σ H s):H s.heap.objs.size=none:=I.hok.fresh (Nat.le_refl _)
theorem Inv.lstM (I:Inv X pins σ H s)(hH:H l=some (.lst xs)):xs.length<=sizeLine/\∃ (its:List Value) (n:Nat),zce xs its/\xs.length=its.length/\s.heap.get? l=some { cls:=.type "list",data:=.seq its.toArray n }:=by
 obtain⟨z,its,n,r,e⟩:=I.hok l _ hH
 exact⟨z,its,n,r,r.length,e⟩
theorem zx3 {n:Nat}(h:n<=sizeLine):Builtin.List.listTooLong n=false:=by
 unfold Builtin.List.listTooLong
 exact decide_eq_false (by omega)
end
section
variable {X:Cx}
def zAh:V->List V->Hp->VK->Prop:=fun x vs H Q=>∃ l xs y,x=.ref l/\vs=[y]/\H l=some (.lst xs)/\xs.length < sizeLine/\Q .non (upd H l (.lst (xs++[y])))
theorem zpQ:MtM X "list.append" zAh:=by
 intro pins s σ H x vs v us Q I rx rv h
 obtain⟨l,xs,y,rfl,rfl,hH,hz,q⟩:=h
 cases rx
 obtain⟨u,rfl,ru⟩:=rv.one
 obtain⟨z,its,n,r,hl,e⟩:=I.lstM hH
 refine call_meets F.slot_list_append ⟨_,e,rfl⟩ F.entry_list_append (F.args_list_append_2 _ _) (PySem.list_append l its.toArray n u (by rw[List.size_toArray];omega)) ⟨e,?_⟩
 refine⟨.non,_,I.lset (its':=its++[u]) hH e (by simp) (r.append (.cons ru .nil)) ?_,rfl,q⟩
 rw[List.length_append,List.length_singleton]
 omega
def zFr:V->List V->Hp->VK->Prop:=fun x vs H Q=>∃ l xs y,x=.ref l/\vs=[]/\H l=some (.lst xs)/\xs[xs.length-1]?=some y/\Q y (upd H l (.lst xs.dropLast))
def zFc:R2:=fun x y H Q=>∃ l k xs,x=.ref l/\y=.int k/\H l=some (.lst xs)/\-(2 ^ 63)<=k/\k < 2 ^ 63/\xs.length*k.toNat<=sizeLine /\
 ∀ p,H p=none->Q (.ref p) (upd H p (.lst (List.replicate k.toNat xs).flatten))
theorem zAK {α:Type}(xs:List α)(k:Nat):(List.replicate k xs).flatten.length=k*xs.length:=by
 induction k with
 | zero=>simp
 | succ k ih=>rw[List.replicate_succ,List.flatten_cons,List.length_append,ih,Nat.succ_mul,Nat.add_comm]
theorem zCr:OpR X (binaryOp .Mult) zFc:=by
 intro pins s σ H x y v u Q I rx ry h
 obtain⟨l,k,xs,rfl,rfl,hH,h1,h2,hz,q⟩:=h
 cases rx
 obtain⟨t,rfl⟩:=ry
 obtain⟨z,its,n,r,hl,e⟩:=I.lstM hH
 have hlen:its.toArray.size*k.toNat<=sizeLine:=by rw[List.size_toArray,← hl];exact hz
 have hcap:¬ its.toArray.size*k.toNat > (2 ^ 63-1) / 8:=by
  have:(sizeLine:Nat)<=(2 ^ 63-1) / 8:=by decide
  omega
 have hfit:¬ (!Builtin.List.listFitsIndex k)=true:=by
  rw[fitsIndex_both h1 h2]
  exact Bool.false_ne_true
 have hlong:¬ Builtin.List.listTooLong (its.toArray.size*k.toNat)=true:=by
  rw[zx3 hlen]
  exact Bool.false_ne_true
 have hnew:List.foldl (fun x1 x2=>x1++x2) #[] (List.replicate (if its.toArray.isEmpty=true then 0 else k.toNat) its.toArray)=(List.replicate k.toNat its).flatten.toArray:=by
  have f0:∀ m:Nat,List.foldl (fun x1 x2=>x1++x2) #[] (List.replicate m its.toArray)=(List.replicate m its).flatten.toArray:=fun m=>by
   have:=zqj its m []
   rw[List.nil_append] at this
   exact this
  rw[f0]
  cases its with
  | nil=>simp
  | cons a r'=>rw[if_neg (by simp)]
 refine wpAny_binaryOp_repeat_ref (T:="list") (U:="int") (by decide) ⟨_,e,rfl⟩ (fun s'=>typeIs_int s' k t) noFill_list_mul F.fills_int_mul F.slot_int_rmul repeat_list F.slot_int_index.lookup
  (call_meets F.slot_int_rmul (typeIs_int s k t) F.entry_int_rmul (F.args_int_rmul_2 _ _) (int___rmul___int_list k t l its.toArray n)
   ⟨e,rfl,⟨_,e,rfl⟩,call_meets F.slot_list_mul ⟨_,e,rfl⟩ F.entry_list_mul (F.args_list_mul_2 _ _) (AutoListH.list___mul___list_int_3 l its.toArray n k t hfit hcap hlong) ⟨e,?_⟩⟩)
 rw[hnew]
 exact⟨.ref _,_,I.lnew (t':=s.toks) (r.rep k.toNat) (by rw[zAK,Nat.mul_comm];exact hz),rfl,q _ I.fresh⟩
end
section
variable {prog:Program}{w:World}{A:Around}{E:Value->Shared->Prop}{s:Shared}
set_option maxRecDepth 100000 in
end
section
variable {X:Cx}
end
end L2
namespace Att
open PySem PySem.W PySem.Calls PyProof.Rows
theorem zmr {P:Params}{h:Heap}:∀ (ns:List Int) (vs:List Value),WellAll P h vs (ns.map WData.int)->IntsAre vs ns:=by
 intro ns
 induction ns with
 | nil =>
  intro vs w
  rw[List.map_nil] at w
  cases w
  exact .nil
 | cons n ns ih =>
  intro vs w
  rw[List.map_cons] at w
  cases w with
  | cons a b =>
   cases a
   exact .cons _ _ (ih _ b)
theorem zuY {l:OpenLaw}{n:Nat}(hn:l.most=some n){P:Params}{h:Heap}{args:List WData}{vals:List Value}
  (hpre:l.row.toRowW.claim.pre args=true)(hwl:WellAll P h vals args) :
  ∃ a vs ns,vals=[Value.ref a]/\args=[WData.list (ns.map WData.int)]/\h.get? a=some { cls:=.type "list",data:=.seq vs.toArray }/\IntsAre vs ns/\ns.length<=n:=by
 have hsh:WShape.hasAll [] args [.list .int]=true:=(pre_splitW hpre).1
 have hc:l.pre.holds [] { args:=args }=true:=(pre_splitW hpre).2
 obtain⟨d,r,rfl,h1,h2⟩:=hasAllW_cons hsh
 obtain rfl:=hasAllW_nil h2
 obtain⟨xs,rfl,h3⟩:=hasW_list h1
 obtain⟨ns,rfl⟩:=items_int h3
 have hlen:ns.length<=n:=by
  unfold OpenLaw.pre at hc
  have h4:(WTm.not (.lt (.lit (.int (n:Int))) (.len (.arg 0)))).holds [] { args:=[.list (ns.map .int)] }=true:=by
   have h4:=(holds_andW hc).1
   rw[hn] at h4
   exact h4
  have h5:=condW_of h4 (w_not (w_lt w_lit (w_len_list (w_arg rfl))))
  rw[List.length_map] at h5
  refine Nat.le_of_not_lt fun q=>?_
  have q':(n:Int) < ((ns.length:Nat):Int):=by omega
  first
   | (rw[decide_eq_true q'] at h5;exact absurd h5 (by decide))
   | (simp at h5;omega)
 cases hwl with
 | cons w1 w2 =>
  cases w2
  cases w1 with
  | list ho hall=>exact⟨_,_,ns,rfl,rfl,ho,zmr ns _ hall,hlen⟩
theorem zvr (l:OpenLaw)(args:List WData):l.row.toRowW.claim.post args (.bool true) args=true :=
 postW_of (r:=l.row.toRowW) (X:=(true==true))
  (show WShape.has [] (.bool true) .bool=true by first | rfl | decide | simp [WShape.has,WShape.arms,WShape.armsAll])
  (show(WTm.eq .res (.lit (.bool true))).value [] { args:=args,res:=some (.bool true),after:=args }=some (.bool (true==true)) from w_eq_bool (w_res rfl) w_lit) rfl
theorem attach_call {l:OpenLaw}{n:Nat}{q:Program}{loose:List Str}{XP:(Str->Option Value)->Heap->Prop}{YP:World->Heap->Prop}{d:DefRec}
  (hn:l.most=some n)(hdf:d.params.defaults=[])
  (call:∀ (w:World) (s₀ s₁:Shared) (mg mb:Str->Option Value) (fa:Addr) (o:Obj) (pm cd doc:Value) (a:Addr) (vs:List Value) (ns:List Int),
   Ground q loose [] XP w s₀ mg mb s₁.heap->YP w s₁.heap ->
   s₁.heap.get? fa=some o->o.data=.func (docDef d.name d.params d.body d.scope pm cd doc)->s₁.heap.CodeRec cd d.name->mg d.name=some (.ref fa) ->
   s₁.heap.get? a=some { cls:=.type "list",data:=.seq vs.toArray }->IntsAre vs ns->ns.length<=n->s₁.gens=#[] ->
   codeAny (model l.prog w) callerA (.call (.ref fa) ⟨[.ref a],[]⟩) (fun r s'=>r=.ok (.ret (.bool true))/\OldK s₁.heap s'.heap/\s'.os=s₁.os/\AllBare s'.gens) s₁) :
  WalkO q loose XP YP l.row.toRowW d [] (fun f vs=>PySem.call f vs):=by
 intro w s₀ s₁ mg mb G Y fa o pm cd doc dV kV ho hd hcd hD hmg hg args vals as hpre hlay hrd hwl hlo
 obtain rfl:dV=.none:=Dflts.none hD hdf
 obtain rfl:kV=.none:=Dflts.noKw hD
 obtain⟨a,vs,ns,rfl,rfl,hobj,hints,hlen⟩:=zuY hn hpre hwl
 refine enter_call (codeAny_mono (call w s₀ s₁ mg mb fa o pm cd doc a vs ns G Y ho (fd_plain hd) hcd hmg hobj hints hlen hg) fun r s' hq=>?_)
 obtain⟨rfl,h2,h3,h4⟩:=hq
 exact⟨.inl ⟨.bool true,.bool true,[],rfl,fun _=>rfl,.bool true,zvr l _,fun _=>⟨List.Pairwise.nil,fun _ hm=>(nomatch hm)⟩⟩,h2,h3,h4⟩
section
variable {prog:Program}{w:World}{A:Around}{E:Value->Shared->Prop}{s:Shared}{K:Frag}
end
end Att
namespace L2
open PySem PySem.Spec PyProof.Rows
theorem zhM:∀ {vs:List Value}{ns:List Int},IntsAre vs ns->zce (ns.map V.int) vs
 | _,_,.nil=>.nil
 | _,_,.cons n t h=>.cons ⟨t,rfl⟩ (zhM h)
def zDj (H:Hp):Prop:=∀ b,H b=none∨∃ o xs,H b=some (.frz o (.lst xs))
theorem zyf {P:Program}{w:World}{K:W.Frag}{mg mb:Str->Option Value}{CX:CXT}{k:Nat}{fa a:Addr}{fd:FuncData}{x:Str}{sp:Sp}{s₁:Shared}{vs:List Value}{ns:List Int}
  (KX:K.In s₁.heap)(hns:s₁.heap.Ns mainGlobals mg)(hb:s₁.heap.Ns builtinsNs mb)(hbb:∀ x:Str,x≠"__name__"->mb x=bootBuiltins x)(hlim:s₁.heap.NoLimit)(hg:s₁.gens=#[])
  (ha:s₁.heap.get? a=some { cls:=.type "list",data:=.seq vs.toArray })(hi:IntsAre vs ns)(hl:ns.length<=sizeLine)(hr:zjd k callerA)
  (F:∀ base:Heap,K.In base->base.Ns mainGlobals mg->zda P w K mg base CX k fa fd [x] sp)(hbind:∀ (s:Shared) (u:Value),BindsTo s fd ⟨[u],[]⟩ [(x,u)])
  (hsp:∀ H:Hp,zDj H->SqL K H a (ns.map V.int)->sp [.ref a] H (fun v _=>v=.bl true) fun _ _ _=>False)
  (hCX:∀ H e s',CX [] H s₁ (fun _ _ _=>False) e s'->False) :
  codeAny (model P w) callerA (.call (.ref fa) ⟨[.ref a],[]⟩) (fun r s'=>r=.ok (.ret (.bool true))/\OldK s₁.heap s'.heap/\s'.os=s₁.os/\AllBare s'.gens) s₁:=by
 have rv:=zhM hi
 have lenV:=hi.length
 have core:∀ H:Hp,zDj H->SqL K H a (ns.map V.int)->HOk P w H s₁.heap->(∀ b,H b≠none->b=a)->(H a≠none->K.lookup a=none) ->
   codeAny (model P w) callerA (.call (.ref fa) ⟨[.ref a],[]⟩) (fun r s'=>r=.ok (.ret (.bool true))/\OldK s₁.heap s'.heap/\s'.os=s₁.os/\AllBare s'.gens) s₁:=by
  intro H hO hS hok hA hK
  have base_of:∀ {b:Addr}{o:Obj},s₁.heap.get? b=some o->H b=none->(zys s₁.heap H).get? b=some o:=fun e n=>zyr e n
  have noA:∀ {b:Addr}{o:Obj}{es:Array DictEntry}{ep:Nat},s₁.heap.get? b=some o->o.data=.dict es ep->H b=none:=fun {b o es ep} e d=>by
   cases q:H b with
   | none=>rfl
   | some u =>
    have e':b=a:=hA b (by rw[q];simp)
    subst e'
    rw[ha] at e;cases e
    have d':Data.seq vs.toArray _=Data.dict es ep:=d
    cases d'
  have nsK:∀ {b:Addr}{m:Str->Option Value},s₁.heap.Ns b m->(zys s₁.heap H).Ns b m:=fun {b m} ⟨o,es,ep,e,d,r⟩=>⟨o,es,ep,base_of e (noA e d),d,r⟩
  have hKb:K.In (zys s₁.heap H):=fun b o e=>base_of (KX b o e) (by
   cases q:H b with
   | none=>rfl
   | some u =>
    have e':b=a:=hA b (by rw[q];simp)
    subst e'
    rw[hK (by rw[q];simp)] at e;cases e)
  have hM:Mod K mg (zys s₁.heap H):=⟨hKb,nsK hns,⟨mb,nsK hb,hbb⟩,let ⟨mc,h1,h2⟩:=hlim;⟨mc,nsK h1,h2⟩⟩
  have e0:zw7 P w K mg (zys s₁.heap H) callerA [] s₁ H:=⟨rfl,hM,fun b o e=>zAD e,Nat.le_of_eq (zwe _ _),trivial,fun b hb=>absurd (show b∈([]:List Addr) from hb) (by simp),hok,.of_eq hg⟩
  refine codeAny_mono ((F _ hKb (nsK hns)).run callerA [] s₁ H ⟨[.ref a],[]⟩ [.ref a] [.ref a] _ _ hr e0 (hbind s₁ (.ref a)) (.cons rfl .nil) (hsp H hO hS)) fun r s' h=>?_
  cases r with
  | error e=>exact(hCX H e s' h).elim
  | ok fl =>
   cases fl with
   | next=>exact False.elim h
   | brk=>exact False.elim h
   | cont=>exact False.elim h
   | ret u =>
    obtain⟨v,H',os,bare,un,hok',r',q⟩:=h
    have q':v=.bl true:=q
    subst q'
    obtain rfl:u=Value.bool true:=r'
    refine⟨rfl,OldK.of_keep fun b o e=>?_,os,bare⟩
    cases q:H b with
    | none=>exact un.keep b o e q (by intro z;exact absurd (show b∈([]:List Addr) from z) (by simp)) (by simp)
    | some u =>
     rcases hO b with z | ⟨ob,xs,z⟩
     ·rw[q] at z;cases z
     ·have z2:=un.frzs b ob _ z
      obtain⟨e1,_⟩:=hok b _ z
      obtain⟨e2,_⟩:=hok' b _ z2
      rw[e] at e1;cases e1
      exact e2
 cases hk:K.lookup a with
 | some o =>
  have e:=KX a o hk
  rw[ha] at e
  cases e
  refine core (fun _=>none) (fun _=>.inl rfl) (.inr ⟨_,vs.toArray,_,hk,rfl,rfl,rfl,by rw[List.size_toArray,lenV];exact hl,by simpa using rv⟩) (fun b u z=>by have z':(none:Option HO)=some u:=z;cases z') (fun b z=>absurd rfl z) fun z=>absurd rfl z
 | none =>
  refine core (fun b=>if b=a then some (.frz { cls:=.type "list",data:=.seq vs.toArray } (.lst (ns.map V.int))) else none) (fun b=>?_) (.inl (.inr ⟨{ cls:=.type "list",data:=.seq vs.toArray },if_pos rfl⟩)) (fun b u z=>?_) (fun b z=>?_) fun _=>hk
  ·by_cases hb:b=a
   ·exact .inr ⟨_,_,if_pos hb⟩
   ·exact .inl (if_neg hb)
  ·by_cases hb:b=a
   ·have z':=(if_pos hb).symm.trans z
    cases z'
    subst hb
    exact⟨ha,by rw[List.length_map];exact hl,vs,_,rv,ha⟩
   ·have z':=(if_neg hb).symm.trans z
    cases z'
  ·by_cases hb:b=a
   ·exact hb
   ·exact absurd (if_neg hb) z
abbrev KOf {K:W.Frag}{h:Heap}(_:K.In h):W.Frag:=K
theorem zzW {l:W.OpenLaw}{n k:Nat}{q:Program}{loose:List Str}{XP:(Str->Option Value)->Heap->Prop}{YP:World->Heap->Prop}{d:DefRec}{K:Params->W.Frag}{CX:World->CXT}{sp:World->Sp}{x:Str}
  (hn:l.most=some n)(hn2:n<=sizeLine)(hdf:d.params.defaults=[])(hr:zjd k callerA)
  (hY:∀ (w:World) (h:Heap),YP w h->(K w.params).In h)
  (F:∀ (w:World) (mg:Str->Option Value) (fa:Addr) (h:Heap),(K w.params).In h->h.Ns mainGlobals mg->mg d.name=some (.ref fa) ->
   ∃ fd:FuncData,(∀ (s:Shared) (u:Value),BindsTo s fd ⟨[u],[]⟩ [(x,u)]) /\
    ∀ base:Heap,(K w.params).In base->base.Ns mainGlobals mg->zda l.prog w (K w.params) mg base (CX w) k fa fd [x] (sp w))
  (hsp:∀ (w:World) (H:Hp) (a:Addr) (ns:List Int),ns.length<=n->zDj H->SqL (K w.params) H a (ns.map V.int)->sp w [.ref a] H (fun v _=>v=.bl true) fun _ _ _=>False)
  (hCX:∀ (w:World) (H:Hp) (s:Shared) (e:Value) (s':Shared),CX w [] H s (fun _ _ _=>False) e s'->False) :
  W.WalkO q loose XP YP l.row.toRowW d [] (fun f vs=>PySem.call f vs):=by
 refine Att.attach_call hn hdf fun w s₀ s₁ mg mb fa o pm cd doc a vs ns G Y ho hd hcd hmg hobj hints hlen hg=>?_
 have KX:=hY w _ Y
 obtain⟨fd,hb,hF⟩:=F w mg fa _ KX G.T.g hmg
 exact zyf KX G.T.g G.T.b G.T.builtins G.T.nolimit hg hobj hints (Nat.le_trans hlen hn2) hr hF hb (fun H hO hS=>hsp w H a ns hlen hO hS) fun H e s'=>hCX w H s₁ e s'
theorem walk_ofK {l:W.OpenLaw}{n k:Nat}{q:Program}{loose:List Str}{XP:(Str->Option Value)->Heap->Prop}{YP:World->Heap->Prop}{d:DefRec}{K:Params->W.Frag}{CX:CXT}{sp:W.Frag->Sp}{x:Str}
  (hn:l.most=some n)(hn2:n<=sizeLine)(hdf:d.params.defaults=[])(hr:zjd k callerA)
  (hY:∀ (w:World) (h:Heap),YP w h->(K w.params).In h)
  (F:∀ (w:World) (mg:Str->Option Value) (fa:Addr) (h:Heap),(K w.params).In h->h.Ns mainGlobals mg->mg d.name=some (.ref fa) ->
   ∃ fd:FuncData,(∀ (s:Shared) (u:Value),BindsTo s fd ⟨[u],[]⟩ [(x,u)]) /\
    ∀ base:Heap,(K w.params).In base->base.Ns mainGlobals mg->zda l.prog w (K w.params) mg base CX k fa fd [x] (sp (K w.params)))
  (hsp:∀ (K:W.Frag) (H:Hp) (a:Addr) (ns:List Int),ns.length<=n->zDj H->SqL K H a (ns.map V.int)->sp K [.ref a] H (fun v _=>v=.bl true) fun _ _ _=>False)
  (hCX:∀ (H:Hp) (s:Shared) (e:Value) (s':Shared),CX [] H s (fun _ _ _=>False) e s'->False) :
  W.WalkO q loose XP YP l.row.toRowW d [] (fun f vs=>PySem.call f vs) :=
 zzW (K:=K) (CX:=fun _=>CX) (sp:=fun w=>sp (K w.params)) hn hn2 hdf hr hY F (fun w H a ns h1 h2 h3=>hsp (K w.params) H a ns h1 h2 h3) fun _ H s e s'=>hCX H s e s'
def zwd (s:Stmt)(j:Nat):Stmt:=match s with
 | .ClassDef _ _ _ body _ _ _ _ _ _ _=>body.getD j (.Pass ⟨0,0,0,0⟩)
 | _=>.Pass ⟨0,0,0,0⟩
def defArgs (s:Stmt):Arguments:=match s with
 | .FunctionDef _ a _ _ _ _ _ _ _ _=>a
 | _=>{ posonlyargs:=[],args:=[],vararg:=none,kwonlyargs:=[],kw_defaults:=[],kwarg:=none,defaults:=[] }
def defBody (s:Stmt):List Stmt:=match s with
 | .FunctionDef _ _ b _ _ _ _ _ _ _=>b
 | _=>[]
def defScope (s:Stmt):Scope:=match s with
 | .FunctionDef _ _ _ _ _ _ sc _ _ _=>sc
 | _=>{ kind:=.function,names:=[],isGenerator:=false,isCoroutine:=false }
abbrev CX0:CXT:=fun _ _ _ _ _ _=>False
abbrev E0:XK:=fun _ _ _=>False
theorem zb7 {X:Cx}:zkg CX0 X E0:=fun _ _ _ _ _ _ _ h=>h.elim
structure Fun (K:W.Frag) (x qual:Str) (st:Stmt) (f:Addr) (fd:FuncData):Prop where
 ex:∃ (oc:Value) (od:Option Addr) (kV doc pm:Value) (an:Option Addr) (cdv ct:Value) (osl:Array (Option Value)),
  fd=W.fnOf x qual (defArgs st) (defBody st) (defScope st) .none kV doc pm an cdv ct/\K.lookup f=some ⟨oc,od,.func fd,osl⟩/\W.codeIn K cdv qual=true
 kp:W.keepIn K (.ref f)=true
section
variable {P:Program}{w:World}{K:W.Frag}{mg:Str->Option Value}{base:Heap}
theorem Fun.ok {x qual:Str}{st:Stmt}{f:Addr}{fd:FuncData}{N ps:List Str}{k:Nat}{sp:Sp}(F:Fun K x qual st f fd)(S:zaD N ps (defScope st))(len:∀ vs H Q E,sp vs H Q E->vs.length=ps.length)
  (hbody:∀ (cdv:Value) (A:Around) (outer:List Env) (s:Shared) (H:Hp) (vs:List V) (Q:VK) (E:XK),zjd k (A.deeper (envOfC qual (defScope st) s.heap.objs.size f cdv))->sp vs H Q E ->
   ∃ t,PSs (zil CX0 P w K mg base N qual (defScope st) f cdv A outer s H E).nox (defBody st) t/\t { nx:=fun _ H'=>Q .non H',rt:=Q } (start N vs) H):zda P w K mg base CX0 (k+1) f fd ps sp:=by
 obtain⟨oc,od,kV,doc,pm,an,cdv,ct,osl,rfl,lk,hcd⟩:=F.ex
 refine zCP lk hcd S len fun A outer s H vs Q E hr hsp=>?_
 obtain⟨t,h,q⟩:=hbody cdv A outer s H vs Q E hr hsp
 exact⟨t,h.nox,q⟩
theorem Fun.binds {x qual:Str}{st:Stmt}{f:Addr}{fd:FuncData}{ps:List Str}(F:Fun K x qual st f fd)
  (h:∀ (kV doc pm:Value) (an:Option Addr) (cdv ct:Value) (us:List Value),us.length=ps.length->bindArgs (W.fnOf x qual (defArgs st) (defBody st) (defScope st) .none kV doc pm an cdv ct) ⟨us,[]⟩=pure (ps.zip us)):zbk K fd ps []:=by
 obtain⟨oc,od,kV,doc,pm,an,cdv,ct,osl,rfl,lk,hcd⟩:=F.ex
 exact .all (h kV doc pm an cdv ct)
theorem zav {x qual:Str}{st:Stmt}{f:Addr}{oc:Value}{od an:Option Addr}{osl:Array (Option Value)}{kV doc pm cdv ct:Value}(l:K.lookup f=some ⟨oc,od,.func (W.fnOf x qual (defArgs st) (defBody st) (defScope st) .none kV doc pm an cdv ct),osl⟩)
  (c:W.codeIn K cdv qual=true)(k:W.keepIn K (.ref f)=true):Fun K x qual st f (W.fnOf x qual (defArgs st) (defBody st) (defScope st) .none kV doc pm an cdv ct):=⟨⟨oc,od,kV,doc,pm,an,cdv,ct,osl,rfl,l,c⟩,k⟩
end
section
variable {X:Cx}
end
def za2 (H H':Hp):Prop:=∀ b o,H b=some o->H' b=some o
theorem za2.refl (H:Hp):za2 H H:=fun _ _ h=>h
theorem za2.trans {H H1 H2:Hp}(a:za2 H H1)(b:za2 H1 H2):za2 H H2:=fun c o h=>b c o (a c o h)
theorem za2.free {H H':Hp}(e:za2 H H'){l:Addr}(h:H' l=Option.none):H l=Option.none:=by
 cases q:H l with
 | none=>rfl
 | some o =>
  rw[e l o q] at h
  cases h
end L2
namespace DL
open PySem PySem.Spec PySem.Calls PySem.W PyProof.Rows Builtin Builtin.ObjectAttr Builtin.Getset_descriptor
section
variable {prog:Program}{w:World}{A:Around}{E:Value->Shared->Prop}{h:Heap}{g:Array GenState}{d:Drawn}{t:Nat}{os:OsState}{a C:Addr}{o:Obj}{K:Frag}
structure zw6 (K:Frag) (C:Addr):Prop where
 cls:findIn K (.ref C) "__class__"=some (some (.builtin "object.__class__"))
 ga:findIn K (.ref C) "__getattribute__"=some (some (.builtin "BaseException.__getattribute__"))
 gt:findIn K (.ref C) "__getattr__"=some none
 ob:mroIn K C (.type "object")=some true
 be:subIn K (.ref C) (.type "BaseException")=some true
theorem zBv {R:Result->Shared->Prop}{tp:Value}(X:K.In h)(Z:zw6 K C)(hx:h.get? a=some o)(hc:o.cls=.ref C)(hq:R (.ok (.ret (.ref C))) ⟨h,g,d,t,os⟩) :
  codeAny (model prog w) A (.call (.builtin "getset_descriptor.__get__") ⟨[.builtin "object.__class__",.ref a,tp],[]⟩) R ⟨h,g,d,t,os⟩:=by
 have L0:Looks (model prog w) h (typeOf (.ref a)) (.ref C):=hc▸(Looks.ld hx).andThen .now
 have L1:=looks_mroIn (M:=model prog w) X Z.ob
 refine codeAny_call_builtin KF.slot_gs.plain KF.entry_gs (KF.slot_gs.check _ _ _ _ _ _ _ _ KF.type_class (KF.args_gs _ _ _) ?_)
 unfold Builtin.«getset_descriptor.__get__» descrGet
 rw[dga_obj]
 refine wpAny_bind (wpAny_pure ?_)
 unfold descrGetter descrCheckInstance descrNameAndClass isInstance
 simp only[KF.owner_class]
 repeat lk
 refine⟨Code.quiet_builtin _ (by decide +kernel),codeAny_builtin KF.entry_class ?_⟩
 unfold Builtin.«object.__class__» shownTypeOf
 repeat lk
 exact hq
theorem zxe {M:Model}{nameV:Value}{Q:Unit->Shared->Prop}(X:K.In h)(Z:zw6 K C)(hx:h.get? a=some o)(hc:o.cls=.ref C)(hq:Q () ⟨h,g,d,t,os⟩):wpAny M A (checkBuiltinCall "BaseException.__getattribute__" ⟨[.ref a,nameV],[]⟩) Q E ⟨h,g,d,t,os⟩:=by
 have hk:builtinKind "BaseException.__getattribute__"=some .slot:=by decide +kernel
 have hsplit:splitId "BaseException.__getattribute__"=some ("BaseException","__getattribute__"):=by decide +kernel
 have ha:=F.args_bexc_ga (.ref a) nameV
 have LS:Looks M h (isSubtype (.ref C) (.type "BaseException")) true:=looks_subIn X Z.be
 simp only[checkBuiltinCall,hk,hsplit]
 refine wpAny_bind ?_
 ·unfold isInstance
  repeat (first | (with_reducible refine wpAny_loadPart_at hx ?_;rw[hc]) | (with_reducible refine LS.at ?_) | wp_step)
  exact hq
theorem zxd {tk:Tok}{Q:Fin->Shared->Prop}(X:K.In h)(Z:zw6 K C)(hx:h.get? a=some o)(hc:o.cls=.ref C)(hq:Q (.done (.ret (.ref C))) ⟨h,g,d,t,os⟩) :
  wpAny (model prog w) A (Builtin.«object.__getattribute__» ⟨[.ref a,.str "__class__" tk],[]⟩) Q E ⟨h,g,d,t,os⟩:=by
 have hT5:(⟨h,g,d,t,os⟩:Shared).TypeIs (.builtin "object.__class__") "getset_descriptor":=F.typeOf_object_class
 have f5:=F.typeOf_object_class
 have f6:=F.slot_gs_get.lookup
 have f7:=F.slot_gs_set.lookup
 have LC:Looks (model prog w) h (typeLookup (.ref C) "__class__") (some (.builtin "object.__class__")):=looks_findIn X Z.cls
 repeat (any_goals (first | assumption | (with_reducible refine wpAny_loadPart_at hx ?_;rw[hc]) | (with_reducible refine LC.at ?_) | wp_step))
 refine zBv X Z hx hc ?_
 repeat (any_goals (first | assumption | wp_step))
theorem zzS {tk:Tok}{R:Result->Shared->Prop}(X:K.In h)(Z:zw6 K C)(hx:h.get? a=some o)(hc:o.cls=.ref C)(hq:R (.ok (.ret (.ref C))) ⟨h,g,d,t,os⟩) :
  codeAny (model prog w) A (.call (.builtin "BaseException.__getattribute__") ⟨[.ref a,.str "__class__" tk],[]⟩) R ⟨h,g,d,t,os⟩ :=
 codeAny_call_builtin F.attr_ValueError.ga.plain F.entry_bexc_ga (zxe X Z hx hc (zxd X Z hx hc hq))
theorem zDl {tk:Tok}{Q:Value->Shared->Prop}(X:K.In h)(Z:zw6 K C)(hx:h.get? a=some o)(hc:o.cls=.ref C)(hq:Q (.ref C) ⟨h,g,d,t,os⟩) :
  wpAny (model prog w) A (getAttrBy (.ref a) (.str "__class__" tk) false) Q E ⟨h,g,d,t,os⟩:=by
 have f3:=F.attr_ValueError.ga.bind (.ref a)
 have hx2:(Value.builtin "BaseException.__getattribute__"==Value.builtin "object.__getattribute__")=false:=by decide +kernel
 have hx1:(onTheHeap (Value.ref C)&&Value.builtin "BaseException.__getattribute__"==Value.builtin "object.__getattribute__")=false:=by rw[hx2];rfl
 have L1:Looks (model prog w) h (typeLookup (.ref C) "__getattribute__") (some (.builtin "BaseException.__getattribute__")):=looks_findIn X Z.ga
 have L2:Looks (model prog w) h (typeLookup (.ref C) "__getattr__") none:=looks_findIn X Z.gt
 repeat (any_goals (first | assumption | (with_reducible refine wpAny_loadPart_at hx ?_;rw[hc]) | (with_reducible refine L1.at ?_) | (with_reducible refine L2.at ?_) | wp_step))
 refine zzS X Z hx hc ?_
 repeat (any_goals (first | assumption | wp_step))
theorem zzT {Q:Option Value->Shared->Prop}(X:K.In h)(Z:zw6 K C)(hx:h.get? a=some o)(hc:o.cls=.ref C)(hq:Q (some (.ref C)) ⟨h,g,d,t+1,os⟩):wpAny (model prog w) A (getAttr? (.ref a) "__class__") Q E ⟨h,g,d,t,os⟩:=by
 unfold getAttr? getAttrBy?
 repeat (any_goals (first | assumption | with_reducible apply zDl X Z hx hc | wp_step))
end
def zw3 (a C:Addr):Heap->Prop:=fun h=>∃ o vs,h.get? a=some o/\o.cls=.ref C/\o.data=.fields vs
theorem zos {K:Frag}{a C:Addr}(Z:zw6 K C)(hC:(clsIn K C).isSome=true):KitX K (.ref a) (.ref C) (zw3 a C) where
 ty:=fun _ _ _ ⟨o,_,h1,h2,_⟩=>h2▸(Looks.ld h1).andThen .now
 it:=fun _ _ X _=>by
  obtain⟨cd,hcD⟩:=Option.isSome_iff_exists.mp hC
  unfold clsIn at hcD
  split at hcD
  ·rename_i c' d' cd' sl' ho
   intro A' Q' E' s' k q
   unfold isType loadHead
   exact wpAny_bind (wpAny_loadPart (k _ _ (X _ _ ho)) (wpAny_pure q))
  ·cases hcD
 ne:=fun h tp dd its n sl X htp=>by
  obtain⟨cd,hcD⟩:=Option.isSome_iff_exists.mp hC
  refine Bool.eq_false_iff.mpr fun q=>?_
  have e:C=tp:=Value.ref.inj (beq_iff_eq.mp q)
  subst e
  unfold clsIn at hcD
  split at hcD
  ·rename_i c' d' cd' sl' ho
   have z:=(X _ _ ho).symm.trans htp
   cases z
  ·cases hcD
 ca:=fun {_ _ _ _ _ s} X ⟨o,_,h1,h2,_⟩ k=>by
  obtain⟨h,g,d,t,os⟩:=s
  exact zzT X Z h1 h2 k
theorem zw6.isCls {K:Frag}{C:Addr}(Z:zw6 K C):(clsIn K C).isSome=true:=by
 obtain⟨cd,a,b⟩:=Option.bind_eq_some_iff.mp Z.ob
 rw[a];rfl
def zhH:List String:=["NoneType","bool","int","str","tuple","list","dict"]
structure XC (K:Frag) (x:Str) (C:Addr):Prop where
 ns:nsIn K mainGlobals x=some (some (.ref C))
 ek:zw6 K C
 bt:∀ T∈zhH,kitOne K (.ref C) (.type T)=some false
end DL
namespace L2
open PySem PySem.Spec PyProof.Rows
section
variable {κ:Type}[DecidableEq κ]
def zDO (kvs:List (κ×V))(k:κ)(v:V):List (κ×V) :=
 if(kvs.any fun kv=>decide (kv.1=k))=true then kvs.map (fun kv=>if kv.1=k then(kv.1,v) else kv) else kvs++[(k,v)]
end
section
variable {P:Program}{w:World}{H:Hp}{h:Heap}{a:Addr}
end
section
variable {X:Cx}{pins:List (Addr×Obj)}{σ:St}{H:Hp}{s:Shared}{a:Addr}{y v:V}{u r:Value}{o:Option V}{A:Around}{E:Value->Shared->Prop}
end
section
variable {X:Cx}{pins:List (Addr×Obj)}{σ:St}{H:Hp}{s:Shared}{a:Addr}{kvs:List (Key×V)}{k:Key}{u:Value}{A:Around}{E:Value->Shared->Prop}
end
section
variable {X:Cx}{o i e value:Expr}{pos pos' tpos:Pos}{td ty tv:TE}
end
section
variable {X:Cx}{pos:Pos}
end
section
variable {X:Cx}{pins:List (Addr×Obj)}{σ:St}{H:Hp}{s:Shared}{a:Addr}{y d:V}{u r:Value}{o:Option V}{A:Around}{E:Value->Shared->Prop}
end
section
variable {X:Cx}{o e f:Expr}{apos cpos:Pos}{td ty tx:TE}
end
section
variable {X:Cx}{pins:List (Addr×Obj)}{σ:St}{H:Hp}{s:Shared}{a:Addr}{kvs:List (Key×V)}{A:Around}{E:Value->Shared->Prop}
end
section
variable {X:Cx}{pins:List (Addr×Obj)}{σ:St}{H:Hp}{s:Shared}{a:Addr}{y:V}{u:Value}{A:Around}{E:Value->Shared->Prop}
end
end L2
namespace DL
open PySem PySem.Spec PyProof.Rows L2
def nst:Expr->Bool
 | .Starred _ _=>false
 | _=>true
theorem zaM {e:Expr}{es:List Expr}{env:PySem.Env}(h:nst e=true):starEach (e::es) env=(false,eval e env)::starEach es env:=by
 cases e<;>first | (rw[starEach];intros;contradiction) | rw[starEach] | (cases h)
theorem ziK {e:Expr}{env:PySem.Env}(h:nst e=true):starEach [e] env=[(false,eval e env)]:=by
 rw[zaM h,starEach]
theorem zbH {env:PySem.Env}{pos:Pos}:∀ {es:List Expr},es.all nst=true->(backTo pos (starEach es env)).any (·.1)=false
 | [],_=>by rw[starEach];rfl
 | e::es,h=>by
  rw[List.all_cons,Bool.and_eq_true] at h
  rw[zaM h.1]
  have:=zbH (env:=env) (pos:=pos) h.2
  show(false||(backTo pos (starEach es env)).any (·.1))=false
  rw[this];rfl
theorem zlO {e:Expr}{env:PySem.Env}{pos:Pos}(h:nst e=true):((backTo pos (starEach [e] env)).all (fun x=>!x.1)&&(backToKw pos (keywordEach [] env)).all (fun x=>x.1.isSome)
  &&decide ([e].length+([]:List Keyword).length+(if([]:List Keyword).isEmpty then 0 else 1) < 30))=true:=by
 rw[ziK h,keywordEach];rfl
inductive Kd where
 | ins (c:Str) (ks:List Str) | dint (ks:List Int)
inductive D where
 | non | bl (b:Bool) | int (i:Int) | str (x:Str) | tup (xs:List D) | lst (xs:List D) | dic (ks:List Str) (xs:List D) | exc (x:Str) | ob (k:Kd) (xs:List D)
structure zEo (K:W.Frag) (ks:List Str) (C:Addr):Prop where
 cls:Cls K C
 no:∀ f∈ks,zgn K C f
 gc:W.findIn K (.ref C) "__class__"=some (some (.builtin "object.__class__"))
 gn:W.specialIn K (.builtin "object.__class__") "__get__"=some (some (.builtin "getset_descriptor.__get__"))
 tk:W.takesIn K (.builtin "object.__class__")=some true
 mo:W.mroIn K C (.type "object")=some true
 bt:∀ T∈zhH,W.kitOne K (.ref C) (.type T)=some false
def zC8 (K:W.Frag)(H:Hp):Kd->Addr->List V->Prop
 | .ins c ks,a,vs=>∃ C dx,W.nsIn K mainGlobals c=some (some (.ref C))/\zEo K ks C/\H a=some (.ins C dx (ks.zip vs))/\ks.length=vs.length
 | .dint ks,a,vs=>∃ kvs,Rd H a (.dK kvs)/\kvs=(ks.map Sum.inl).zip vs/\ks.length=vs.length
structure Exn where
 cls:Str
 flds:List (Str×D)
inductive Res (α:Type) where
 | ok (a:α) | exn (x:Exn) | stuck
def Res.bind {α β:Type}(r:Res α)(f:α->Res β):Res β:=match r with
 | .ok a=>f a
 | .exn x=>.exn x
 | .stuck=>.stuck
mutual
def Rep (K:W.Frag)(H:Hp):D->V->Prop
 | .non,v=>v=.non
 | .bl b,v=>v=.bl b
 | .int i,v=>v=.int i
 | .str x,v=>v=.str x
 | .tup ds,v=>∃ a vs,v=.ref a/\SqT K H a vs/\Reps K H ds vs
 | .lst ds,v=>∃ a vs,v=.ref a/\SqL K H a vs/\Reps K H ds vs
 | .dic ks ds,v=>∃ a kvs vs,v=.ref a/\Rd H a (.dK kvs)/\kvs=(ks.map Sum.inr).zip vs/\ks.length=vs.length/\Reps K H ds vs
 | .exc x,v=>∃ a C,v=.ref a/\XC K x C/\Rd H a (.ext (zw3 a C))
 | .ob k ds,v=>∃ a vs,v=.ref a/\zC8 K H k a vs/\Reps K H ds vs
def Reps (K:W.Frag)(H:Hp):List D->List V->Prop
 | [],vs=>vs=[]
 | d::ds,vs=>∃ v r,vs=v::r/\Rep K H d v/\Reps K H ds r
end
theorem za2.rd {H H':Hp}(e:za2 H H'){a:Addr}{o:HO}(h:Rd H a o):Rd H' a o:=by
 rcases h with h | ⟨o',h⟩
 ·exact .inl (e _ _ h)
 ·exact .inr ⟨o',e _ _ h⟩
theorem za2.sqT {K:W.Frag}{H H':Hp}(e:za2 H H'){a:Addr}{xs:List V}(h:SqT K H a xs):SqT K H' a xs:=by
 rcases h with h | h
 ·exact .inl (za2.rd e h)
 ·exact .inr h
theorem za2.sqL {K:W.Frag}{H H':Hp}(e:za2 H H'){a:Addr}{xs:List V}(h:SqL K H a xs):SqL K H' a xs:=by
 rcases h with h | h
 ·exact .inl (za2.rd e h)
 ·exact .inr h
theorem zC8.mono {K:W.Frag}{H H':Hp}(e:za2 H H'):∀ {k:Kd}{a:Addr}{vs:List V},zC8 K H k a vs->zC8 K H' k a vs
 | .ins c ks,a,vs,⟨C,dx,h0,h1,h2,h3⟩=>⟨C,dx,h0,h1,e _ _ h2,h3⟩
 | .dint ks,a,vs,⟨kvs,h1,h2,h3⟩=>⟨kvs,za2.rd e h1,h2,h3⟩
mutual
theorem Rep.mono {K:W.Frag}{H H':Hp}(e:za2 H H'):∀ {d:D}{v:V},Rep K H d v->Rep K H' d v
 | .non,_,h=>by unfold Rep at h ⊢;exact h
 | .bl _,_,h=>by unfold Rep at h ⊢;exact h
 | .int _,_,h=>by unfold Rep at h ⊢;exact h
 | .str _,_,h=>by unfold Rep at h ⊢;exact h
 | .tup ds,_,h=>by
  unfold Rep at h ⊢
  obtain⟨a,vs,e1,e2,e3⟩:=h
  exact⟨a,vs,e1,za2.sqT e e2,Reps.mono e e3⟩
 | .lst ds,_,h=>by
  unfold Rep at h ⊢
  obtain⟨a,vs,e1,e2,e3⟩:=h
  exact⟨a,vs,e1,za2.sqL e e2,Reps.mono e e3⟩
 | .dic ks ds,_,h=>by
  unfold Rep at h ⊢
  obtain⟨a,kvs,vs,e1,e2,e3,e4,e5⟩:=h
  exact⟨a,kvs,vs,e1,za2.rd e e2,e3,e4,Reps.mono e e5⟩
 | .exc x,_,h=>by
  unfold Rep at h ⊢
  obtain⟨a,C,e1,e2,e3⟩:=h
  exact⟨a,C,e1,e2,za2.rd e e3⟩
 | .ob k ds,_,h=>by
  unfold Rep at h ⊢
  obtain⟨a,vs,e1,e2,e3⟩:=h
  exact⟨a,vs,e1,e2.mono e,Reps.mono e e3⟩
theorem Reps.mono {K:W.Frag}{H H':Hp}(e:za2 H H'):∀ {ds:List D}{vs:List V},Reps K H ds vs->Reps K H' ds vs
 | [],_,h=>by unfold Reps at h ⊢;exact h
 | d::ds,_,h=>by
  unfold Reps at h ⊢
  obtain⟨v,r,e1,e2,e3⟩:=h
  exact⟨v,r,e1,Rep.mono e e2,Reps.mono e e3⟩
end
section
variable {K:W.Frag}{H:Hp}{v:V}{vs:List V}{d:D}{ds:List D}
theorem Rep.non_iff:Rep K H .non v↔v=.non:=by unfold Rep;exact Iff.rfl
theorem Rep.bl_iff {b}:Rep K H (.bl b) v↔v=.bl b:=by unfold Rep;exact Iff.rfl
theorem Rep.int_iff {i}:Rep K H (.int i) v↔v=.int i:=by unfold Rep;exact Iff.rfl
theorem Rep.str_iff {x}:Rep K H (.str x) v↔v=.str x:=by unfold Rep;exact Iff.rfl
theorem Rep.tup_iff:Rep K H (.tup ds) v↔∃ a vs,v=.ref a/\SqT K H a vs/\Reps K H ds vs:=by rw[Rep]
theorem Rep.lst_iff:Rep K H (.lst ds) v↔∃ a vs,v=.ref a/\SqL K H a vs/\Reps K H ds vs:=by rw[Rep]
theorem Rep.exc_iff {x}:Rep K H (.exc x) v↔∃ a C,v=.ref a/\XC K x C/\Rd H a (.ext (zw3 a C)):=by rw[Rep]
theorem Rep.ob_iff {k}:Rep K H (.ob k ds) v↔∃ a vs,v=.ref a/\zC8 K H k a vs/\Reps K H ds vs:=by rw[Rep]
theorem Reps.nil_iff:Reps K H [] vs↔vs=[]:=by unfold Reps;exact Iff.rfl
theorem Reps.cons_iff:Reps K H (d::ds) vs↔∃ v r,vs=v::r/\Rep K H d v/\Reps K H ds r:=by rw[Reps]
theorem Reps.nil:Reps K H [] []:=Reps.nil_iff.mpr rfl
theorem Reps.cons (h:Rep K H d v)(h':Reps K H ds vs):Reps K H (d::ds) (v::vs):=Reps.cons_iff.mpr ⟨_,_,rfl,h,h'⟩
end
theorem Reps.length {K:W.Frag}{H:Hp}:∀ {ds:List D}{vs:List V},Reps K H ds vs->ds.length=vs.length
 | [],_,h=>by rw[Reps.nil_iff.mp h];rfl
 | d::ds,_,h=>by
  obtain⟨v,r,rfl,_,h⟩:=Reps.cons_iff.mp h
  simp [Reps.length h]
theorem Reps.get {K:W.Frag}{H:Hp}:∀ {ds:List D}{vs:List V}{i:Nat}{d:D},Reps K H ds vs->ds[i]?=some d->∃ v,vs[i]?=some v/\Rep K H d v
 | [],_,_,_,h,e=>by simp at e
 | x::ds,_,0,d,h,e=>by
  obtain⟨v,r,rfl,h1,_⟩:=Reps.cons_iff.mp h
  simp at e;subst e;exact⟨v,rfl,h1⟩
 | x::ds,_,i+1,d,h,e=>by
  obtain⟨v,r,rfl,_,h2⟩:=Reps.cons_iff.mp h
  obtain⟨u,e1,e2⟩:=Reps.get (i:=i) h2 (by simpa using e)
  exact⟨u,by simpa using e1,e2⟩
theorem Reps.app {K:W.Frag}{H:Hp}:∀ {ds es:List D}{vs us:List V},Reps K H ds vs->Reps K H es us->Reps K H (ds++es) (vs++us)
 | [],_,_,_,h,h'=>by rw[Reps.nil_iff.mp h];exact h'
 | d::ds,_,_,_,h,h'=>by
  obtain⟨v,r,rfl,h1,h2⟩:=Reps.cons_iff.mp h
  exact Reps.cons h1 (Reps.app h2 h')
theorem Reps.take {K:W.Frag}{H:Hp}:∀ {ds:List D}{vs:List V}(n:Nat),Reps K H ds vs->Reps K H (ds.take n) (vs.take n)
 | _,_,0,_=>by simp;exact Reps.nil
 | [],_,n+1,h=>by rw[Reps.nil_iff.mp h];exact Reps.nil
 | d::ds,_,n+1,h=>by
  obtain⟨v,r,rfl,h1,h2⟩:=Reps.cons_iff.mp h
  exact Reps.cons h1 (Reps.take n h2)
theorem Reps.drop {K:W.Frag}{H:Hp}:∀ {ds:List D}{vs:List V}(n:Nat),Reps K H ds vs->Reps K H (ds.drop n) (vs.drop n)
 | _,_,0,h=>by simpa using h
 | [],_,n+1,h=>by rw[Reps.nil_iff.mp h];exact Reps.nil
 | d::ds,_,n+1,h=>by
  obtain⟨v,r,rfl,h1,h2⟩:=Reps.cons_iff.mp h
  exact Reps.drop n h2
theorem Reps.set {K:W.Frag}{H:Hp}{d:D}{v:V}(h:Rep K H d v):∀ {ds:List D}{vs:List V}(n:Nat),Reps K H ds vs->Reps K H (ds.set n d) (vs.set n v)
 | [],_,n,h'=>by rw[Reps.nil_iff.mp h'];exact Reps.nil
 | x::ds,_,0,h'=>by
  obtain⟨v,r,rfl,h1,h2⟩:=Reps.cons_iff.mp h'
  exact Reps.cons h h2
 | x::ds,_,n+1,h'=>by
  obtain⟨v,r,rfl,h1,h2⟩:=Reps.cons_iff.mp h'
  exact Reps.cons h1 (Reps.set h n h2)
theorem Reps.ints {K:W.Frag}{H:Hp}:∀ (ns:List Int),Reps K H (ns.map D.int) (ns.map V.int)
 | []=>Reps.nil
 | n::r=>Reps.cons (Rep.int_iff.mpr rfl) (Reps.ints r)
structure zbZ (H H₀ H' H₀':Hp):Prop where
 s:za2 H H'
 z:za2 H₀ H₀'
 sub:za2 H₀' H'
 nw:∀ a,H₀' a≠none->H₀ a=none->H a=none
theorem zbZ.refl {H H₀:Hp}(h:za2 H₀ H):zbZ H H₀ H H₀:=⟨za2.refl _,za2.refl _,h,fun a h1 h2=>absurd h2 h1⟩
theorem zbZ.trans {H H₀ H1 H01 H2 H02:Hp}(a:zbZ H H₀ H1 H01)(b:zbZ H1 H01 H2 H02):zbZ H H₀ H2 H02 :=
 ⟨a.s.trans b.s,a.z.trans b.z,b.sub,fun x h1 h2=>by
  cases q:H01 x with
  | none=>exact a.s.free (b.nw x h1 q)
  | some o=>exact a.nw x (by rw[q];simp) h2⟩
theorem zbZ.alloc {H H₀:Hp}{p:Addr}{o:HO}(hs:za2 H₀ H)(hp:H p=none):zbZ H H₀ (upd H p o) (upd H₀ p o) :=
 ⟨same_new hp o,same_new (hs.free hp) o,fun b u e=>by
  by_cases hb:b=p
  ·subst hb;rw[zaB] at e ⊢;exact e
  ·rw[zaE hb] at e ⊢;exact hs _ _ e,fun a h1 h2=>by
  by_cases hb:a=p
  ·subst hb;exact hp
  ·rw[zaE hb] at h1;exact absurd h2 h1⟩
where
 same_new {H:Hp}{p:Addr}(h:H p=none) (o:HO):za2 H (upd H p o):=fun b u q=>by rw[zaE (za0 q h)];exact q
inductive Sl where
 | no | sh (d:D) | ow (d:D) | ox (j:Nat) (ds:List D)
abbrev Ev:=List Sl
def ziB (K:W.Frag)(H₀:Hp)(σ:L2.St)(ρ:Ev):Prop:=∀ (i:Nat) (d:D),ρ[i]?=some (.sh d)->∃ v,σ[i]?=some (some v)/\Rep K H₀ d v
theorem ziB.mono {K:W.Frag}{H H':Hp}{σ:L2.St}{ρ:Ev}(e:za2 H H')(r:ziB K H σ ρ):ziB K H' σ ρ:=fun i d h =>
 let ⟨v,h1,h2⟩:=r i d h
 ⟨v,h1,h2.mono e⟩
def ExR (K:W.Frag)(H:Hp)(x:Exn)(C:Value)(ox:Option Addr):Prop :=
 (∃ c,C=.ref c/\XC K x.cls c)/\match ox with
  | none=>x.flds=[]
  | some a=>∃ fs,H a=some (.xd fs)/\∀ n d,x.flds.lookup n=some d->∃ v,fs.lookup n=some v/\Rep K H d v
def post (K:W.Frag)(E:XK)(H H₀:Hp)(r:Res D)(Q:VK):Prop:=match r with
 | .ok d=>∀ v H' H₀',zbZ H H₀ H' H₀'->Rep K H₀' d v->Q v H'
 | .exn x=>∀ C ox H' H₀',zbZ H H₀ H' H₀'->ExR K H₀' x C ox->E C ox H'
 | .stuck=>False
def zre (K:W.Frag)(E:XK)(H H₀:Hp)(r:Res (List D))(Q:List V->Hp->Prop):Prop:=match r with
 | .ok ds=>∀ vs H' H₀',zbZ H H₀ H' H₀'->Reps K H₀' ds vs->Q vs H'
 | .exn x=>∀ C ox H' H₀',zbZ H H₀ H' H₀'->ExR K H₀' x C ox->E C ox H'
 | .stuck=>False
def zrf (K:W.Frag)(E:XK)(H H₀:Hp)(r:Res D)(Q:Bool->Hp->Prop):Prop:=match r with
 | .ok (.bl b)=>∀ H' H₀',zbZ H H₀ H' H₀'->Q b H'
 | .ok _=>False
 | .exn x=>∀ C ox H' H₀',zbZ H H₀ H' H₀'->ExR K H₀' x C ox->E C ox H'
 | .stuck=>False
section
variable {K:W.Frag}{E:XK}{H H₀ H1 H01:Hp}
theorem post.grow {r:Res D}{Q:VK}(h:post K E H H₀ r Q)(g:zbZ H H₀ H1 H01):post K E H1 H01 r Q:=by
 cases r with
 | ok d=>exact fun v H' H₀' g'=>h v H' H₀' (g.trans g')
 | exn x=>exact fun C ox H' H₀' g'=>h C ox H' H₀' (g.trans g')
 | stuck=>exact h
theorem zre.grow {r:Res (List D)}{Q:List V->Hp->Prop}(h:zre K E H H₀ r Q)(g:zbZ H H₀ H1 H01):zre K E H1 H01 r Q:=by
 cases r with
 | ok d=>exact fun v H' H₀' g'=>h v H' H₀' (g.trans g')
 | exn x=>exact fun C ox H' H₀' g'=>h C ox H' H₀' (g.trans g')
 | stuck=>exact h
theorem zrf.grow {r:Res D}{Q:Bool->Hp->Prop}(h:zrf K E H H₀ r Q)(g:zbZ H H₀ H1 H01):zrf K E H1 H01 r Q:=by
 cases r with
 | ok d =>
  cases d with
  | bl b=>exact fun H' H₀' g'=>h H' H₀' (g.trans g')
  | _=>exact h
 | exn x=>exact fun C ox H' H₀' g'=>h C ox H' H₀' (g.trans g')
 | stuck=>exact h
end
def tD (K:W.Frag)(E:XK)(f:Ev->Res D):TE:=fun σ H Q=>∃ H₀ ρ,za2 H₀ H/\ziB K H₀ σ ρ/\post K E H H₀ (f ρ) Q
def tDA (K:W.Frag)(E:XK)(f:Ev->Res (List D)):TA:=fun σ H Q=>∃ H₀ ρ,za2 H₀ H/\ziB K H₀ σ ρ/\zre K E H H₀ (f ρ) Q
def tDT (K:W.Frag)(E:XK)(f:Ev->Res D):TT:=fun σ H Q=>∃ H₀ ρ,za2 H₀ H/\ziB K H₀ σ ρ/\zrf K E H H₀ (f ρ) Q
structure DE (X:Cx) (E:XK) (e:Expr) (f:Ev->Res D):Prop where
 o:PE X e (tD X.K E f)
structure DA (X:Cx) (E:XK) (es:List Expr) (f:Ev->Res (List D)):Prop where
 o:PA X es (tDA X.K E f)
structure DT (X:Cx) (E:XK) (e:Expr) (f:Ev->Res D):Prop where
 o:PT X e (tDT X.K E f)
structure DW (X:Cx) (E:XK) (e:Expr) (f:Ev->Res D):Prop where
 o:PW X e (tDT X.K E f)
section
variable {X:Cx}{E:XK}{e a b:Expr}{es:List Expr}{f g:Ev->Res D}{fa:Ev->Res (List D)}{pos:Pos}
theorem za3 {t t':TE}(h:PE X e t)(w:∀ σ H Q,t' σ H Q->t σ H Q):PE X e t':=fun pins s σ H Q I q=>h pins s σ H Q I (w σ H Q q)
theorem zvz {t t':TA}(h:PA X es t)(w:∀ σ H Q,t' σ H Q->t σ H Q):PA X es t':=fun pos pins s σ H Q I q=>h pos pins s σ H Q I (w σ H Q q)
theorem zod {t t':TT}(h:PT X e t)(w:∀ σ H Q,t' σ H Q->t σ H Q):PT X e t':=fun pins s σ H Q I q=>h pins s σ H Q I (w σ H Q q)
theorem zvo {t t':TT}(h:PW X e t)(w:∀ σ H Q,t' σ H Q->t σ H Q):PW X e t':=fun wh pins s σ H Q I q=>h wh pins s σ H Q I (w σ H Q q)
def zaf (i:Nat):Ev->Res D:=fun ρ=>match ρ[i]? with
 | some (.sh d)=>.ok d
 | _=>.stuck
def dC (d:D):Ev->Res D:=fun _=>.ok d
theorem zCW {i:Nat}{x:Str}(hN:X.N[i]?=some x)(hv:Vis X.env.scope x)(hd:(x==("__debug__" : Str))=false:=by decide)(hcd:(x==("__classdict__" : Str))=false:=by decide):DE X E (.Name x pos) (zaf i):=by
 refine⟨?_⟩
 refine za3 (zjl hN hv hd hcd) fun σ H Q ⟨H₀,ρ,hs,hr,q⟩=>?_
 unfold zaf at q
 cases e:ρ[i]? with
 | none=>rw[e] at q;exact q.elim
 | some s =>
  rw[e] at q
  cases s with
  | sh d =>
   obtain⟨v,e1,e2⟩:=hr i d e
   exact⟨v,e1,q v H H₀ (zbZ.refl hs) e2⟩
  | no=>exact q.elim
  | ow d=>exact q.elim
  | ox j ds=>exact q.elim
theorem zae {i j}:DE X E (.Constant (.int i) j pos) (dC (.int i)):=⟨za3 zCm fun σ H Q ⟨H₀,ρ,hs,hr,q⟩=>q _ H H₀ (zbZ.refl hs) (Rep.int_iff.mpr rfl)⟩
theorem zf9 {i j}:DE X E (.Constant (.bool i) j pos) (dC (.bl i)):=⟨za3 zDX fun σ H Q ⟨H₀,ρ,hs,hr,q⟩=>q _ H H₀ (zbZ.refl hs) (Rep.bl_iff.mpr rfl)⟩
theorem zdL {j}:DE X E (.Constant .none j pos) (dC .non):=⟨za3 zCl fun σ H Q ⟨H₀,ρ,hs,hr,q⟩=>q _ H H₀ (zbZ.refl hs) (Rep.non_iff.mpr rfl)⟩
theorem zbC {x j}:DE X E (.Constant (.str x) j pos) (dC (.str x)):=⟨za3 zCi fun σ H Q ⟨H₀,ρ,hs,hr,q⟩=>q _ H H₀ (zbZ.refl hs) (Rep.str_iff.mpr rfl)⟩
theorem zA6 {x:Str}{v:V}{u:Value}{d:D}(hg:Gl X x)(hm:X.mg x=some u)(r:zcN v u)(hr:∀ H,Rep X.K H d v)(hd:(x==("__debug__" : Str))=false:=by decide):DE X E (.Name x pos) (dC d) :=
 ⟨za3 (zrh hg hm r hd) fun σ H Q ⟨H₀,ρ,hs,hr',q⟩=>q _ H H₀ (zbZ.refl hs) (hr H₀)⟩
def zab (f g:Ev->Res D)(op:D->D->Res D):Ev->Res D:=fun ρ=>(f ρ).bind fun x=>(g ρ).bind fun y=>op x y
def za4 (f:Ev->Res D)(op:D->Res D):Ev->Res D:=fun ρ=>(f ρ).bind op
def OpD (K:W.Frag)(E:XK)(r:R2)(op:D->D->Res D):Prop:=∀ (x y:D) (v u:V) (H H₀:Hp) (Q:VK),za2 H₀ H->Rep K H₀ x v->Rep K H₀ y u->post K E H H₀ (op x y) Q->r v u H Q
theorem zjP {r:R2}{op:D->D->Res D}(ho:OpD X.K E r op)(σ:L2.St)(H:Hp)(Q:VK)(h:tD X.K E (zab f g op) σ H Q):tOp r (tD X.K E f) (tD X.K E g) σ H Q:=by
 obtain⟨H₀,ρ,hs,hr,q⟩:=h
 refine⟨H₀,ρ,hs,hr,?_⟩
 unfold zab at q
 cases e1:f ρ with
 | stuck=>rw[e1] at q;exact q
 | exn x=>rw[e1] at q;exact q
 | ok x =>
  rw[e1] at q
  intro v H1 H01 g1 r1
  refine⟨H01,ρ,g1.sub,hr.mono g1.z,?_⟩
  replace q:post X.K E H H₀ ((g ρ).bind fun y=>op x y) Q:=q
  replace q:=q.grow g1
  cases e2:g ρ with
  | stuck=>rw[e2] at q;exact q
  | exn x=>rw[e2] at q;exact q
  | ok y =>
   rw[e2] at q
   intro u H2 H02 g2 r2
   exact ho x y v u H2 H02 Q g2.sub (r1.mono g2.z) r2 (post.grow (r:=op x y) q g2)
theorem zuh {op:Operator}{r:R2}{o:D->D->Res D}(h:OpR X (binaryOp op) r)(ho:OpD X.K E r o)(ha:DE X E a f)(hb:DE X E b g):DE X E (.BinOp a op b pos) (zab f g o) :=
 ⟨za3 (zAs h ha.o hb.o) (zjP ho)⟩
theorem zgw {op:CmpOp}{r:R2}{o:D->D->Res D}(h:OpR X (compareOp op) r)(ho:OpD X.K E r o)(ha:DE X E a f)(hb:DE X E b g)(hm:behindInMarks op b=false):DE X E (.Compare a [op] [b] pos) (zab f g o) :=
 ⟨za3 (zAu h ha.o hb.o hm) (zjP ho)⟩
theorem zEh {r:R2}{o:D->D->Res D}(h:IxR X r)(ho:OpD X.K E r o)(ha:DE X E a f)(hb:DE X E b g)(hs:zr5 b):DE X E (.Subscript a b pos) (zab f g o) :=
 ⟨za3 (zDW h ha.o hb.o hs) (zjP ho)⟩
def UnD (K:W.Frag)(E:XK)(r:V->Hp->VK->Prop)(op:D->Res D):Prop:=∀ (x:D) (v:V) (H H₀:Hp) (Q:VK),za2 H₀ H->Rep K H₀ x v->post K E H H₀ (op x) Q->r v H Q
theorem zEg {op:UnaryOp}{r:V->Hp->VK->Prop}{o:D->Res D}(h:UnR X (unaryOp op) r)(ho:UnD X.K E r o)(ha:DE X E a f):DE X E (.UnaryOp op a pos) (za4 f o):=by
 refine⟨?_⟩
 refine za3 (zDU h ha.o) fun σ H Q ⟨H₀,ρ,hs,hr,q⟩=>⟨H₀,ρ,hs,hr,?_⟩
 unfold za4 at q
 cases e1:f ρ with
 | stuck=>rw[e1] at q;exact q
 | exn x=>rw[e1] at q;exact q
 | ok x =>
  rw[e1] at q
  intro v H1 H01 g1 r1
  exact ho x v H1 H01 Q g1.sub r1 (post.grow (r:=o x) q g1)
def zau:Ev->Res (List D):=fun _=>.ok []
def zad (f:Ev->Res D)(fa:Ev->Res (List D)):Ev->Res (List D):=fun ρ=>(f ρ).bind fun x=>(fa ρ).bind fun xs=>.ok (x::xs)
theorem zam:DA X E [] zau:=⟨zvz zhy fun σ H Q ⟨H₀,ρ,hs,hr,q⟩=>q [] H H₀ (zbZ.refl hs) Reps.nil⟩
theorem zaa (ha:DE X E e f)(hr:DA X E es fa)(hs:starEach (e::es) X.env=(false,eval e X.env)::starEach es X.env:=by exact zaM rfl):DA X E (e::es) (zad f fa):=by
 refine⟨?_⟩
 refine zvz (zdo ha.o hr.o hs) fun σ H Q ⟨H₀,ρ,hs,hr,q⟩=>⟨H₀,ρ,hs,hr,?_⟩
 unfold zad at q
 cases e1:f ρ with
 | stuck=>rw[e1] at q;exact q
 | exn x=>rw[e1] at q;exact q
 | ok x =>
  rw[e1] at q
  intro v H1 H01 g1 r1
  refine⟨H01,ρ,g1.sub,hr.mono g1.z,?_⟩
  replace q:zre X.K E H H₀ ((fa ρ).bind fun xs=>.ok (x::xs)) Q:=q
  replace q:=q.grow g1
  cases e2:fa ρ with
  | stuck=>rw[e2] at q;exact q
  | exn x=>rw[e2] at q;exact q
  | ok xs =>
   rw[e2] at q
   intro us H2 H02 g2 r2
   exact q (v::us) H2 H02 g2 (Reps.cons (r1.mono g2.z) r2)
def line:Nat:=1000000
theorem zeK {n:Nat}(h:n<=line):n<=sizeLine:=Nat.le_trans h (by decide)
def zan (fa:Ev->Res (List D))(m:List D->Res D):Ev->Res D:=fun ρ=>(fa ρ).bind m
def zjO:List D->Res D:=fun ds=>if ds.length<=line then .ok (.tup ds) else .stuck
def zc3:List D->Res D:=fun ds=>if ds.length<=line then .ok (.lst ds) else .stuck
theorem zit {m:List D->Res D}{r:List V->Hp->VK->Prop}(ho:∀ (ds:List D) (vs:List V) (H H₀:Hp) (Q:VK),za2 H₀ H->Reps X.K H₀ ds vs->post X.K E H H₀ (m ds) Q->r vs H Q)
  (σ:L2.St)(H:Hp)(Q:VK)(h:tD X.K E (zan fa m) σ H Q):tDA X.K E fa σ H fun vs H1=>r vs H1 Q:=by
 obtain⟨H₀,ρ,hs,hr,q⟩:=h
 refine⟨H₀,ρ,hs,hr,?_⟩
 unfold zan at q
 cases e1:fa ρ with
 | stuck=>rw[e1] at q;exact q
 | exn x=>rw[e1] at q;exact q
 | ok x =>
  rw[e1] at q
  intro v H1 H01 g1 r1
  exact ho x v H1 H01 Q g1.sub r1 (post.grow (r:=m x) q g1)
theorem zde {x1}(h:DA X E es fa):DE X E (.Tuple es x1 pos) (zan fa zjO):=by
 refine⟨?_⟩
 refine za3 (zzn h.o) (zit (r:=fun xs H1 Q=>xs.length<=sizeLine/\∀ p,H1 p=none->Q (.ref p) (upd H1 p (.tup xs))) fun ds vs H H₀ Q hs hr q=>?_)
 unfold zjO at q
 by_cases hl:ds.length<=line
 ·rw[if_pos hl] at q
  refine⟨by rw[← hr.length];exact zeK hl,fun p hp=>q _ _ _ (zbZ.alloc hs hp) (Rep.tup_iff.mpr ⟨p,vs,rfl,SqT.of zaB,hr.mono (zbZ.alloc hs hp).z⟩)⟩
 ·rw[if_neg hl] at q;exact q.elim
theorem zbP (h:DA X E es fa):DE X E (.List es pos) (zan fa zc3):=by
 refine⟨?_⟩
 refine za3 (zzo h.o) (zit (r:=fun xs H1 Q=>xs.length<=sizeLine/\∀ p,H1 p=none->Q (.ref p) (upd H1 p (.lst xs))) fun ds vs H H₀ Q hs hr q=>?_)
 unfold zc3 at q
 by_cases hl:ds.length<=line
 ·rw[if_pos hl] at q
  refine⟨by rw[← hr.length];exact zeK hl,fun p hp=>q _ _ _ (zbZ.alloc hs hp) (Rep.lst_iff.mpr ⟨p,vs,rfl,SqL.of zaB,hr.mono (zbZ.alloc hs hp).z⟩)⟩
 ·rw[if_neg hl] at q;exact q.elim
def spD (K:W.Frag)(n:Nat)(m:List D->Res D):Sp:=fun vs H Q E=>vs.length=n/\∃ H₀ ds,za2 H₀ H/\Reps K H₀ ds vs/\post K E H H₀ (m ds) Q
theorem zax {CX:CXT}{k n:Nat}{fn:Addr}{fd:FuncData}{ps:List Str}{m:List D->Res D}{x:Str}{p:Pos}(F:zda X.prog X.w X.K X.mg X.base CX k fn fd ps (spD X.K n m))(hr:zjd k X.A)(hg:Gl X x)(hm:X.mg x=some (.ref fn))
  (hk:W.keepIn X.K (.ref fn)=true)(hb:zbk X.K fd ps [])(hx:zkg CX X E)(ha:DA X E (e::es) fa)(hn:(e::es).length=n:=by rfl)(hl:∀ ρ ds,fa ρ=.ok ds->ds.length=(e::es).length)
  (hdb:(x==("__debug__" : Str))=false:=by decide)(he:starEach (e::es) X.env=(false,eval e X.env)::starEach es X.env:=by exact zaM rfl)(hpl:(backTo pos (starEach es X.env)).any (·.1)=false:=by exact zbH rfl) :
  DE X E (.Call (.Name x p) (e::es) [] pos) (zan fa m):=by
 refine⟨?_⟩
 refine za3 (zAv F hr hg hm hk hb .nil hx ha.o hdb he hpl) fun σ H Q h=>?_
 obtain⟨H₀,ρ,hs,hr,q⟩:=h
 refine⟨H₀,ρ,hs,hr,?_⟩
 unfold zan at q
 cases e1:fa ρ with
 | stuck=>rw[e1] at q;exact q
 | exn x=>rw[e1] at q;exact q
 | ok ds =>
  rw[e1] at q
  intro v H1 H01 g1 r1
  refine⟨?_,H01,ds,g1.sub,by simpa using r1,post.grow (r:=m ds) q g1⟩
  have:=r1.length
  have:=hl ρ ds e1
  simp only[List.append_nil]
  omega
theorem zat {ρ:Ev}{ds:List D}(h:zau ρ=.ok ds):ds.length=0:=by cases h;rfl
theorem zag {ρ:Ev}{ds:List D}{n:Nat}(hr:∀ es,fa ρ=.ok es->es.length=n)(h:zad f fa ρ=.ok ds):ds.length=n+1:=by
 unfold zad at h
 cases e1:f ρ with
 | stuck=>rw[e1] at h;cases h
 | exn x=>rw[e1] at h;cases h
 | ok x =>
  rw[e1] at h
  replace h:((fa ρ).bind fun xs=>Res.ok (x::xs))=.ok ds:=h
  cases e2:fa ρ with
  | stuck=>rw[e2] at h;cases h
  | exn x=>rw[e2] at h;cases h
  | ok xs =>
   rw[e2] at h
   cases h
   simp [hr xs e2]
def zlD (X:Cx)(E:XK)(r:List V->Hp->VK->Prop)(m:List D->Res D):Prop:=∀ (ds:List D) (vs:List V) (H H₀:Hp) (Q:VK),za2 H₀ H->Reps X.K H₀ ds vs->post X.K E H H₀ (m ds) Q->r vs H Q
theorem zaT {id:String}{r:List V->Hp->VK->Prop}{m:List D->Res D}{x:Str}{p:Pos}(hc:zkh X (.builtin id) r)(hd:zlD X E r m)(hg:Gl X x)(hm:X.mg x=none)(hv:bootBuiltins x=some (.builtin id))(ha:DA X E (e::es) fa)(hn:x≠"__name__":=by decide)(hdb:(x==("__debug__" : Str))=false:=by decide)
  (he:starEach (e::es) X.env=(false,eval e X.env)::starEach es X.env:=by exact zaM rfl)(hpl:(backTo pos (starEach es X.env)).any (·.1)=false:=by exact zbH rfl):DE X E (.Call (.Name x p) (e::es) [] pos) (zan fa m) :=
 ⟨za3 (zlE hc hg hm hv ha.o hn hdb he hpl) (zit hd)⟩
theorem zyI (h:PT X e (tB (tD X.K E f))):DT X E e f:=by
 refine⟨?_⟩
 refine zod h fun σ H Q ⟨H₀,ρ,hs,hr,q⟩=>⟨H₀,ρ,hs,hr,?_⟩
 cases e1:f ρ with
 | stuck=>rw[e1] at q;exact q
 | exn x=>rw[e1] at q;exact q
 | ok d =>
  rw[e1] at q
  intro v H1 H01 g1 r1
  cases d with
  | bl b=>rw[Rep.bl_iff.mp r1];exact⟨b,rfl,q H1 H01 g1⟩
  | _=>exact q.elim
theorem zbN (h:DE X E e f)(he:∀ whole,isTrue e X.env whole=(do let v ← whole;standAt e.pos;holding [v] (truthy v)):=by intro _;rfl):DT X E e f:=zyI (zCa h.o he)
theorem zaJ {op:CmpOp}{r:R2}{o:D->D->Res D}(h:OpR X (compareOp op) r)(ho:OpD X.K E r o)(ha:DE X E a f)(hb:DE X E b g)(hm:behindInMarks op b=false):DT X E (.Compare a [op] [b] pos) (zab f g o):=by
 refine⟨?_⟩
 refine zod (zAj h ha.o hb.o hm) fun σ H Q h=>?_
 have w:tD X.K E (zab f g o) σ H fun x H'=>∃ k,x=.bl k/\Q k H':=by
  obtain⟨H₀,ρ,hs,hr,q⟩:=h
  refine⟨H₀,ρ,hs,hr,?_⟩
  cases e1:zab f g o ρ with
  | stuck=>rw[e1] at q;exact q
  | exn x=>rw[e1] at q;exact q
  | ok d =>
   rw[e1] at q
   intro v H1 H01 g1 r1
   cases d with
   | bl b=>rw[Rep.bl_iff.mp r1];exact⟨b,rfl,q H1 H01 g1⟩
   | _=>exact q.elim
 exact zjP ho σ H _ w
def zdN (f:Ev->Res D):Ev->Res D:=za4 f fun x=>match x with
 | .bl b=>.ok (.bl (!b))
 | _=>.stuck
def zhG (f g:Ev->Res D):Ev->Res D:=fun ρ=>(f ρ).bind fun x=>match x with
 | .bl true=>g ρ
 | .bl false=>.ok (.bl false)
 | _=>.stuck
def dOr (f g:Ev->Res D):Ev->Res D:=fun ρ=>(f ρ).bind fun x=>match x with
 | .bl true=>.ok (.bl true)
 | .bl false=>g ρ
 | _=>.stuck
theorem zb9 (ha:DT X E a f):DT X E (.UnaryOp .Not a pos) (zdN f):=by
 refine⟨?_⟩
 refine zod (zCb ha.o) fun σ H Q ⟨H₀,ρ,hs,hr,q⟩=>⟨H₀,ρ,hs,hr,?_⟩
 unfold zdN za4 at q
 cases e1:f ρ with
 | stuck=>rw[e1] at q;exact q
 | exn x=>rw[e1] at q;exact q
 | ok d =>
  rw[e1] at q
  cases d with
  | bl b=>exact q
  | _=>exact q.elim
theorem zwC (ha:DE X E a f):DE X E (.UnaryOp .Not a pos) (zdN f):=by
 refine⟨?_⟩
 refine za3 (zCk ha.o) fun σ H Q ⟨H₀,ρ,hs,hr,q⟩=>⟨H₀,ρ,hs,hr,?_⟩
 unfold zdN za4 at q
 cases e1:f ρ with
 | stuck=>rw[e1] at q;exact q
 | exn x=>rw[e1] at q;exact q
 | ok d =>
  rw[e1] at q
  intro v H1 H01 g1 r1
  cases d with
  | bl b=>rw[Rep.bl_iff.mp r1];exact⟨b,rfl,q (.bl !b) H1 H01 g1 (Rep.bl_iff.mpr rfl)⟩
  | _=>exact q.elim
variable {rest:List Expr}
theorem zdK (ha:DT X E a f):DW X E (.BoolOp .And [a] pos) f:=⟨zAi ha.o⟩
theorem zbc (ha:DT X E a f):DW X E (.BoolOp .Or [a] pos) f:=⟨zB6 ha.o⟩
theorem zg7 (ha:DT X E a f)(hb:DW X E (.BoolOp .And (b::rest) pos) g):DW X E (.BoolOp .And (a::b::rest) pos) (zhG f g):=by
 refine⟨?_⟩
 refine zvo (zB7 ha.o hb.o) fun σ H Q ⟨H₀,ρ,hs,hr,q⟩=>⟨H₀,ρ,hs,hr,?_⟩
 unfold zhG at q
 cases e1:f ρ with
 | stuck=>rw[e1] at q;exact q
 | exn x=>rw[e1] at q;exact q
 | ok d =>
  rw[e1] at q
  cases d with
  | bl b =>
   cases b with
   | true=>exact fun H1 H01 g1=>⟨H01,ρ,g1.sub,hr.mono g1.z,zrf.grow (r:=g ρ) q g1⟩
   | false=>exact fun H1 H01 g1=>q H1 H01 g1
  | _=>exact q.elim
theorem zf7 (ha:DT X E a f)(hb:DW X E (.BoolOp .Or (b::rest) pos) g):DW X E (.BoolOp .Or (a::b::rest) pos) (dOr f g):=by
 refine⟨?_⟩
 refine zvo (zDN ha.o hb.o) fun σ H Q ⟨H₀,ρ,hs,hr,q⟩=>⟨H₀,ρ,hs,hr,?_⟩
 unfold dOr at q
 cases e1:f ρ with
 | stuck=>rw[e1] at q;exact q
 | exn x=>rw[e1] at q;exact q
 | ok d =>
  rw[e1] at q
  cases d with
  | bl b =>
   cases b with
   | false=>exact fun H1 H01 g1=>⟨H01,ρ,g1.sub,hr.mono g1.z,zrf.grow (r:=g ρ) q g1⟩
   | true=>exact fun H1 H01 g1=>q H1 H01 g1
  | _=>exact q.elim
theorem DW.dt (h:DW X E e f):DT X E e f:=⟨PW.pt h.o⟩
theorem zjr {op}(h:DE X E a f):DE X E (.BoolOp op [a] pos) f:=⟨zCj h.o⟩
theorem zlg (ha:DE X E a f)(hb:DE X E (.BoolOp .And (b::rest) pos) g):DE X E (.BoolOp .And (a::b::rest) pos) (zhG f g):=by
 refine⟨?_⟩
 refine za3 (zCo ha.o hb.o) fun σ H Q ⟨H₀,ρ,hs,hr,q⟩=>⟨H₀,ρ,hs,hr,?_⟩
 unfold zhG at q
 cases e1:f ρ with
 | stuck=>rw[e1] at q;exact q
 | exn x=>rw[e1] at q;exact q
 | ok d =>
  rw[e1] at q
  intro v H1 H01 g1 r1
  cases d with
  | bl b =>
   rw[Rep.bl_iff.mp r1]
   cases b with
   | true=>exact⟨true,rfl,H01,ρ,g1.sub,hr.mono g1.z,post.grow (r:=g ρ) q g1⟩
   | false=>exact⟨false,rfl,q (.bl false) H1 H01 g1 (Rep.bl_iff.mpr rfl)⟩
  | _=>exact q.elim
theorem zCX (ha:DE X E a f)(hb:DE X E (.BoolOp .Or (b::rest) pos) g):DE X E (.BoolOp .Or (a::b::rest) pos) (dOr f g):=by
 refine⟨?_⟩
 refine za3 (zDV ha.o hb.o) fun σ H Q ⟨H₀,ρ,hs,hr,q⟩=>⟨H₀,ρ,hs,hr,?_⟩
 unfold dOr at q
 cases e1:f ρ with
 | stuck=>rw[e1] at q;exact q
 | exn x=>rw[e1] at q;exact q
 | ok d =>
  rw[e1] at q
  intro v H1 H01 g1 r1
  cases d with
  | bl b =>
   rw[Rep.bl_iff.mp r1]
   cases b with
   | false=>exact⟨false,rfl,H01,ρ,g1.sub,hr.mono g1.z,post.grow (r:=g ρ) q g1⟩
   | true=>exact⟨true,rfl,q (.bl true) H1 H01 g1 (Rep.bl_iff.mpr rfl)⟩
  | _=>exact q.elim
def dIf (c f g:Ev->Res D):Ev->Res D:=fun ρ=>(c ρ).bind fun x=>match x with
 | .bl true=>f ρ
 | .bl false=>g ρ
 | _=>.stuck
theorem zyO {c:Expr}{fc:Ev->Res D}(hc:DT X E c fc)(ha:DE X E a f)(hb:DE X E b g):DE X E (.IfExp c a b pos) (dIf fc f g):=by
 refine⟨?_⟩
 refine za3 (zxY hc.o ha.o hb.o) fun σ H Q ⟨H₀,ρ,hs,hr,q⟩=>⟨H₀,ρ,hs,hr,?_⟩
 unfold dIf at q
 cases e1:fc ρ with
 | stuck=>rw[e1] at q;exact q
 | exn x=>rw[e1] at q;exact q
 | ok d =>
  rw[e1] at q
  cases d with
  | bl b =>
   cases b with
   | true=>exact fun H1 H01 g1=>⟨H01,ρ,g1.sub,hr.mono g1.z,post.grow (r:=f ρ) q g1⟩
   | false=>exact fun H1 H01 g1=>⟨H01,ρ,g1.sub,hr.mono g1.z,post.grow (r:=g ρ) q g1⟩
  | _=>exact q.elim
end
def zFp (K:W.Frag)(H₀ H:Hp)(a:Addr)(d:D):Prop:=match d with
 | .lst ds=>∃ vs,H a=some (.lst vs)/\Reps K H₀ ds vs
 | _=>False
def OXr (K:W.Frag)(He H₀ H:Hp)(a:Addr)(j:Nat)(ds:List D)(p:Addr):Prop:=∃ vs es us,He a=none/\H a=some (.tup vs)/\He p=none/\H₀ p=none/\ds[j]?=some (.lst es)/\vs[j]?=some (.ref p)/\H p=some (.lst us)/\Reps K H₀ es us/\ds.length=vs.length/\∀ k d v,k≠j->ds[k]?=some d->vs[k]?=some v->Rep K H₀ d v
def OX (K:W.Frag)(He H₀:Hp)(σ:L2.St)(H:Hp)(ρ:Ev):Prop:=∀ (i j:Nat) (ds:List D),ρ[i]?=some (.ox j ds)->∃ a p,σ[i]?=some (some (.ref a))/\OXr K He H₀ H a j ds p/\(∀ (k:Nat) (d:D),ρ[k]?=some (.ow d)->σ[k]?≠some (some (.ref p)))/\∀ (k j':Nat) (ds':List D),ρ[k]?=some (.ox j' ds')->k=i
theorem OX.upd {K:W.Frag}{He H₀ H₀' H H':Hp}{σ σ':L2.St}{ρ ρ':Ev}(h:OX K He H₀ σ H ρ)
  (hk:∀ (j:Nat) (s:Sl),ρ'[j]?=some s->(ρ[j]?=some s/\σ'[j]?=σ[j]?)∨(∃ d,s=.sh d)∨s=.no∨∃ d q,s=.ow d/\σ'[j]?=some (some (.ref q))/\∀ (i j:Nat) (ds:List D) (a p:Addr),ρ[i]?=some (.ox j ds)->σ[i]?=some (some (.ref a))->OXr K He H₀ H a j ds p->q≠p)
  (hz:za2 H₀ H₀')(ht:∀ a vs,He a=none->H a=some (.tup vs)->H' a=some (.tup vs))
  (hl:∀ p us,He p=none->H₀ p=none->H p=some (.lst us)->(∀ (k:Nat) (d:D),ρ[k]?=some (.ow d)->σ[k]?≠some (some (.ref p)))->H' p=some (.lst us)/\H₀' p=none):OX K He H₀' σ' H' ρ':=fun i j ds e=>by
 have old:ρ[i]?=some (.ox j ds)/\σ'[i]?=σ[i]?:=by
  rcases hk i _ e with h1 | ⟨d,h1⟩ | h1 | ⟨d,q,h1,_⟩
  ·exact h1
  ·cases h1
  ·cases h1
  ·cases h1
 obtain⟨a,p,h1,h2,h3,h4⟩:=h i j ds old.1
 have h2':=h2
 obtain⟨vs,es,us,r1,r2,r3,r4,r5,r6,r7,r8,r9,r10⟩:=h2
 obtain⟨l1,l2⟩:=hl p us r3 r4 r7 h3
 refine⟨a,p,old.2.trans h1,⟨vs,es,us,r1,ht a vs r1 r2,r3,l2,r5,r6,l1,r8.mono hz,r9,fun k d v hk e1 e2=>(r10 k d v hk e1 e2).mono hz⟩,fun k d ek z=>?_,fun k j' ds' ek=>?_⟩
 ·rcases hk k _ ek with h1' | ⟨d',h1'⟩ | h1' | ⟨d',q,h1',h2'',h3'⟩
  ·exact h3 k d h1'.1 (by rw[← h1'.2];exact z)
  ·cases h1'
  ·cases h1'
  ·rw[h2''] at z
   cases z
   exact h3' i j ds a p old.1 h1 h2' rfl
 ·rcases hk k _ ek with h1' | ⟨d',h1'⟩ | h1' | ⟨d',q,h1',_⟩
  ·exact h4 k j' ds' h1'.1
  ·cases h1'
  ·cases h1'
  ·cases h1'
theorem OX.none {K:W.Frag}{He H₀ H:Hp}{σ:L2.St}{ρ:Ev}(h:∀ (i j:Nat) (ds:List D),ρ[i]?≠some (.ox j ds)):OX K He H₀ σ H ρ:=fun i j ds e=>absurd e (h i j ds)
theorem zvl {K:W.Frag}{H:Hp}:∀ {ds:List D}{vs:List V},ds.length=vs.length->(∀ (k:Nat) (d:D) (v:V),ds[k]?=some d->vs[k]?=some v->Rep K H d v)->Reps K H ds vs
 | [],[],_,_=>Reps.nil
 | d::ds,v::vs,hl,h=>Reps.cons (h 0 d v rfl rfl) (zvl (by simpa using hl) fun k d' v' e1 e2=>h (k+1) d' v' e1 e2)
structure SRx (K:W.Frag) (He H0e H₀:Hp) (σ:L2.St) (H:Hp) (ρ:Ev):Prop where
 g:zbZ He H0e H H₀
 rd:ziB K H₀ σ ρ
 ow:∀ (i:Nat) (d:D),ρ[i]?=some (.ow d)->∃ a,σ[i]?=some (some (.ref a))/\He a=none/\H₀ a=none/\zFp K H₀ H a d
 ap:∀ (i j:Nat) (d d':D),i≠j->ρ[i]?=some (.ow d)->ρ[j]?=some (.ow d')->σ[i]?≠σ[j]?
 ln:ρ.length=σ.length
 ex:OX K He H₀ σ H ρ
inductive Fl where
 | nx (ρ:Ev) | rt (d:D) | bk (ρ:Ev) | ct (ρ:Ev)
def zcQ (K:W.Frag)(E:XK)(He H0e H₀:Hp)(r:Res Fl)(D:znm):Prop:=match r with
 | .ok (.nx ρ)=>∀ σ H H₀',za2 H₀ H₀'->SRx K He H0e H₀' σ H ρ->D.nx σ H
 | .ok (.rt d)=>∀ v H H₀',zbZ He H0e H H₀'->Rep K H₀' d v->D.rt v H
 | .ok (.bk ρ)=>∀ σ H H₀',za2 H₀ H₀'->SRx K He H0e H₀' σ H ρ->D.bk σ H
 | .ok (.ct ρ)=>∀ σ H H₀',za2 H₀ H₀'->SRx K He H0e H₀' σ H ρ->D.ct σ H
 | .exn x=>∀ C ox H H₀',zbZ He H0e H H₀'->ExR K H₀' x C ox->E C ox H
 | .stuck=>False
theorem zcQ.grow {K:W.Frag}{E:XK}{He H0e H₀ H₁:Hp}{r:Res Fl}{D:znm}(h:zcQ K E He H0e H₀ r D)(s:za2 H₀ H₁):zcQ K E He H0e H₁ r D:=by
 cases r with
 | ok f =>
  cases f with
  | nx ρ=>exact fun σ H H₀' s'=>h σ H H₀' (s.trans s')
  | rt d=>exact h
  | bk ρ=>exact fun σ H H₀' s'=>h σ H H₀' (s.trans s')
  | ct ρ=>exact fun σ H H₀' s'=>h σ H H₀' (s.trans s')
 | exn x=>exact h
 | stuck=>exact h
def tS (K:W.Frag)(E:XK)(He H0e:Hp)(g:Ev->Res Fl):TS:=fun D σ H=>∃ H₀ ρ,SRx K He H0e H₀ σ H ρ/\zcQ K E He H0e H₀ (g ρ) D
structure DS (X:Cx) (E:XK) (He H0e:Hp) (st:Stmt) (g:Ev->Res Fl):Prop where
 o:PS X st (tS X.K E He H0e g)
structure DSs (X:Cx) (E:XK) (He H0e:Hp) (st:List Stmt) (g:Ev->Res Fl):Prop where
 o:PSs X st (tS X.K E He H0e g)
def shr (ρ:Ev):Ev:=ρ.map fun s=>match s with
 | .ow d=>.sh d
 | .ox _ ds=>.sh (.tup ds)
 | x=>x
def frz (He H₀ H:Hp):Hp:=fun a=>match He a with
 | none=>H a
 | some _=>H₀ a
section
variable {K:W.Frag}{E:XK}{He H0e H₀ H H1:Hp}{σ:L2.St}{ρ:Ev}
theorem SRx.same (h:SRx K He H0e H₀ σ H ρ)(s:za2 H H1):SRx K He H0e H₀ σ H1 ρ :=
 ⟨⟨h.g.s.trans s,h.g.z,h.g.sub.trans s,h.g.nw⟩,h.rd,fun i d e=>by
  obtain⟨a,h1,h2,h3,h4⟩:=h.ow i d e
  refine⟨a,h1,h2,h3,?_⟩
  cases d with
  | lst ds=>obtain⟨vs,h5,h6⟩:=h4;exact⟨vs,s _ _ h5,h6⟩
  | _=>exact h4,h.ap,h.ln,h.ex.upd (fun j s' e=>.inl ⟨e,rfl⟩) (za2.refl _) (fun a vs _ e=>s _ _ e) fun p us _ h0 hp _=>⟨s _ _ hp,h0⟩⟩
theorem SRx.grow {H01:Hp}(h:SRx K He H0e H₀ σ H ρ)(s:zbZ H H₀ H1 H01):SRx K He H0e H01 σ H1 ρ :=
 ⟨h.g.trans s,h.rd.mono s.z,fun i d e=>by
  obtain⟨a,h1,h2,h3,h4⟩:=h.ow i d e
  have ha:H01 a=none:=by
   cases q:H01 a with
   | none=>rfl
   | some o =>
    have:=s.nw a (by rw[q];simp) h3
    cases d with
    | lst ds=>obtain⟨vs,h5,_⟩:=h4;rw[h5] at this;cases this
    | _=>exact h4.elim
  refine⟨a,h1,h2,ha,?_⟩
  cases d with
  | lst ds=>obtain⟨vs,h5,h6⟩:=h4;exact⟨vs,s.s _ _ h5,h6.mono s.z⟩
  | _=>exact h4,h.ap,h.ln,h.ex.upd (fun j s' e=>.inl ⟨e,rfl⟩) s.z (fun a vs _ e=>s.s _ _ e) fun p us _ h0 hp _=>⟨s.s _ _ hp,by
   cases q:H01 p with
   | none=>rfl
   | some o=>have:=s.nw p (by rw[q];simp) h0;rw[hp] at this;cases this⟩⟩
theorem SRx.frz_sub (h:SRx K He H0e H₀ σ H ρ):za2 H₀ (frz He H₀ H):=fun b o e=>by
 unfold frz
 cases q:He b with
 | none=>exact h.g.sub _ _ e
 | some _=>exact e
theorem SRx.frz_le (h:SRx K He H0e H₀ σ H ρ):za2 (frz He H₀ H) H:=fun b o e=>by
 unfold frz at e
 cases q:He b with
 | none=>rw[q] at e;exact e
 | some _=>rw[q] at e;exact h.g.sub _ _ e
theorem SRx.frz_grow (h:SRx K He H0e H₀ σ H ρ):zbZ He H0e H (frz He H₀ H) :=
 ⟨h.g.s,h.g.z.trans h.frz_sub,h.frz_le,fun a h1 h2=>by
  cases q:He a with
  | none=>rfl
  | some o =>
   unfold frz at h1
   rw[q] at h1
   have:=h.g.nw a h1 h2
   rw[q] at this;cases this⟩
theorem SRx.looks (h:SRx K He H0e H₀ σ H ρ):ziB K (frz He H₀ H) σ (shr ρ):=fun i d e=>by
 unfold shr at e
 rw[List.getElem?_map] at e
 cases q:ρ[i]? with
 | none=>rw[q] at e;cases e
 | some s =>
  rw[q] at e
  cases s with
  | no=>cases e
  | sh d' =>
   cases e
   obtain⟨v,h1,h2⟩:=h.rd i d q
   exact⟨v,h1,h2.mono h.frz_sub⟩
  | ow d' =>
   cases e
   obtain⟨a,h1,h2,h3,h4⟩:=h.ow i d q
   refine⟨_,h1,?_⟩
   cases d with
   | lst ds =>
    obtain⟨vs,h5,h6⟩:=h4
    exact Rep.lst_iff.mpr ⟨a,vs,rfl,SqL.of (by unfold frz;rw[h2];exact h5),h6.mono h.frz_sub⟩
   | _=>exact h4.elim
  | ox j ds =>
   cases e
   obtain⟨a,p,h1,⟨vs,es,us,r1,r2,r3,r4,r5,r6,r7,r8,r9,r10⟩,_⟩:=h.ex i j ds q
   refine⟨_,h1,Rep.tup_iff.mpr ⟨a,vs,rfl,SqT.of (by unfold frz;rw[r1];exact r2),zvl r9 fun k d v e1 e2=>?_⟩⟩
   by_cases hk:k=j
   ·subst hk
    rw[r5] at e1;cases e1
    rw[r6] at e2;cases e2
    exact Rep.lst_iff.mpr ⟨p,us,rfl,SqL.of (by unfold frz;rw[r3];exact r7),r8.mono h.frz_sub⟩
   ·exact(r10 k d v hk e1 e2).mono h.frz_sub
theorem SRx.put (h:SRx K He H0e H₀ σ H ρ){i:Nat}{d:D}{v:V}(r:Rep K H₀ d v):SRx K He H0e H₀ (σ.set i (some v)) H (ρ.set i (.sh d)):=by
 have key:∀ (j:Nat) (s:Sl),(ρ.set i (.sh d))[j]?=some s->(j=i/\s=.sh d/\i < σ.length)∨(j≠i/\ρ[j]?=some s):=fun j s e=>by
  by_cases hj:i=j
  ·subst hj
   rw[List.getElem?_set_self'] at e
   cases q:ρ[i]? with
   | none=>rw[q] at e;cases e
   | some s' =>
    rw[q] at e
    cases e
    refine .inl ⟨rfl,rfl,?_⟩
    rw[← h.ln]
    exact(List.getElem?_eq_some_iff.mp q).1
  ·rw[List.getElem?_set_ne hj] at e
   exact .inr ⟨fun z=>hj z.symm,e⟩
 refine⟨h.g,fun j d' e=>?_,fun j d' e=>?_,fun j k d1 d2 hn e1 e2=>?_,by simp [h.ln],h.ex.upd (fun j s e=>?_) (za2.refl _) (fun a vs _ e=>e) fun p us _ h0 hp _=>⟨hp,h0⟩⟩
 rotate_left 3
 ·rcases key j _ e with⟨rfl,e',hl⟩ | ⟨hj,e'⟩
  ·exact .inr (.inl ⟨d,e'⟩)
  ·exact .inl ⟨e',by rw[List.getElem?_set_ne (Ne.symm hj)]⟩
 ·rcases key j _ e with⟨rfl,e',hl⟩ | ⟨hj,e'⟩
  ·cases e'
   exact⟨v,by rw[List.getElem?_set_self hl],r⟩
  ·obtain⟨v',h1,h2⟩:=h.rd j d' e'
   exact⟨v',by rw[List.getElem?_set_ne (Ne.symm hj)];exact h1,h2⟩
 ·rcases key j _ e with⟨rfl,e',hl⟩ | ⟨hj,e'⟩
  ·cases e'
  ·obtain⟨a,h1,h2⟩:=h.ow j d' e'
   exact⟨a,by rw[List.getElem?_set_ne (Ne.symm hj)];exact h1,h2⟩
 ·rcases key j _ e1 with⟨_,e',_⟩ | ⟨hj,e1'⟩
  ·cases e'
  rcases key k _ e2 with⟨_,e',_⟩ | ⟨hk,e2'⟩
  ·cases e'
  rw[List.getElem?_set_ne (Ne.symm hj),List.getElem?_set_ne (Ne.symm hk)]
  exact h.ap j k d1 d2 hn e1' e2'
theorem SRx.putOwn (h:SRx K He H0e H₀ σ H ρ){i:Nat}{ds:List D}{vs:List V}{p:Addr}(hp:∀ (j:Nat) (a:Addr),σ[j]?=some (some (V.ref a))->a=p->∀ d:D,ρ[j]?≠some (Sl.ow d))(he:He p=none)(h0:H₀ p=none)(hv:H p=some (.lst vs))(r:Reps K H₀ ds vs)(hx:∀ (i j:Nat) (ds:List D) (a q:Addr),ρ[i]?=some (.ox j ds)->σ[i]?=some (some (.ref a))->OXr K He H₀ H a j ds q->p≠q) :
  SRx K He H0e H₀ (σ.set i (some (.ref p))) H (ρ.set i (.ow (.lst ds))):=by
 have key:∀ (j:Nat) (s:Sl),(ρ.set i (.ow (.lst ds)))[j]?=some s->(j=i/\s=.ow (.lst ds)/\i < σ.length)∨(j≠i/\ρ[j]?=some s):=fun j s e=>by
  by_cases hj:i=j
  ·subst hj
   rw[List.getElem?_set_self'] at e
   cases q:ρ[i]? with
   | none=>rw[q] at e;cases e
   | some s' =>
    rw[q] at e
    cases e
    refine .inl ⟨rfl,rfl,?_⟩
    rw[← h.ln]
    exact(List.getElem?_eq_some_iff.mp q).1
  ·rw[List.getElem?_set_ne hj] at e
   exact .inr ⟨fun z=>hj z.symm,e⟩
 have other:∀ (k:Nat) (d2:D),k≠i->ρ[k]?=some (.ow d2)->some (some (V.ref p))≠σ[k]?:=fun k d2 hk e2 z=>by
  obtain⟨a,h1,_⟩:=h.ow k d2 e2
  rw[h1] at z
  cases z
  exact hp k p h1 rfl d2 e2
 refine⟨h.g,fun j d' e=>?_,fun j d' e=>?_,fun j k d1 d2 hn e1 e2=>?_,by simp [h.ln],h.ex.upd (fun j s e=>?_) (za2.refl _) (fun a vs _ e=>e) fun p us _ h0 hp _=>⟨hp,h0⟩⟩
 rotate_left 3
 ·rcases key j _ e with⟨rfl,e',hl⟩ | ⟨hj,e'⟩
  ·exact .inr (.inr (.inr ⟨.lst ds,p,e',by rw[List.getElem?_set_self hl],hx⟩))
  ·exact .inl ⟨e',by rw[List.getElem?_set_ne (Ne.symm hj)]⟩
 ·rcases key j _ e with⟨rfl,e',hl⟩ | ⟨hj,e'⟩
  ·cases e'
  ·obtain⟨v',h1,h2⟩:=h.rd j d' e'
   exact⟨v',by rw[List.getElem?_set_ne (Ne.symm hj)];exact h1,h2⟩
 ·rcases key j _ e with⟨rfl,e',hl⟩ | ⟨hj,e'⟩
  ·cases e'
   exact⟨p,by rw[List.getElem?_set_self hl],he,h0,vs,hv,r⟩
  ·obtain⟨a,h1,h2⟩:=h.ow j d' e'
   exact⟨a,by rw[List.getElem?_set_ne (Ne.symm hj)];exact h1,h2⟩
 ·rcases key j _ e1 with⟨rfl,_,hl⟩ | ⟨hj,e1'⟩
  ·rcases key k _ e2 with⟨rfl,_,_⟩ | ⟨hk,e2'⟩
   ·exact absurd rfl hn
   ·rw[List.getElem?_set_self hl,List.getElem?_set_ne (Ne.symm hk)]
    exact other k d2 hk e2'
  ·rcases key k _ e2 with⟨rfl,_,hl⟩ | ⟨hk,e2'⟩
   ·rw[List.getElem?_set_self hl,List.getElem?_set_ne (Ne.symm hj)]
    exact fun z=>other j d1 hj e1' z.symm
   ·rw[List.getElem?_set_ne (Ne.symm hj),List.getElem?_set_ne (Ne.symm hk)]
    exact h.ap j k d1 d2 hn e1' e2'
theorem SRx.fresh_x {H01:Hp}{p:Addr}(h:SRx K He H0e H₀ σ H ρ)(s:za2 H H1)(hp:H p=none):∀ (i j:Nat) (ds:List D) (a q:Addr),ρ[i]?=some (.ox j ds)->σ[i]?=some (some (.ref a))->OXr K He H01 H1 a j ds q->p≠q:=fun i j ds a q x1 x2 x3=>by
 obtain⟨a2,p2,y1,⟨vs2,_,us2,_,z3,_,_,_,z4,z5,_⟩,_⟩:=h.ex i j ds x1
 rw[x2] at y1;cases y1
 obtain⟨vs1,_,_,_,z1,_,_,_,z2,_⟩:=x3
 have:=s _ _ z3
 rw[z1] at this;cases this
 rw[z2] at z4;cases z4
 intro z;subst z
 rw[hp] at z5;cases z5
theorem SRx.write (h:SRx K He H0e H₀ σ H ρ){i:Nat}{d:D}{p:Addr}{ds:List D}{vs:List V}(e:ρ[i]?=some (.ow d))(es:σ[i]?=some (some (.ref p)))(r:Reps K H₀ ds vs) :
  SRx K He H0e H₀ σ (upd H p (.lst vs)) (ρ.set i (.ow (.lst ds))):=by
 obtain⟨a,h1,h2,h3,h4⟩:=h.ow i d e
 rw[h1] at es;cases es
 have hil:i < ρ.length:=(List.getElem?_eq_some_iff.mp e).1
 have key:∀ (j:Nat) (s:Sl),(ρ.set i (.ow (.lst ds)))[j]?=some s->(j=i/\s=.ow (.lst ds))∨(j≠i/\ρ[j]?=some s):=fun j s e=>by
  by_cases hj:i=j
  ·subst hj
   rw[List.getElem?_set_self hil] at e
   cases e
   exact .inl ⟨rfl,rfl⟩
  ·rw[List.getElem?_set_ne hj] at e
   exact .inr ⟨fun z=>hj z.symm,e⟩
 refine⟨⟨fun b o eb=>?_,h.g.z,fun b o eb=>?_,h.g.nw⟩,fun j d' e'=>?_,fun j d' e'=>?_,fun j k d1 d2 hn e1 e2=>?_,by simp [h.ln],h.ex.upd (fun j s e'=>?_) (za2.refl _) (fun b us _ eb=>?_) fun q us _ q0 hq hd=>?_⟩
 rotate_left 5
 ·rcases key j _ e' with⟨rfl,e''⟩ | ⟨hj,e''⟩
  ·exact .inr (.inr (.inr ⟨.lst ds,p,e'',h1,fun i' j' ds' a' p' x1 x2 x3=>by
    obtain⟨a2,p2,y1,y2,y3,_⟩:=h.ex i' j' ds' x1
    rw[x2] at y1;cases y1
    have:p2=p':=by
     obtain⟨vs1,_,_,_,z1,_,_,_,z2,_⟩:=x3
     obtain⟨vs2,_,_,_,z3,_,_,_,z4,_⟩:=y2
     rw[z1] at z3;cases z3
     rw[z2] at z4;cases z4;rfl
    subst this
    intro zz;subst zz
    exact y3 j d e h1⟩))
  ·exact .inl ⟨e'',rfl⟩
 ·rw[zaE (by
   intro z;subst z
   cases d with
   | lst ds'=>obtain⟨vs',h5,_⟩:=h4;rw[h5] at eb;cases eb
   | _=>exact h4)];exact eb
 ·have hq':q≠p:=by
   intro z;subst z
   exact hd i d e h1
  exact⟨by rw[zaE hq'];exact hq,q0⟩
 ·rw[zaE (by intro z;subst z;rw[h2] at eb;cases eb)];exact h.g.s _ _ eb
 ·rw[zaE (by intro z;subst z;rw[h3] at eb;cases eb)];exact h.g.sub _ _ eb
 ·rcases key j _ e' with⟨rfl,e''⟩ | ⟨hj,e''⟩
  ·cases e''
  ·exact h.rd j d' e''
 ·rcases key j _ e' with⟨rfl,e''⟩ | ⟨hj,e''⟩
  ·cases e''
   exact⟨p,h1,h2,h3,vs,zaB,r⟩
  ·obtain⟨b,k1,k2,k3,k4⟩:=h.ow j d' e''
   refine⟨b,k1,k2,k3,?_⟩
   have hb:b≠p:=by
    intro z;subst z
    exact h.ap j i d' d hj e'' e (by rw[k1,h1])
   cases d' with
   | lst ds' =>
    obtain⟨vs',h5,h6⟩:=k4
    exact⟨vs',by rw[zaE hb];exact h5,h6⟩
   | _=>exact k4.elim
 ·rcases key j _ e1 with⟨rfl,e1'⟩ | ⟨hj,e1'⟩
  ·rcases key k _ e2 with⟨rfl,_⟩ | ⟨hk,e2'⟩
   ·exact absurd rfl hn
   ·exact h.ap j k d d2 hn e e2'
  ·rcases key k _ e2 with⟨rfl,_⟩ | ⟨hk,e2'⟩
   ·exact h.ap j k d1 d hn e1' e
   ·exact h.ap j k d1 d2 hn e1' e2'
end
mutual
def zzu:D->Bool
 | .lst _=>false
 | .dic _ _=>false
 | .exc _=>false
 | .ob _ _=>false
 | .tup ds=>flats ds
 | _=>true
def flats:List D->Bool
 | []=>true
 | d::ds=>zzu d&&flats ds
end
section
variable {K:W.Frag}{E:XK}{He H0e H₀ H H1 J:Hp}{σ:L2.St}{ρ:Ev}
end
section
variable {X:Cx}{E:XK}{He H0e:Hp}{st:Stmt}{rest:List Stmt}{e a b:Expr}{es:List Expr}{f g:Ev->Res D}{fa:Ev->Res (List D)}{s t:Ev->Res Fl}{pos:Pos}
theorem zdn {t t':TS}(h:PS X st t)(w:∀ D σ H,t' D σ H->t D σ H):PS X st t':=fun pins s σ H D I q=>h pins s σ H D I (w D σ H q)
theorem zhh {t t':TS}(h:PSs X rest t)(w:∀ D σ H,t' D σ H->t D σ H):PSs X rest t':=fun pins s σ H D I q=>h pins s σ H D I (w D σ H q)
def zal:Ev->Res Fl:=fun ρ=>.ok (.nx ρ)
def zap (s t:Ev->Res Fl):Ev->Res Fl:=fun ρ=>(s ρ).bind fun r=>match r with
 | .nx ρ'=>t ρ'
 | r=>.ok r
theorem zah:DSs X E He H0e [] zal:=⟨zhh zrb fun D σ H ⟨H₀,ρ,h,q⟩=>q σ H H₀ (za2.refl _) h⟩
theorem zac (h1:DS X E He H0e st s)(h2:DSs X E He H0e rest t):DSs X E He H0e (st::rest) (zap s t):=by
 refine⟨?_⟩
 refine zhh (zjS h1.o h2.o) fun D σ H ⟨H₀,ρ,h,q⟩=>⟨H₀,ρ,h,?_⟩
 unfold zap at q
 cases e1:s ρ with
 | stuck=>rw[e1] at q;exact q
 | exn x=>rw[e1] at q;exact q
 | ok r =>
  rw[e1] at q
  cases r with
  | nx ρ'=>exact fun σ' H' H₀' s' h'=>⟨H₀',ρ',h',zcQ.grow (r:=t ρ') q s'⟩
  | rt d=>exact q
  | bk ρ'=>exact q
  | ct ρ'=>exact q
def zee:Ev->Res Fl:=fun _=>.stuck
theorem plain {K:W.Frag}{H₀ H:Hp}{σ:L2.St}{ρ:Ev}{k:D->Res Fl}{D':znm}(h:SRx K He H0e H₀ σ H ρ){r:Res D}{Q:VK}
  (q:zcQ K E He H0e H₀ (r.bind k) D')(hk:∀ d v H' H₀',r=.ok d->zbZ H H₀ H' H₀'->Rep K H₀' d v->zcQ K E He H0e H₀' (k d) D'->Q v H'):post K E H H₀ r Q:=by
 cases r with
 | stuck=>exact q
 | exn x=>exact fun C ox H' H₀' g ex=>q C ox H' H₀' (h.g.trans g) ex
 | ok d=>exact fun v H' H₀' g rp=>hk d v H' H₀' rfl g rp (zcQ.grow (r:=k d) q g.z)
theorem look {K:W.Frag}{H₀ H:Hp}{σ:L2.St}{ρ:Ev}{k:D->Res Fl}{D':znm}(h:SRx K He H0e H₀ σ H ρ){r:Res D}{Q:VK}
  (q:zcQ K E He H0e H₀ (r.bind k) D')(hk:∀ d v H' J,r=.ok d->zbZ H (frz He H₀ H) H' J->Rep K J d v->zcQ K E He H0e H₀ (k d) D'->Q v H'):post K E H (frz He H₀ H) r Q:=by
 cases r with
 | stuck=>exact q
 | exn x=>exact fun C ox H' H₀' g ex=>q C ox H' H₀' (h.frz_grow.trans g) ex
 | ok d=>exact fun v H' J g rp=>hk d v H' J rfl g rp q
theorem zCB {K:W.Frag}{H₀ H:Hp}{σ:L2.St}{ρ:Ev}{k:Bool->Res Fl}{D':znm}(h:SRx K He H0e H₀ σ H ρ){r:Res D}{Q:Bool->Hp->Prop}
  (q:zcQ K E He H0e H₀ (r.bind fun x=>match x with | .bl b=>k b | _=>.stuck) D')(hk:∀ b H',za2 H H'->zcQ K E He H0e H₀ (k b) D'->Q b H'):zrf K E H (frz He H₀ H) r Q:=by
 cases r with
 | stuck=>exact q
 | exn x=>exact fun C ox H' H₀' g ex=>q C ox H' H₀' (h.frz_grow.trans g) ex
 | ok d =>
  cases d with
  | bl b=>exact fun H' J g=>hk b H' g.s q
  | _=>exact q.elim
def za7 (i:Nat)(f:Ev->Res D):Ev->Res Fl:=fun ρ=>(f ρ).bind fun d=>.ok (.nx (ρ.set i (.sh d)))
def zDF (i:Nat)(f:Ev->Res D):Ev->Res Fl:=fun ρ=>(f (shr ρ)).bind fun d=>if zzu d=true then .ok (.nx (ρ.set i (.sh d))) else .stuck
def zcf (f:Ev->Res D):Ev->Res Fl:=fun ρ=>(f (shr ρ)).bind fun d=>.ok (.rt d)
def zg3 (f:Ev->Res D):Ev->Res Fl:=fun ρ=>(f (shr ρ)).bind fun _=>.ok (.nx ρ)
def sIf (c:Ev->Res D)(s t:Ev->Res Fl):Ev->Res Fl:=fun ρ=>(c (shr ρ)).bind fun x=>match x with
 | .bl b=>if b=true then s ρ else t ρ
 | _=>.stuck
theorem zaF {i:Nat}{x:Str}{pos':Pos}(hN:X.N.Nodup)(hi:X.N[i]?=some x)(hx:Loc X.env.scope x)(he:DE X E e f)(hs:swapsWith e (some (.Name x pos')) pos.line X.env=pure false:=by rfl)
  (hf:X.fn x=true∨X.env.scope.names.lookup x=some .local := by first | exact .inl rfl | exact .inr rfl | assumption):DS X E He H0e (.Assign [.Name x pos'] e pos) (za7 i f):=by
 refine⟨?_⟩
 refine zdn (zzk hN hi hx he.o hs hf) fun D σ H ⟨H₀,ρ,h,q⟩=>⟨H₀,ρ,h.g.sub,h.rd,?_⟩
 refine plain h q fun d v H' H₀' _ g rp q'=>?_
 exact q' _ H' H₀' (za2.refl _) ((h.grow g).put rp)
theorem zaK (he:DE X E e f):DS X E He H0e (.Return (some e) pos) (zcf f):=by
 refine⟨?_⟩
 refine zdn (zCc he.o) fun D σ H ⟨H₀,ρ,h,q⟩=>⟨frz He H₀ H,shr ρ,h.frz_le,h.looks,?_⟩
 exact look h q fun d v H' J _ g rp q'=>q' v H' J (h.frz_grow.trans g) rp
def zDG:Ev->Res Fl:=fun _=>.ok (.rt .non)
theorem zia (he:DE X E e f)(hs:swapsWith e none pos.line X.env=pure false:=by rfl):DS X E He H0e (.Expr e pos) (zg3 f):=by
 refine⟨?_⟩
 refine zdn (zrc he.o hs) fun D σ H ⟨H₀,ρ,h,q⟩=>⟨frz He H₀ H,shr ρ,h.frz_le,h.looks,?_⟩
 exact look h q fun d v H' J _ g rp q'=>q' σ H' H₀ (za2.refl _) (h.same g.s)
theorem zbL {c:Expr}{fc:Ev->Res D}{sa sb:List Stmt}(hc:DT X E c fc)(ha:DSs X E He H0e sa s)(hb:DSs X E He H0e sb t):DS X E He H0e (.If c sa sb pos) (sIf fc s t):=by
 refine⟨?_⟩
 refine zdn (zDR hc.o ha.o hb.o) fun D σ H ⟨H₀,ρ,h,q⟩=>⟨frz He H₀ H,shr ρ,h.frz_le,h.looks,?_⟩
 refine zCB (k:=fun b=>if b=true then s ρ else t ρ) h q fun b H' hs q'=>?_
 cases b with
 | true=>rw[if_pos rfl] at q' ⊢;exact⟨H₀,ρ,h.same hs,q'⟩
 | false=>rw[if_neg Bool.false_ne_true] at q' ⊢;exact⟨H₀,ρ,h.same hs,q'⟩
def tF (K:W.Frag)(E:XK)(f:Ev->Res D):TE:=fun σ H Q=>∃ H₀ ρ,za2 H₀ H/\ziB K H₀ σ ρ/\match f ρ with
 | .ok (.lst ds)=>∀ p vs H' H₀',zbZ H H₀ H' H₀'->H p=none->H₀' p=none->H' p=some (.lst vs)->Reps K H₀' ds vs->Q (.ref p) H'
 | .ok _=>False
 | .exn x=>∀ C ox H' H₀',zbZ H H₀ H' H₀'->ExR K H₀' x C ox->E C ox H'
 | .stuck=>False
structure DF (X:Cx) (E:XK) (e:Expr) (f:Ev->Res D):Prop where
 o:PE X e (tF X.K E f)
def zsm (i:Nat)(f:Ev->Res D):Ev->Res Fl:=fun ρ=>(f ρ).bind fun d=>match d with
 | .lst ds=>.ok (.nx (ρ.set i (.ow (.lst ds))))
 | _=>.stuck
theorem zmC {i:Nat}{x:Str}{pos':Pos}(hN:X.N.Nodup)(hi:X.N[i]?=some x)(hx:Loc X.env.scope x)(he:DF X E e f)(hs:swapsWith e (some (.Name x pos')) pos.line X.env=pure false:=by rfl)
  (hf:X.fn x=true∨X.env.scope.names.lookup x=some .local := by first | exact .inl rfl | exact .inr rfl | assumption):DS X E He H0e (.Assign [.Name x pos'] e pos) (zsm i f):=by
 refine⟨?_⟩
 refine zdn (zzk hN hi hx he.o hs hf) fun D σ H ⟨H₀,ρ,h,q⟩=>⟨H₀,ρ,h.g.sub,h.rd,?_⟩
 unfold zsm at q
 cases e1:f ρ with
 | stuck=>rw[e1] at q;exact q
 | exn x=>rw[e1] at q;exact fun C ox H' H₀' g ex=>q C ox H' H₀' (h.g.trans g) ex
 | ok d =>
  rw[e1] at q
  cases d with
  | lst ds =>
   intro p vs H' H₀' g hp h0 hv rp
   refine q _ H' H₀' g.z ((h.grow g).putOwn (fun j a ej ea d ed=>?_) (h.g.s.free hp) h0 hv rp (h.fresh_x g.s hp))
   subst ea
   obtain⟨a',k1,_,_,k4⟩:=h.ow j d ed
   rw[ej] at k1;cases k1
   cases d with
   | lst ds'=>obtain⟨vs',h5,_⟩:=k4;rw[hp] at h5;cases h5
   | _=>exact k4.elim
  | _=>exact q.elim
theorem zle (h:DA X E es fa):DF X E (.List es pos) (zan fa zc3):=by
 refine⟨?_⟩
 refine za3 (zzo h.o) fun σ H Q h=>?_
 obtain⟨H₀,ρ,hs,hr,q⟩:=h
 refine⟨H₀,ρ,hs,hr,?_⟩
 unfold zan at q
 cases e1:fa ρ with
 | stuck=>rw[e1] at q;exact q
 | exn x=>rw[e1] at q;exact q
 | ok ds =>
  rw[e1] at q
  intro vs H1 H01 g1 r1
  replace q:match zc3 ds with
   | .ok (.lst ds)=>∀ p vs H' H₀',zbZ H H₀ H' H₀'->H p=none->H₀' p=none->H' p=some (.lst vs)->Reps X.K H₀' ds vs->Q (.ref p) H'
   | .ok _=>False
   | .exn x=>∀ C ox H' H₀',zbZ H H₀ H' H₀'->ExR X.K H₀' x C ox->E C ox H'
   | .stuck=>False:=q
  unfold zc3 at q
  by_cases hl:ds.length<=line
  ·rw[if_pos hl] at q
   refine⟨by rw[← r1.length];exact zeK hl,fun p hp=>?_⟩
   have h0:H01 p=none:=g1.sub.free hp
   refine q p vs _ H01 (g1.trans ⟨fun b o q=>by rw[zaE (za0 q hp)];exact q,za2.refl _,fun b o q=>?_,fun a h1 h2=>absurd h2 h1⟩) (g1.s.free hp) h0 zaB r1
   rw[zaE (by intro z;subst z;rw[h0] at q;cases q)];exact g1.sub _ _ q
  ·rw[if_neg hl] at q;exact q.elim
def zri (ρ:Ev)(i:Nat)(k:List D->Res Fl):Res Fl:=match ρ[i]? with
 | some (.ow (.lst ds))=>k ds
 | _=>.stuck
def zc8 (i:Nat)(f:Ev->Res D):Ev->Res Fl:=fun ρ=>zri ρ i fun ds=>(f ρ).bind fun d=>if ds.length < line then .ok (.nx (ρ.set i (.ow (.lst (ds++[d]))))) else .stuck
def zxE (i:Nat)(f:Ev->Res D):Ev->Res Fl:=fun ρ=>zri ρ i fun ds=>(f (shr ρ)).bind fun d=>if zzu d=true/\ds.length < line then .ok (.nx (ρ.set i (.ow (.lst (ds++[d]))))) else .stuck
theorem zsC {K:W.Frag}{H₀ H:Hp}{σ:L2.St}{ρ:Ev}{i:Nat}{k:List D->Res Fl}{D':znm}(h:SRx K He H0e H₀ σ H ρ)(q:zcQ K E He H0e H₀ (zri ρ i k) D') :
  ∃ ds p vs,ρ[i]?=some (.ow (.lst ds))/\σ[i]?=some (some (.ref p))/\He p=none/\H₀ p=none/\H p=some (.lst vs)/\Reps K H₀ ds vs/\zcQ K E He H0e H₀ (k ds) D':=by
 unfold zri at q
 cases e:ρ[i]? with
 | none=>rw[e] at q;exact q.elim
 | some s =>
  rw[e] at q
  cases s with
  | no=>exact q.elim
  | sh d=>exact q.elim
  | ox j ds=>exact q.elim
  | ow d =>
   cases d with
   | lst ds =>
    obtain⟨p,h1,h2,h3,vs,h4,h5⟩:=h.ow i _ e
    exact⟨ds,p,vs,rfl,h1,h2,h3,h4,h5,q⟩
   | _=>exact q.elim
theorem zg8 {i:Nat}{x:Str}{p1 p2 p3:Pos}(hN:X.N[i]?=some x)(hv:Vis X.env.scope x)(he:DE X E e f)
  (hd:(x==("__debug__" : Str))=false:=by decide)(hcd:(x==("__classdict__" : Str))=false:=by decide)
  (hbase:attributeBase (.Name x p1) "append" X.env (eval (.Name x p1) X.env)=eval (.Name x p1) X.env:=by rfl)
  (hfew:((backTo p3 (starEach [e] X.env)).all (fun x=>!x.1)&&(backToKw p3 (keywordEach [] X.env)).all (fun x=>x.1.isSome)
  &&decide ([e].length+([]:List Keyword).length+(if([]:List Keyword).isEmpty then 0 else 1) < 30))=true:=by exact zlO rfl)
  (hline:(p2.endLine==p3.line)=true:=by rfl) (hs:starEach [e] X.env=(false,eval e X.env)::starEach [] X.env:=by exact zaM rfl) (hplain:(backTo p3 (starEach [] X.env)).any (·.1)=false:=by exact zbH rfl)
  (hw:swapsWith (.Call (.Attribute (.Name x p1) "append" p2) [e] [] p3) none pos.line X.env=pure false:=by rfl) :
  DS X E He H0e (.Expr (.Call (.Attribute (.Name x p1) "append" p2) [e] [] p3) pos) (zc8 i f):=by
 refine⟨?_⟩
 refine zdn (zrc (zx0 PySem.F.plainAttrs_list PySem.F.slot_list_append PySem.F.type_list_append zpQ (zjl hN hv hd hcd) (zdo he.o zhy hs) hbase hfew hline hs hplain) hw) fun D σ H ⟨H₀,ρ,h,q⟩=>?_
 obtain⟨ds,p,vs,e1,e2,e3,e4,e5,e6,q⟩:=zsC h q
 refine⟨.ref p,e2,.inl ⟨rfl,vs,SqL.of e5⟩,?_⟩
 refine⟨H₀,ρ,h.g.sub,h.rd,plain h q fun d v H' H₀' _ g rp q'=>?_⟩
 by_cases hl:ds.length < line
 ·rw[if_pos hl] at q'
  have e5':H' p=some (.lst vs):=g.s _ _ e5
  refine⟨p,vs,v,rfl,rfl,e5',by rw[← e6.length];exact Nat.lt_of_lt_of_le hl (by decide),?_⟩
  exact q' σ _ H₀' (za2.refl _) ((h.grow g).write e1 e2 ((e6.mono g.z).app (Reps.cons rp Reps.nil)))
 ·rw[if_neg hl] at q';exact q'.elim
def putAt (ρ:Ev)(i:Nat)(ds:List D)(d:D)(j:D):Res Fl:=match j with
 | .int j=>match ixN ds.length j with
  | some n=>.ok (.nx (ρ.set i (.ow (.lst (ds.set n d)))))
  | none=>.stuck
 | _=>.stuck
def zze (i:Nat)(f k:Ev->Res D):Ev->Res Fl:=fun ρ=>zri ρ i fun ds=>(f ρ).bind fun d=>(k ρ).bind fun j=>putAt ρ i ds d j
def zDH (i:Nat)(f k:Ev->Res D):Ev->Res Fl:=fun ρ=>zri ρ i fun ds=>(f (shr ρ)).bind fun d=>(k (shr ρ)).bind fun j=>if zzu d=true then putAt ρ i ds d j else .stuck
theorem zxS {K:W.Frag}{H₀ H:Hp}{σ:L2.St}{ρ:Ev}{i:Nat}{D':znm}{ds:List D}{d j:D}{p:Addr}{vs:List V}{v u:V}(h:SRx K He H0e H₀ σ H ρ)(e1:ρ[i]?=some (.ow (.lst ds)))(e2:σ[i]?=some (some (.ref p)))(e5:H p=some (.lst vs))(e6:Reps K H₀ ds vs)
  (rp:Rep K H₀ d v)(rj:Rep K H₀ j u)(q:zcQ K E He H0e H₀ (putAt ρ i ds d j) D'):zB2 (.ref p) u v H fun H'=>D'.nx σ H':=by
 unfold putAt at q
 cases j with
 | int n =>
  cases en:ixN ds.length n with
  | none=>simp only[en] at q;exact q.elim
  | some m =>
   simp only[en] at q
   refine⟨p,vs,n,m,rfl,Rep.int_iff.mp rj,e5,by rw[← e6.length];exact en,?_⟩
   exact q σ _ H₀ (za2.refl _) (h.write e1 e2 (e6.set rp m))
 | _=>exact q.elim
section
variable {i:Nat}{x:Str}{p1 p2:Pos}{k:Ev->Res D}
theorem zwx (hN:X.N[i]?=some x)(hv:Vis X.env.scope x)(he:DE X E e f)(hk:DE X E b k)
  (hd:(x==("__debug__" : Str))=false:=by decide)(hcd:(x==("__classdict__" : Str))=false:=by decide)
  (ha:∀ v,assign (.Subscript (.Name x p1) b p2) X.env v=(do
   let ov ← holding [v] (eval (.Name x p1) X.env)
   let iv ← holding [v,ov] (eval b X.env)
   standAt p2
   holding [v,ov,iv] (setItem ov iv v)
   release [v,ov,iv] []):=by intro _;rfl)
  (hs:swapsWithSole [.Subscript (.Name x p1) b p2] e pos.line X.env=pure false:=by rfl) (hw:swappedStores [.Subscript (.Name x p1) b p2] e X.env=pure none:=by rfl)
  (h1:(assignEach [.Subscript (.Name x p1) b p2] X.env).map (·.2)=[assign (.Subscript (.Name x p1) b p2) X.env]:=by rfl) :
  DS X E He H0e (.Assign [.Subscript (.Name x p1) b p2] e pos) (zze i f k):=by
 refine⟨?_⟩
 refine zdn (zzl he.o (zCh (zjl hN hv hd hcd) hk.o zxC ha) hs hw h1) fun D σ H ⟨H₀,ρ,h,q⟩=>⟨H₀,ρ,h.g.sub,h.rd,?_⟩
 obtain⟨ds,p,vs,e1,e2,e3,e4,e5,e6,q⟩:=zsC h q
 refine plain (k:=fun d=>(k ρ).bind fun j=>putAt ρ i ds d j) h q fun d v H1 H01 _ g1 r1 q1=>⟨.ref p,e2,?_⟩
 have h1':=h.grow g1
 refine⟨H01,ρ,h1'.g.sub,h1'.rd,plain (k:=fun j=>putAt ρ i ds d j) h1' q1 fun j u H2 H02 _ g2 r2 q2=>?_⟩
 exact zxS (h1'.grow g2) e1 e2 (g2.s _ _ (g1.s _ _ e5)) ((e6.mono g1.z).mono g2.z) (r1.mono g2.z) r2 q2
end
def zed (tg:Ev->D->Res Ev)(body:Ev->Res Fl):List D->Ev->Res Fl
 | [],ρ=>.ok (.nx ρ)
 | d::r,ρ=>(tg ρ d).bind fun ρ1=>(body ρ1).bind fun x=>match x with
  | .nx ρ2=>zed tg body r ρ2
  | .ct ρ2=>zed tg body r ρ2
  | .bk ρ2=>.ok (.nx ρ2)
  | .rt d=>.ok (.rt d)
def tG (K:W.Frag)(He H0e:Hp)(tg:Ev->D->Res Ev):TG:=fun v σ H Q=>∃ H₀ ρ d,SRx K He H0e H₀ σ H ρ/\Rep K H₀ d v/\match tg ρ d with
  | .ok ρ'=>∀ σ' H' H₀',za2 H₀ H₀'->SRx K He H0e H₀' σ' H' ρ'->Q σ' H'
  | _=>False
structure DG (X:Cx) (E:XK) (He H0e:Hp) (target:Expr) (tg:Ev->D->Res Ev):Prop where
 o:PG X target (tG X.K He H0e tg)
def zcx (i:Nat):Ev->D->Res Ev:=fun ρ d=>.ok (ρ.set i (.sh d))
theorem zrg {tgt:Expr}{t t':TG}(h:PG X tgt t)(w:∀ v σ H Q,t' v σ H Q->t v σ H Q):PG X tgt t':=fun pins s σ H v u Q I r q=>h pins s σ H v u Q I r (w v σ H Q q)
theorem zbO {i:Nat}{x:Str}(hN:X.N.Nodup)(hi:X.N[i]?=some x)(hx:Loc X.env.scope x)(hf:X.fn x=true∨X.env.scope.names.lookup x=some .local := by first | exact .inl rfl | exact .inr rfl | assumption):DG X E He H0e (.Name x pos) (zcx i) :=
 ⟨zrg (zvw hN hi hx hf) fun v σ H Q ⟨H₀,ρ,d,h,rp,q⟩=>q _ H H₀ (za2.refl _) (h.put rp)⟩
def zjh (K:W.Frag)(E:XK)(He H0e H₁:Hp)(tg:Ev->D->Res Ev)(s:Ev->Res Fl)(ds:List D)(D':znm)(i:Nat)(σ:L2.St)(H:Hp):Prop :=
 ∃ H₀ ρ,za2 H₁ H₀/\SRx K He H0e H₀ σ H ρ/\zcQ K E He H0e H₀ (zed tg s (ds.drop i) ρ) D'
theorem zjh.step {K:W.Frag}{H₁:Hp}{tg:Ev->D->Res Ev}{ds:List D}{D':znm}{i:Nat}{σ:L2.St}{H:Hp}{d:D}{v:V}(h:zjh K E He H0e H₁ tg s ds D' i σ H)(hd:ds[i]?=some d)(rv:Rep K H₁ d v)
  (he:∀ ρ,tg ρ d=.stuck∨∃ ρ',tg ρ d=.ok ρ') :
  tG K He H0e tg v σ H fun σ2 H2=>tS K E He H0e s { D' with nx:=zjh K E He H0e H₁ tg s ds D' (i+1),ct:=zjh K E He H0e H₁ tg s ds D' (i+1),bk:=D'.nx } σ2 H2:=by
 obtain⟨H₀,ρ,z,h,q⟩:=h
 have hi:i < ds.length:=(List.getElem?_eq_some_iff.mp hd).1
 have hdr:ds.drop i=d::ds.drop (i+1):=by
  rw[List.drop_eq_getElem_cons hi]
  rw[List.getElem?_eq_getElem hi] at hd
  cases hd;rfl
 rw[hdr] at q
 refine⟨H₀,ρ,d,h,rv.mono z,?_⟩
 unfold zed at q
 rcases he ρ with e1 | ⟨ρ1,e1⟩
 ·rw[e1] at q;exact q.elim
 ·rw[e1] at q ⊢
  intro σ' H' H₀' z' h'
  refine⟨H₀',ρ1,h',?_⟩
  replace q:=zcQ.grow (r:=(s ρ1).bind fun x=>match x with
   | .nx ρ2=>zed tg s (ds.drop (i+1)) ρ2
   | .ct ρ2=>zed tg s (ds.drop (i+1)) ρ2
   | .bk ρ2=>.ok (.nx ρ2)
   | .rt d=>.ok (.rt d)) q z'
  cases e2:s ρ1 with
  | stuck=>rw[e2] at q;exact q
  | exn x=>rw[e2] at q;exact q
  | ok r =>
   rw[e2] at q
   cases r with
   | nx ρ2=>exact fun σ3 H3 H03 z3 h3=>⟨H03,ρ2,(z.trans z').trans z3,h3,zcQ.grow (r:=zed tg s (ds.drop (i+1)) ρ2) q z3⟩
   | ct ρ2=>exact fun σ3 H3 H03 z3 h3=>⟨H03,ρ2,(z.trans z').trans z3,h3,zcQ.grow (r:=zed tg s (ds.drop (i+1)) ρ2) q z3⟩
   | bk ρ2=>exact q
   | rt d=>exact q
theorem zjh.done {K:W.Frag}{H₁:Hp}{tg:Ev->D->Res Ev}{ds:List D}{D':znm}{σ:L2.St}{H:Hp}(h:zjh K E He H0e H₁ tg s ds D' ds.length σ H):D'.nx σ H:=by
 obtain⟨H₀,ρ,z,h,q⟩:=h
 rw[List.drop_length] at q
 unfold zed at q
 exact q σ H H₀ (za2.refl _) h
def zw0 (tg:Ev->D->Res Ev):Prop:=∀ ρ d,tg ρ d=.stuck∨∃ ρ',tg ρ d=.ok ρ'
theorem zcO {i:Nat}:zw0 (zcx i):=fun ρ d=>.inr ⟨_,rfl⟩
def zq8 (f:Ev->Res D)(tg:Ev->D->Res Ev)(s:Ev->Res Fl):Ev->Res Fl:=fun ρ=>(f ρ).bind fun d=>match d with
 | .lst ds=>zed tg s ds ρ
 | _=>.stuck
theorem znH {tgt iter:Expr}{body:List Stmt}{tg:Ev->D->Res Ev}(hp:PassesOwn (model X.prog X.w) X.A X.env X.xe)(hc:X.calm=true)(hi:DE X E iter f)(hg:DG X E He H0e tgt tg)(ht:zw0 tg)(hb:DSs X E He H0e body s)
  (hs:∀ x,foldedSetIterable iter X.env x=pure x:=by intro _;rfl):DS X E He H0e (.For tgt iter body [] pos) (zq8 f tg s):=by
 refine⟨?_⟩
 refine zdn (zvp hp hc (zvv hi.o) hg.o hb.o hs) fun D' σ H ⟨H₀,ρ,h,q⟩=>⟨H₀,ρ,h.g.sub,h.rd,?_⟩
 refine plain h q fun d v H1 H01 _ g rp q1=>?_
 cases d with
 | lst ds =>
  obtain⟨a,vs,rfl,hv,hr⟩:=Rep.lst_iff.mp rp
  refine⟨a,rfl,⟨vs,za2.sqL g.sub hv⟩,?_⟩
  refine zyF (K:=X.K) (a:=a) (g:=tG X.K He H0e tg) (tb:=tS X.K E He H0e s) (D:=D') (xs:=vs) (zjh X.K E He H0e H01 tg s ds D') ⟨H01,ρ,za2.refl _,h.grow g,q1⟩ ?_ ?_ ?_
  ·rintro i σ' H' _ ⟨H₀',ρ',z,h',_⟩
   exact za2.sqL (z.trans h'.g.sub) hv
  ·intro i x σ' H' hx hI
   have hil:i < ds.length:=by rw[hr.length];exact(List.getElem?_eq_some_iff.mp hx).1
   obtain⟨u,e1,e2⟩:=hr.get (List.getElem?_eq_getElem hil)
   rw[hx] at e1;cases e1
   exact hI.step (List.getElem?_eq_getElem hil) e2 fun ρ=>ht ρ _
  ·intro σ' H' hI
   rw[← hr.length] at hI
   exact hI.done
 | _=>exact q1.elim
def intsFrom (lo:Int)(n:Nat):List D:=(List.range n).map fun(k:Nat)=>D.int (lo+(k:Int))
def zl6 (f:Ev->Res D)(tg:Ev->D->Res Ev)(s:Ev->Res Fl):Ev->Res Fl:=fun ρ=>(f (shr ρ)).bind fun d=>match d with
 | .int j=>if -4611686018427387904<=j/\j < 4611686018427387904 then zed tg s (intsFrom 0 j.toNat) ρ else .stuck
 | _=>.stuck
theorem zmD {tgt iter:Expr}{p pos2:Pos}{body:List Stmt}{tg:Ev->D->Res Ev}(hp:PassesOwn (model X.prog X.w) X.A X.env X.xe)(hc:X.calm=true)(hgl:Gl X "range")(hm:X.mg "range"=none)(hi:DE X E iter f)(hg:DG X E He H0e tgt tg)(ht:zw0 tg)(hb:DSs X E He H0e body s)
  (hst:starEach [iter] X.env=[(false,eval iter X.env)]:=by exact ziK rfl)(hs:∀ x,foldedSetIterable (.Call (.Name "range" p) [iter] [] pos2) X.env x=pure x:=by intro _;rfl):DS X E He H0e (.For tgt (.Call (.Name "range" p) [iter] [] pos2) body [] pos) (zl6 f tg s):=by
 refine⟨?_⟩
 refine zdn (zvp hp hc (zpL hgl hm (zdo hi.o zhy hst) hst) hg.o hb.o hs) fun D' σ H ⟨H₀,ρ,h,q⟩=>?_
 refine⟨frz He H₀ H,shr ρ,h.frz_le,h.looks,look h q fun d v H1 J _ g rp q1=>?_⟩
 cases d with
 | int j =>
  rw[Rep.int_iff.mp rp]
  replace q1:zcQ X.K E He H0e H₀ (if -4611686018427387904<=j/\j < 4611686018427387904 then zed tg s (intsFrom 0 j.toNat) ρ else .stuck) D':=q1
  by_cases hj:-4611686018427387904<=j/\j < 4611686018427387904
  ·rw[if_pos hj] at q1
   refine⟨j,rfl,by omega,by omega,?_⟩
   have hlen:(intsFrom 0 j.toNat).length=j.toNat:=by unfold intsFrom;simp
   refine zwn (lo:=0) (n:=j.toNat) (g:=tG X.K He H0e tg) (tb:=tS X.K E He H0e s) (D:=D') (zjh X.K E He H0e H₀ tg s (intsFrom 0 j.toNat) D') ⟨H₀,ρ,za2.refl _,h.same g.s,q1⟩ ?_ ?_
   ·intro i σ' H' hlt hI
    refine hI.step (d:=.int (0+i)) ?_ (Rep.int_iff.mpr rfl) fun ρ=>ht ρ _
    unfold intsFrom
    simp [hlt]
   ·intro σ' H' hI
    exact zjh.done (ds:=intsFrom 0 j.toNat) (by rw[hlen];exact hI)
  ·rw[if_neg hj] at q1;exact q1.elim
 | _=>exact q1.elim
def zgp (c:Ev->Res D)(s:Ev->Res Fl):Nat->Ev->Res Fl
 | 0,_=>.stuck
 | n+1,ρ=>(c (shr ρ)).bind fun x=>match x with
  | .bl b=>if b=true then(s ρ).bind fun x=>match x with
    | .nx ρ2=>zgp c s n ρ2
    | .ct ρ2=>zgp c s n ρ2
    | .bk ρ2=>.ok (.nx ρ2)
    | .rt d=>.ok (.rt d)
   else .ok (.nx ρ)
  | _=>.stuck
def zpE (fuel:Ev->Nat)(c:Ev->Res D)(s:Ev->Res Fl):Ev->Res Fl:=fun ρ=>zgp c s (fuel ρ) ρ
theorem zsU (fuel:Ev->Nat){c:Expr}{body:List Stmt}{fc:Ev->Res D}(hp:PassesOwn (model X.prog X.w) X.A X.env X.xe)(hc:DT X E c fc)(hb:DSs X E He H0e body s):DS X E He H0e (.While c body [] pos) (zpE fuel fc s):=by
 refine⟨?_⟩
 refine zdn (zxU hp hc.o hb.o) fun D' σ H ⟨H₀,ρ,h,q⟩=>?_
 refine⟨fun m σ H=>∃ H₀ ρ,SRx X.K He H0e H₀ σ H ρ/\zcQ X.K E He H0e H₀ (zgp fc s m ρ) D',⟨fuel ρ,H₀,ρ,h,q⟩,?_⟩
 rintro m σ1 H1 ⟨H01,ρ1,h1,q1⟩
 cases m with
 | zero=>exact q1.elim
 | succ m =>
  refine⟨frz He H01 H1,shr ρ1,h1.frz_le,h1.looks,?_⟩
  unfold zgp at q1
  refine zCB (k:=fun b=>if b=true then(s ρ1).bind fun x=>match x with
    | .nx ρ2=>zgp fc s m ρ2
    | .ct ρ2=>zgp fc s m ρ2
    | .bk ρ2=>.ok (.nx ρ2)
    | .rt d=>.ok (.rt d)
   else .ok (.nx ρ1)) h1 q1 fun b H2 hs q2=>?_
  cases b with
  | false =>
   rw[if_neg Bool.false_ne_true] at q2 ⊢
   exact q2 σ1 H2 H01 (za2.refl _) (h1.same hs)
  | true =>
   rw[if_pos rfl] at q2 ⊢
   refine⟨fun σ' H'=>∃ m',m' < m+1/\∃ H₀ ρ,SRx X.K He H0e H₀ σ' H' ρ/\zcQ X.K E He H0e H₀ (zgp fc s m' ρ) D',fun σ' H' z=>z,H01,ρ1,h1.same hs,?_⟩
   cases e2:s ρ1 with
   | stuck=>rw[e2] at q2;exact q2
   | exn x=>rw[e2] at q2;exact q2
   | ok r =>
    rw[e2] at q2
    cases r with
    | nx ρ2=>exact fun σ3 H3 H03 z3 h3=>⟨m,Nat.lt_succ_self _,H03,ρ2,h3,zcQ.grow (r:=zgp fc s m ρ2) q2 z3⟩
    | ct ρ2=>exact fun σ3 H3 H03 z3 h3=>⟨m,Nat.lt_succ_self _,H03,ρ2,h3,zcQ.grow (r:=zgp fc s m ρ2) q2 z3⟩
    | bk ρ2=>exact q2
    | rt d=>exact q2
end
def zc5 (n:Nat)(s:Ev->Res Fl)(ds:List D):Res D:=(s (ds.map Sl.sh++List.replicate (n-ds.length) .no)).bind fun r=>match r with
 | .nx _=>.ok .non
 | .rt d=>.ok d
 | _=>.stuck
theorem zjx {K:W.Frag}{H₀:Hp}{N:List Str}{ds:List D}{vs:List V}(h:Reps K H₀ ds vs):ziB K H₀ (start N vs) (ds.map Sl.sh++List.replicate (N.length-ds.length) .no):=by
 intro i d e
 have hl:=h.length
 by_cases hi:i < ds.length
 ·rw[List.getElem?_append_left (by simpa using hi),List.getElem?_map] at e
  cases q:ds[i]? with
  | none=>rw[q] at e;cases e
  | some d' =>
   rw[q] at e;cases e
   obtain⟨v,h1,h2⟩:=h.get q
   refine⟨v,?_,h2⟩
   unfold L2.start
   rw[List.getElem?_append_left (by simp;omega),List.getElem?_map,h1]
   rfl
 ·rw[List.getElem?_append_right (by simpa using hi),List.getElem?_replicate] at e
  split at e<;>cases e
theorem zl0 {ds:List D}{n:Nat}(i j:Nat)(es:List D):(ds.map Sl.sh++List.replicate n Sl.no)[i]?≠some (.ox j es):=fun e=>by
 have:=List.mem_of_getElem? e
 rw[List.mem_append] at this
 rcases this with h | h
 ·obtain⟨_,_,h⟩:=List.mem_map.mp h;cases h
 ·have:=List.eq_of_mem_replicate h;cases this
theorem zaI {P:Program}{w:World}{K:W.Frag}{mg:Str->Option Value}{base:Heap}{x qual:Str}{st:Stmt}{f:Addr}{fd:FuncData}{N ps:List Str}{k:Nat}{s:Ev->Res Fl}(F:Fun K x qual st f fd)(S:zaD N ps (defScope st))
  (hbody:∀ (cdv:Value) (A:Around) (outer:List PySem.Env) (s0:Shared) (H H₀:Hp) (E:XK),zjd k (A.deeper (envOfC qual (defScope st) s0.heap.objs.size f cdv)) ->
   DSs (zil CX0 P w K mg base N qual (defScope st) f cdv A outer s0 H E).nox E H H₀ (defBody st) s):zda P w K mg base CX0 (k+1) f fd ps (spD K ps.length (zc5 N.length s)):=by
 have hpl:ps.length<=N.length:=by have:=congrArg List.length S.pre;rw[List.length_take] at this;omega
 refine F.ok S (fun vs H Q E h=>h.1) fun cdv A outer s0 H vs Q E hr h=>?_
 obtain⟨hn,H₀,ds,hs,hv,q⟩:=h
 refine⟨_,(hbody cdv A outer s0 H H₀ E hr).o,H₀,ds.map Sl.sh++List.replicate (N.length-ds.length) .no,?_,?_⟩
 ·refine⟨zbZ.refl hs,zjx hv,fun i d e=>?_,fun i j d d' hij e=>?_,?_,OX.none zl0⟩
  ·by_cases hi:i < ds.length
   ·rw[List.getElem?_append_left (by simpa using hi),List.getElem?_map] at e
    cases q:ds[i]? with
    | none=>rw[q] at e;cases e
    | some d'=>rw[q] at e;cases e
   ·rw[List.getElem?_append_right (by simpa using hi),List.getElem?_replicate] at e
    split at e<;>cases e
  ·by_cases hi:i < ds.length
   ·rw[List.getElem?_append_left (by simpa using hi),List.getElem?_map] at e
    cases q:ds[i]? with
    | none=>rw[q] at e;cases e
    | some d'=>rw[q] at e;cases e
   ·rw[List.getElem?_append_right (by simpa using hi),List.getElem?_replicate] at e
    split at e<;>cases e
  ·unfold L2.start
   have:=hv.length
   simp only[List.length_append,List.length_map,List.length_replicate]
   omega
 ·unfold zc5 at q
  cases e1:s (ds.map Sl.sh++List.replicate (N.length-ds.length) .no) with
  | stuck=>rw[e1] at q;exact q
  | exn x=>rw[e1] at q;exact q
  | ok r =>
   rw[e1] at q
   cases r with
   | nx ρ'=>exact fun σ' H' H₀' _ h'=>q .non H' H₀' h'.g (Rep.non_iff.mpr rfl)
   | rt d=>exact fun v H' H₀' g rp=>q v H' H₀' g rp
   | bk ρ'=>exact q.elim
   | ct ρ'=>exact q.elim
mutual
def eqD:D->D->Bool
 | .non,.non=>true
 | .bl a,.bl b=>a==b
 | .bl a,.int b=>(if a then 1 else 0)==b
 | .int a,.bl b=>a==(if b then 1 else 0)
 | .int a,.int b=>a==b
 | .str a,.str b=>a==b
 | .tup xs,.tup ys=>eqDs xs ys
 | .lst xs,.lst ys=>eqDs xs ys
 | _,_=>false
def eqDs:List D->List D->Bool
 | [],[]=>true
 | x::xs,y::ys=>eqD x y&&eqDs xs ys
 | _,_=>false
end
def zbE:Nat->D->Bool
 | _,.non=>true
 | _,.bl _=>true
 | _,.int _=>true
 | _,.str _=>true
 | n+1,.tup ds=>ds.all (zbE n)
 | n+1,.lst ds=>ds.all (zbE n)
 | _,_=>false
theorem zqk {ds:List D}(h:∀ d∈ds,eqD d d=true):eqDs ds ds=true:=by
 induction ds with
 | nil=>simp [eqDs]
 | cons d r ih =>
  unfold eqDs
  rw[h d List.mem_cons_self,ih fun x hx=>h x (List.mem_cons_of_mem _ hx)]
  rfl
theorem zj7:∀ (n:Nat) (d:D),zbE n d=true->eqD d d=true
 | _,.non,_=>by simp [eqD]
 | _,.bl b,_=>by simp [eqD]
 | _,.int b,_=>by simp [eqD]
 | _,.str b,_=>by simp [eqD]
 | n+1,.tup ds,h=>by
  unfold zbE at h
  unfold eqD
  exact zqk fun d hd=>zj7 n d (List.all_eq_true.mp h d hd)
 | n+1,.lst ds,h=>by
  unfold zbE at h
  unfold eqD
  exact zqk fun d hd=>zj7 n d (List.all_eq_true.mp h d hd)
 | 0,.tup ds,h=>by unfold zbE at h;cases h
 | 0,.lst ds,h=>by unfold zbE at h;cases h
 | 0,.dic ks ds,h=>by unfold zbE at h;cases h
 | n+1,.dic ks ds,h=>by unfold zbE at h;cases h
 | 0,.exc x,h=>by unfold zbE at h;cases h
 | 0,.ob k x,h=>by unfold zbE at h;cases h
 | n+1,.ob k x,h=>by unfold zbE at h;cases h
 | n+1,.exc x,h=>by unfold zbE at h;cases h
theorem zA3 {xs ys:List D}:eqD (.tup xs) (.tup ys)=eqDs xs ys:=by rw[eqD]
theorem zoG {xs ys:List D}:eqD (.lst xs) (.lst ys)=eqDs xs ys:=by rw[eqD]
theorem zkt:∀ (xs ys:List D),xs.length=ys.length->eqDs xs ys=(List.range xs.length).all fun j=>eqD (xs.getD j .non) (ys.getD j .non)
 | [],[],_=>by simp [eqDs]
 | x::xs,y::ys,h=>by
  have ih:=zkt xs ys (by simpa using h)
  unfold eqDs
  rw[ih,List.length_cons,List.range_succ_eq_map,List.all_cons,List.all_map]
  rfl
 | [],_::_,h=>by simp at h
 | _::_,[],h=>by simp at h
theorem zlP:∀ (xs ys:List D),xs.length≠ys.length->eqDs xs ys=false
 | [],[],h=>absurd rfl h
 | x::xs,y::ys,h=>by
  unfold eqDs
  rw[zlP xs ys (by simpa using h),Bool.and_false]
 | [],_::_,h=>by simp [eqDs]
 | _::_,[],h=>by simp [eqDs]
section
variable {X:Cx}{pins:List (Addr×Obj)}{σ:L2.St}{H:Hp}{s:Shared}
theorem Rep.tup_get (I:Inv X pins σ H s){ds:List D}{v:V}{u:Value}(r:Rep X.K H (.tup ds) v)(rv:zcN v u):∃ a vs its,v=.ref a/\u=.ref a/\SqT X.K H a vs/\Reps X.K H ds vs/\zce vs its/\IsTup s.heap a its.toArray/\ds.length=its.length:=by
 obtain⟨a,vs,rfl,h1,h2⟩:=Rep.tup_iff.mp r
 obtain rfl:u=Value.ref a:=rv
 obtain⟨its,h3,h4,_⟩:=I.tuple h1
 exact⟨a,vs,its,rfl,rfl,h1,h2,h3,h4,h2.length.trans h3.length⟩
theorem Rep.lst_get (I:Inv X pins σ H s){ds:List D}{v:V}{u:Value}(r:Rep X.K H (.lst ds) v)(rv:zcN v u):∃ a vs its,v=.ref a/\u=.ref a/\SqL X.K H a vs/\Reps X.K H ds vs/\zce vs its/\s.heap.IsList a its.toArray/\ds.length=its.length:=by
 obtain⟨a,vs,rfl,h1,h2⟩:=Rep.lst_iff.mp r
 obtain rfl:u=Value.ref a:=rv
 obtain⟨its,h3,h4,_⟩:=I.list h1
 exact⟨a,vs,its,rfl,rfl,h1,h2,h3,h4.isList,h2.length.trans h3.length⟩
theorem zob {n:Nat}(ih:∀ (d d':D) (v:V),zbE n d=true->zbE n d'=true->Rep X.K H d v->Rep X.K H d' v->d=d'):∀ (ds ds':List D) (vs:List V),ds.all (zbE n)=true->ds'.all (zbE n)=true->Reps X.K H ds vs->Reps X.K H ds' vs->ds=ds'
 | [],ds',vs,_,_,h,h'=>by
  rw[Reps.nil_iff.mp h] at h'
  cases ds' with
  | nil=>rfl
  | cons d r=>obtain⟨_,_,e,_⟩:=Reps.cons_iff.mp h';cases e
 | d::ds,ds',vs,a,a',h,h'=>by
  obtain⟨v,r,rfl,h1,h2⟩:=Reps.cons_iff.mp h
  cases ds' with
  | nil=>cases Reps.nil_iff.mp h'
  | cons d' ds' =>
   obtain⟨v',r',e,h1',h2'⟩:=Reps.cons_iff.mp h'
   cases e
   rw[List.all_cons,Bool.and_eq_true] at a a'
   rw[ih d d' v a.1 a'.1 h1 h1',zob ih ds ds' r a.2 a'.2 h2 h2']
theorem Rep.inj (I:Inv X pins σ H s):∀ (n:Nat) (d d':D) (v:V),zbE n d=true->zbE n d'=true->Rep X.K H d v->Rep X.K H d' v->d=d':=by
 have atom:∀ (n:Nat) (d d':D) (v:V),(∀ ds,d≠.tup ds)->(∀ ds,d≠.lst ds)->zbE n d=true->zbE n d'=true->Rep X.K H d v->Rep X.K H d' v->d=d':=by
  intro n d d' v n1 n2 s1 s2 h h'
  have nd:∀ m ks ds,zbE m (.dic ks ds)=true->False:=fun m ks ds h=>by cases m<;>(unfold zbE at h;cases h)
  have nx:∀ m x,zbE m (.exc x)=true->False:=fun m x h=>by cases m<;>(unfold zbE at h;cases h)
  have nb:∀ m k x,zbE m (.ob k x)=true->False:=fun m k x h=>by cases m<;>(unfold zbE at h;cases h)
  cases d with
  | tup ds=>exact absurd rfl (n1 ds)
  | lst ds=>exact absurd rfl (n2 ds)
  | dic ks ds=>exact(nd _ _ _ s1).elim
  | exc x=>exact(nx _ _ s1).elim
  | ob k x=>exact(nb _ _ _ s1).elim
  | non =>
   rw[Rep.non_iff.mp h] at h'
   cases d' with
   | non=>rfl
   | bl b=>cases Rep.bl_iff.mp h'
   | int b=>cases Rep.int_iff.mp h'
   | str b=>cases Rep.str_iff.mp h'
   | tup ds=>obtain⟨_,_,e,_⟩:=Rep.tup_iff.mp h';cases e
   | lst ds=>obtain⟨_,_,e,_⟩:=Rep.lst_iff.mp h';cases e
   | dic ks ds=>exact(nd _ _ _ s2).elim
   | exc x=>exact(nx _ _ s2).elim
   | ob k x=>exact(nb _ _ _ s2).elim
  | bl x =>
   rw[Rep.bl_iff.mp h] at h'
   cases d' with
   | non=>cases Rep.non_iff.mp h'
   | bl b=>cases Rep.bl_iff.mp h';rfl
   | int b=>cases Rep.int_iff.mp h'
   | str b=>cases Rep.str_iff.mp h'
   | tup ds=>obtain⟨_,_,e,_⟩:=Rep.tup_iff.mp h';cases e
   | lst ds=>obtain⟨_,_,e,_⟩:=Rep.lst_iff.mp h';cases e
   | dic ks ds=>exact(nd _ _ _ s2).elim
   | exc x=>exact(nx _ _ s2).elim
   | ob k x=>exact(nb _ _ _ s2).elim
  | int x =>
   rw[Rep.int_iff.mp h] at h'
   cases d' with
   | non=>cases Rep.non_iff.mp h'
   | bl b=>cases Rep.bl_iff.mp h'
   | int b=>cases Rep.int_iff.mp h';rfl
   | str b=>cases Rep.str_iff.mp h'
   | tup ds=>obtain⟨_,_,e,_⟩:=Rep.tup_iff.mp h';cases e
   | lst ds=>obtain⟨_,_,e,_⟩:=Rep.lst_iff.mp h';cases e
   | dic ks ds=>exact(nd _ _ _ s2).elim
   | exc x=>exact(nx _ _ s2).elim
   | ob k x=>exact(nb _ _ _ s2).elim
  | str x =>
   rw[Rep.str_iff.mp h] at h'
   cases d' with
   | non=>cases Rep.non_iff.mp h'
   | bl b=>cases Rep.bl_iff.mp h'
   | int b=>cases Rep.int_iff.mp h'
   | str b=>cases Rep.str_iff.mp h';rfl
   | tup ds=>obtain⟨_,_,e,_⟩:=Rep.tup_iff.mp h';cases e
   | lst ds=>obtain⟨_,_,e,_⟩:=Rep.lst_iff.mp h';cases e
   | dic ks ds=>exact(nd _ _ _ s2).elim
   | exc x=>exact(nx _ _ s2).elim
   | ob k x=>exact(nb _ _ _ s2).elim
 intro n
 induction n with
 | zero =>
  intro d d' v s1 s2 h h'
  exact atom 0 d d' v (fun ds e=>by subst e;unfold zbE at s1;cases s1) (fun ds e=>by subst e;unfold zbE at s1;cases s1) s1 s2 h h'
 | succ n ih =>
  intro d d' v s1 s2 h h'
  by_cases t1:∃ ds,d=.tup ds
  ·obtain⟨ds,rfl⟩:=t1
   by_cases t2:∃ ds',d'=.tup ds'
   ·obtain⟨ds',rfl⟩:=t2
    obtain⟨a,vs,rfl,h1,h2⟩:=Rep.tup_iff.mp h
    obtain⟨a',vs',e,h1',h2'⟩:=Rep.tup_iff.mp h'
    cases e
    rw[I.tuple_inj h1' h1] at h2'
    unfold zbE at s1 s2
    rw[zob ih ds ds' vs s1 s2 h2 h2']
   ·by_cases t3:∃ ds',d'=.lst ds'
    ·obtain⟨ds',rfl⟩:=t3
     obtain⟨a0,_,ev,_,_⟩:=Rep.tup_iff.mp h;subst ev
     obtain⟨a,vs,its,ea,_,h1,h2,h3,h4,_⟩:=Rep.tup_get I h rfl;cases ea
     obtain⟨a',vs',its',e,_,h1',h2',h3',h4',_⟩:=Rep.lst_get I h' rfl
     cases e
     exact absurd rfl (SeqAt.ne_of_list_tuple h4' h4)
    ·exact(atom (n+1) d' _ v (fun ds e=>t2 ⟨ds,e⟩) (fun ds e=>t3 ⟨ds,e⟩) s2 s1 h' h).symm
  ·by_cases t1':∃ ds,d=.lst ds
   ·obtain⟨ds,rfl⟩:=t1'
    by_cases t2:∃ ds',d'=.lst ds'
    ·obtain⟨ds',rfl⟩:=t2
     obtain⟨a,vs,rfl,h1,h2⟩:=Rep.lst_iff.mp h
     obtain⟨a',vs',e,h1',h2'⟩:=Rep.lst_iff.mp h'
     cases e
     rw[I.list_inj h1' h1] at h2'
     unfold zbE at s1 s2
     rw[zob ih ds ds' vs s1 s2 h2 h2']
    ·by_cases t3:∃ ds',d'=.tup ds'
     ·obtain⟨ds',rfl⟩:=t3
      obtain⟨a0,_,ev,_,_⟩:=Rep.lst_iff.mp h;subst ev
      obtain⟨a,vs,its,ea,_,h1,h2,h3,h4,_⟩:=Rep.lst_get I h rfl;cases ea
      obtain⟨a',vs',its',e,_,h1',h2',h3',h4',_⟩:=Rep.tup_get I h' rfl
      cases e
      exact absurd rfl (SeqAt.ne_of_list_tuple h4 h4')
     ·exact(atom (n+1) d' _ v (fun ds e=>t3 ⟨ds,e⟩) (fun ds e=>t2 ⟨ds,e⟩) s2 s1 h' h).symm
   ·exact atom (n+1) d d' v (fun ds e=>t1 ⟨ds,e⟩) (fun ds e=>t1' ⟨ds,e⟩) s1 s2 h h'
theorem zsK {n:Nat}{A:Around}{xs ys:List D}{vs us:List V}{is js:List Value}
  (ih:∀ (x y:D) (v u:V) (a b:Value),zbE n x=true->zbE n y=true->Rep X.K H x v->Rep X.K H y u->zcN v a->zcN u b->SeqAt.EqAt A.in1 s a b (eqD x y))
  (sx:xs.all (zbE n)=true)(sy:ys.all (zbE n)=true)(rx:Reps X.K H xs vs)(ry:Reps X.K H ys us)(qx:zce vs is)(qy:zce us js) :
  ∀ j (h1:j < is.toArray.size) (h2:j < js.toArray.size),SeqAt.EqAt A.in1 s is.toArray[j] js.toArray[j] (eqD (xs.getD j .non) (ys.getD j .non)):=by
 intro j h1 h2
 have lx:=rx.length
 have ly:=ry.length
 have kx:=qx.length
 have ky:=qy.length
 have h1':j < is.length:=by simpa using h1
 have h2':j < js.length:=by simpa using h2
 have hx:j < xs.length:=by omega
 have hy:j < ys.length:=by omega
 obtain⟨v,e1,r1⟩:=rx.get (List.getElem?_eq_getElem hx)
 obtain⟨u,e2,r2⟩:=ry.get (List.getElem?_eq_getElem hy)
 obtain⟨a,e3,r3⟩:=qx.get e1
 obtain⟨b,e4,r4⟩:=qy.get e2
 have ea:is.toArray[j]=a:=by
  rw[List.getElem?_eq_getElem h1'] at e3
  simpa using Option.some.inj e3
 have eb:js.toArray[j]=b:=by
  rw[List.getElem?_eq_getElem h2'] at e4
  simpa using Option.some.inj e4
 rw[ea,eb]
 have gx:xs.getD j .non=xs[j]:=by simp [List.getD,List.getElem?_eq_getElem hx]
 have gy:ys.getD j .non=ys[j]:=by simp [List.getD,List.getElem?_eq_getElem hy]
 rw[gx,gy]
 exact ih _ _ v u a b (List.all_eq_true.mp sx _ (List.getElem_mem hx)) (List.all_eq_true.mp sy _ (List.getElem_mem hy)) r1 r2 r3 r4
theorem zsq (I:Inv X pins σ H s){A:Around}(hu:A.units < cLine){x y:D}{v u:V}{a b:Value}(rx:Rep X.K H x v)(ry:Rep X.K H y u)(qx:zcN v a)(qy:zcN u b)
  (n1:∀ ds ds',¬ (x=.lst ds/\y=.lst ds'))(n2:∀ ds ds',¬ (x=.tup ds/\y=.tup ds'))(d1:∀ ks ds,x≠.dic ks ds)(d2:∀ ks ds,y≠.dic ks ds)(x1:∀ c,x≠.exc c)(x2:∀ c,y≠.exc c)(o1:∀ k c,x≠.ob k c)(o2:∀ k c,y≠.ob k c) :
  SeqAt.RcAt A s a b (eqD x y)/\SeqAt.EqAt A s a b (eqD x y)/\SeqAt.RcNeAt A s a b (!(eqD x y)):=by
 cases x with
 | non =>
  cases y with
  | non =>
   obtain rfl:=Rep.non_iff.mp rx;obtain rfl:a=Value.none:=qx
   obtain rfl:=Rep.non_iff.mp ry;obtain rfl:b=Value.none:=qy
   unfold eqD
   exact⟨SeqAt.RcAt.none_none ,SeqAt.EqAt.same _,SeqAt.RcNeAt.none_none ⟩
  | bl y =>
   obtain rfl:=Rep.non_iff.mp rx;obtain rfl:a=Value.none:=qx
   obtain rfl:=Rep.bl_iff.mp ry;obtain rfl:b=Value.bool _:=qy
   unfold eqD
   exact⟨SeqAt.RcAt.none_bool _,SeqAt.EqAt.none_bool _,SeqAt.RcNeAt.none_bool _⟩
  | int y =>
   obtain rfl:=Rep.non_iff.mp rx;obtain rfl:a=Value.none:=qx
   obtain rfl:=Rep.int_iff.mp ry;obtain⟨ty,rfl⟩:∃ t,b=Value.int _ t:=qy
   unfold eqD
   exact⟨SeqAt.RcAt.none_int _ _,SeqAt.EqAt.none_int _ _,SeqAt.RcNeAt.none_int _ _⟩
  | str y =>
   obtain rfl:=Rep.non_iff.mp rx;obtain rfl:a=Value.none:=qx
   obtain rfl:=Rep.str_iff.mp ry;obtain⟨ty,rfl⟩:∃ t,b=Value.str _ t:=qy
   unfold eqD
   exact⟨SeqAt.RcAt.none_str _ _,SeqAt.EqAt.none_str _ _,SeqAt.RcNeAt.none_str _ _⟩
  | lst y =>
   obtain rfl:=Rep.non_iff.mp rx;obtain rfl:a=Value.none:=qx
   obtain⟨ly,_,_,rfl,rfl,_,_,_,hy,_⟩:=Rep.lst_get I ry qy
   unfold eqD
   exact⟨SeqAt.RcAt.none_list  hy hu,SeqAt.EqAt.none_list  hy hu,SeqAt.RcNeAt.none_list  hy hu⟩
  | tup y =>
   obtain rfl:=Rep.non_iff.mp rx;obtain rfl:a=Value.none:=qx
   obtain⟨ly,_,_,rfl,rfl,_,_,_,hy,_⟩:=Rep.tup_get I ry qy
   unfold eqD
   exact⟨SeqAt.RcAt.none_tuple  hy hu,SeqAt.EqAt.none_tuple  hy hu,SeqAt.RcNeAt.none_tuple  hy hu⟩
  | dic ks ds=>exact absurd rfl (d2 ks ds)
  | exc c=>exact absurd rfl (x2 c)
  | ob k c=>exact absurd rfl (o2 k c)
 | bl x =>
  cases y with
  | non =>
   obtain rfl:=Rep.bl_iff.mp rx;obtain rfl:a=Value.bool _:=qx
   obtain rfl:=Rep.non_iff.mp ry;obtain rfl:b=Value.none:=qy
   unfold eqD
   exact⟨SeqAt.RcAt.bool_none _,SeqAt.EqAt.bool_none _,SeqAt.RcNeAt.bool_none _⟩
  | bl y =>
   obtain rfl:=Rep.bl_iff.mp rx;obtain rfl:a=Value.bool _:=qx
   obtain rfl:=Rep.bl_iff.mp ry;obtain rfl:b=Value.bool _:=qy
   unfold eqD
   exact⟨SeqAt.RcAt.bool_bool _ _,SeqAt.EqAt.bool_bool _ _,SeqAt.RcNeAt.bool_bool _ _⟩
  | int y =>
   obtain rfl:=Rep.bl_iff.mp rx;obtain rfl:a=Value.bool _:=qx
   obtain rfl:=Rep.int_iff.mp ry;obtain⟨ty,rfl⟩:∃ t,b=Value.int _ t:=qy
   unfold eqD
   exact⟨SeqAt.RcAt.bool_int _ _ _,SeqAt.EqAt.bool_int _ _ _,SeqAt.RcNeAt.bool_int _ _ _⟩
  | str y =>
   obtain rfl:=Rep.bl_iff.mp rx;obtain rfl:a=Value.bool _:=qx
   obtain rfl:=Rep.str_iff.mp ry;obtain⟨ty,rfl⟩:∃ t,b=Value.str _ t:=qy
   unfold eqD
   exact⟨SeqAt.RcAt.bool_str _ _ _,SeqAt.EqAt.bool_str _ _ _,SeqAt.RcNeAt.bool_str _ _ _⟩
  | lst y =>
   obtain rfl:=Rep.bl_iff.mp rx;obtain rfl:a=Value.bool _:=qx
   obtain⟨ly,_,_,rfl,rfl,_,_,_,hy,_⟩:=Rep.lst_get I ry qy
   unfold eqD
   exact⟨SeqAt.RcAt.bool_list _ hy hu,SeqAt.EqAt.bool_list _ hy hu,SeqAt.RcNeAt.bool_list _ hy hu⟩
  | tup y =>
   obtain rfl:=Rep.bl_iff.mp rx;obtain rfl:a=Value.bool _:=qx
   obtain⟨ly,_,_,rfl,rfl,_,_,_,hy,_⟩:=Rep.tup_get I ry qy
   unfold eqD
   exact⟨SeqAt.RcAt.bool_tuple _ hy hu,SeqAt.EqAt.bool_tuple _ hy hu,SeqAt.RcNeAt.bool_tuple _ hy hu⟩
  | dic ks ds=>exact absurd rfl (d2 ks ds)
  | exc c=>exact absurd rfl (x2 c)
  | ob k c=>exact absurd rfl (o2 k c)
 | int x =>
  cases y with
  | non =>
   obtain rfl:=Rep.int_iff.mp rx;obtain⟨tx,rfl⟩:∃ t,a=Value.int _ t:=qx
   obtain rfl:=Rep.non_iff.mp ry;obtain rfl:b=Value.none:=qy
   unfold eqD
   exact⟨SeqAt.RcAt.int_none _ _,SeqAt.EqAt.int_none _ _,SeqAt.RcNeAt.int_none _ _⟩
  | bl y =>
   obtain rfl:=Rep.int_iff.mp rx;obtain⟨tx,rfl⟩:∃ t,a=Value.int _ t:=qx
   obtain rfl:=Rep.bl_iff.mp ry;obtain rfl:b=Value.bool _:=qy
   unfold eqD
   exact⟨SeqAt.RcAt.int_bool _ _ _,SeqAt.EqAt.int_bool _ _ _,SeqAt.RcNeAt.int_bool _ _ _⟩
  | int y =>
   obtain rfl:=Rep.int_iff.mp rx;obtain⟨tx,rfl⟩:∃ t,a=Value.int _ t:=qx
   obtain rfl:=Rep.int_iff.mp ry;obtain⟨ty,rfl⟩:∃ t,b=Value.int _ t:=qy
   unfold eqD
   exact⟨SeqAt.RcAt.int_int _ _ _ _,SeqAt.EqAt.int_int _ _ _ _,SeqAt.RcNeAt.int_int _ _ _ _⟩
  | str y =>
   obtain rfl:=Rep.int_iff.mp rx;obtain⟨tx,rfl⟩:∃ t,a=Value.int _ t:=qx
   obtain rfl:=Rep.str_iff.mp ry;obtain⟨ty,rfl⟩:∃ t,b=Value.str _ t:=qy
   unfold eqD
   exact⟨SeqAt.RcAt.int_str _ _ _ _,SeqAt.EqAt.int_str _ _ _ _,SeqAt.RcNeAt.int_str _ _ _ _⟩
  | lst y =>
   obtain rfl:=Rep.int_iff.mp rx;obtain⟨tx,rfl⟩:∃ t,a=Value.int _ t:=qx
   obtain⟨ly,_,_,rfl,rfl,_,_,_,hy,_⟩:=Rep.lst_get I ry qy
   unfold eqD
   exact⟨SeqAt.RcAt.int_list _ _ hy hu,SeqAt.EqAt.int_list _ _ hy hu,SeqAt.RcNeAt.int_list _ _ hy hu⟩
  | tup y =>
   obtain rfl:=Rep.int_iff.mp rx;obtain⟨tx,rfl⟩:∃ t,a=Value.int _ t:=qx
   obtain⟨ly,_,_,rfl,rfl,_,_,_,hy,_⟩:=Rep.tup_get I ry qy
   unfold eqD
   exact⟨SeqAt.RcAt.int_tuple _ _ hy hu,SeqAt.EqAt.int_tuple _ _ hy hu,SeqAt.RcNeAt.int_tuple _ _ hy hu⟩
  | dic ks ds=>exact absurd rfl (d2 ks ds)
  | exc c=>exact absurd rfl (x2 c)
  | ob k c=>exact absurd rfl (o2 k c)
 | str x =>
  cases y with
  | non =>
   obtain rfl:=Rep.str_iff.mp rx;obtain⟨tx,rfl⟩:∃ t,a=Value.str _ t:=qx
   obtain rfl:=Rep.non_iff.mp ry;obtain rfl:b=Value.none:=qy
   unfold eqD
   exact⟨SeqAt.RcAt.str_none _ _,SeqAt.EqAt.str_none _ _,SeqAt.RcNeAt.str_none _ _⟩
  | bl y =>
   obtain rfl:=Rep.str_iff.mp rx;obtain⟨tx,rfl⟩:∃ t,a=Value.str _ t:=qx
   obtain rfl:=Rep.bl_iff.mp ry;obtain rfl:b=Value.bool _:=qy
   unfold eqD
   exact⟨SeqAt.RcAt.str_bool _ _ _,SeqAt.EqAt.str_bool _ _ _,SeqAt.RcNeAt.str_bool _ _ _⟩
  | int y =>
   obtain rfl:=Rep.str_iff.mp rx;obtain⟨tx,rfl⟩:∃ t,a=Value.str _ t:=qx
   obtain rfl:=Rep.int_iff.mp ry;obtain⟨ty,rfl⟩:∃ t,b=Value.int _ t:=qy
   unfold eqD
   exact⟨SeqAt.RcAt.str_int _ _ _ _,SeqAt.EqAt.str_int _ _ _ _,SeqAt.RcNeAt.str_int _ _ _ _⟩
  | str y =>
   obtain rfl:=Rep.str_iff.mp rx;obtain⟨tx,rfl⟩:∃ t,a=Value.str _ t:=qx
   obtain rfl:=Rep.str_iff.mp ry;obtain⟨ty,rfl⟩:∃ t,b=Value.str _ t:=qy
   unfold eqD
   exact⟨SeqAt.RcAt.str_str _ _ _ _,SeqAt.EqAt.str_str _ _ _ _,SeqAt.RcNeAt.str_str _ _ _ _⟩
  | lst y =>
   obtain rfl:=Rep.str_iff.mp rx;obtain⟨tx,rfl⟩:∃ t,a=Value.str _ t:=qx
   obtain⟨ly,_,_,rfl,rfl,_,_,_,hy,_⟩:=Rep.lst_get I ry qy
   unfold eqD
   exact⟨SeqAt.RcAt.str_list _ _ hy hu,SeqAt.EqAt.str_list _ _ hy hu,SeqAt.RcNeAt.str_list _ _ hy hu⟩
  | tup y =>
   obtain rfl:=Rep.str_iff.mp rx;obtain⟨tx,rfl⟩:∃ t,a=Value.str _ t:=qx
   obtain⟨ly,_,_,rfl,rfl,_,_,_,hy,_⟩:=Rep.tup_get I ry qy
   unfold eqD
   exact⟨SeqAt.RcAt.str_tuple _ _ hy hu,SeqAt.EqAt.str_tuple _ _ hy hu,SeqAt.RcNeAt.str_tuple _ _ hy hu⟩
  | dic ks ds=>exact absurd rfl (d2 ks ds)
  | exc c=>exact absurd rfl (x2 c)
  | ob k c=>exact absurd rfl (o2 k c)
 | lst x =>
  cases y with
  | non =>
   obtain⟨lx,_,_,rfl,rfl,_,_,_,hx,_⟩:=Rep.lst_get I rx qx
   obtain rfl:=Rep.non_iff.mp ry;obtain rfl:b=Value.none:=qy
   unfold eqD
   exact⟨SeqAt.RcAt.list_none  hx hu,SeqAt.EqAt.list_none  hx hu,SeqAt.RcNeAt.list_none  hx hu⟩
  | bl y =>
   obtain⟨lx,_,_,rfl,rfl,_,_,_,hx,_⟩:=Rep.lst_get I rx qx
   obtain rfl:=Rep.bl_iff.mp ry;obtain rfl:b=Value.bool _:=qy
   unfold eqD
   exact⟨SeqAt.RcAt.list_bool _ hx hu,SeqAt.EqAt.list_bool _ hx hu,SeqAt.RcNeAt.list_bool _ hx hu⟩
  | int y =>
   obtain⟨lx,_,_,rfl,rfl,_,_,_,hx,_⟩:=Rep.lst_get I rx qx
   obtain rfl:=Rep.int_iff.mp ry;obtain⟨ty,rfl⟩:∃ t,b=Value.int _ t:=qy
   unfold eqD
   exact⟨SeqAt.RcAt.list_int _ _ hx hu,SeqAt.EqAt.list_int _ _ hx hu,SeqAt.RcNeAt.list_int _ _ hx hu⟩
  | str y =>
   obtain⟨lx,_,_,rfl,rfl,_,_,_,hx,_⟩:=Rep.lst_get I rx qx
   obtain rfl:=Rep.str_iff.mp ry;obtain⟨ty,rfl⟩:∃ t,b=Value.str _ t:=qy
   unfold eqD
   exact⟨SeqAt.RcAt.list_str _ _ hx hu,SeqAt.EqAt.list_str _ _ hx hu,SeqAt.RcNeAt.list_str _ _ hx hu⟩
  | lst y =>
   exact absurd ⟨rfl,rfl⟩ (n1 x y)
  | tup y =>
   obtain⟨lx,_,_,rfl,rfl,_,_,_,hx,_⟩:=Rep.lst_get I rx qx
   obtain⟨ly,_,_,rfl,rfl,_,_,_,hy,_⟩:=Rep.tup_get I ry qy
   unfold eqD
   exact⟨SeqAt.RcAt.list_tuple  hx hy hu,SeqAt.EqAt.list_tuple  hx hy hu,SeqAt.RcNeAt.list_tuple  hx hy hu⟩
  | dic ks ds=>exact absurd rfl (d2 ks ds)
  | exc c=>exact absurd rfl (x2 c)
  | ob k c=>exact absurd rfl (o2 k c)
 | tup x =>
  cases y with
  | non =>
   obtain⟨lx,_,_,rfl,rfl,_,_,_,hx,_⟩:=Rep.tup_get I rx qx
   obtain rfl:=Rep.non_iff.mp ry;obtain rfl:b=Value.none:=qy
   unfold eqD
   exact⟨SeqAt.RcAt.tuple_none  hx hu,SeqAt.EqAt.tuple_none  hx hu,SeqAt.RcNeAt.tuple_none  hx hu⟩
  | bl y =>
   obtain⟨lx,_,_,rfl,rfl,_,_,_,hx,_⟩:=Rep.tup_get I rx qx
   obtain rfl:=Rep.bl_iff.mp ry;obtain rfl:b=Value.bool _:=qy
   unfold eqD
   exact⟨SeqAt.RcAt.tuple_bool _ hx hu,SeqAt.EqAt.tuple_bool _ hx hu,SeqAt.RcNeAt.tuple_bool _ hx hu⟩
  | int y =>
   obtain⟨lx,_,_,rfl,rfl,_,_,_,hx,_⟩:=Rep.tup_get I rx qx
   obtain rfl:=Rep.int_iff.mp ry;obtain⟨ty,rfl⟩:∃ t,b=Value.int _ t:=qy
   unfold eqD
   exact⟨SeqAt.RcAt.tuple_int _ _ hx hu,SeqAt.EqAt.tuple_int _ _ hx hu,SeqAt.RcNeAt.tuple_int _ _ hx hu⟩
  | str y =>
   obtain⟨lx,_,_,rfl,rfl,_,_,_,hx,_⟩:=Rep.tup_get I rx qx
   obtain rfl:=Rep.str_iff.mp ry;obtain⟨ty,rfl⟩:∃ t,b=Value.str _ t:=qy
   unfold eqD
   exact⟨SeqAt.RcAt.tuple_str _ _ hx hu,SeqAt.EqAt.tuple_str _ _ hx hu,SeqAt.RcNeAt.tuple_str _ _ hx hu⟩
  | lst y =>
   obtain⟨lx,_,_,rfl,rfl,_,_,_,hx,_⟩:=Rep.tup_get I rx qx
   obtain⟨ly,_,_,rfl,rfl,_,_,_,hy,_⟩:=Rep.lst_get I ry qy
   unfold eqD
   exact⟨SeqAt.RcAt.tuple_list  hx hy hu,SeqAt.EqAt.tuple_list  hx hy hu,SeqAt.RcNeAt.tuple_list  hx hy hu⟩
  | tup y =>
   exact absurd ⟨rfl,rfl⟩ (n2 x y)
  | dic ks ds=>exact absurd rfl (d2 ks ds)
  | exc c=>exact absurd rfl (x2 c)
  | ob k c=>exact absurd rfl (o2 k c)
 | dic ks ds=>exact absurd rfl (d1 ks ds)
 | exc c=>exact absurd rfl (x1 c)
 | ob k c=>exact absurd rfl (o1 k c)
theorem zDK (I:Inv X pins σ H s):∀ (n:Nat) (A:Around),A.units+n < cLine->∀ (x y:D) (v u:V) (a b:Value),zbE n x=true->zbE n y=true->Rep X.K H x v->Rep X.K H y u->zcN v a->zcN u b ->
  SeqAt.RcAt A s a b (eqD x y)/\SeqAt.EqAt A s a b (eqD x y)/\SeqAt.RcNeAt A s a b (!(eqD x y)):=by
 have nd:∀ m ks ds,zbE m (.dic ks ds)=true->False:=fun m ks ds h=>by cases m<;>(unfold zbE at h;cases h)
 have nx:∀ m x,zbE m (.exc x)=true->False:=fun m x h=>by cases m<;>(unfold zbE at h;cases h)
 have nb:∀ m k x,zbE m (.ob k x)=true->False:=fun m k x h=>by cases m<;>(unfold zbE at h;cases h)
 intro n
 induction n with
 | zero =>
  intro A hu x y v u a b sx sy rx ry qa qb
  refine zsq I (by omega) rx ry qa qb (fun ds ds' z=>?_) (fun ds ds' z=>?_) (fun ks ds z=>?_) (fun ks ds z=>?_) (fun c z=>nx _ _ (z▸sx)) (fun c z=>nx _ _ (z▸sy)) (fun k c z=>nb _ _ _ (z▸sx)) (fun k c z=>nb _ _ _ (z▸sy))
  ·rw[z.1] at sx;unfold zbE at sx;cases sx
  ·rw[z.1] at sx;unfold zbE at sx;cases sx
  ·rw[z] at sx;exact nd _ _ _ sx
  ·rw[z] at sy;exact nd _ _ _ sy
 | succ n ih =>
  intro A hu x y v u a b sx sy rx ry qa qb
  have ih':∀ (x y:D) (v u:V) (a b:Value),zbE n x=true->zbE n y=true->Rep X.K H x v->Rep X.K H y u->zcN v a->zcN u b->SeqAt.EqAt A.in1 s a b (eqD x y) :=
   fun x y v u a b s1 s2 r1 r2 q1 q2=>(ih A.in1 (by show A.units+1+n < cLine;omega) x y v u a b s1 s2 r1 r2 q1 q2).2.1
  by_cases t1:∃ ds ds',x=.tup ds/\y=.tup ds'
  ·obtain⟨xs,ys,rfl,rfl⟩:=t1
   obtain⟨l,vs,is,rfl,rfl,h1,h2,h3,h4,h5⟩:=Rep.tup_get I rx qa
   obtain⟨m,us,js,rfl,rfl,k1,k2,k3,k4,k5⟩:=Rep.tup_get I ry qb
   have hsx:=sx
   have hsy:=sy
   unfold zbE at sx sy
   have each:=zsK (A:=A) ih' sx sy h2 k2 h3 k3
   have eall:eqD (.tup xs) (.tup ys)=((List.range (min is.toArray.size js.toArray.size)).all (fun j=>eqD (xs.getD j .non) (ys.getD j .non))&&is.toArray.size==js.toArray.size):=by
    rw[zA3]
    simp only[List.size_toArray,← h5,← k5]
    by_cases hl:xs.length=ys.length
    ·rw[zkt xs ys hl,← hl,Nat.min_self,beq_self_eq_true,Bool.and_true]
    ·rw[zlP xs ys hl,beq_eq_false_iff_ne.mpr hl,Bool.and_false]
   refine⟨?_,?_,?_⟩
   ·rw[eall];exact SeqAt.RcAt.tuples h4 k4 (by omega) each
   ·by_cases hlm:l=m
    ·subst hlm
     rw[Rep.inj I (n+1) _ _ _ hsx hsy rx ry,zj7 (n+1) _ hsy]
     exact SeqAt.EqAt.same _
    ·refine SeqAt.EqAt.of_refs hlm ?_
     rw[eall];exact SeqAt.RcAt.tuples h4 k4 (by omega) each
   ·rw[eall];exact SeqAt.RcNeAt.tuples h4 k4 (by omega) each
  ·by_cases t2:∃ ds ds',x=.lst ds/\y=.lst ds'
   ·obtain⟨xs,ys,rfl,rfl⟩:=t2
    obtain⟨l,vs,is,rfl,rfl,h1,h2,h3,h4,h5⟩:=Rep.lst_get I rx qa
    obtain⟨m,us,js,rfl,rfl,k1,k2,k3,k4,k5⟩:=Rep.lst_get I ry qb
    have hsx:=sx
    have hsy:=sy
    unfold zbE at sx sy
    have each:=zsK (A:=A) ih' sx sy h2 k2 h3 k3
    by_cases hl:xs.length=ys.length
    ·have hsz:is.toArray.size=js.toArray.size:=by simp only[List.size_toArray];omega
     have eall:eqD (.lst xs) (.lst ys)=(List.range is.toArray.size).all (fun j=>eqD (xs.getD j .non) (ys.getD j .non)):=by
      rw[zoG]
      simp only[List.size_toArray,← h5]
      exact zkt xs ys hl
     refine⟨?_,?_,?_⟩
     ·rw[eall];exact SeqAt.RcAt.lists h4 k4 hsz (by omega) each
     ·by_cases hlm:l=m
      ·subst hlm
       rw[Rep.inj I (n+1) _ _ _ hsx hsy rx ry,zj7 (n+1) _ hsy]
       exact SeqAt.EqAt.same _
      ·refine SeqAt.EqAt.of_refs hlm ?_
       rw[eall];exact SeqAt.RcAt.lists h4 k4 hsz (by omega) each
     ·rw[eall];exact SeqAt.RcNeAt.lists h4 k4 hsz (by omega) each
    ·have hsz:(is.toArray.size != js.toArray.size)=true:=by simp only[List.size_toArray,bne_iff_ne,ne_eq];omega
     have eall:eqD (.lst xs) (.lst ys)=false:=by rw[zoG];exact zlP xs ys hl
     rw[eall]
     refine⟨SeqAt.RcAt.lists_lengths h4 k4 hsz (by omega),?_,SeqAt.RcNeAt.lists_lengths h4 k4 hsz (by omega)⟩
     refine SeqAt.EqAt.of_refs (fun e=>?_) (SeqAt.RcAt.lists_lengths h4 k4 hsz (by omega))
     subst e
     have:=Rep.inj I (n+1) _ _ _ hsx hsy rx ry
     cases this
     exact hl rfl
   ·exact zsq I (by omega) rx ry qa qb (fun ds ds' z=>t2 ⟨ds,ds',z⟩) (fun ds ds' z=>t1 ⟨ds,ds',z⟩) (fun ks ds z=>by rw[z] at sx;exact nd _ _ _ sx) (fun ks ds z=>by rw[z] at sy;exact nd _ _ _ sy) (fun c z=>nx _ _ (z▸sx)) (fun c z=>nx _ _ (z▸sy)) (fun k c z=>nb _ _ _ (z▸sx)) (fun k c z=>nb _ _ _ (z▸sy))
end
section
variable {X:Cx}{E:XK}
def dEq (x y:D):Res D:=if zbE 40 x=true/\zbE 40 y=true then .ok (.bl (eqD x y)) else .stuck
def dNe (x y:D):Res D:=if zbE 40 x=true/\zbE 40 y=true then .ok (.bl (!(eqD x y))) else .stuck
def zEz (K:W.Frag):R2:=fun v u H Q=>∃ x y,Rep K H x v/\Rep K H y u/\zbE 40 x=true/\zbE 40 y=true/\Q (.bl (eqD x y)) H
def zEv (K:W.Frag):R2:=fun v u H Q=>∃ x y,Rep K H x v/\Rep K H y u/\zbE 40 x=true/\zbE 40 y=true/\Q (.bl (!(eqD x y))) H
theorem zco (hu:X.A.units+64 < cLine):OpR X (compareOp .Eq) (zEz X.K):=by
 intro pins s σ H x y v u Q I rx ry h
 obtain⟨d,d',h1,h2,s1,s2,q⟩:=h
 exact(zDK I 40 X.A (by omega) d d' x y v u s1 s2 h1 h2 rx ry).1 _ _ _ _ ⟨.bl _,H,I,rfl,q⟩
theorem zhA (hu:X.A.units+64 < cLine):OpR X (compareOp .NotEq) (zEv X.K):=by
 intro pins s σ H x y v u Q I rx ry h
 obtain⟨d,d',h1,h2,s1,s2,q⟩:=h
 exact(zDK I 40 X.A (by omega) d d' x y v u s1 s2 h1 h2 rx ry).2.2 _ _ _ _ ⟨.bl _,H,I,rfl,q⟩
theorem zeG:OpD X.K E (zEz X.K) dEq:=by
 intro x y v u H H₀ Q hs r1 r2 q
 unfold dEq at q
 by_cases c:zbE 40 x=true/\zbE 40 y=true
 ·rw[if_pos c] at q
  exact⟨x,y,r1.mono hs,r2.mono hs,c.1,c.2,q _ H H₀ (zbZ.refl hs) (Rep.bl_iff.mpr rfl)⟩
 ·rw[if_neg c] at q;exact q.elim
theorem zlz:OpD X.K E (zEv X.K) dNe:=by
 intro x y v u H H₀ Q hs r1 r2 q
 unfold dNe at q
 by_cases c:zbE 40 x=true/\zbE 40 y=true
 ·rw[if_pos c] at q
  exact⟨x,y,r1.mono hs,r2.mono hs,c.1,c.2,q _ H H₀ (zbZ.refl hs) (Rep.bl_iff.mpr rfl)⟩
 ·rw[if_neg c] at q;exact q.elim
open Classical in
noncomputable def zm2 (K:W.Frag) (H:Hp) (ds:List D) (x:D) (u:Value):Bool :=
 if h:∃ d,d∈ds/\∃ v,Rep K H d v/\zcN v u then eqD h.choose x else false
theorem zoF {pins:List (Addr×Obj)}{σ:L2.St}{H:Hp}{s:Shared}(I:Inv X pins σ H s){ds:List D}{x d:D}{v:V}{u:Value}(sd:ds.all (zbE 40)=true)(hd:d∈ds)(r:Rep X.K H d v)(q:zcN v u):zm2 X.K H ds x u=eqD d x:=by
 have h:∃ d,d∈ds/\∃ v,Rep X.K H d v/\zcN v u:=⟨d,hd,v,r,q⟩
 unfold zm2
 rw[dif_pos h]
 obtain⟨h1,v',h2,h3⟩:=h.choose_spec
 have e:v'=v:=h3.inj q
 subst e
 rw[Rep.inj I 40 _ _ _ (List.all_eq_true.mp sd _ h1) (List.all_eq_true.mp sd _ hd) h2 r]
def zAg (K:W.Frag)(neg:Bool):R2:=fun v u H Q=>∃ x ds,Rep K H x v/\(Rep K H (.lst ds) u∨Rep K H (.tup ds) u)/\zbE 40 x=true/\ds.all (zbE 40)=true/\Q (.bl (if neg then !(ds.any fun d=>eqD d x) else ds.any fun d=>eqD d x)) H
theorem zke {pins:List (Addr×Obj)}{σ:L2.St}{H:Hp}{s:Shared}(I:Inv X pins σ H s){x:D}{es:List D}(se:es.all (zbE 40)=true):∀ {ds:List D}{vs:List V}{us:List Value},(∀ d∈ds,d∈es)->Reps X.K H ds vs->zce vs us->us.any (zm2 X.K H es x)=ds.any fun d=>eqD d x
 | [],_,_,_,h,q=>by
  rw[Reps.nil_iff.mp h] at q
  cases q
  rfl
 | d::ds,_,_,hm,h,q=>by
  obtain⟨v,r,rfl,h1,h2⟩:=Reps.cons_iff.mp h
  cases q with
  | cons q1 q2 =>
   rw[List.any_cons,List.any_cons,zoF I se (hm d List.mem_cons_self) h1 q1,zke I se (fun x hx=>hm x (List.mem_cons_of_mem _ hx)) h2 q2]
theorem zf6 {pins:List (Addr×Obj)}{σ:L2.St}{H:Hp}{s:Shared}(I:Inv X pins σ H s)(hu:X.A.units+64 < cLine){x:D}{v:V}{u:Value}(sx:zbE 40 x=true)(rx:Rep X.K H x v)(qx:zcN v u){es:List D}(se:es.all (zbE 40)=true):∀ {ds:List D}{vs:List V}{us:List Value},(∀ d∈ds,d∈es)->Reps X.K H ds vs->zce vs us->∀ y∈us,SeqAt.EqAt X.A.in1 s y u (zm2 X.K H es x y)
 | [],_,_,_,h,q=>fun y hy=>by
  rw[Reps.nil_iff.mp h] at q
  cases q
  cases hy
 | d::ds,_,_,hm,h,q=>fun y hy=>by
  obtain⟨w,r,rfl,h1,h2⟩:=Reps.cons_iff.mp h
  cases q with
  | cons q1 q2 =>
   rcases List.mem_cons.mp hy with rfl | hy
   ·rw[zoF I se (hm d List.mem_cons_self) h1 q1]
    exact(zDK I 40 X.A.in1 (by show X.A.units+1+40 < cLine;omega) d x w v _ u (List.all_eq_true.mp se _ (hm d List.mem_cons_self)) sx h1 rx q1 qx).2.1
   ·exact zf6 I hu sx rx qx se (fun x hx=>hm x (List.mem_cons_of_mem _ hx)) h2 q2 y hy
theorem zCt (hu:X.A.units+64 < cLine):OpR X (compareOp .In) (zAg X.K false):=by
 intro pins s σ H x y v u Q I rx ry h
 obtain⟨d,ds,h1,h2,s1,s2,q⟩:=h
 rcases h2 with h2 | h2
 ·obtain⟨a,vs,its,rfl,rfl,k1,k2,k3,k4,k5⟩:=Rep.lst_get I h2 ry
  refine SeqAt.in_listAt (zm2 X.K H ds d) k4 (fun w hw=>zf6 I hu s1 h1 rx s2 (fun _ z=>z) k2 k3 w (by simpa using hw)) ⟨.bl _,H,I,rfl,?_⟩
  rw[show its.toArray.any (zm2 X.K H ds d)=its.any (zm2 X.K H ds d) by simp,zke I s2 (fun _ z=>z) k2 k3]
  exact q
 ·obtain⟨a,vs,its,rfl,rfl,k1,k2,k3,k4,k5⟩:=Rep.tup_get I h2 ry
  refine SeqAt.in_tupleAt (zm2 X.K H ds d) k4 (fun w hw=>zf6 I hu s1 h1 rx s2 (fun _ z=>z) k2 k3 w (by simpa using hw)) ⟨.bl _,H,I,rfl,?_⟩
  rw[show its.toArray.any (zm2 X.K H ds d)=its.any (zm2 X.K H ds d) by simp,zke I s2 (fun _ z=>z) k2 k3]
  exact q
theorem zvA (hu:X.A.units+64 < cLine):OpR X (compareOp .NotIn) (zAg X.K true):=by
 intro pins s σ H x y v u Q I rx ry h
 obtain⟨d,ds,h1,h2,s1,s2,q⟩:=h
 rcases h2 with h2 | h2
 ·obtain⟨a,vs,its,rfl,rfl,k1,k2,k3,k4,k5⟩:=Rep.lst_get I h2 ry
  refine SeqAt.notIn_listAt (zm2 X.K H ds d) k4 (fun w hw=>zf6 I hu s1 h1 rx s2 (fun _ z=>z) k2 k3 w (by simpa using hw)) ⟨.bl _,H,I,rfl,?_⟩
  rw[show its.toArray.any (zm2 X.K H ds d)=its.any (zm2 X.K H ds d) by simp,zke I s2 (fun _ z=>z) k2 k3]
  exact q
 ·obtain⟨a,vs,its,rfl,rfl,k1,k2,k3,k4,k5⟩:=Rep.tup_get I h2 ry
  refine SeqAt.notIn_tupleAt (zm2 X.K H ds d) k4 (fun w hw=>zf6 I hu s1 h1 rx s2 (fun _ z=>z) k2 k3 w (by simpa using hw)) ⟨.bl _,H,I,rfl,?_⟩
  rw[show its.toArray.any (zm2 X.K H ds d)=its.any (zm2 X.K H ds d) by simp,zke I s2 (fun _ z=>z) k2 k3]
  exact q
def occ (i j:Str):Bool:=!(Builtin.Str.occurrences j i 0 j.length 1).isEmpty
def inD (x y:D):Option Bool:=match y with
 | .lst ds=>if zbE 40 x=true/\ds.all (zbE 40)=true then some (ds.any fun d=>eqD d x) else none
 | .tup ds=>if zbE 40 x=true/\ds.all (zbE 40)=true then some (ds.any fun d=>eqD d x) else none
 | .str j=>match x with
  | .str i=>some (occ i j)
  | _=>none
 | _=>none
def dIn (x y:D):Res D:=match inD x y with
 | some b=>.ok (.bl b)
 | none=>.stuck
def zhD (x y:D):Res D:=match inD x y with
 | some b=>.ok (.bl (!b))
 | none=>.stuck
def zB4 (neg:Bool):R2:=fun x y H Q=>∃ i j,x=.str i/\y=.str j/\Q (.bl (if neg then !(occ i j) else occ i j)) H
theorem zAy (hu:X.A.units+64 < cLine):OpR X (compareOp .In) (fun v u H Q=>zAg X.K false v u H Q∨zB4 false v u H Q):=OpR.or (zCt hu) (by
 intro pins s σ H x y v u Q I rx ry h
 obtain⟨i,j,rfl,rfl,q⟩:=h
 exact zvB pins s σ H _ _ v u Q I rx ry ⟨i,j,rfl,rfl,q⟩)
theorem zog (hu:X.A.units+64 < cLine):OpR X (compareOp .NotIn) (fun v u H Q=>zAg X.K true v u H Q∨zB4 true v u H Q):=OpR.or (zvA hu) (by
 intro pins s σ H x y v u Q I rx ry h
 obtain⟨i,j,rfl,rfl,q⟩:=h
 exact zpM pins s σ H _ _ v u Q I rx ry ⟨i,j,rfl,rfl,q⟩)
theorem zsF {neg:Bool}{x y:D}{v u:V}{H H₀:Hp}{Q:VK}(hs:za2 H₀ H)(r1:Rep X.K H₀ x v)(r2:Rep X.K H₀ y u)
  (q:post X.K E H H₀ (match inD x y with | some b=>.ok (.bl (if neg then !b else b)) | none=>.stuck) Q):zAg X.K neg v u H Q∨zB4 neg v u H Q:=by
 cases y with
 | lst ds =>
  simp only[inD] at q
  by_cases c:zbE 40 x=true/\ds.all (zbE 40)=true
  ·rw[if_pos c] at q
   exact .inl ⟨x,ds,r1.mono hs,.inl (r2.mono hs),c.1,c.2,q _ H H₀ (zbZ.refl hs) (Rep.bl_iff.mpr rfl)⟩
  ·rw[if_neg c] at q;exact q.elim
 | tup ds =>
  simp only[inD] at q
  by_cases c:zbE 40 x=true/\ds.all (zbE 40)=true
  ·rw[if_pos c] at q
   exact .inl ⟨x,ds,r1.mono hs,.inr (r2.mono hs),c.1,c.2,q _ H H₀ (zbZ.refl hs) (Rep.bl_iff.mpr rfl)⟩
  ·rw[if_neg c] at q;exact q.elim
 | str j =>
  cases x with
  | str i=>exact .inr ⟨i,j,Rep.str_iff.mp r1,Rep.str_iff.mp r2,q _ H H₀ (zbZ.refl hs) (Rep.bl_iff.mpr rfl)⟩
  | _=>exact q.elim
 | _=>exact q.elim
theorem zAE:OpD X.K E (fun v u H Q=>zAg X.K false v u H Q∨zB4 false v u H Q) dIn:=fun x y v u H H₀ Q hs r1 r2 q=>zsF (neg:=false) (E:=E) hs r1 r2 (by
 unfold dIn at q
 cases e:inD x y with
 | none=>rw[e] at q;exact q
 | some b=>rw[e] at q;exact q)
theorem zon:OpD X.K E (fun v u H Q=>zAg X.K true v u H Q∨zB4 true v u H Q) zhD:=fun x y v u H H₀ Q hs r1 r2 q=>zsF (neg:=true) (E:=E) hs r1 r2 (by
 unfold zhD at q
 cases e:inD x y with
 | none=>rw[e] at q;exact q
 | some b=>rw[e] at q;exact q)
end
@[irreducible] def B9:Nat:=2 ^ 9000
@[irreducible] def B13:Nat:=2 ^ 13500
@[irreducible] def B60:Nat:=2 ^ 60000
theorem zy8:B9=2 ^ 9000:=by unfold B9;rfl
theorem zqG:B13=2 ^ 13500:=by unfold B13;rfl
theorem ztb:B60=2 ^ 60000:=by unfold B60;rfl
theorem znr {n k:Nat}(h:n < 2 ^ k)(hk:0 < k):n.log2 < k:=by
 by_cases h0:n=0
 ·rw[h0]
  have:Nat.log2 0=0:=by decide
  omega
 ·exact(Nat.log2_lt h0).mpr h
theorem zD0 {x y:Int}(h:y.natAbs < B9):Builtin.divisionGoesByPylong x y=false:=by
 rw[zy8] at h
 exact PyProof.noPylong_of_log2 (znr h (by omega))
theorem zCy {x y:Int}(h:x.natAbs < B13):Builtin.divisionGoesByPylong x y=false:=by
 rw[zqG] at h
 have hx:x.natAbs.log2 < 13500:=znr h (by omega)
 show(decide ((if y==0 then 0 else y.natAbs.log2 / 30+1) > 300)&&decide ((if x==0 then 0 else x.natAbs.log2 / 30+1) > (if y==0 then 0 else y.natAbs.log2 / 30+1)+150))=false
 have k:(if x==0 then 0 else x.natAbs.log2 / 30+1)<=450:=by
  by_cases hx0:(x==0)=true
  ·rw[if_pos hx0];omega
  ·rw[if_neg hx0];omega
 by_cases c:(if y==0 then 0 else y.natAbs.log2 / 30+1) > 300
 ·rw[Bool.and_eq_false_iff];right;exact decide_eq_false (by omega)
 ·rw[Bool.and_eq_false_iff];left;exact decide_eq_false c
def zj8 (i j:Int):Bool:=decide (j≠0)&&(decide (j.natAbs < B9)||decide (i.natAbs < B13))
def zhK (i j:Int):Bool:=decide (i.natAbs < B60)&&decide (j.natAbs < B60)
theorem zj8.ok {i j:Int}(h:zj8 i j=true):j≠0/\Builtin.divisionGoesByPylong i j=false:=by
 unfold zj8 at h
 rw[Bool.and_eq_true,Bool.or_eq_true] at h
 refine⟨of_decide_eq_true h.1,?_⟩
 rcases h.2 with h | h
 ·exact zD0 (of_decide_eq_true h)
 ·exact zCy (of_decide_eq_true h)
theorem zhK.ok {i j:Int}(h:zhK i j=true):IntMulOk i j:=by
 unfold zhK at h
 rw[Bool.and_eq_true] at h
 have h1:=of_decide_eq_true h.1
 have h2:=of_decide_eq_true h.2
 rw[ztb] at h1 h2
 exact PyProof.Rows.mulOk_of_bits (m:=60000) (n:=60000) (PySem.intBits_le_iff.mpr h1) (PySem.intBits_le_iff.mpr h2) (by decide)
section
variable {X:Cx}{E:XK}{e a b c:Expr}{es:List Expr}{f g k:Ev->Res D}{fa:Ev->Res (List D)}{pos:Pos}
theorem zbA {K:W.Frag}{H H₀:Hp}{d:D}{v:V}{Q:VK}(hs:za2 H₀ H)(q:post K E H H₀ (.ok d) Q)(r:Rep K H₀ d v):Q v H:=q v H H₀ (zbZ.refl hs) r
def iop (c:Int->Int->Bool)(g:Int->Int->D)(x y:D):Res D:=match x,y with
 | .int i,.int j=>if c i j=true then .ok (g i j) else .stuck
 | _,_=>.stuck
theorem zvI {C:Int->Int->Prop}{c:Int->Int->Bool}{gv:Int->Int->V}{g:Int->Int->D}(hc:∀ i j,c i j=true->C i j)(hg:∀ K H i j,Rep K H (g i j) (gv i j)):OpD X.K E (rI C gv) (iop c g):=by
 intro x y v u H H₀ Q hs r1 r2 q
 unfold iop at q
 cases x with
 | int i =>
  cases y with
  | int j =>
   by_cases h:c i j=true
   ·simp only[if_pos h] at q
    exact⟨i,j,Rep.int_iff.mp r1,Rep.int_iff.mp r2,hc i j h,zbA hs q (hg _ _ i j)⟩
   ·simp only[if_neg h] at q;exact q.elim
  | _=>exact q.elim
 | _=>exact q.elim
theorem zbF {gv:Int->Int->V}{g:Int->Int->D}(hg:∀ K H i j,Rep K H (g i j) (gv i j)):OpD X.K E (rI0 gv) (iop (fun _ _=>true) g):=by
 intro x y v u H H₀ Q hs r1 r2 q
 unfold iop at q
 cases x with
 | int i =>
  cases y with
  | int j=>simp only[if_pos] at q;exact⟨i,j,Rep.int_iff.mp r1,Rep.int_iff.mp r2,zbA hs q (hg _ _ i j)⟩
  | _=>exact q.elim
 | _=>exact q.elim
theorem ri {K:W.Frag}{H:Hp}(n:Int):Rep K H (.int n) (.int n):=Rep.int_iff.mpr rfl
theorem rb {K:W.Frag}{H:Hp}(n:Bool):Rep K H (.bl n) (.bl n):=Rep.bl_iff.mpr rfl
abbrev znK:=iop (fun _ _=>true) fun i j=>.int (i-j)
abbrev zo3:=iop zj8 fun i j=>.int (i.fdiv j)
abbrev zfw:=iop (fun _ j=>decide (j≠0)) fun i j=>.int (i.fmod j)
abbrev zni:=iop (fun i j=>decide (0<=j)&&decide (j<=1000000)&&decide (i.natAbs < 18446744073709551616)) fun i j=>.int (i ^ j.toNat)
abbrev dLt:=iop (fun _ _=>true) fun i j=>.bl (decide (i < j))
abbrev dLe:=iop (fun _ _=>true) fun i j=>.bl (decide (i<=j))
abbrev dGt:=iop (fun _ _=>true) fun i j=>.bl (decide (j < i))
abbrev dGe:=iop (fun _ _=>true) fun i j=>.bl (decide (j<=i))
theorem zAw:OpR X (binaryOp .Mult) (rI IntMulOk fun i j=>.int (i*j)):=opI fun _ _ _ _ _ _ _ hc q=>mul_int q hc
theorem zAA:OpR X (binaryOp .FloorDiv) (rI (fun i j=>j≠0/\Builtin.divisionGoesByPylong i j=false) fun i j=>.int (i.fdiv j)):=opI fun _ _ _ _ _ _ _ hc q=>floordiv_int hc.1 q (.inl hc.2)
theorem zlf (ha:DE X E a f)(hb:DE X E b g):DE X E (.BinOp a .Sub b pos) (zab f g znK):=zuh zCq (zbF fun _ _ _ _=>ri _) ha hb
theorem zj9 (ha:DE X E a f)(hb:DE X E b g):DE X E (.BinOp a .FloorDiv b pos) (zab f g zo3):=zuh zAA (zvI (fun _ _ h=>zj8.ok h) fun _ _ _ _=>ri _) ha hb
theorem zc6 (ha:DE X E a f)(hb:DE X E b g):DE X E (.BinOp a .Mod b pos) (zab f g zfw):=zuh zAx (zvI (fun _ _ h=>of_decide_eq_true h) fun _ _ _ _=>ri _) ha hb
theorem zmI (ha:DE X E a f)(hb:DE X E b g):DE X E (.BinOp a .Pow b pos) (zab f g zni):=zuh zCs (zvI (fun i j h=>by
 rw[Bool.and_eq_true,Bool.and_eq_true] at h
 exact⟨of_decide_eq_true h.1.1,of_decide_eq_true h.1.2,of_decide_eq_true h.2⟩) fun _ _ _ _=>ri _) ha hb
theorem nm {op:CmpOp}{b:Expr}(h1:op≠.In:=by decide)(h2:op≠.NotIn:=by decide):behindInMarks op b=false:=zsI _ h1 h2
def zo2 (x:D):Res D:=match x with
 | .int i=>.ok (.int (-i))
 | _=>.stuck
theorem zjs (ha:DE X E a f):DE X E (.UnaryOp .USub a pos) (za4 f zo2):=zEg zBy (by
 intro x v H H₀ Q hs r q
 cases x with
 | int i=>exact⟨i,Rep.int_iff.mp r,zbA hs q (ri _)⟩
 | _=>exact q.elim) ha
theorem zvC:OpR X (binaryOp .Add) (fun x y H Q=>∃ l b xs zs,x=.ref l/\y=.ref b/\SqL X.K H l xs/\SqL X.K H b zs/\xs.length+zs.length<=sizeLine/\∀ p,H p=none->Q (.ref p) (upd H p (.lst (xs++zs)))):=by
 intro pins s σ H x y v u Q I rx ry h
 obtain⟨l,b,xs,zs,rfl,rfl,hH,hB,hz,q⟩:=h
 cases rx
 cases ry
 obtain⟨its,r,pl,z⟩:=I.list hH
 obtain⟨its2,r2,pl2,z2⟩:=I.list hB
 obtain⟨⟨cls,dd,data,sl⟩,ho,hc,n,hd⟩:=pl.isList
 obtain⟨⟨cls2,dd2,data2,sl2⟩,ho2,hc2,n2,hd2⟩:=pl2.isList
 simp only at hc hd hc2 hd2
 subst hc hd hc2 hd2
 have e:its.toArray++its2.toArray=(its++its2).toArray:=by simp
 have l1:=r.length
 have l2:=r2.length
 refine concat_meets ⟨_,ho,rfl⟩ ⟨_,ho2,rfl⟩ noFill_list_add seq_list_add PySem.F.slot_list_add PySem.F.entry_list_add (PySem.F.args_list_add_2 _ _) (list_addW l b its.toArray its2.toArray n n2 dd dd2 sl sl2 (by simp only[List.size_toArray];omega)) ⟨ho,ho2,?_⟩
 rw[e]
 exact⟨.ref _,_,I.lnew (t':=s.toks) (r.append r2) (by rw[List.length_append];omega),rfl,q _ I.fresh⟩
def zbx (x y:D):Res D:=match x,y with
 | .int i,.int j=>.ok (.int (i+j))
 | .str i,.str j=>if i.length+j.length<=line then .ok (.str (i++j)) else .stuck
 | .lst ds,.lst es=>if ds.length+es.length<=line then .ok (.lst (ds++es)) else .stuck
 | .tup ds,.tup es=>if ds.isEmpty=false/\ds.length+es.length<=line then .ok (.tup (ds++es)) else .stuck
 | _,_=>.stuck
theorem zaW (ha:DE X E a f)(hb:DE X E b g):DE X E (.BinOp a .Add b pos) (zab f g zbx):=zuh (OpR.or zCu (OpR.or ztp (OpR.or zvC zAB))) (by
 intro x y v u H H₀ Q hs r1 r2 q
 unfold zbx at q
 cases x with
 | int i =>
  cases y with
  | int j=>exact .inl ⟨i,j,Rep.int_iff.mp r1,Rep.int_iff.mp r2,zbA hs q (ri _)⟩
  | _=>exact q.elim
 | str i =>
  cases y with
  | str j =>
   by_cases h:i.length+j.length<=line
   ·simp only[if_pos h] at q
    exact .inr (.inl ⟨i,j,Rep.str_iff.mp r1,Rep.str_iff.mp r2,zeK h,zbA hs q (Rep.str_iff.mpr rfl)⟩)
   ·simp only[if_neg h] at q;exact q.elim
  | _=>exact q.elim
 | lst ds =>
  cases y with
  | lst es =>
   by_cases h:ds.length+es.length<=line
   ·simp only[if_pos h] at q
    obtain⟨l,vs,rfl,h1,h2⟩:=Rep.lst_iff.mp r1
    obtain⟨m,us,rfl,k1,k2⟩:=Rep.lst_iff.mp r2
    refine .inr (.inr (.inl ⟨l,m,vs,us,rfl,rfl,za2.sqL hs h1,za2.sqL hs k1,by rw[← h2.length,← k2.length];exact zeK h,fun p hp=>?_⟩))
    exact q _ _ _ (zbZ.alloc hs hp) (Rep.lst_iff.mpr ⟨p,_,rfl,SqL.of zaB,(h2.app k2).mono (zbZ.alloc hs hp).z⟩)
   ·simp only[if_neg h] at q;exact q.elim
  | _=>exact q.elim
 | tup ds =>
  cases y with
  | tup es =>
   by_cases h:ds.isEmpty=false/\ds.length+es.length<=line
   ·simp only[if_pos h] at q
    obtain⟨l,vs,rfl,h1,h2⟩:=Rep.tup_iff.mp r1
    obtain⟨m,us,rfl,k1,k2⟩:=Rep.tup_iff.mp r2
    refine .inr (.inr (.inr ⟨l,m,vs,us,rfl,rfl,za2.sqT hs h1,za2.sqT hs k1,fun z=>?_,by rw[← h2.length,← k2.length];exact zeK h.2,fun z=>?_,fun z p hp=>?_⟩))
    ·have:=h2.length
     rw[z] at this
     have e:ds=[]:=List.length_eq_zero_iff.mp this
     rw[e] at h;exact absurd h.1 (by decide)
    ·have:=k2.length
     rw[z] at this
     have e:es=[]:=List.length_eq_zero_iff.mp this
     rw[e,List.append_nil] at q
     exact zbA hs q r1
    ·exact q _ _ _ (zbZ.alloc hs hp) (Rep.tup_iff.mpr ⟨p,_,rfl,SqT.of zaB,(h2.app k2).mono (zbZ.alloc hs hp).z⟩)
   ·simp only[if_neg h] at q;exact q.elim
  | _=>exact q.elim
 | _=>exact q.elim) ha hb
def dIx (x y:D):Res D:=match y with
 | .int i=>match x with
  | .lst ds=>match atI ds i with
   | some d=>.ok d
   | none=>.stuck
  | .tup ds=>match atI ds i with
   | some d=>.ok d
   | none=>.stuck
  | .str z=>if z.length<=line then match atI z.cps.toList i with
   | some c=>.ok (.str ⟨#[c]⟩)
   | none=>.stuck else .stuck
  | _=>.stuck
 | _=>.stuck
theorem Reps.atI {K:W.Frag}{H:Hp}{ds:List D}{vs:List V}{i:Int}{d:D}(h:Reps K H ds vs)(e:atI ds i=some d):∃ v,L2.atI vs i=some v/\Rep K H d v:=by
 unfold L2.atI at e ⊢
 rw[← h.length]
 cases q:ixN ds.length i with
 | none=>rw[q] at e;cases e
 | some j =>
  rw[q] at e
  exact h.get e
theorem zDZ:OpD X.K E (rIx X.K) dIx:=by
 intro x y v u H H₀ Q hs r1 r2 q
 unfold dIx at q
 cases y with
 | int i =>
  cases x with
  | lst ds =>
   obtain⟨l,vs,rfl,h1,h2⟩:=Rep.lst_iff.mp r1
   cases e:atI ds i with
   | none=>simp only[e] at q;exact q.elim
   | some d =>
    simp only[e] at q
    obtain⟨w,e1,e2⟩:=h2.atI e
    exact .inl ⟨l,vs,i,w,rfl,Rep.int_iff.mp r2,za2.sqL hs h1,e1,zbA hs q e2⟩
  | tup ds =>
   obtain⟨l,vs,rfl,h1,h2⟩:=Rep.tup_iff.mp r1
   cases e:atI ds i with
   | none=>simp only[e] at q;exact q.elim
   | some d =>
    simp only[e] at q
    obtain⟨w,e1,e2⟩:=h2.atI e
    exact .inr (.inl ⟨l,vs,i,w,rfl,Rep.int_iff.mp r2,za2.sqT hs h1,e1,zbA hs q e2⟩)
  | str z =>
   by_cases hz:z.length<=line
   ·simp only[if_pos hz] at q
    cases e:atI z.cps.toList i with
    | none=>simp only[e] at q;exact q.elim
    | some c =>
     simp only[e] at q
     exact .inr (.inr ⟨z,i,c,Rep.str_iff.mp r1,Rep.int_iff.mp r2,zeK hz,e,zbA hs q (Rep.str_iff.mpr rfl)⟩)
   ·simp only[if_neg hz] at q;exact q.elim
  | _=>exact q.elim
 | _=>exact q.elim
theorem zak (ha:DE X E a f)(hb:DE X E b g)(hs:zr5 b:=by intro _ _;rfl):DE X E (.Subscript a b pos) (zab f g dIx):=zEh zCK zDZ ha hb hs
def zec:Ev->Res (Option Int):=fun _=>.ok none
def zcb (f:Ev->Res D):Ev->Res (Option Int):=fun ρ=>(f ρ).bind fun x=>match x with
 | .int i=>.ok (some i)
 | _=>.stuck
def tDO (K:W.Frag)(E:XK)(f:Ev->Res (Option Int)):TO:=fun σ H Q=>∃ H₀ ρ,za2 H₀ H/\ziB K H₀ σ ρ/\match f ρ with
 | .ok o=>∀ H' H₀',zbZ H H₀ H' H₀'->Q o H'
 | .exn x=>∀ C ox H' H₀',zbZ H H₀ H' H₀'->ExR K H₀' x C ox->E C ox H'
 | .stuck=>False
structure DO (X:Cx) (E:XK) (e:Option Expr) (f:Ev->Res (Option Int)):Prop where
 o:PO X e (tDO X.K E f)
theorem zvs {eo:Option Expr}{t t':TO}(h:PO X eo t)(w:∀ σ H Q,t' σ H Q->t σ H Q):PO X eo t':=fun pins s σ H Q I q=>h pins s σ H Q I (w σ H Q q)
theorem zd4:DO X E none zec:=⟨zvs zAl fun σ H Q ⟨H₀,ρ,hs,hr,q⟩=>q H H₀ (zbZ.refl hs)⟩
theorem zbG (ha:DE X E a f):DO X E (some a) (zcb f):=by
 refine⟨?_⟩
 refine zvs (zAk ha.o) fun σ H Q ⟨H₀,ρ,hs,hr,q⟩=>⟨H₀,ρ,hs,hr,?_⟩
 unfold zcb at q
 cases e1:f ρ with
 | stuck=>rw[e1] at q;exact q
 | exn x=>rw[e1] at q;exact q
 | ok d =>
  rw[e1] at q
  intro v H1 H01 g1 r1
  cases d with
  | int i=>exact⟨i,Rep.int_iff.mp r1,q H1 H01 g1⟩
  | _=>exact q.elim
def zjJ (xs:List D)(lo hi:Option Int):List D:=(xs.drop (HT.sIx xs.length 0 lo)).take (HT.sIx xs.length xs.length hi-HT.sIx xs.length 0 lo)
theorem Reps.cut {K:W.Frag}{H:Hp}{ds:List D}{vs:List V}(h:Reps K H ds vs)(lo hi:Option Int):Reps K H (zjJ ds lo hi) (zzC vs lo hi):=by
 unfold zjJ zzC
 rw[← h.length]
 exact(h.drop _).take _
theorem zq0 {r:V->Option Int->Option Int->Hp->VK->Prop}{lo hi:Ev->Res (Option Int)}{m:D->Option Int->Option Int->Res D}
  (ho:∀ x v l h H H₀ Q,za2 H₀ H->Rep X.K H₀ x v->post X.K E H H₀ (m x l h) Q->r v l h H Q)(σ:L2.St)(H:Hp)(Q:VK)
  (h:tD X.K E (fun ρ=>(f ρ).bind fun x=>(lo ρ).bind fun l=>(hi ρ).bind fun h=>m x l h) σ H Q):tSl r (tD X.K E f) (tDO X.K E lo) (tDO X.K E hi) σ H Q:=by
 obtain⟨H₀,ρ,hs,hr,q⟩:=h
 refine⟨H₀,ρ,hs,hr,?_⟩
 replace q:post X.K E H H₀ ((f ρ).bind fun x=>(lo ρ).bind fun l=>(hi ρ).bind fun h=>m x l h) Q:=q
 cases e1:f ρ with
 | stuck=>rw[e1] at q;exact q
 | exn x=>rw[e1] at q;exact q
 | ok x =>
  rw[e1] at q
  intro v H1 H01 g1 r1
  refine⟨H01,ρ,g1.sub,hr.mono g1.z,?_⟩
  replace q:post X.K E H H₀ ((lo ρ).bind fun l=>(hi ρ).bind fun h=>m x l h) Q:=q
  replace q:=q.grow g1
  cases e2:lo ρ with
  | stuck=>rw[e2] at q;exact q
  | exn x=>rw[e2] at q;exact q
  | ok l =>
   rw[e2] at q
   intro H2 H02 g2
   refine⟨H02,ρ,g2.sub,(hr.mono g1.z).mono g2.z,?_⟩
   replace q:post X.K E H1 H01 ((hi ρ).bind fun h=>m x l h) Q:=q
   replace q:=q.grow g2
   cases e3:hi ρ with
   | stuck=>rw[e3] at q;exact q
   | exn x=>rw[e3] at q;exact q
   | ok h =>
    rw[e3] at q
    intro H3 H03 g3
    exact ho x v l h H3 H03 Q g3.sub ((r1.mono g2.z).mono g3.z) (post.grow (r:=m x l h) q g3)
def m1 (m:D->Res D)(ds:List D):Res D:=match ds with
 | [x]=>m x
 | _=>.stuck
def m2 (m:D->D->Res D)(ds:List D):Res D:=match ds with
 | [x,y]=>m x y
 | _=>.stuck
theorem zrZ {r:List V->Hp->VK->Prop}{m:D->Res D}(h:∀ x v H H₀ Q,za2 H₀ H->Rep X.K H₀ x v->post X.K E H H₀ (m x) Q->r [v] H Q):zlD X E r (m1 m):=by
 intro ds vs H H₀ Q hs hr q
 unfold m1 at q
 match ds,hr,q with
 | [x],hr,q =>
  obtain⟨v,r',rfl,h1,h2⟩:=Reps.cons_iff.mp hr
  rw[Reps.nil_iff.mp h2]
  exact h x v H H₀ Q hs h1 q
 | [],_,q=>exact q.elim
 | _::_::_,_,q=>exact q.elim
theorem zEk {r:List V->Hp->VK->Prop}{m:D->D->Res D}(h:∀ x y v u H H₀ Q,za2 H₀ H->Rep X.K H₀ x v->Rep X.K H₀ y u->post X.K E H H₀ (m x y) Q->r [v,u] H Q):zlD X E r (m2 m):=by
 intro ds vs H H₀ Q hs hr q
 unfold m2 at q
 match ds,hr,q with
 | [x,y],hr,q =>
  obtain⟨v,r',rfl,h1,h2⟩:=Reps.cons_iff.mp hr
  obtain⟨u,r'',rfl,h3,h4⟩:=Reps.cons_iff.mp h2
  rw[Reps.nil_iff.mp h4]
  exact h x y v u H H₀ Q hs h1 h3 q
 | [],_,q=>exact q.elim
 | [_],_,q=>exact q.elim
 | _::_::_::_,_,q=>exact q.elim
def zBn (x:D):Res D:=match x with
 | .int i=>.ok (.int (if i < 0 then -i else i))
 | _=>.stuck
def zEi (x y:D):Res D:=match x,y with
 | .int i,.int j=>.ok (.int (if j > i then j else i))
 | _,_=>.stuck
def zhE (x:D):Res D:=match x with
 | .lst ds=>.ok (.int ds.length)
 | .tup ds=>.ok (.int ds.length)
 | .str z=>if z.length<=line then .ok (.int z.length) else .stuck
 | _=>.stuck
def zhF (x:D):Res D:=match x with
 | .int i=>.ok (.int i)
 | .bl b=>.ok (.int (if b then 1 else 0))
 | _=>.stuck
def zqo (x:D):Res D:=match x with
 | .lst ds=>.ok (.lst ds)
 | .tup ds=>.ok (.lst ds)
 | _=>.stuck
theorem zs3:zlD X E (fun xs H Q=>∃ i,xs=[.int i]/\Q (.int (if i < 0 then -i else i)) H) (m1 zBn):=zrZ fun x v H H₀ Q hs r q=>by
 cases x with
 | int i=>exact⟨i,by rw[Rep.int_iff.mp r],zbA hs q (ri _)⟩
 | _=>exact q.elim
theorem zC0:zlD X E (fun xs H Q=>∃ i j,xs=[.int i,.int j]/\Q (.int (if j > i then j else i)) H) (m2 zEi):=zEk fun x y v u H H₀ Q hs r r' q=>by
 cases x with
 | int i =>
  cases y with
  | int j=>exact⟨i,j,by rw[Rep.int_iff.mp r,Rep.int_iff.mp r'],zbA hs q (ri _)⟩
  | _=>exact q.elim
 | _=>exact q.elim
theorem zc7:zlD X E (fun xs H Q=>∃ x n,xs=[x]/\zEQ X.K x H n/\Q (.int n) H) (m1 zhE):=zrZ fun x v H H₀ Q hs r q=>by
 cases x with
 | lst ds =>
  obtain⟨p,vs,rfl,h1,h2⟩:=Rep.lst_iff.mp r
  refine⟨_,vs.length,rfl,.inl ⟨vs,za2.sqL hs h1,rfl⟩,?_⟩
  rw[← h2.length];exact zbA hs q (ri _)
 | tup ds =>
  obtain⟨p,vs,rfl,h1,h2⟩:=Rep.tup_iff.mp r
  refine⟨_,vs.length,rfl,.inr ⟨vs,za2.sqT hs h1,rfl⟩,?_⟩
  rw[← h2.length];exact zbA hs q (ri _)
 | str z =>
  unfold zhE at q
  by_cases hz:z.length<=line
  ·simp only[if_pos hz] at q
   rw[Rep.str_iff.mp r]
   exact⟨_,z.length,rfl,⟨zeK hz,rfl⟩,zbA hs q (ri _)⟩
  ·simp only[if_neg hz] at q;exact q.elim
 | _=>exact q.elim
theorem zzD:zlD X E (fun xs H Q=>(∃ i,xs=[.int i]/\Q (.int i) H)∨∃ k,xs=[.bl k]/\Q (.int (if k then 1 else 0)) H) (m1 zhF):=zrZ fun x v H H₀ Q hs r q=>by
 cases x with
 | int i=>exact .inl ⟨i,by rw[Rep.int_iff.mp r],zbA hs q (ri _)⟩
 | bl i=>exact .inr ⟨i,by rw[Rep.bl_iff.mp r],zbA hs q (ri _)⟩
 | _=>exact q.elim
theorem zrY:zlD X E (fun xs H Q=>∃ p ys,xs=[.ref p]/\(SqL X.K H p ys∨SqT X.K H p ys)/\∀ l,H l=none->Q (.ref l) (upd H l (.lst ys))) (m1 zqo):=zrZ fun x v H H₀ Q hs r q=>by
 cases x with
 | lst ds =>
  obtain⟨p,vs,rfl,h1,h2⟩:=Rep.lst_iff.mp r
  exact⟨p,vs,rfl,.inl (za2.sqL hs h1),fun n hn=>q _ _ _ (zbZ.alloc hs hn) (Rep.lst_iff.mpr ⟨n,_,rfl,SqL.of zaB,h2.mono (zbZ.alloc hs hn).z⟩)⟩
 | tup ds =>
  obtain⟨p,vs,rfl,h1,h2⟩:=Rep.tup_iff.mp r
  exact⟨p,vs,rfl,.inr (za2.sqT hs h1),fun n hn=>q _ _ _ (zbZ.alloc hs hn) (Rep.lst_iff.mpr ⟨n,_,rfl,SqL.of zaB,h2.mono (zbZ.alloc hs hn).z⟩)⟩
 | _=>exact q.elim
theorem zi3 {T:String}{r:List V->Hp->VK->Prop}{m:List D->Res D}{x:Str}{p:Pos}(hc:zkh X (.type T) r)(hd:zlD X E r m)(hg:Gl X x)(hm:X.mg x=none)(hv:bootBuiltins x=some (.type T))(ha:DA X E (e::es) fa)(hn:x≠"__name__":=by decide)(hdb:(x==("__debug__" : Str))=false:=by decide)
  (he:starEach (e::es) X.env=(false,eval e X.env)::starEach es X.env:=by exact zaM rfl)(hpl:(backTo pos (starEach es X.env)).any (·.1)=false:=by exact zbH rfl):DE X E (.Call (.Name x p) (e::es) [] pos) (zan fa m) :=
 ⟨za3 (zvx hc hg hm hv ha.o hn hdb he hpl) (zit hd)⟩
def zne:D->Bool
 | .non=>true
 | _=>false
def zoM (x y:D):Res D:=match y with
 | .non=>.ok (.bl (zne x))
 | _=>.stuck
def zhL (x y:D):Res D:=match y with
 | .non=>.ok (.bl (!(zne x)))
 | _=>.stuck
theorem Rep.is_non {K:W.Frag}{H:Hp}{x:D}{v:V}(r:Rep K H x v):decide (v=.non)=zne x:=by
 cases x with
 | non=>rw[Rep.non_iff.mp r];rfl
 | bl b=>rw[Rep.bl_iff.mp r];rfl
 | int b=>rw[Rep.int_iff.mp r];rfl
 | str b=>rw[Rep.str_iff.mp r];rfl
 | tup ds=>obtain⟨_,_,e,_⟩:=Rep.tup_iff.mp r;rw[e];rfl
 | lst ds=>obtain⟨_,_,e,_⟩:=Rep.lst_iff.mp r;rw[e];rfl
 | dic ks ds=>rw[Rep] at r;obtain⟨_,_,_,e,_⟩:=r;rw[e];rfl
 | exc x=>obtain⟨_,_,e,_⟩:=Rep.exc_iff.mp r;rw[e];rfl
 | ob k x=>obtain⟨_,_,e,_⟩:=Rep.ob_iff.mp r;rw[e];rfl
theorem zsE:OpD X.K E (fun x y H Q=>y=.non/\Q (.bl (decide (x=.non))) H) zoM:=by
 intro x y v u H H₀ Q hs r1 r2 q
 unfold zoM at q
 cases y with
 | non=>exact⟨Rep.non_iff.mp r2,by rw[r1.is_non];exact zbA hs q (rb _)⟩
 | _=>exact q.elim
theorem zom:OpD X.K E (fun x y H Q=>y=.non/\Q (.bl (!decide (x=.non))) H) zhL:=by
 intro x y v u H H₀ Q hs r1 r2 q
 unfold zhL at q
 cases y with
 | non =>
  refine⟨Rep.non_iff.mp r2,?_⟩
  rw[r1.is_non]
  exact zbA hs q (rb _)
 | _=>exact q.elim
def tyD:D->String
 | .non=>"NoneType"
 | .bl _=>"bool"
 | .int _=>"int"
 | .str _=>"str"
 | .tup _=>"tuple"
 | .lst _=>"list"
 | .dic _ _=>"dict"
 | .exc _=>"<exc>"
 | .ob (.ins _ _) _=>"<exc>"
 | .ob (.dint _) _=>"dict"
def zdz (T:String)(x:D):Res D:=.ok (.bl (tyD x==T||(tyD x=="bool"&&T=="int")))
def zr8 (K:W.Frag)(T:String):Prop:=∀ S,S∈["NoneType","bool","int","str","tuple","list","dict"]->W.kitOne K (.type S) (.type T)=some (S==T||(S=="bool"&&T=="int"))
theorem zym {pins:List (Addr×Obj)}{σ:L2.St}{H:Hp}{s:Shared}{A:Around}{Q:Value->Shared->Prop}{x:D}{v:V}{u:Value}{T:String}(I:Inv X pins σ H s)(r:Rep X.K H x v)(q:zcN v u)(hk:zr8 X.K T)(hT:T∈zhH)(h:∀ tk,Q (.bool (tyD x==T||(tyD x=="bool"&&T=="int"))) { s with toks:=tk }) :
  wpAny (model X.prog X.w) A (call (.builtin "isinstance") [u,.type T]) Q X.xe s:=by
 cases x with
 | non=>rw[Rep.non_iff.mp r] at q;exact zjZ I q .non (hk _ (by simp)) h
 | bl b=>rw[Rep.bl_iff.mp r] at q;exact zjZ I q (.bl b) (hk _ (by simp)) h
 | int b=>rw[Rep.int_iff.mp r] at q;exact zjZ I q (.int b) (hk _ (by simp)) h
 | str b=>rw[Rep.str_iff.mp r] at q;exact zjZ I q (.str b) (hk _ (by simp)) h
 | tup ds =>
  obtain⟨a,vs,its,rfl,rfl,h1,h2,h3,h4,_⟩:=Rep.tup_get I r q
  obtain⟨o,k1,k2,_⟩:=h4
  exact W.kia_one W.kitx_tuple I.kIn ⟨o,k1,k2⟩ (hk _ (by simp)) (fun z=>nomatch z) h
 | lst ds =>
  obtain⟨a,vs,its,rfl,rfl,h1,h2,h3,h4,_⟩:=Rep.lst_get I r q
  obtain⟨o,k1,k2,_⟩:=h4
  exact W.kia_one W.kitx_list I.kIn ⟨o,k1,k2⟩ (hk _ (by simp)) (fun z=>nomatch z) h
 | dic ks ds =>
  rw[Rep] at r
  obtain⟨a,kvs,vs,rfl,h1,h2,_⟩:=r
  cases (show u=Value.ref a from q)
  obtain⟨_,_,vs',_,p⟩:=h1.ok I.hok
  obtain⟨o,es,ep,k1,k2,_⟩:=p
  exact W.kia_one W.kitx_dict I.kIn ⟨o,k1,k2.1⟩ (hk _ (by simp)) (fun z=>nomatch z) h
 | exc x =>
  obtain⟨a,C,rfl,hc,h1⟩:=Rep.exc_iff.mp r
  cases (show u=Value.ref a from q)
  obtain⟨p,_,_⟩:=h1.ok I.hok
  have e:(tyD (.exc x)==T||(tyD (.exc x)=="bool"&&T=="int"))=false:=by
   have:∀ T∈zhH,(tyD (.exc x)==T||(tyD (.exc x)=="bool"&&T=="int"))=false:=by show ∀ T∈zhH,("<exc>"==T||("<exc>"=="bool"&&T=="int"))=false;decide
   exact this T hT
  rw[e] at h
  exact W.kia_one (zos hc.ek hc.ek.isCls) I.kIn p (hc.bt T hT) (fun z=>nomatch z) h
 | ob k xs =>
  obtain⟨a,vs,rfl,h1,_⟩:=Rep.ob_iff.mp r
  cases (show u=Value.ref a from q)
  cases k with
  | ins c ks =>
   obtain⟨C,dx,_,hc,h2,_⟩:=h1
   obtain⟨mA,O,_⟩:=zou I.hok h2
   obtain⟨od,O',_⟩:=O.look
   have e:(tyD (.ob (.ins c ks) xs)==T||(tyD (.ob (.ins c ks) xs)=="bool"&&T=="int"))=false:=by
    have:∀ T∈zhH,(tyD (.ob (.ins c ks) xs)==T||(tyD (.ob (.ins c ks) xs)=="bool"&&T=="int"))=false:=by show ∀ T∈zhH,("<exc>"==T||("<exc>"=="bool"&&T=="int"))=false;decide
    exact this T hT
   rw[e] at h
   exact W.kia_one (W.kitx_own (hc.cls.get _) hc.cls.hd hc.gc hc.gn hc.tk hc.mo) I.kIn O' (hc.bt T hT) (fun z=>nomatch z) h
  | dint ks =>
   obtain⟨kvs,h2,_⟩:=h1
   obtain⟨_,_,vs',_,p⟩:=h2.ok I.hok
   obtain⟨o,es,ep,k1,k2,_⟩:=p
   exact W.kia_one W.kitx_dict I.kIn ⟨o,k1,k2.1⟩ (hk _ (by simp)) (fun z=>nomatch z) h
theorem zca {T:String}{x:Str}{p1 p2:Pos}(hk:zr8 X.K T)(hgi:Gl X "isinstance")(hmi:X.mg "isinstance"=none)(hg:Gl X x)(hm:X.mg x=none)(hv:bootBuiltins x=some (.type T))(ha:DE X E a f)
  (hn:x≠"__name__":=by decide)(hdb:(x==("__debug__" : Str))=false:=by decide)(hT:T∈zhH:=by decide)
  (he:starEach [a,.Name x p2] X.env=(false,eval a X.env)::starEach [.Name x p2] X.env:=by exact zaM rfl)(he2:starEach [.Name x p2] X.env=(false,eval (.Name x p2) X.env)::starEach [] X.env:=by exact zaM rfl)(hpl:(backTo pos (starEach [.Name x p2] X.env)).any (·.1)=false:=by exact zbH rfl) :
  DE X E (.Call (.Name "isinstance" p1) [a,.Name x p2] [] pos) (za4 f (zdz T)):=by
 refine⟨?_⟩
 refine za3 (zlE (r:=fun vs H Q=>∃ d v,vs=[v,.ty T]/\Rep X.K H d v/\Q (.bl (tyD d==T||(tyD d=="bool"&&T=="int"))) H) ?_ hgi hmi PyProof.Rows.Boot.«isinstance» (zdo ha.o (zdo (zvy (v:=.ty T) hg hm hv rfl hn hdb) zhy he2) he) (by decide) (by decide) he hpl) fun σ H Q ⟨H₀,ρ,hs,hr,q⟩=>⟨H₀,ρ,hs,hr,?_⟩
 ·intro pins s σ H xs us Q I r h
  obtain⟨d,v,rfl,h1,q⟩:=h
  cases r with
  | cons r1 r2 =>
   cases r2 with
   | cons r3 r4 =>
    cases r4
    rename_i u1 u2
    obtain rfl:u2=Value.type T:=r3
    exact zym I h1 r1 hk hT fun tk=>⟨.bl _,H,I.tok _,rfl,q⟩
 ·unfold za4 at q
  cases e1:f ρ with
  | stuck=>rw[e1] at q;exact q
  | exn x=>rw[e1] at q;exact q
  | ok d =>
   rw[e1] at q
   intro v H1 H01 g1 r1
   exact⟨d,v,rfl,r1.mono g1.sub,q _ H1 H01 g1 (rb _)⟩
end
theorem zql {prog:Program}{w:World}{A:Around}{E:Value->Shared->Prop}{it t:Addr}{items:Array Value}(hne:t≠it):∀ (n i:Nat) (s:Shared) (Q:List Value->Shared->Prop),s.heap.IsListIter it t i->s.heap.IsList t items->i+n<=items.size ->
  (∀ h',h'.IsListIter it t (i+n)->Heap.SameBut it s.heap h'->Q ((items.toList.drop i).take n) { s with heap:=h' })->wpAny (model prog w) A (draw (.ref it) n) Q E s
 | 0,i,s,Q,hit,_,_,hQ=>by
  show wpAny _ _ (pure []) Q E s
  exact wpAny_pure (by simpa using hQ s.heap hit (Heap.SameBut.refl ..))
 | n+1,i,s,Q,hit,ht,hle,hQ=>by
  have hlt:i < items.size:=by omega
  show wpAny _ _ (pyNext (.ref it) >>= _) Q E s
  refine wpAny_bind (wpAny_pyNext_list_item hit ht (x:=items[i]) (by simp [hlt]) fun h₁ hit₁ hs₁=>?_)
  have ht₁:h₁.IsList t items:=by
   obtain⟨o,k1,k2⟩:=ht
   exact⟨o,(hs₁.2 t hne).trans k1,k2⟩
  refine wpAny_bind (wpAny_holding (zql hne n (i+1) _ _ hit₁ ht₁ (by omega) fun h₂ hit₂ hs₂=>wpAny_pure ?_))
  have hd:items.toList.drop i=items[i]::items.toList.drop (i+1):=by simp [List.drop_eq_getElem_cons,hlt]
  have:=hQ h₂ (by rw[show i+(n+1)=i+1+n by omega];exact hit₂) (hs₁.trans hs₂)
  rw[hd,List.take_succ_cons] at this
  exact this
theorem zln {prog:Program}{w:World}{A:Around}{E:Value->Shared->Prop}{s:Shared}{t:Addr}{items:Array Value}{Q:List Value->Shared->Prop}(hh:A.handled=none)(ht:s.heap.IsList t items)
  (hQ:∀ h',Heap.ExtBut s.heap.objs.size s.heap h'->Q items.toList { s with heap:=h' }):wpAny (model prog w) A (unpackItems (.ref t) items.size none) Q E s:=by
 have hlt:t≠s.heap.objs.size:=by obtain⟨o,ho,_⟩:=ht;exact Nat.ne_of_lt (Heap.lt_size ho)
 unfold unpackItems
 refine wpAny_bind ?_
 ·unfold notIterableAtAll
  refine wpAny_bind (wpAny_specialOf ht.typeIs slot_list_iter.lookup ?_)
  refine wpAny_pure ?_
  simp only[Bool.false_eq_true,if_false]
  refine wpAny_bind (wpAny_holding (wpAny_pyIter_list ht ?_))
  have ht0:(s.heap.push { cls:=.type "list_iterator",data:=.fields #[.ref t,.int 0 0] }).IsList t items:=by
   obtain⟨o,k1,k2⟩:=ht
   exact⟨o,Heap.get?_push_of_some _ k1,k2⟩
  refine wpAny_bind (wpAny_holding (zql hlt items.size 0 _ _ ⟨_,Heap.get?_push_size _ rfl,rfl,rfl⟩ ht0 (by omega) fun h₁ hit₁ hs₁=>?_))
  have hall:List.take items.size (List.drop 0 items.toList)=items.toList:=by
   rw[List.drop_zero];exact List.take_of_length_le (by simp)
  rw[hall]
  rw[if_neg (by simp)]
  have ht₁:h₁.IsList t items:=by
   obtain⟨o,k1,k2⟩:=ht0
   exact⟨o,(hs₁.2 t hlt).trans k1,k2⟩
  refine wpAny_bind (wpAny_holding (wpAny_pyNext_list_end hh hit₁ ht₁ (by simp) fun h₂ he₂=>?_))
  simp only[Option.isSome_none,Bool.false_eq_true,if_false]
  refine wpAny_pure (hQ h₂ fun b o hb e=>he₂ b o hb (hs₁.extBut b o hb (Heap.get?_push_of_some _ e)))
def zz9 (σ:L2.St):List Nat->List V->L2.St
 | i::is,v::vs=>zz9 (σ.set i (some v)) is vs
 | _,_=>σ
def zfv (ρ:Ev):List Nat->List D->Ev
 | i::is,d::ds=>zfv (ρ.set i (.sh d)) is ds
 | _,_=>ρ
theorem SRx.putAll {K:W.Frag}{He H0e H₀ H:Hp}:∀ {is:List Nat}{ds:List D}{vs:List V}{σ:L2.St}{ρ:Ev},SRx K He H0e H₀ σ H ρ->Reps K H₀ ds vs->SRx K He H0e H₀ (zz9 σ is vs) H (zfv ρ is ds)
 | [],_,_,_,_,h,_=>by unfold zz9 zfv;exact h
 | _::_,[],_,_,_,h,r=>by rw[Reps.nil_iff.mp r];unfold zz9 zfv;exact h
 | i::is,d::ds,_,_,_,h,r=>by
  obtain⟨v,vs,rfl,h1,h2⟩:=Reps.cons_iff.mp r
  unfold zz9 zfv
  exact SRx.putAll (h.put h1) h2
section
variable {X:Cx}{E:XK}{He H0e:Hp}{e a b:Expr}{es:List Expr}{f g:Ev->Res D}{fa:Ev->Res (List D)}{pos:Pos}{is:List Nat}
def tVs (is:List Nat):TGs:=fun vs σ H Q=>vs.length=is.length/\Q (zz9 σ is vs) H
theorem zsB {t t':TGs}(h:PGs X es t)(w:∀ vs σ H Q,t' vs σ H Q->t vs σ H Q):PGs X es t':=fun pins s σ H vs us Q I r q=>h pins s σ H vs us Q I r (w vs σ H Q q)
theorem zmH:PGs X [] (tVs []):=zsB zAq fun vs σ H Q ⟨h,q⟩=>by
 have e:vs=[]:=List.length_eq_zero_iff.mp h
 subst e
 exact⟨rfl,q⟩
theorem zd5 {i:Nat}{x:Str}{p:Pos}(hN:X.N.Nodup)(hi:X.N[i]?=some x)(hx:Loc X.env.scope x)(h:PGs X es (tVs is))(hf:X.fn x=true∨X.env.scope.names.lookup x=some .local := by first | exact .inl rfl | exact .inr rfl | assumption)
  (hs:(assignEach (.Name x p::es) X.env).map (·.2)=assign (.Name x p) X.env::(assignEach es X.env).map (·.2):=by rfl):PGs X (.Name x p::es) (tVs (i::is)) :=
 zsB (zxW (zvw hN hi hx hf) h hs) fun vs σ H Q ⟨h,q⟩=>by
  cases vs with
  | nil=>simp at h
  | cons v vs=>exact⟨v,vs,rfl,by simpa using h,q⟩
theorem zAr {k:Nat}{t:TGs}{n:Nat}(hc:X.calm=true)(h:PGs X es t)
  (hn:(assignEach es X.env).length=n:=by rfl)(hst:(assignEach es X.env).findIdx? (·.1)=none:=by rfl):PG X (.Tuple es k pos) (fun v σ H Q=>∃ a xs,v=.ref a/\SqL X.K H a xs/\xs.length=n/\t xs σ H Q):=by
 intro pins s σ H v u Q I r hw
 obtain⟨a,xs,e1,hq,hl,hw⟩:=hw
 subst e1
 cases r
 obtain⟨its,rv,ht,hz⟩:=I.list hq
 rw[assign_Tuple]
 refine wpAny_bind (wpAny_standAt ?_)
 unfold unpack
 rw[hn,hst]
 have hsz:n=its.toArray.size:=by rw[List.size_toArray,← rv.length,hl]
 rw[hsz]
 refine wpAny_bind (wpAny_holding (zln (I.ok.hd hc) ht.isList fun h' hx=>?_))
 have I1:Inv X pins σ H { s with heap:=h' }:=I.kept (t':=s.toks) fun b o e=>hx b o (Nat.ne_of_lt (Heap.lt_size e)) e
 exact h pins _ σ H xs _ Q I1 (by simpa using rv) hw
theorem zDS {tgt:Expr}{t t':TG}(h:PG X tgt t)(h':PG X tgt t'):PG X tgt (fun v σ H Q=>t v σ H Q∨t' v σ H Q):=fun pins s σ H v u Q I r q=>q.elim (h pins s σ H v u Q I r) (h' pins s σ H v u Q I r)
theorem zzm {k:Nat}(hc:X.calm=true)(h:PGs X es (tVs is))(hn:(assignEach es X.env).length=is.length:=by rfl)(hst:(assignEach es X.env).findIdx? (·.1)=none:=by rfl) :
  PG X (.Tuple es k pos) (fun v σ H Q=>∃ a xs,v=.ref a/\(SqT X.K H a xs∨SqL X.K H a xs)/\xs.length=is.length/\Q (zz9 σ is xs) H) :=
 zrg (zDS (zCg hc h hn hst) (zAr hc h hn hst)) fun v σ H Q ⟨a,xs,e,hq,hl,q⟩=>hq.elim (fun z=>.inl ⟨a,xs,e,z,hl,hl,q⟩) fun z=>.inr ⟨a,xs,e,z,hl,hl,q⟩
def zfT (n:Nat)(d:D):Option (List D):=match d with
 | .tup ds=>if ds.length=n then some ds else none
 | .lst ds=>if ds.length=n then some ds else none
 | _=>none
theorem zl9 {K:W.Frag}{H:Hp}{n:Nat}{d:D}{ds:List D}{v:V}(h:zfT n d=some ds)(r:Rep K H d v):∃ a vs,v=.ref a/\(SqT K H a vs∨SqL K H a vs)/\vs.length=n/\Reps K H ds vs:=by
 unfold zfT at h
 cases d with
 | tup es =>
  by_cases c:es.length=n
  ·simp only[if_pos c] at h;cases h
   obtain⟨a,vs,rfl,h1,h2⟩:=Rep.tup_iff.mp r
   exact⟨a,vs,rfl,.inl h1,by rw[← h2.length];exact c,h2⟩
  ·simp only[if_neg c] at h;cases h
 | lst es =>
  by_cases c:es.length=n
  ·simp only[if_pos c] at h;cases h
   obtain⟨a,vs,rfl,h1,h2⟩:=Rep.lst_iff.mp r
   exact⟨a,vs,rfl,.inr h1,by rw[← h2.length];exact c,h2⟩
  ·simp only[if_neg c] at h;cases h
 | _=>cases h
theorem zsl {K:W.Frag}{H H':Hp}{a:Addr}{vs:List V}(hs:za2 H H')(h:SqT K H a vs∨SqL K H a vs):SqT K H' a vs∨SqL K H' a vs:=h.elim (fun z=>.inl (za2.sqT hs z)) fun z=>.inr (za2.sqL hs z)
def zBi (is:List Nat)(f:Ev->Res D):Ev->Res Fl:=fun ρ=>(f ρ).bind fun d=>match zfT is.length d with
 | some ds=>.ok (.nx (zfv ρ is ds))
 | none=>.stuck
theorem zww {k:Nat}{tp:Pos}(hc:X.calm=true)(he:DE X E e f)(h:PGs X es (tVs is))(hs:swapsWithSole [.Tuple es k tp] e pos.line X.env=pure false:=by rfl)(hw:swappedStores [.Tuple es k tp] e X.env=pure none:=by rfl)
  (h1:(assignEach [.Tuple es k tp] X.env).map (·.2)=[assign (.Tuple es k tp) X.env]:=by rfl)(hn:(assignEach es X.env).length=is.length:=by rfl)(hst:(assignEach es X.env).findIdx? (·.1)=none:=by rfl) :
  DS X E He H0e (.Assign [.Tuple es k tp] e pos) (zBi is f):=by
 refine⟨?_⟩
 refine zdn (zzl he.o (zzm hc h hn hst) hs hw h1) fun D σ H ⟨H₀,ρ,h,q⟩=>⟨H₀,ρ,h.g.sub,h.rd,?_⟩
 refine plain (k:=fun d=>match zfT is.length d with
  | some ds=>.ok (.nx (zfv ρ is ds))
  | none=>.stuck) h q fun d v H' H₀' _ g rp q'=>?_
 cases e1:zfT is.length d with
 | none=>rw[e1] at q';exact q'.elim
 | some ds =>
  rw[e1] at q'
  obtain⟨a,vs,rfl,k1,k2,k3⟩:=zl9 e1 rp
  exact⟨a,vs,rfl,zsl g.sub k1,k2,q' _ H' H₀' (za2.refl _) ((h.grow g).putAll k3)⟩
def zwk (is:List Nat):Ev->D->Res Ev:=fun ρ d=>match zfT is.length d with
 | some ds=>.ok (zfv ρ is ds)
 | none=>.stuck
theorem zpv:zw0 (zwk is):=fun ρ d=>by
 unfold zwk
 cases zfT is.length d with
 | none=>exact .inl rfl
 | some ds=>exact .inr ⟨_,rfl⟩
theorem zzw {k:Nat}(hc:X.calm=true)(h:PGs X es (tVs is))(hn:(assignEach es X.env).length=is.length:=by rfl)(hst:(assignEach es X.env).findIdx? (·.1)=none:=by rfl):DG X E He H0e (.Tuple es k pos) (zwk is) :=
 ⟨zrg (zzm hc h hn hst) fun v σ H Q ⟨H₀,ρ,d,h,rp,q⟩=>by
  unfold zwk at q
  cases e1:zfT is.length d with
  | none=>rw[e1] at q;exact q.elim
  | some ds =>
   rw[e1] at q
   obtain⟨a,vs,rfl,k1,k2,k3⟩:=zl9 e1 rp
   exact⟨a,vs,rfl,zsl h.g.sub k1,k2,q _ H H₀ (za2.refl _) (h.putAll k3)⟩⟩
def zzf (i j:Nat)(fa:Ev->Res (List D)):Ev->Res Fl:=fun ρ=>(fa ρ).bind fun ds=>match ds with
 | [x,y]=>.ok (.nx ((ρ.set i (.sh x)).set j (.sh y)))
 | _=>.stuck
theorem zCS {i j:Nat}{x y:Str}{px py pt pt2:Pos}{kt k2}(hc:X.calm=true)(hN:X.N.Nodup)(hi:X.N[i]?=some x)(hj:X.N[j]?=some y)(hij:i≠j)
  (hx:X.env.scope.names.lookup x=some .local)(hy:X.env.scope.names.lookup y=some .local)(ha:DA X E [a,b] fa)
  (hw:swappedStores [.Tuple [.Name x px,.Name y py] kt pt] (.Tuple [a,b] k2 pt2) X.env=pure (some [x,y]))
  (hs:swapsWithSole [.Tuple [.Name x px,.Name y py] kt pt] (.Tuple [a,b] k2 pt2) pos.line X.env=pure false:=by rfl) :
  DS X E He H0e (.Assign [.Tuple [.Name x px,.Name y py] kt pt] (.Tuple [a,b] k2 pt2) pos) (zzf i j fa):=by
 refine⟨?_⟩
 refine zdn (zCd hc hN hi hj hij hx hy ha.o hw hs) fun D σ H ⟨H₀,ρ,h,q⟩=>⟨H₀,ρ,h.g.sub,h.rd,?_⟩
 unfold zzf at q
 cases e1:fa ρ with
 | stuck=>rw[e1] at q;exact q
 | exn x=>rw[e1] at q;exact fun C ox H' H₀' g ex=>q C ox H' H₀' (h.g.trans g) ex
 | ok ds =>
  rw[e1] at q
  intro vs H1 H01 g1 r1
  match ds,r1,q with
  | [x,y],r1,q =>
   obtain⟨v,r',rfl,h1,h2⟩:=Reps.cons_iff.mp r1
   obtain⟨u,r'',rfl,h3,h4⟩:=Reps.cons_iff.mp h2
   rw[Reps.nil_iff.mp h4]
   exact⟨v,u,rfl,q _ H1 H01 g1.z (((h.grow g1).put h1).put h3)⟩
  | [],_,q=>exact q.elim
  | [_],_,q=>exact q.elim
  | _::_::_::_,_,q=>exact q.elim
end
theorem znC {K:W.Frag}:zr8 K "int":=by
 intro S hS
 simp only[List.mem_cons,List.mem_nil_iff,or_false] at hS
 rcases hS with rfl | rfl | rfl | rfl | rfl | rfl | rfl<;>first | rfl | decide +kernel
theorem zjC {K:W.Frag}:zr8 K "bool":=by
 intro S hS
 simp only[List.mem_cons,List.mem_nil_iff,or_false] at hS
 rcases hS with rfl | rfl | rfl | rfl | rfl | rfl | rfl<;>first | rfl | decide +kernel
theorem znB {K:W.Frag}:zr8 K "str":=by
 intro S hS
 simp only[List.mem_cons,List.mem_nil_iff,or_false] at hS
 rcases hS with rfl | rfl | rfl | rfl | rfl | rfl | rfl<;>first | rfl | decide +kernel
theorem zgt {K:W.Frag}:zr8 K "tuple":=by
 intro S hS
 simp only[List.mem_cons,List.mem_nil_iff,or_false] at hS
 rcases hS with rfl | rfl | rfl | rfl | rfl | rfl | rfl<;>first | rfl | decide +kernel
theorem zjB {K:W.Frag}:zr8 K "list":=by
 intro S hS
 simp only[List.mem_cons,List.mem_nil_iff,or_false] at hS
 rcases hS with rfl | rfl | rfl | rfl | rfl | rfl | rfl<;>first | rfl | decide +kernel
section
variable {X:Cx}{E:XK}{He H0e:Hp}{e a b c:Expr}{f g h:Ev->Res D}{pos:Pos}
theorem dv (i:Nat){x:Str}(hN:X.N[i]?=some x:=by rfl)(hv:Vis X.env.scope x:=by first | exact Or.inl rfl | exact Or.inr (Or.inl rfl) | exact Or.inr (Or.inr rfl))(hd:(x==("__debug__" : Str))=false:=by decide)
  (hcd:(x==("__classdict__" : Str))=false:=by decide):DE X E (.Name x pos) (zaf i):=zCW hN hv hd hcd
def Kon (K:W.Frag)(mg:Str->Option Value)(x:Str)(d:D):Prop:=∃ v u,mg x=some u/\zcN v u/\∀ H,Rep K H d v
theorem zbD {x:Str}{d:D}(k:Kon X.K X.mg x d)(hg:Gl X x)(hd:(x==("__debug__" : Str))=false:=by decide):DE X E (.Name x pos) (dC d):=by
 obtain⟨v,u,h1,h2,h3⟩:=k
 exact zA6 hg h1 h2 h3 hd
theorem zeL {K:W.Frag}{mg:Str->Option Value}{x:Str}{i:Int}{t:Tok}(h:mg x=some (.int i t)):Kon K mg x (.int i):=⟨.int i,_,h,⟨t,rfl⟩,fun _=>ri _⟩
theorem zAL {K:W.Frag}{mg:Str->Option Value}{x:Str}{i:Str}{t:Tok}(h:mg x=some (.str i t)):Kon K mg x (.str i):=⟨.str i,_,h,⟨t,rfl⟩,fun _=>Rep.str_iff.mpr rfl⟩
theorem zvY {K:W.Frag}{mg:Str->Option Value}{x:Str}{a:Addr}{od:Option Addr}{its:Array Value}{n:Nat}{sl:Array (Option Value)}{ds:List D}{vs:List V}(h:mg x=some (.ref a))(l:K.lookup a=some ⟨.type "tuple",od,.seq its n,sl⟩)
  (hv:zce vs its.toList)(hz:its.size<=sizeLine)(hd:∀ H,Reps K H ds vs):Kon K mg x (.tup ds):=⟨.ref a,_,h,rfl,fun H=>Rep.tup_iff.mpr ⟨a,vs,rfl,.inr ⟨_,its,n,l,rfl,rfl,hz,hv⟩,hd H⟩⟩
def zik (op op':D->D->Res D)(f g h:Ev->Res D):Ev->Res D:=fun ρ=>(f ρ).bind fun x=>(g ρ).bind fun y=>(op x y).bind fun z=>match z with
 | .bl true=>(h ρ).bind fun w=>op' y w
 | .bl false=>.ok (.bl false)
 | _=>.stuck
def zr4 (r:R2)(o:D->D->Res D):Prop:=∀ (K:W.Frag) (x y:D) (v u:V) (H H₀:Hp) (Q:VK) (d:D),za2 H₀ H->Rep K H₀ x v->Rep K H₀ y u->o x y=.ok d->(∀ w,Rep K H₀ d w->Q w H)->r v u H Q
theorem zg4 {gv:Int->Int->V}{g:Int->Int->D}(hg:∀ K H i j,Rep K H (g i j) (gv i j)):zr4 (rI0 gv) (iop (fun _ _=>true) g):=by
 intro K x y v u H H₀ Q d hs r1 r2 e q
 unfold iop at e
 cases x with
 | int i =>
  cases y with
  | int j=>simp only[if_pos] at e;cases e;exact⟨i,j,Rep.int_iff.mp r1,Rep.int_iff.mp r2,q _ (hg _ _ i j)⟩
  | _=>cases e
 | _=>cases e
def zr6 (o:D->D->Res D):Prop:=∀ x y,∀ z,o x y≠.exn z
theorem zmR {r r':R2}{o o':D->D->Res D}(p:zr4 r o)(p':zr4 r' o')(n:zr6 o)(n':zr6 o')(σ:L2.St)(H:Hp)(Q:VK)(q:tD X.K E (zik o o' f g h) σ H Q) :
  zuR r r' (tD X.K E f) (tD X.K E g) (tD X.K E h) σ H Q:=by
 obtain⟨H₀,ρ,hs,hr,q⟩:=q
 refine⟨H₀,ρ,hs,hr,?_⟩
 unfold zik at q
 cases e1:f ρ with
 | stuck=>rw[e1] at q;exact q
 | exn x=>rw[e1] at q;exact q
 | ok x =>
  rw[e1] at q
  intro v H1 H01 g1 r1
  refine⟨H01,ρ,g1.sub,hr.mono g1.z,?_⟩
  replace q:=post.grow (r:=(g ρ).bind fun y=>(o x y).bind fun z=>match z with
   | .bl true=>(h ρ).bind fun w=>o' y w
   | .bl false=>.ok (.bl false)
   | _=>.stuck) q g1
  cases e2:g ρ with
  | stuck=>rw[e2] at q;exact q
  | exn x=>rw[e2] at q;exact q
  | ok y =>
   rw[e2] at q
   intro u H2 H02 g2 r2
   replace q:=post.grow (r:=(o x y).bind fun z=>match z with
    | .bl true=>(h ρ).bind fun w=>o' y w
    | .bl false=>.ok (.bl false)
    | _=>.stuck) q g2
   cases e3:o x y with
   | stuck=>rw[e3] at q;exact q.elim
   | exn z=>exact absurd e3 (n x y z)
   | ok z =>
    rw[e3] at q
    refine p X.K x y v u H2 H02 _ z g2.sub (r1.mono g2.z) r2 e3 fun w rw'=>?_
    cases z with
    | bl b =>
     rw[Rep.bl_iff.mp rw']
     refine⟨b,rfl,?_⟩
     cases b with
     | false=>rw[if_neg Bool.false_ne_true];exact q _ H2 H02 (zbZ.refl g2.sub) (rb _)
     | true =>
      rw[if_pos rfl]
      refine⟨H02,ρ,g2.sub,(hr.mono g1.z).mono g2.z,?_⟩
      replace q:post X.K E H2 H02 ((h ρ).bind fun w=>o' y w) Q:=q
      cases e4:h ρ with
      | stuck=>rw[e4] at q;exact q
      | exn x=>rw[e4] at q;exact q
      | ok w2 =>
       rw[e4] at q
       intro v3 H3 H03 g3 r3
       replace q:=post.grow (r:=o' y w2) q g3
       cases e5:o' y w2 with
       | stuck=>rw[e5] at q;exact q.elim
       | exn z=>exact absurd e5 (n' y w2 z)
       | ok d =>
        rw[e5] at q
        exact p' X.K y w2 u v3 H3 H03 Q d g3.sub (r2.mono g3.z) r3 e5 fun w3 r5=>q w3 H3 H03 (zbZ.refl g3.sub) r5
    | _=>exact q.elim
theorem zyQ {op op':CmpOp}{r r':R2}{o o':D->D->Res D}(ho:OpR X (compareOp op) r)(ho':OpR X (compareOp op') r')(p:zr4 r o)(p':zr4 r' o')(n:zr6 o)(n':zr6 o')(ha:DE X E a f)(hb:DE X E b g)(hc:DE X E c h)
  (hm:lastMarks [op,op'] [b,c]=false:=by with_unfolding_all rfl):DE X E (.Compare a [op,op'] [b,c] pos) (zik o o' f g h):=⟨za3 (zxZ ho ho' ha.o hb.o hc.o hm) (zmR p p' n n')⟩
theorem zsT {op op':CmpOp}{r r':R2}{o o':D->D->Res D}(ho:OpR X (compareOp op) r)(ho':OpR X (compareOp op') r')(p:zr4 r o)(p':zr4 r' o')(n:zr6 o)(n':zr6 o')(ha:DE X E a f)(hb:DE X E b g)(hc:DE X E c h)
  (hm:lastMarks [op,op'] [b,c]=false:=by with_unfolding_all rfl):DT X E (.Compare a [op,op'] [b,c] pos) (zik o o' f g h):=by
 refine⟨?_⟩
 refine zod (zxT ho ho' ha.o hb.o hc.o hm) fun σ H Q q=>?_
 have w:tD X.K E (zik o o' f g h) σ H fun x H'=>∃ k,x=.bl k/\Q k H':=by
  obtain⟨H₀,ρ,hs,hr,q⟩:=q
  refine⟨H₀,ρ,hs,hr,?_⟩
  cases e1:zik o o' f g h ρ with
  | stuck=>rw[e1] at q;exact q
  | exn x=>rw[e1] at q;exact q
  | ok d =>
   rw[e1] at q
   intro v H1 H01 g1 r1
   cases d with
   | bl b=>rw[Rep.bl_iff.mp r1];exact⟨b,rfl,q H1 H01 g1⟩
   | _=>exact q.elim
 exact zmR p p' n n' σ H _ w
theorem zg5 {c:Int->Int->Bool}{g:Int->Int->D}:zr6 (iop c g):=by
 intro x y z
 unfold iop
 cases x<;>cases y<;>simp<;>split<;>simp
end
def zoB (i:Nat):Ev->Nat:=fun ρ=>match ρ[i]? with
 | some (.sh (.int j))=>j.natAbs+1
 | _=>0
section
variable {X:Cx}{E:XK}{a b:Expr}{f g:Ev->Res D}{pos:Pos}
def zbB (x y:D):Res D:=match x,y with
 | .int i,.int j=>if zhK i j=true then .ok (.int (i*j)) else .stuck
 | _,_=>.stuck
theorem zcy (ha:DE X E a f)(hb:DE X E b g):DE X E (.BinOp a .Mult b pos) (zab f g zbB):=zuh zAw (by
 intro x y v u H H₀ Q hs r1 r2 q
 unfold zbB at q
 cases x with
 | int i =>
  cases y with
  | int j =>
   by_cases h:zhK i j=true
   ·simp only[if_pos h] at q
    exact⟨i,j,Rep.int_iff.mp r1,Rep.int_iff.mp r2,zhK.ok h,zbA hs q (ri _)⟩
   ·simp only[if_neg h] at q;exact q.elim
  | _=>exact q.elim
 | _=>exact q.elim) ha hb
end
def zD9 (K:W.Frag)(tg:Ev->D->Res Ev):TG:=fun v σ H Q=>∃ He H0e,tG K He H0e tg v σ H Q
theorem Reps.rep {K:W.Frag}{H:Hp}{ds:List D}{vs:List V}(h:Reps K H ds vs):∀ k:Nat,Reps K H (List.replicate k ds).flatten (List.replicate k vs).flatten
 | 0=>by simp;exact Reps.nil
 | k+1=>by
  rw[List.replicate_succ,List.replicate_succ,List.flatten_cons,List.flatten_cons]
  exact h.app (Reps.rep h k)
section
variable {X:Cx}{E:XK}{a b:Expr}{f g:Ev->Res D}{pos:Pos}
def zzA (x y:D):Res D:=match x,y with
 | .lst ds,.int k=>if ds.length*k.toNat<=line/\-9223372036854775808<=k/\k < 9223372036854775808 then .ok (.lst (List.replicate k.toNat ds).flatten) else .stuck
 | _,_=>.stuck
def zAe (f g:Ev->Res D):Ev->Res D:=fun ρ=>(f ρ).bind fun x=>match x with
 | .lst ds=>(g ρ).bind fun y=>zzA (.lst ds) y
 | _=>.stuck
theorem zwB (ha:DF X E a f)(hb:DE X E b g):DE X E (.BinOp a .Mult b pos) (zAe f g):=by
 refine⟨?_⟩
 refine za3 (zAs zCr ha.o hb.o) fun σ H Q ⟨H₀,ρ,hs,hr,q⟩=>⟨H₀,ρ,hs,hr,?_⟩
 unfold zAe at q
 cases e1:f ρ with
 | stuck=>rw[e1] at q;exact q
 | exn x=>rw[e1] at q;exact q
 | ok x =>
  rw[e1] at q
  cases x with
  | lst ds =>
   replace q:post X.K E H H₀ ((g ρ).bind fun y=>zzA (.lst ds) y) Q:=q
   intro p vs H1 H01 g1 hp h0 hv rp
   refine⟨H01,ρ,g1.sub,hr.mono g1.z,?_⟩
   replace q:=q.grow g1
   cases e2:g ρ with
   | stuck=>rw[e2] at q;exact q
   | exn x=>rw[e2] at q;exact q
   | ok y =>
    rw[e2] at q
    intro u H2 H02 g2 r2
    replace q:=post.grow (r:=zzA (.lst ds) y) q g2
    cases y with
    | int k =>
     unfold zzA at q
     by_cases c:ds.length*k.toNat<=line/\-9223372036854775808<=k/\k < 9223372036854775808
     ·simp only[if_pos c] at q
      refine⟨p,k,vs,rfl,Rep.int_iff.mp r2,g2.s _ _ hv,by omega,by omega,by rw[← rp.length];exact zeK c.1,fun n hn=>?_⟩
      exact q _ _ _ (zbZ.alloc g2.sub hn) (Rep.lst_iff.mpr ⟨n,_,rfl,SqL.of zaB,((rp.mono g2.z).rep _).mono (zbZ.alloc g2.sub hn).z⟩)
     ·simp only[if_neg c] at q;exact q.elim
    | _=>exact q.elim
  | _=>exact q.elim
def zsV (x:D):Res D:=match x with
 | .lst ds=>.ok (.tup ds)
 | .tup ds=>.ok (.tup ds)
 | _=>.stuck
theorem zyX:zlD X E (fun xs H Q=>∃ p ys,xs=[.ref p]/\((SqL X.K H p ys/\∀ l,H l=none->Q (.ref l) (upd H l (.tup ys)))∨(SqT X.K H p ys/\Q (.ref p) H))) (m1 zsV):=zrZ fun x v H H₀ Q hs r q=>by
 cases x with
 | lst ds =>
  obtain⟨p,vs,rfl,h1,h2⟩:=Rep.lst_iff.mp r
  exact⟨p,vs,rfl,.inl ⟨za2.sqL hs h1,fun n hn=>q _ _ _ (zbZ.alloc hs hn) (Rep.tup_iff.mpr ⟨n,_,rfl,SqT.of zaB,h2.mono (zbZ.alloc hs hn).z⟩)⟩⟩
 | tup ds =>
  obtain⟨p,vs,e,h1,h2⟩:=Rep.tup_iff.mp r
  subst e
  exact⟨p,vs,rfl,.inr ⟨za2.sqT hs h1,zbA hs q r⟩⟩
 | _=>exact q.elim
end
def zjj:List D->Option (List Str)
 | []=>some []
 | .str x::r=>(zjj r).map (x::·)
 | _=>none
theorem zsi {K:W.Frag}{H:Hp}:∀ {ds:List D}{ys:List Str}{vs:List V}{us:List Value},zjj ds=some ys->Reps K H ds vs->zce vs us->StrsAre us ys
 | [],ys,vs,us,h,r,q=>by
  cases h
  rw[Reps.nil_iff.mp r] at q
  cases q
  exact .nil
 | d::ds,ys,vs,us,h,r,q=>by
  obtain⟨v,r',rfl,h1,h2⟩:=Reps.cons_iff.mp r
  cases q with
  | cons q1 q2 =>
   cases d with
   | str x =>
    unfold zjj at h
    cases e:zjj ds with
    | none=>rw[e] at h;cases h
    | some zs =>
     rw[e] at h
     cases h
     rw[Rep.str_iff.mp h1] at q1
     obtain⟨t,rfl⟩:=q1
     exact .cons _ _ (zsi e h2 q2)
   | _=>cases h
section
variable {X:Cx}{E:XK}{o e:Expr}{fo:Ev->Res D}{fa:Ev->Res (List D)}
def zh3 (z:Str)(ys:List Str):Bool:=decide (z.length<=16)&&decide ((ys.map (·.length)).sum+ys.length<=1048576)
def zDL (K:W.Frag):V->List V->Hp->VK->Prop:=fun x xs H Q=>∃ z p ds ys,x=.str z/\xs=[.ref p]/\Rep K H (.lst ds) (.ref p)/\zjj ds=some ys/\zh3 z ys=true/\Q (.str (Txt.join z ys)) H
theorem zAG:MtR X "str.join" (zDL X.K):=by
 intro pins s σ H x xs v us Q I rx rs h
 obtain⟨z,p,ds,ys,rfl,rfl,hr,hy,hf,q⟩:=h
 obtain⟨t,rfl⟩:=rx
 obtain⟨u,rfl,ru⟩:=rs.one
 obtain⟨a,vs,its,ea,rfl,h1,h2,h3,h4,_⟩:=Rep.lst_get I hr ru
 unfold zh3 at hf
 rw[Bool.and_eq_true] at hf
 exact join_listW h4 (by simpa using zsi hy h2 h3) (of_decide_eq_true hf.1) (of_decide_eq_true hf.2) fun t' k=>⟨.str (Txt.join z ys),H,I.tok _,⟨_,rfl⟩,q⟩
def zrI (z:Str)(xs:List D):Res D:=match xs with
 | [.lst ds]=>match zjj ds with
  | some ys=>if zh3 z ys=true then .ok (.str (Txt.join z ys)) else .stuck
  | none=>.stuck
 | _=>.stuck
def zyT (fo:Ev->Res D)(fa:Ev->Res (List D)):Ev->Res D:=fun ρ=>(fo ρ).bind fun x=>match x with
 | .str z=>(fa ρ).bind fun xs=>zrI z xs
 | _=>.stuck
theorem zA5 {apos cpos:Pos}(ho:DE X E o fo)(ha:DA X E [e] fa)
  (hbase:attributeBase o "join" X.env (eval o X.env)=eval o X.env:=by rfl)
  (hfew:((backTo cpos (starEach [e] X.env)).all (fun x=>!x.1)&&(backToKw cpos (keywordEach [] X.env)).all (fun x=>x.1.isSome)
  &&decide ([e].length+([]:List Keyword).length+(if([]:List Keyword).isEmpty then 0 else 1) < 30))=true:=by exact zlO rfl)
  (hline:(apos.endLine==cpos.line)=true:=by rfl) (hs:starEach [e] X.env=(false,eval e X.env)::starEach [] X.env:=by exact zaM rfl) (hplain:(backTo cpos (starEach [] X.env)).any (·.1)=false:=by exact zbH rfl) :
  DE X E (.Call (.Attribute o "join" apos) [e] [] cpos) (zyT fo fa):=by
 refine⟨?_⟩
 refine za3 (zx0 PySem.F.plainAttrs_str PySem.F.slot_str_join PySem.F.type_str_join zAG ho.o ha.o hbase hfew hline hs hplain) fun σ H Q ⟨H₀,ρ,hs,hr,q⟩=>⟨H₀,ρ,hs,hr,?_⟩
 unfold zyT at q
 cases e1:fo ρ with
 | stuck=>rw[e1] at q;exact q
 | exn x=>rw[e1] at q;exact q
 | ok x =>
  rw[e1] at q
  intro v H1 H01 g1 r1
  cases x with
  | str z =>
   rw[Rep.str_iff.mp r1]
   refine⟨rfl,H01,ρ,g1.sub,hr.mono g1.z,?_⟩
   replace q:=post.grow (r:=(fa ρ).bind fun xs=>zrI z xs) q g1
   cases e2:fa ρ with
   | stuck=>rw[e2] at q;exact q
   | exn x=>rw[e2] at q;exact q
   | ok xs =>
    rw[e2] at q
    intro us H2 H02 g2 r2
    replace q:=post.grow (r:=zrI z xs) q g2
    unfold zrI at q
    match xs,r2,q with
    | [.lst ds],r2,q =>
     obtain⟨w,r',rfl,k1,k2⟩:=Reps.cons_iff.mp r2
     rw[Reps.nil_iff.mp k2]
     obtain⟨p,vs,rfl,k3,k4⟩:=Rep.lst_iff.mp k1
     cases e3:zjj ds with
     | none=>simp only[e3] at q;exact q.elim
     | some ys =>
      simp only[e3] at q
      by_cases c:zh3 z ys=true
      ·rw[if_pos c] at q
       exact⟨z,p,ds,ys,rfl,rfl,k1.mono g2.sub,e3,c,zbA g2.sub q (Rep.str_iff.mpr rfl)⟩
      ·rw[if_neg c] at q;exact q.elim
    | [],_,q=>exact q.elim
    | d1::_::_,_,q=>cases d1<;>exact False.elim q
    | [.non],_,q=>exact q.elim
    | [.bl _],_,q=>exact q.elim
    | [.int _],_,q=>exact q.elim
    | [.str _],_,q=>exact q.elim
    | [.tup _],_,q=>exact q.elim
    | [.dic _ _],_,q=>exact q.elim
    | [.exc _],_,q=>exact q.elim
    | [.ob _ _],_,q=>exact q.elim
  | _=>exact q.elim
end
section
variable {X:Cx}{E:XK}{a:Expr}{f:Ev->Res D}{pos:Pos}
def zFa:V->Option Int->Option Int->Hp->VK->Prop:=fun x lo hi H Q=>∃ z,x=.str z/\z.length<=sizeLine/\Q (.str (Txt.slice z lo hi)) H
theorem zBV:SlR X zFa:=by
 intro pins s σ H x v vl vu lo hi sl Q I rx hs pl pu h
 obtain⟨z,rfl,hz,q⟩:=h
 obtain⟨t,rfl⟩:=rx
 have fin:∀ t' k,EP X pins σ Q (.str (Txt.slice z lo hi) t') { s with toks:=k }:=fun t' k=>⟨.str (Txt.slice z lo hi),H,I.tok _,⟨_,rfl⟩,q⟩
 refine⟨"str",_,PySem.F.slot_str_getitem.lookup,typeIs_str s z t,?_⟩
 cases pl with
 | none =>
  cases pu with
  | none=>exact wpAny_getItem_str_slice (l:=none) (u:=none) (st:=none) hs rfl (post_val_or_str ⟨Nat.le_trans (Txt.slice_le z _ _) hz,fin⟩)
  | int j uj=>exact wpAny_getItem_str_slice (l:=none) (u:=some (j,uj)) (st:=none) hs rfl (post_val_or_str ⟨Nat.le_trans (Txt.slice_le z _ _) hz,fin⟩)
 | int i ui =>
  cases pu with
  | none=>exact wpAny_getItem_str_slice (l:=some (i,ui)) (u:=none) (st:=none) hs rfl (post_val_or_str ⟨Nat.le_trans (Txt.slice_le z _ _) hz,fin⟩)
  | int j uj=>exact wpAny_getItem_str_slice (l:=some (i,ui)) (u:=some (j,uj)) (st:=none) hs rfl (post_val_or_str ⟨Nat.le_trans (Txt.slice_le z _ _) hz,fin⟩)
def zpB (x:D)(l h:Option Int):Res D:=match x with
 | .lst ds=>.ok (.lst (zjJ ds l h))
 | .str z=>if z.length<=line then .ok (.str (Txt.slice z l h)) else .stuck
 | .tup ds=>if HT.sIx ds.length 0 l=0/\HT.sIx ds.length ds.length h=ds.length then .stuck else .ok (.tup (zjJ ds l h))
 | _=>.stuck
def zij (f:Ev->Res D)(lo hi:Ev->Res (Option Int)):Ev->Res D:=fun ρ=>(f ρ).bind fun x=>(lo ρ).bind fun l=>(hi ρ).bind fun h=>zpB x l h
theorem zbi {lo hi:Option Expr}{p2:Pos}{fl fh:Ev->Res (Option Int)}(ha:DE X E a f)(hl:DO X E lo fl)(hh:DO X E hi fh):DE X E (.Subscript a (.Slice lo hi none p2) pos) (zij f fl fh) :=
 ⟨za3 (zxX (SlR.or zz7 (SlR.or zBV zBU)) ha.o hl.o hh.o) (zq0 (m:=zpB) fun x v l h H H₀ Q hs r q=>by
  cases x with
  | lst ds =>
   obtain⟨p,vs,rfl,h1,h2⟩:=Rep.lst_iff.mp r
   exact .inl ⟨p,vs,rfl,za2.sqL hs h1,fun n hn=>q _ _ _ (zbZ.alloc hs hn) (Rep.lst_iff.mpr ⟨n,_,rfl,SqL.of zaB,(h2.cut l h).mono (zbZ.alloc hs hn).z⟩)⟩
  | str z =>
   unfold zpB at q
   by_cases c:z.length<=line
   ·simp only[if_pos c] at q
    exact .inr (.inl ⟨z,Rep.str_iff.mp r,zeK c,zbA hs q (Rep.str_iff.mpr rfl)⟩)
   ·simp only[if_neg c] at q;exact q.elim
  | tup ds =>
   unfold zpB at q
   by_cases c:HT.sIx ds.length 0 l=0/\HT.sIx ds.length ds.length h=ds.length
   ·simp only[if_pos c] at q;exact q.elim
   ·simp only[if_neg c] at q
    obtain⟨p,vs,rfl,h1,h2⟩:=Rep.tup_iff.mp r
    exact .inr (.inr ⟨p,vs,rfl,za2.sqT hs h1,by rw[← h2.length];exact c,fun n hn=>q _ _ _ (zbZ.alloc hs hn) (Rep.tup_iff.mpr ⟨n,_,rfl,SqT.of zaB,(h2.cut l h).mono (zbZ.alloc hs hn).z⟩)⟩)
  | _=>exact q.elim)⟩
end
def Its (z:Str):It:=⟨fun i _=>i < z.cps.size,fun i H x H'=>H'=H/\∃ c,z.cps[i]?=some c/\x=.str ⟨#[c]⟩,fun i _=>z.cps.size<=i⟩
theorem ztf {P:Program}{w:World}{K:W.Frag}{tg:Expr}(z:Str)(t:Tok)(it:Addr):zBo P w K tg (Its z) [it] it (fun i h=>h.IsStrIter it "str_ascii_iterator" z t i) where
 mem:=by simp
 obj:=fun i h st b hb=>by
  have e:b=it:=by simpa using hb
  subst e
  obtain⟨o,e,c,d⟩:=st
  exact⟨o,e,fun v z=>by rw[d] at z;cases z⟩
 keep:=fun i h h' st k=>let ⟨o,ho,r⟩:=st;⟨o,k it (by simp) o ho,r⟩
 item:=by
  intro X hP hw hK hc i pins s σ H E I hf st hg
  subst hP hw hK
  have hg':i < z.cps.size:=hg
  obtain⟨f0,f1,f2,f3,f4,f5⟩:=hf it (by simp)
  refine wpAny_pyNext_ascii_item st (c:=z.cps[i]) (by simp [hg']) fun h' st' sb=>?_
  have I1:Inv X pins σ H { s with heap:=h',toks:=s.toks+1 }:=I.turned (t':=s.toks+1) (fun b o hb e=>(sb.2 b hb).trans e) f0 f1 f3 f4 f5
  obtain⟨o,e,c,d⟩:=id st'
  exact⟨_,rfl,zyt (s:={ s with heap:=h',toks:=s.toks+1 }) e c d (by decide) ⟨.str ⟨#[z.cps[i]]⟩,H,I1,⟨_,rfl⟩,⟨rfl,_,by simp [hg'],rfl⟩,st',fun b hb=>(hf b hb).1⟩⟩
 done:=by
  intro X hP hw hK hc i pins s σ H E I hf st hg
  subst hP hw hK
  have hg':z.cps.size<=i:=hg
  obtain⟨f0,f1,f2,f3,f4,f5⟩:=hf it (by simp)
  exact wpAny_pyNext_ascii_end (I.ok.hd hc) st (by simp [hg']) fun h' eb=>⟨rfl,I.turned (t':=s.toks) (fun b o hb e=>eb b o hb e) f0 f1 f3 f4 f5⟩
 self:=fun _ _ _ _ _ st h=>wpAny_pyIter_striter_ascii st h
theorem zuL {P:Program}{w:World}{K:W.Frag}{tg:Expr}(z:Str)(t:Tok)(it:Addr):zBo P w K tg (Its z) [it] it (fun i h=>h.IsStrIter it "str_iterator" z t i) where
 mem:=by simp
 obj:=fun i h st b hb=>by
  have e:b=it:=by simpa using hb
  subst e
  obtain⟨o,e,c,d⟩:=st
  exact⟨o,e,fun v z=>by rw[d] at z;cases z⟩
 keep:=fun i h h' st k=>let ⟨o,ho,r⟩:=st;⟨o,k it (by simp) o ho,r⟩
 item:=by
  intro X hP hw hK hc i pins s σ H E I hf st hg
  subst hP hw hK
  have hg':i < z.cps.size:=hg
  obtain⟨f0,f1,f2,f3,f4,f5⟩:=hf it (by simp)
  refine wpAny_pyNext_wide_item st (c:=z.cps[i]) (by simp [hg']) fun h' st' sb=>?_
  have I1:Inv X pins σ H { s with heap:=h',toks:=s.toks+1 }:=I.turned (t':=s.toks+1) (fun b o hb e=>(sb.2 b hb).trans e) f0 f1 f3 f4 f5
  obtain⟨o,e,c,d⟩:=id st'
  exact⟨_,rfl,zyt (s:={ s with heap:=h',toks:=s.toks+1 }) e c d (by decide) ⟨.str ⟨#[z.cps[i]]⟩,H,I1,⟨_,rfl⟩,⟨rfl,_,by simp [hg'],rfl⟩,st',fun b hb=>(hf b hb).1⟩⟩
 done:=by
  intro X hP hw hK hc i pins s σ H E I hf st hg
  subst hP hw hK
  have hg':z.cps.size<=i:=hg
  obtain⟨f0,f1,f2,f3,f4,f5⟩:=hf it (by simp)
  exact wpAny_pyNext_wide_end (I.ok.hd hc) st (by simp [hg']) fun h' eb=>⟨rfl,I.turned (t':=s.toks) (fun b o hb e=>eb b o hb e) f0 f1 f3 f4 f5⟩
 self:=fun _ _ _ _ _ st h=>wpAny_pyIter_striter_wide st h
def zFh (tl:TE):TI:=fun σ H R=>tl σ H fun x H1=>∃ z,x=.str z/\R (Its z) H1
theorem zCf {X:Cx}{tg l:Expr}{tl:TE}(hl:PE X l tl):PI X tg l (zFh tl):=by
 intro pins s σ H R I h
 refine thn (hl pins s σ H _ I h) fun v s1 ⟨x,H1,I1,r1,q1⟩=>?_
 obtain⟨z,rfl,q⟩:=q1
 obtain⟨t,rfl⟩:=r1
 have fpo:∀ b∈[s1.heap.objs.size],zum X pins H1 b:=fun b hb=>by
  have e:b=s1.heap.objs.size:=by simpa using hb
  subst e
  exact I1.fpOk (Nat.le_refl _) (I1.hok.fresh (Nat.le_refl _))
 cases ha:z.cps.all (· < 128) with
 | false=>exact wpAny_pyIter_wide ha ⟨s1.heap.objs.size,[s1.heap.objs.size],_,_,H1,rfl,I1.kept (t':=s1.toks) fun b o e=>Heap.get?_push_of_some _ e,zuL z t _,⟨_,Heap.get?_push_size _ rfl,rfl,rfl⟩,fpo,q⟩
 | true=>exact wpAny_pyIter_ascii ha ⟨s1.heap.objs.size,[s1.heap.objs.size],_,_,H1,rfl,I1.kept (t':=s1.toks) fun b o e=>Heap.get?_push_of_some _ e,ztf z t _,⟨_,Heap.get?_push_size _ rfl,rfl,rfl⟩,fpo,q⟩
def zkW (z:Str):List D:=z.cps.toList.map fun c=>.str ⟨#[c]⟩
theorem zki (z:Str):(zkW z).length=z.cps.size:=by unfold zkW;simp
section
variable {X:Cx}{E:XK}{He H0e:Hp}{f:Ev->Res D}{s:Ev->Res Fl}{pos:Pos}
end
section
variable {X:Cx}{E:XK}
def zEA (K:W.Frag):List V->Hp->VK->Prop:=fun xs H Q=>∃ (p:Addr) (bs:List Bool),xs=[.ref p]/\SqL K H p (bs.map V.bl)/\Q (.bl (bs.all id)) H
theorem zqD:∀ bs:List Bool,(List.range bs.length).all (fun i=>bs.getD i false)=bs.all id
 | []=>rfl
 | b::r=>by
  rw[List.length_cons,List.range_succ_eq_map,List.all_cons,List.all_map,List.all_cons,← zqD r]
  rfl
theorem zyY (hc:X.calm=true):zkh X (.builtin "all") (zEA X.K):=by
 intro pins s σ H xs us Q I r h
 obtain⟨p,bs,rfl,hq,q⟩:=h
 obtain⟨u,rfl,rx⟩:=zqV r
 cases rx
 obtain⟨its,rv,pl,hz⟩:=I.list hq
 have hlen:=rv.length
 rw[List.length_map] at hlen
 have hne:p≠s.heap.objs.size:=Nat.ne_of_lt pl.lt
 refine call_all_walk (wpAny_pyIter_list pl.isList ?_)
 have pl2:(s.heap.push { cls:=.type "list_iterator",data:=.fields #[.ref p,.int 0 0] }).IsList p its.toArray:=by
  obtain⟨o,k1,k2⟩:=pl.isList
  exact⟨o,Heap.get?_push_of_some _ k1,k2⟩
 refine⟨s.heap.objs.size,_,_,_,_,_,fun i=>bs.getD i false,rfl,Walks.list (A:=X.A.in1) (I.ok.hd hc) s.heap.objs.size p hne its.toArray,⟨⟨_,Heap.get?_push_size _ rfl,rfl,rfl⟩,pl2⟩,?_,fun h' tk hk=>?_⟩
 ·intro i v s' Q' E' hv hQ
  have hv':its[i]?=some v:=by simpa using hv
  have hi:i < its.length:=(List.getElem?_eq_some_iff.mp hv').1
  obtain⟨w,e1,e2⟩:=rv.get (show(bs.map V.bl)[i]?=some (V.bl (bs.getD i false)) by
   rw[List.getElem?_map,List.getElem?_eq_getElem (by omega)]
   simp [List.getD,List.getElem?_eq_getElem (show i < bs.length by omega)])
  rw[hv'] at e1
  cases e1
  obtain rfl:v=Value.bool _:=e2
  exact wpAny_truthy_bool hQ
 ·have hall:(List.range its.toArray.size).all (fun i=>bs.getD i false)=bs.all id:=by
   rw[List.size_toArray,← hlen]
   exact zqD bs
  rw[hall]
  exact⟨.bl _,H,I.kept (t':=tk) (fun b o e=>hk b o (by simp only[List.mem_singleton];exact Nat.ne_of_lt (Heap.lt_size e)) (Heap.get?_push_of_some _ e)),rfl,q⟩
def zir:List D->Option (List Bool)
 | []=>some []
 | .bl b::r=>(zir r).map (b::·)
 | _=>none
theorem zqx {K:W.Frag}{H:Hp}:∀ {ds:List D}{bs:List Bool}{vs:List V},zir ds=some bs->Reps K H ds vs->vs=bs.map V.bl
 | [],bs,vs,h,r=>by cases h;exact Reps.nil_iff.mp r
 | d::ds,bs,vs,h,r=>by
  obtain⟨v,r',rfl,h1,h2⟩:=Reps.cons_iff.mp r
  cases d with
  | bl x =>
   unfold zir at h
   cases e:zir ds with
   | none=>rw[e] at h;cases h
   | some zs =>
    rw[e] at h
    cases h
    rw[Rep.bl_iff.mp h1,zqx e h2]
    rfl
  | _=>cases h
def zDf (x:D):Res D:=match x with
 | .lst ds=>match zir ds with
  | some bs=>.ok (.bl (bs.all id))
  | none=>.stuck
 | _=>.stuck
theorem zC1:zlD X E (zEA X.K) (m1 zDf):=zrZ fun x v H H₀ Q hs r q=>by
 cases x with
 | lst ds =>
  unfold zDf at q
  obtain⟨p,vs,rfl,h1,h2⟩:=Rep.lst_iff.mp r
  cases e:zir ds with
  | none=>simp only[e] at q;exact q.elim
  | some bs =>
   simp only[e] at q
   exact⟨p,bs,rfl,by rw[← zqx e h2];exact za2.sqL hs h1,zbA hs q (rb _)⟩
 | _=>exact q.elim
end
section
variable {X:Cx}{E:XK}{e:Expr}{f:Ev->Res D}{pos p1:Pos}
def dOne (x:Str)(d:D):Res D:=.ok (.dic [x] [d])
end
def znl (cells:List (Str×Addr)):List (Str×NameKind)->List (Str×Addr)->List (Str×Addr)
 | [],acc=>acc
 | (n,k)::r,acc=>if(k==NameKind.free)=true then znl cells r ((n,(cells.lookup n).getD 0)::acc) else znl cells r acc
theorem zoQ {scope:Scope}{env:PySem.Env}(h:∀ x∈scope.names,x.2=.free->∃ c,env.cells.lookup x.1=some c):closureFor scope env=pure (znl env.cells scope.names []):=by
 simp only[closureFor]
 have key:∀ (names:List (Str×NameKind)) (acc:List (Str×Addr)),(∀ x∈names,x.2=.free->∃ c,env.cells.lookup x.1=some c) ->
   (forIn names acc fun(x:Str×NameKind) (z:List (Str×Addr)) =>
      if(x.snd==NameKind.free)=true then do
       let y ← cellOf env x.fst
       pure (ForInStep.yield ((x.fst,y)::z))
      else(pure (ForInStep.yield z):Sem _))=pure (znl env.cells names acc):=by
  intro names
  induction names with
  | nil=>intro acc _;rfl
  | cons x r ih =>
   intro acc hh
   obtain⟨n,k⟩:=x
   rw[List.forIn_cons]
   by_cases hk:(k==NameKind.free)=true
   ·obtain⟨c,hc⟩:=hh (n,k) List.mem_cons_self (by simpa using hk)
    have hcell:cellOf env n=pure c:=by unfold cellOf;rw[show env.cells.lookup n=some c from hc]
    simp only[hk,if_true]
    rw[hcell]
    have:=ih ((n,c)::acc) (fun y hy=>hh y (List.mem_cons_of_mem _ hy))
    rw[show znl env.cells ((n,k)::r) acc=znl env.cells r ((n,c)::acc) by
     show(if(k==NameKind.free)=true then _ else _)=_
     rw[if_pos hk,show env.cells.lookup n=some c from hc];rfl]
    rw[← this]
    rfl
   ·have:=ih acc (fun y hy=>hh y (List.mem_cons_of_mem _ hy))
    rw[if_neg hk]
    rw[show znl env.cells ((n,k)::r) acc=znl env.cells r acc by
     show(if(k==NameKind.free)=true then _ else _)=_
     rw[if_neg hk]]
    rw[← this]
    rfl
 rw[key _ _ h]
 rfl
theorem zoR {cells:List (Str×Addr)}:∀ {names:List (Str×NameKind)}{acc:List (Str×Addr)}{x:Str}{c:Addr},(∀ y∈names,y.2=.free->∃ c,cells.lookup y.1=some c) ->
  (znl cells names acc).lookup x=some c->acc.lookup x=some c∨cells.lookup x=some c
 | [],acc,x,c,_,h=>.inl h
 | (n,k)::r,acc,x,c,hh,h=>by
  unfold znl at h
  by_cases hk:(k==NameKind.free)=true
  ·rw[if_pos hk] at h
   obtain⟨d,hd⟩:=hh (n,k) List.mem_cons_self (by simpa using hk)
   rcases zoR (fun y hy=>hh y (List.mem_cons_of_mem _ hy)) h with h | h
   ·rw[List.lookup_cons] at h
    cases e:x==n with
    | true =>
     rw[e] at h
     rw[show cells.lookup n=some d from hd] at h
     cases h
     rw[eq_of_beq e];exact .inr hd
    | false=>rw[e] at h;exact .inl h
   ·exact .inr h
  ·rw[if_neg hk] at h
   exact zoR (fun y hy=>hh y (List.mem_cons_of_mem _ hy)) h
theorem zmg {α:Type}{x:Str}:∀ {l:List (Str×α)},(∃ v,(x,v)∈l)->∃ v,l.lookup x=some v
 | [],⟨v,h⟩=>by cases h
 | (n,w)::r,⟨v,h⟩=>by
  rw[List.lookup_cons]
  cases e:x==n with
  | true=>exact⟨w,rfl⟩
  | false =>
   rcases List.mem_cons.mp h with h | h
   ·cases h;simp at e
   ·exact zmg ⟨v,h⟩
theorem zoT {cells:List (Str×Addr)}{x:Str}{c:Addr}:∀ {names:List (Str×NameKind)}{acc:List (Str×Addr)},(x,c)∈acc->(x,c)∈znl cells names acc
 | [],acc,h=>h
 | (n,k)::r,acc,h=>by
  unfold znl
  by_cases hk:(k==NameKind.free)=true
  ·rw[if_pos hk];exact zoT (List.mem_cons_of_mem _ h)
  ·rw[if_neg hk];exact zoT h
theorem zoS {cells:List (Str×Addr)}{x:Str}:∀ {names:List (Str×NameKind)}{acc:List (Str×Addr)},(x,NameKind.free)∈names->∃ c,(znl cells names acc).lookup x=some c:=by
 intro names
 induction names with
 | nil=>intro acc h;cases h
 | cons y r ih =>
  intro acc h
  obtain⟨n,k⟩:=y
  unfold znl
  rcases List.mem_cons.mp h with h | h
  ·cases h
   rw[if_pos (by rfl)]
   exact zmg ⟨_,zoT List.mem_cons_self⟩
  ·by_cases hk:(k==NameKind.free)=true
   ·rw[if_pos hk];exact ih h
   ·rw[if_neg hk];exact ih h
def zg9 (X:Cx)(N:List Str)(scope:Scope)(s:Shared)(H:Hp)(C:Addr)(fp:List Addr)(pn:List (Addr×Obj)):Cx :=
 { X with N:=N,s₀:=s,H₀:=H,env:=compEnvC scope (znl X.env.cells scope.names []) C X.env,outer:=X.stack,stack:=X.stack,ex:=fp,fn:=fun _=>false,pn:=pn,xe:=fun _ _=>False }
def zoY (n:Nat)(fr:List Nat)(σ:L2.St):L2.St:=List.replicate n none++fr.map fun(i:Nat)=>(σ[i]?).getD none
def zC9 (X:Cx)(N:List Str)(n:Nat)(fr:List Nat)(scope:Scope):Prop :=
 N.length=n+fr.length/\((N.drop n).zip fr).all (fun p=>X.N[p.2]?==some p.1&&X.env.scope.names.lookup p.1==some .cell&&scope.names.lookup p.1==some .free&&(relabel scope X.env).names.lookup p.1==some .cell)=true
theorem zC9.at {X:Cx}{N:List Str}{n:Nat}{fr:List Nat}{scope:Scope}(h:zC9 X N n fr scope){k:Nat}{x:Str}{v:V}{σ:L2.St}(hx:N[k]?=some x)(hv:(zoY n fr σ)[k]?=some (some v)) :
  ∃ i:Nat,X.N[i]?=some x/\σ[i]?=some (some v)/\X.env.scope.names.lookup x=some .cell/\scope.names.lookup x=some .free/\(relabel scope X.env).names.lookup x=some .cell:=by
 unfold zoY at hv
 by_cases hk:k < n
 ·rw[List.getElem?_append_left (by simpa using hk),List.getElem?_replicate,if_pos hk] at hv
  cases hv
 ·rw[List.getElem?_append_right (by simpa using hk),List.length_replicate,List.getElem?_map] at hv
  cases hi:fr[k-n]? with
  | none=>rw[hi] at hv;cases hv
  | some i =>
   rw[hi] at hv
   have hz:((N.drop n).zip fr)[k-n]?=some (x,i):=by
    rw[List.getElem?_zip_eq_some]
    exact⟨by rw[List.getElem?_drop,show n+(k-n)=k by omega];exact hx,hi⟩
   have:=List.all_eq_true.mp h.2 _ (List.mem_of_getElem? hz)
   simp only[Bool.and_eq_true,beq_iff_eq] at this
   refine⟨i,this.1.1.1,?_,this.1.1.2,this.1.2,this.2⟩
   simp only[Option.map_some,Option.some.injEq] at hv
   cases hs:σ[i]? with
   | none=>rw[hs] at hv;cases hv
   | some u=>rw[hs] at hv;exact congrArg some hv
def PIf (X:Cx)(ifs:List Expr)(t:TT):Prop :=
 ∀ (pins:List (Addr×Obj)) (s:Shared) (σ:L2.St) (H:Hp) (Q:Bool->Hp->Prop),Inv X pins σ H s->t σ H Q ->
  wpAny (model X.prog X.w) X.A (forIn ifs true fun c r=>if r=true then do let ok ← isTrue c X.env (eval c X.env);pure (ForInStep.yield ok) else pure (ForInStep.yield r)) (TP X pins σ Q) X.xe s
def zET:TT:=fun _ H Q=>Q true H
theorem zAo {X:Cx}:PIf X [] zET:=fun _ _ _ H _ I h=>wpAny_tests_nil ⟨H,I,h⟩
theorem zAn {X:Cx}{c:Expr}{t:TT}(h:PT X c t):PIf X [c] t:=fun pins s σ H Q I q=>wpAny_tests_one (h pins s σ H Q I q)
theorem znk {prog:Program}{w:World}{A:Around}{R:Result->Shared->Prop}{s:Shared}{elt target iter:Expr}{ifs:List Expr}{scope:Scope}{pos:Pos}{it acc:Value}{env:PySem.Env}(I:Nat->Shared->Prop)
  (turn:∀ n s,I n s->wpAny (model prog w) A (pyNext it) (fun r s₁=>match r with
   | none=>R (.ok .next) s₁
   | some v=>wpAny (model prog w) A (letOwnedTupleGo target it v) (fun _ s₁'=>wpAny (model prog w) A (assign target env v) (fun _ s₂ =>
     wpAny (model prog w) A (forIn ifs true fun c r=>if r=true then do let ok ← isTrue c env (eval c env);pure (ForInStep.yield ok) else pure (ForInStep.yield r)) (fun ok s₃ =>
      if ok=true then wpAny (model prog w) A (eval elt env) (fun x s₄ =>
       wpAny (model prog w) A (call (.builtin "list.append") [acc,x]) (fun _ s₅=>∃ m,m < n/\I m s₅) (fun _ _=>False) s₄) (fun _ _=>False) s₃
      else ∃ m,m < n/\I m s₃) (fun _ _=>False) s₂) (fun _ _=>False) s₁') (fun _ _=>False) s₁) (fun _ _=>False) s)
  (n:Nat) (h:I n s) :
  codeAny (model prog w) A (.compLoop (.ListComp elt [⟨target,iter,ifs,0⟩] scope pos) 0 it acc env) R s:=by
 refine codeAny_loop rfl I (fun n s hI=>?_) n h
 show wpAny _ A ((compTurn (.ListComp elt [⟨target,iter,ifs,0⟩] scope pos) 0 it acc env).onRaise (fun x=>do noteFrame x env;theTreesLotGoes x)) _ _ s
 refine wpAny_noted ?_
 rw[compTurn_list]
 refine wpAny_bind (wpAny_standAt (wpAny_bind (wpAny_mono (turn n s hI) (fun r s₁ h₁=>?_) fun _ _ h'=>h'.elim)))
 cases r with
 | none=>exact wpAny_pure h₁
 | some v =>
  refine wpAny_bind (wpAny_mono h₁ (fun _ s₁' h₁'=>?_) fun _ _ h'=>h'.elim)
  refine wpAny_bind (wpAny_mono h₁' (fun _ s₂ h₂=>wpAny_bind (wpAny_mono h₂ (fun ok s₃ h₃=>?_) fun _ _ h'=>h'.elim)) fun _ _ h'=>h'.elim)
  cases ok with
  | false=>exact wpAny_pure ⟨rfl,h₃⟩
  | true =>
   exact wpAny_bind (wpAny_bind (wpAny_mono h₃ (fun x s₄ h₄=>wpAny_bind (wpAny_mono h₄ (fun _ s₅ h₅=>wpAny_pure (wpAny_pure ⟨rfl,h₅⟩)) fun _ _ h'=>h'.elim)) fun _ _ h'=>h'.elim))
def zuQ (n:Nat)(fr:List Nat)(g:TG)(tt:TT)(te:TE)(J:It)(σ:L2.St)(H1:Hp)(Q:VK):Prop:=∀ D,H1 D=none->∃ W:Nat->Nat->List V->L2.St->Hp->Prop,(∃ m,W 0 m [] (zoY n fr σ) (upd H1 D (.lst []))) /\
 ∀ i m ys σ' H',W i m ys σ' H'->H' D=some (.lst ys)/\((J.stop i H'/\Q (.ref D) H')∨(J.go i H'/\ys.length < sizeLine/\∀ x H2,J.yld i H' x H2->g x σ' H2 fun σ3 H3=>tt σ3 H3 fun b H4 =>
  if b=true then te σ3 H4 fun y H5=>H5 D=some (.lst ys)/\∃ m',m' < m/\W (i+1) m' (ys++[y]) σ3 (upd H5 D (.lst (ys++[y])))
  else ∃ m',m' < m/\W (i+1) m' ys σ3 H4))
theorem zwN {X:Cx}{tg iter elt:Expr}{ifs:List Expr}{scope:Scope}{pos:Pos}{N:List Str}{n:Nat}{fr:List Nat}{g:TG}{tt:TT}{te:TE}(hc:X.calm=true)(hfr:zC9 X N n fr scope)
  (hcell:∀ x∈scope.names,x.2≠.cell)(hfree:∀ x∈scope.names,x.2=.free->X.env.scope.names.lookup x.1=some .cell)(hkind:scope.kind=.function)
  (blk:∀ s H C fp pn,PG (zg9 X N scope s H C fp pn) tg g/\PIf (zg9 X N scope s H C fp pn) ifs tt/\PE (zg9 X N scope s H C fp pn) elt te)
  {pins:List (Addr×Obj)}{σ:L2.St}{s2:Shared}{Q:VK}{itv:Value}{RR:Value->Addr->Result->Shared->Prop}
  (h2:PIE X pins σ tg (fun J H1=>zuQ n fr g tt te J σ H1 Q) itv s2)
  (fin:∀ (Da C:Addr) (s6:Shared) (H5:Hp) (m:Str->Option Value),Inv X pins σ H5 s6->s6.heap.Ns C m->zum X pins H5 C->Q (.ref Da) H5->RR (.ref Da) C (.ok .next) s6) :
  wpAny (model X.prog X.w) X.A (newList []) (fun acc s₃=>wpAny (model X.prog X.w) X.A (newFunctionEnv scope X.env.globals (znl X.env.cells scope.names []) [] X.env.qual none .none (some X.env)) (fun cenv s₄ =>
   codeAny (model X.prog X.w) X.A (.compStart (.ListComp elt [⟨tg,iter,ifs,0⟩] scope pos) 0 itv acc { cenv with scope:=relabel scope X.env }) (RR acc cenv.locals) s₄) X.xe s₃) X.xe s2:=by
 obtain⟨it,fp,tn,J,H2,e,I2,T,st2,f2,q⟩:=h2
 subst e
 have hD:H2 s2.heap.objs.size=none:=I2.fresh
 refine wpAny_newObj_type ?_
 have I3:Inv X pins σ (upd H2 s2.heap.objs.size (.lst [])) { s2 with heap:=s2.heap.push { cls:=.type "list",data:=.seq ([]:List Value).toArray } }:=I2.lnew (t':=s2.toks) (its:=[]) .nil (Nat.zero_le _)
 obtain⟨W,⟨m0,w0⟩,turn⟩:=q s2.heap.objs.size hD
 generalize hs3:({ s2 with heap:=s2.heap.push { cls:=.type "list",data:=.seq ([]:List Value).toArray } }:Shared)=s3 at I3 ⊢
 have hs3h:s3.heap=s2.heap.push { cls:=.type "list",data:=.seq ([]:List Value).toArray }:=by rw[← hs3]
 have hDs:s2.heap.objs.size < s3.heap.objs.size:=by rw[hs3h,Heap.size_push];exact Nat.lt_succ_self _
 have fpl:∀ b∈fp,b < s2.heap.objs.size:=fun b hb=>by
  obtain⟨o,ho,_⟩:=T.obj _ _ st2 b hb
  exact Heap.lt_size ho
 have kept3:∀ b o,s2.heap.get? b=some o->s3.heap.get? b=some o:=fun b o e=>by rw[hs3h];exact Heap.get?_push_of_some _ e
 have st3:tn 0 s3.heap:=T.keep _ _ _ st2 fun b _ o e=>kept3 b o e
 generalize hDa:s2.heap.objs.size=Da at *
 generalize hH3:upd H2 Da (.lst [])=H3 at *
 have fr3:∀ b∈fp,H3 b=none:=fun b hb=>by rw[← hH3,zaE (Nat.ne_of_lt (fpl b hb))];exact(f2 b hb).1
 have cls:∀ x c,(znl X.env.cells scope.names []).lookup x=some c->X.env.cells.lookup x=some c:=fun x c e=>by
  rcases zoR (fun y hy hf=>I3.ok.has y.1 (.inl (hfree y hy hf))) e with e | e
  ·cases e
  ·exact e
 refine wpAny_newFunctionEnv hcell (by intro y hy;simp at hy) (fun h4 ns4 sb4=>?_) hkind
 have k4:∀ b o,s3.heap.get? b=some o->h4.get? b=some o:=fun b o e=>(sb4.2 b (Nat.ne_of_lt (Heap.lt_size e))).trans (Heap.get?_push_of_some _ e)
 generalize hC:s3.heap.objs.size=C at *
 have hCn:H3 C=none:=I3.hok.fresh (by rw[hC];exact Nat.le_refl _)
 have ltC:∀ b o,s3.heap.get? b=some o->b≠C:=fun b o e=>by rw[← hC];exact Nat.ne_of_lt (Heap.lt_size e)
 have cellC:∀ x c,X.env.cells.lookup x=some c->c≠C:=fun x c e=>by
  obtain⟨v,o,ho,_⟩:=I3.cell x c e
  exact ltC c o ho
 have fpC:∀ b∈fp,b≠C:=fun b hb=>by
  have:=fpl b hb
  exact Nat.ne_of_lt (Nat.lt_trans this hDs)
 show codeAny (model X.prog X.w) X.A (.compStart (.ListComp elt [⟨tg,iter,ifs,0⟩] scope pos) 0 (.ref it) (.ref Da) (compEnvC scope (znl X.env.cells scope.names []) C X.env)) _ _
 generalize hs4:({ s3 with heap:=h4,toks:=s3.toks+([]:List (Str×Value)).length }:Shared)=s4
 have hs4h:s4.heap=h4:=by rw[← hs4]
 have ok:(zg9 X N scope s3 H3 C fp (X.pn++pins)).Ok:=by
  refine⟨I3.ok.mod,hkind,I3.ok.glob,I3.ok.blt,Nat.le_of_eq hC,fun x y c e1 e2=>I3.ok.inj x y c (cls x c e1) (cls y c e2),fun x e=>?_,fun x c e=>?_,fun _=>I3.ok.hd hc,I3.ok.frames,.inl rfl,fun b hb=>⟨fpC b hb,fun x c e=>(f2 b hb).2.2.2.2.1 x c (cls x c e)⟩,I3.bs,Nat.le_trans I3.ok.bsz I3.sz,fun b o e hb=>?_,fun b hb z=>?_,I3.stack,I3.stkFree⟩
  ·have mm:∀ k:NameKind,(relabel scope X.env).names.lookup x=some k->(k=.cell∨k=.free)->(x,NameKind.free)∈scope.names:=fun k hk hk2=>by
    have hm:=PySem.mem_of_lookup hk
    obtain⟨⟨n',k'⟩,hm1,hm2⟩:=List.mem_map.mp hm
    dsimp only at hm2
    split at hm2
    ·rename_i hcnd
     cases hm2
     simp only[Bool.and_eq_true,beq_iff_eq] at hcnd
     rw[hcnd.1.1] at hm1
     exact hm1
    ·cases hm2
     rcases hk2 with rfl | rfl
     ·exact absurd rfl (hcell _ hm1)
     ·exact hm1
   rcases e with e | e
   ·exact zoS (mm _ e (.inl rfl))
   ·exact zoS (mm _ e (.inr rfl))
  ·cases e
  ·rcases(f2 b hb).2.2.2.1 with z | z
   ·exact I3.ok.noex b o e z
   ·exact absurd (Nat.lt_of_lt_of_le (Heap.lt_size e) (Nat.le_trans I3.ok.bsz z)) (Nat.lt_irrefl _)
  ·rcases List.mem_cons.mp (I3.stkSub b z) with z | z
   ·exact(f2 b hb).2.1 z
   ·exact(f2 b hb).2.2.1 z
 have I4:Inv (zg9 X N scope s3 H3 C fp (X.pn++pins)) [] (zoY n fr σ) H3 s4:=by
  refine⟨ok,by rw[← hs4];rfl,by rw[← hs4];exact I3.bare,by rw[hs4h];exact Un.kept k4,⟨_,by rw[hs4h];exact ns4,fun i x v h1 h2 h3=>?_⟩,fun x c e=>?_,hCn,fun x c e=>I3.freeC x c (cls x c e),fun p hp=>?_,by rw[hs4h];exact I3.hok.kept k4,?_⟩
  ·obtain⟨j,j1,j2,j3,j4,j5⟩:=hfr.at h1 h2
   obtain⟨m,hn,hl⟩:=I3.loc
   obtain⟨u,ru,l⟩:=hl j x v j1 j2 (.inr (.inl j3))
   refine⟨u,ru,.inr ⟨.inl j5,?_⟩⟩
   rcases l with⟨z,_⟩ | ⟨_,c,z1,z2⟩
   ·rw[show X.env.kindOf x=X.env.scope.names.lookup x from rfl,j3] at z;cases z
   ·obtain⟨c',hc'⟩:=zoS (cells:=X.env.cells) (names:=scope.names) (acc:=[]) (PySem.mem_of_lookup j4)
    have:=cls x c' hc'
    rw[z1] at this;cases this
    obtain⟨oc,q1,q2⟩:=z2
    exact⟨c,hc',oc,by rw[hs4h];exact k4 _ _ q1,q2⟩
  ·obtain⟨v,oc,q1,q2⟩:=I3.cell x c (cls x c e)
   exact⟨v,oc,by rw[hs4h];exact k4 _ _ q1,q2⟩
  ·rw[List.append_nil] at hp
   obtain⟨p1,p2,p3,p4,p5⟩:=I3.pin p hp
   refine⟨by rw[hs4h];exact k4 _ _ p1,p2,ltC _ _ p1,fun z=>?_,p5⟩
   rcases List.mem_cons.mp (I3.stkSub _ z) with z | z
   ·exact p3 z
   ·exact p4 z
  ·show(zoY n fr σ).length=N.length
   unfold zoY
   rw[List.length_append,List.length_replicate,List.length_map,hfr.1]
 have st4:tn 0 s4.heap:=by rw[hs4h];exact T.keep _ _ _ st3 fun b _ o e=>k4 b o e
 have stat:∀ {H':Hp},(∀ b∈fp,H' b=none)->∀ b∈fp,zum (zg9 X N scope s3 H3 C fp (X.pn++pins)) [] H' b:=fun hn b hb=>by
  refine⟨hn b hb,fpC b hb,fun z=>?_,.inl hb,fun x c e=>(f2 b hb).2.2.2.2.1 x c (cls x c e),fun p hp=>?_⟩
  ·rcases List.mem_cons.mp (I3.stkSub b z) with z | z
   ·exact(f2 b hb).2.1 z
   ·exact(f2 b hb).2.2.1 z
  ·rw[List.append_nil] at hp
   exact(f2 b hb).2.2.2.2.2 p hp
 have loop:codeAny (model X.prog X.w) X.A (.compLoop (.ListComp elt [⟨tg,iter,ifs,0⟩] scope pos) 0 (.ref it) (.ref Da) (compEnvC scope (znl X.env.cells scope.names []) C X.env)) (RR (.ref Da) C) s4:=by
  refine znk (fun n s'=>∃ i ys σ' H',Inv (zg9 X N scope s3 H3 C fp (X.pn++pins)) [] σ' H' s'/\tn i s'.heap/\(∀ b∈fp,H' b=none)/\W i n ys σ' H') ?_ m0 ⟨0,[],_,H3,I4,st4,fr3,w0⟩
  rintro k s5 ⟨i,ys,σ5,H5,I5,st5,fr5,w5⟩
  obtain⟨hDl,ways⟩:=turn i k ys σ5 H5 w5
  rcases ways with⟨stop,fin'⟩ | ⟨go,hz,step⟩
  ·refine thn (T.done (zg9 X N scope s3 H3 C fp (X.pn++pins)) rfl rfl rfl hc i [] s5 σ5 H5 (fun _ _=>False) I5 (stat fr5) st5 stop) fun r s6 ⟨hr,I6⟩=>?_
   subst hr
   obtain⟨mm,nsm,_⟩:=I6.loc
   have free6:H5 C=none:=I6.free
   have hok:HOk X.prog X.w H5 s6.heap:=I6.hok
   have un:Un (frs X.stack) fp H3 H5 s3.heap s6.heap:=I6.base
   have IX:Inv X pins σ H5 s6:=I3.call' (s':=s6) (ch:=fp) I6.os un hok I6.bare (fun b hb=>⟨(f2 b hb).2.2.2.1,(f2 b hb).2.1,(f2 b hb).2.2.2.2.1,(f2 b hb).2.2.2.2.2⟩)
   have fC:zum X pins H5 C:=I3.fpOk (b:=C) (H':=H5) (by rw[hC];exact Nat.le_refl _) free6
   exact fin Da C s6 H5 mm IX nsm fC fin'
  ·refine thn (T.item (zg9 X N scope s3 H3 C fp (X.pn++pins)) rfl rfl rfl hc i [] s5 σ5 H5 (fun _ _=>False) I5 (stat fr5) st5 go) fun r s6 ⟨u,hr,h6⟩=>?_
   subst hr
   refine thn h6 fun _ s7 ⟨x,H7,I7,r7,y7,st7,fr7⟩=>?_
   have I7':=I7.pinned (stat fr7) (T.obj _ _ st7)
   refine thn ((blk s3 H3 C fp (X.pn++pins)).1 _ s7 σ5 H7 x u _ I7' r7 (step x H7 y7)) fun _ s8 ⟨σ8,H8,I8,q8⟩=>?_
   refine thn ((blk s3 H3 C fp (X.pn++pins)).2.1 _ s8 σ8 H8 _ I8 q8) fun b s8b ⟨H8b,I8b,q8b⟩=>?_
   have back:∀ {σ':L2.St}{H':Hp}{s':Shared},L2.Inv (zg9 X N scope s3 H3 C fp (X.pn++pins)) (([]:List (Addr×Obj))++zpK fp s7.heap) σ' H' s'->tn (i+1) s'.heap/\∀ b∈fp,H' b=none:=fun {σ' H' s'} I'=>by
    refine⟨T.keep _ _ _ st7 fun b hb o e=>(I'.pin (b,o) (List.mem_append_right _ (List.mem_append_right _ (ziS hb e)))).1,fun b hb=>?_⟩
    obtain⟨o,e,d⟩:=T.obj _ _ st7 b hb
    exact(I'.pin (b,o) (List.mem_append_right _ (List.mem_append_right _ (ziS hb e)))).2.1
   cases b with
   | false =>
    rw[if_neg Bool.false_ne_true] at q8b ⊢
    obtain⟨m',hm,w9⟩:=q8b
    exact⟨m',hm,i+1,ys,σ8,_,I8b.unpinned,(back I8b).1,(back I8b).2,w9⟩
   | true =>
    rw[if_pos rfl] at q8b ⊢
    refine thn ((blk s3 H3 C fp (X.pn++pins)).2.2 _ s8b σ8 H8b _ I8b q8b) fun y s9 ⟨yv,H9,I9,r9,hD9,m',hm,w9⟩=>?_
    refine thn (zpQ (X:=zg9 X N scope s3 H3 C fp (X.pn++pins)) _ s9 σ8 H9 (.ref Da) [yv] (.ref Da) [y] (fun v H'=>H'=upd H9 Da (.lst (ys++[yv]))) I9 rfl (.cons r9 .nil) ⟨Da,ys,yv,rfl,rfl,hD9,hz,rfl⟩) fun _ s10 ⟨v10,H10,I10,_,e10⟩=>?_
    subst e10
    exact⟨m',hm,i+1,ys++[yv],σ8,_,I10.unpinned,(back I10).1,(back I10).2,w9⟩
 exact codeAny_compStart_list loop (T.self _ 0 _ _ _ st4 loop)
structure ItD (K:W.Frag) (ds:List D) (J:It) (H₀:Hp):Prop where
 go:∀ (i:Nat) (H' H₀':Hp),za2 H₀ H₀'->za2 H₀' H'->i < ds.length->J.go i H'
 yld:∀ (i:Nat) (H' H₀':Hp) (x:V) (H2:Hp) (d:D),za2 H₀ H₀'->za2 H₀' H'->ds[i]?=some d->J.yld i H' x H2->∃ H₀2,zbZ H' H₀' H2 H₀2/\Rep K H₀2 d x
 stop:∀ (i:Nat) (H' H₀':Hp),za2 H₀ H₀'->za2 H₀' H'->ds.length<=i->J.stop i H'
def tDI (K:W.Frag)(E:XK)(src:Ev->Res (List D)):TI:=fun σ H R=>∃ H₀ ρ,za2 H₀ H/\ziB K H₀ σ ρ/\match src ρ with
 | .ok ds=>∀ J H' H₀',zbZ H H₀ H' H₀'->ItD K ds J H₀'->R J H'
 | .exn x=>∀ C ox H' H₀',zbZ H H₀ H' H₀'->ExR K H₀' x C ox->E C ox H'
 | .stuck=>False
structure DI (X:Cx) (E:XK) (tg iter:Expr) (src:Ev->Res (List D)):Prop where
 o:PI X tg iter (tDI X.K E src)
theorem zoe {X:Cx}{tg iter:Expr}{t t':TI}(h:PI X tg iter t)(w:∀ σ H R,t' σ H R->t σ H R):PI X tg iter t':=fun pins s σ H R I q=>h pins s σ H R I (w σ H R q)
def zqZ (f:Ev->Res D):Ev->Res (List D):=fun ρ=>(f ρ).bind fun d=>match d with
 | .lst ds=>.ok ds
 | _=>.stuck
def zE7 (f:Ev->Res D):Ev->Res (List D):=fun ρ=>(f ρ).bind fun d=>match d with
 | .tup ds=>.ok ds
 | _=>.stuck
def zDa (f:Ev->Res D):Ev->Res (List D):=fun ρ=>(f ρ).bind fun d=>match d with
 | .str z=>.ok (zkW z)
 | _=>.stuck
def zpz (f:Ev->Res D):Ev->Res (List D):=fun ρ=>(f ρ).bind fun d=>match d with
 | .int j=>if -4611686018427387904<=j/\j < 4611686018427387904 then .ok (intsFrom 0 j.toNat) else .stuck
 | _=>.stuck
section
variable {X:Cx}{E:XK}{tg e a b:Expr}{f g:Ev->Res D}
theorem zib (h:DE X E e f):DI X E tg e (zqZ f):=by
 refine⟨zoe (zvv h.o) fun σ H R ⟨H₀,ρ,hs,hr,q⟩=>⟨H₀,ρ,hs,hr,?_⟩⟩
 unfold zqZ at q
 cases e1:f ρ with
 | stuck=>rw[e1] at q;exact q
 | exn x=>rw[e1] at q;exact q
 | ok d =>
  rw[e1] at q
  intro v H1 H01 g1 r1
  cases d with
  | lst ds =>
   obtain⟨p,vs,rfl,hv,hrv⟩:=Rep.lst_iff.mp r1
   refine⟨p,rfl,⟨vs,za2.sqL g1.sub hv⟩,q _ H1 H01 g1 ⟨fun i H' H₀' s1 s2 hi=>?_,fun i H' H₀' x H2 d s1 s2 hd hy=>?_,fun i H' H₀' s1 s2 hi=>?_⟩⟩
   ·exact⟨vs,vs[i]'(by rw[← hrv.length];exact hi),za2.sqL (s1.trans s2) hv,by simp⟩
   ·obtain⟨rfl,hy⟩:=hy
    obtain⟨u,k1,k2⟩:=hrv.get hd
    have:=hy vs (za2.sqL (s1.trans s2) hv)
    rw[k1] at this;cases this
    exact⟨H₀',zbZ.refl s2,k2.mono s1⟩
   ·exact⟨vs,za2.sqL (s1.trans s2) hv,by rw[← hrv.length];exact hi⟩
  | _=>exact q.elim
theorem zCU (h:DE X E e f):DI X E tg e (zDa f):=by
 refine⟨zoe (zCf h.o) fun σ H R ⟨H₀,ρ,hs,hr,q⟩=>⟨H₀,ρ,hs,hr,?_⟩⟩
 unfold zDa at q
 cases e1:f ρ with
 | stuck=>rw[e1] at q;exact q
 | exn x=>rw[e1] at q;exact q
 | ok d =>
  rw[e1] at q
  intro v H1 H01 g1 r1
  cases d with
  | str z =>
   refine⟨z,Rep.str_iff.mp r1,q _ H1 H01 g1 ⟨fun i H' H₀' s1 s2 hi=>?_,fun i H' H₀' x H2 d s1 s2 hd hy=>?_,fun i H' H₀' s1 s2 hi=>?_⟩⟩
   ·rw[zki] at hi;exact hi
   ·obtain⟨rfl,c,hc,rfl⟩:=hy
    have:d=.str ⟨#[c]⟩:=by
     unfold zkW at hd
     rw[List.getElem?_map] at hd
     have h2:z.cps.toList[i]?=some c:=by simpa using hc
     rw[h2] at hd;cases hd;rfl
    subst this
    exact⟨H₀',zbZ.refl s2,Rep.str_iff.mpr rfl⟩
   ·rw[zki] at hi;exact hi
  | _=>exact q.elim
theorem zwb {K:W.Frag}{lo:Int}{n:Nat}{H:Hp}:ItD K (intsFrom lo n) (Itr lo n) H:=by
 have hl:(intsFrom lo n).length=n:=by unfold intsFrom;simp
 refine⟨fun i H' H₀' _ _ hi=>?_,fun i H' H₀' x H2 d s1 s2 hd hy=>?_,fun i H' H₀' _ _ hi=>?_⟩
 ·rw[hl] at hi;exact hi
 ·obtain⟨rfl,rfl⟩:=hy
  have:d=.int (lo+i):=by
   unfold intsFrom at hd
   rw[List.getElem?_map] at hd
   cases e:(List.range n)[i]? with
   | none=>rw[e] at hd;cases hd
   | some k =>
    rw[e] at hd
    have hk:k=i:=by
     obtain⟨h1,h2⟩:=List.getElem?_eq_some_iff.mp e
     simpa using h2.symm
    subst hk;cases hd;rfl
  subst this
  exact⟨H₀',zbZ.refl s2,Rep.int_iff.mpr rfl⟩
 ·rw[hl] at hi;exact hi
theorem zmG {p pos:Pos}(hg:Gl X "range")(hm:X.mg "range"=none)(h:DE X E a f)(hn:nst a=true:=by exact rfl):DI X E tg (.Call (.Name "range" p) [a] [] pos) (zpz f):=by
 refine⟨zoe (zpL hg hm (zdo h.o zhy (ziK hn)) (ziK hn)) fun σ H R ⟨H₀,ρ,hs,hr,q⟩=>⟨H₀,ρ,hs,hr,?_⟩⟩
 unfold zpz at q
 cases e1:f ρ with
 | stuck=>rw[e1] at q;exact q
 | exn x=>rw[e1] at q;exact q
 | ok d =>
  rw[e1] at q
  intro v H1 H01 g1 r1
  cases d with
  | int j =>
   replace q:match (if -4611686018427387904<=j/\j < 4611686018427387904 then Res.ok (intsFrom 0 j.toNat) else .stuck) with
    | .ok ds=>∀ J H' H₀',zbZ H H₀ H' H₀'->ItD X.K ds J H₀'->R J H'
    | .exn x=>∀ C ox H' H₀',zbZ H H₀ H' H₀'->ExR X.K H₀' x C ox->E C ox H'
    | .stuck=>False:=q
   by_cases hj:-4611686018427387904<=j/\j < 4611686018427387904
   ·rw[if_pos hj] at q
    rw[Rep.int_iff.mp r1]
    exact⟨j,rfl,hj.1,hj.2,q _ H1 H01 g1 zwb⟩
   ·rw[if_neg hj] at q;exact q.elim
  | _=>exact q.elim
end
def zn7 (src:Ev->Res (List D))(tg:Ev->D->Res Ev)(s:Ev->Res Fl):Ev->Res Fl:=fun ρ=>(src ρ).bind fun ds=>zed tg s ds ρ
section
variable {X:Cx}{E:XK}{He H0e:Hp}{st:Stmt}{s:Ev->Res Fl}{pos:Pos}
theorem zjh.step2 {K:W.Frag}{H₁ H₀:Hp}{tg:Ev->D->Res Ev}{ds:List D}{D':znm}{i:Nat}{σ:L2.St}{H:Hp}{d:D}{v:V}{ρ:Ev}(z:za2 H₁ H₀)(h:SRx K He H0e H₀ σ H ρ)(q:zcQ K E He H0e H₀ (zed tg s (ds.drop i) ρ) D')(hd:ds[i]?=some d)(rv:Rep K H₀ d v)
  (he:∀ ρ,tg ρ d=.stuck∨∃ ρ',tg ρ d=.ok ρ') :
  tG K He H0e tg v σ H fun σ2 H2=>tS K E He H0e s { D' with nx:=zjh K E He H0e H₁ tg s ds D' (i+1),ct:=zjh K E He H0e H₁ tg s ds D' (i+1),bk:=D'.nx } σ2 H2:=by
 have hi:i < ds.length:=(List.getElem?_eq_some_iff.mp hd).1
 have hdr:ds.drop i=d::ds.drop (i+1):=by
  rw[List.drop_eq_getElem_cons hi]
  rw[List.getElem?_eq_getElem hi] at hd
  cases hd;rfl
 rw[hdr] at q
 refine⟨H₀,ρ,d,h,rv,?_⟩
 unfold zed at q
 rcases he ρ with e1 | ⟨ρ1,e1⟩
 ·rw[e1] at q;exact q.elim
 ·rw[e1] at q ⊢
  intro σ' H' H₀' z' h'
  refine⟨H₀',ρ1,h',?_⟩
  replace q:=zcQ.grow (r:=(s ρ1).bind fun x=>match x with
   | .nx ρ2=>zed tg s (ds.drop (i+1)) ρ2
   | .ct ρ2=>zed tg s (ds.drop (i+1)) ρ2
   | .bk ρ2=>.ok (.nx ρ2)
   | .rt d=>.ok (.rt d)) q z'
  cases e2:s ρ1 with
  | stuck=>rw[e2] at q;exact q
  | exn x=>rw[e2] at q;exact q
  | ok r =>
   rw[e2] at q
   cases r with
   | nx ρ2=>exact fun σ3 H3 H03 z3 h3=>⟨H03,ρ2,(z.trans z').trans z3,h3,zcQ.grow (r:=zed tg s (ds.drop (i+1)) ρ2) q z3⟩
   | ct ρ2=>exact fun σ3 H3 H03 z3 h3=>⟨H03,ρ2,(z.trans z').trans z3,h3,zcQ.grow (r:=zed tg s (ds.drop (i+1)) ρ2) q z3⟩
   | bk ρ2=>exact q
   | rt d=>exact q
theorem zwz {tgt iter:Expr}{body:List Stmt}{tg:Ev->D->Res Ev}{src:Ev->Res (List D)}(hp:PassesOwn (model X.prog X.w) X.A X.env X.xe)(hc:X.calm=true)(hi:DI X E tgt iter src)(hg:DG X E He H0e tgt tg)(ht:zw0 tg)(hb:DSs X E He H0e body s)
  (hs:∀ x,foldedSetIterable iter X.env x=pure x:=by intro _;rfl):DS X E He H0e (.For tgt iter body [] pos) (zn7 src tg s):=by
 refine⟨zdn (zvp hp hc hi.o hg.o hb.o hs) fun D' σ H ⟨H₀,ρ,h,q⟩=>⟨H₀,ρ,h.g.sub,h.rd,?_⟩⟩
 unfold zn7 at q
 cases e1:src ρ with
 | stuck=>rw[e1] at q;exact q
 | exn x=>rw[e1] at q;exact fun C ox H' H₀' g r=>q C ox H' H₀' (h.g.trans g) r
 | ok ds =>
  rw[e1] at q
  intro J H1 H01 g it
  have q1:zcQ X.K E He H0e H01 (zed tg s ds ρ) D':=zcQ.grow (r:=zed tg s ds ρ) q g.z
  refine⟨fun i m σ' H'=>m+i=ds.length/\zjh X.K E He H0e H01 tg s ds D' i σ' H',⟨ds.length,rfl,H01,ρ,za2.refl _,h.grow g,q1⟩,?_⟩
  rintro i m σ' H' ⟨hm,H₀',ρ',z,h',hq⟩
  by_cases hlt:i < ds.length
  ·refine .inr ⟨it.go i H' H₀' z h'.g.sub hlt,fun σ2 H2=>zjh X.K E He H0e H01 tg s ds D' (i+1) σ2 H2,fun σ2 H2 hl=>⟨m-1,by omega,by omega,hl⟩,fun x H2 hy=>?_⟩
   obtain⟨H₀2,g2,rp⟩:=it.yld i H' H₀' x H2 ds[i] z h'.g.sub (List.getElem?_eq_getElem hlt) hy
   exact zjh.step2 (z.trans g2.z) (h'.grow g2) (zcQ.grow (r:=zed tg s (ds.drop i) ρ') hq g2.z) (List.getElem?_eq_getElem hlt) rp fun ρ=>ht ρ _
  ·have e:i=ds.length:=by omega
   refine .inl ⟨it.stop i H' H₀' z h'.g.sub (by omega),?_⟩
   subst e
   exact zjh.done ⟨H₀',ρ',z,h',hq⟩
end
def zlU (f:Ev->Res D):Prop:=∀ ρ d,f ρ=.ok d->∃ ds,d=.lst ds
theorem zsh {K:W.Frag}{E:XK}{f:Ev->Res D}(hf:zlU f){σ:L2.St}{H:Hp}{Q:VK}(h:tD K E f σ H Q):tF K E f σ H Q:=by
 obtain⟨H₀,ρ,hs,hr,q⟩:=h
 refine⟨H₀,ρ,hs,hr,?_⟩
 cases e1:f ρ with
 | stuck=>rw[e1] at q;exact q
 | exn x=>rw[e1] at q;exact q
 | ok d =>
  obtain⟨ds,rfl⟩:=hf ρ d e1
  rw[e1] at q
  intro p vs H' H₀' g hp h0 hv rp
  have n0:H₀ p=none:=hs.free hp
  refine q (.ref p) H' (upd H₀' p (.lst vs)) ⟨g.s,fun b o e=>?_,fun b o e=>?_,fun b k1 k2=>?_⟩ (Rep.lst_iff.mpr ⟨p,vs,rfl,SqL.of zaB,rp.mono fun b o e=>?_⟩)
  ·rw[zaE (by intro z;subst z;rw[n0] at e;cases e)];exact g.z _ _ e
  ·by_cases hb:b=p
   ·subst hb;rw[zaB] at e;cases e;exact hv
   ·rw[zaE hb] at e;exact g.sub _ _ e
  ·by_cases hb:b=p
   ·subst hb;exact hp
   ·rw[zaE hb] at k1;exact g.nw b k1 k2
  ·rw[zaE (by intro z;subst z;rw[h0] at e;cases e)];exact e
theorem zyM {X:Cx}{E:XK}{e:Expr}{f:Ev->Res D}(hf:zlU f)(h:DF X E e f):DE X E e f:=⟨za3 h.o fun σ H Q q=>zsh hf q⟩
def zeT (n:Nat)(fr:List Nat)(ρ:Ev):Ev:=List.replicate n .no++fr.map fun(i:Nat)=>match ρ[i]? with
 | some (.sh d)=>.sh d
 | _=>.no
def zcM (b:Ev)(tg:Ev->D->Res Ev)(tt fe:Ev->Res D):List D->Res (List D)
 | []=>.ok []
 | d::r=>(tg b d).bind fun ρ1=>(tt ρ1).bind fun t=>match t with
  | .bl true=>(fe ρ1).bind fun x=>(zcM b tg tt fe r).bind fun xs=>.ok (x::xs)
  | .bl false=>zcM b tg tt fe r
  | _=>.stuck
def zd6 (n:Nat)(fr:List Nat)(src:Ev->Res (List D))(tg:Ev->D->Res Ev)(tt fe:Ev->Res D):Ev->Res D:=fun ρ=>(src ρ).bind fun ds =>
 if ds.length<=line then match zcM (zeT n fr ρ) tg tt fe ds with
  | .ok es=>.ok (.lst es)
  | _=>.stuck
 else .stuck
theorem zka {n:Nat}{fr:List Nat}{src:Ev->Res (List D)}{tg:Ev->D->Res Ev}{tt fe:Ev->Res D}:zlU (zd6 n fr src tg tt fe):=fun ρ d h=>by
 unfold zd6 at h
 cases e1:src ρ with
 | stuck=>rw[e1] at h;cases h
 | exn x=>rw[e1] at h;cases h
 | ok ds =>
  rw[e1] at h
  replace h:(if ds.length<=line then match zcM (zeT n fr ρ) tg tt fe ds with
   | .ok es=>Res.ok (D.lst es)
   | _=>.stuck else .stuck)=.ok d:=h
  split at h
  ·split at h
   ·cases h;exact⟨_,rfl⟩
   ·cases h
  ·cases h
theorem zi6 {b:Ev}{tg:Ev->D->Res Ev}{tt fe:Ev->Res D}{d:D}{r es:List D}(h:zcM b tg tt fe (d::r)=.ok es) :
  ∃ ρ1 t,tg b d=.ok ρ1/\tt ρ1=.ok (.bl t)/\((t=true/\∃ x xs,fe ρ1=.ok x/\zcM b tg tt fe r=.ok xs/\es=x::xs)∨(t=false/\zcM b tg tt fe r=.ok es)):=by
 unfold zcM at h
 cases e1:tg b d with
 | stuck=>rw[e1] at h;cases h
 | exn z=>rw[e1] at h;cases h
 | ok ρ1 =>
  rw[e1] at h
  replace h:((tt ρ1).bind fun t=>match t with
   | .bl true=>(fe ρ1).bind fun x=>(zcM b tg tt fe r).bind fun xs=>Res.ok (x::xs)
   | .bl false=>zcM b tg tt fe r
   | _=>.stuck)=.ok es:=h
  cases e2:tt ρ1 with
  | stuck=>rw[e2] at h;cases h
  | exn z=>rw[e2] at h;cases h
  | ok t =>
   rw[e2] at h
   cases t with
   | bl t =>
    cases t with
    | true =>
     replace h:((fe ρ1).bind fun x=>(zcM b tg tt fe r).bind fun xs=>Res.ok (x::xs))=.ok es:=h
     cases e3:fe ρ1 with
     | stuck=>rw[e3] at h;cases h
     | exn z=>rw[e3] at h;cases h
     | ok x =>
      rw[e3] at h
      replace h:((zcM b tg tt fe r).bind fun xs=>Res.ok (x::xs))=.ok es:=h
      cases e4:zcM b tg tt fe r with
      | stuck=>rw[e4] at h;cases h
      | exn z=>rw[e4] at h;cases h
      | ok xs=>rw[e4] at h;cases h;exact⟨ρ1,true,rfl,e2,.inl ⟨rfl,x,xs,e3,rfl,rfl⟩⟩
    | false=>exact⟨ρ1,false,rfl,e2,.inr ⟨rfl,h⟩⟩
   | _=>cases h
theorem zio {b:Ev}{tg:Ev->D->Res Ev}{tt fe:Ev->Res D}{d x:D}{r:List D}{ρ1:Ev}(h1:tg b d=.ok ρ1)(h2:tt ρ1=.ok (.bl true))(h3:fe ρ1=.ok x):zcM b tg tt fe (d::r)=(zcM b tg tt fe r).bind fun xs=>.ok (x::xs):=by
 rw[zcM,h1]
 simp only[Res.bind,h2,h3]
theorem zoO {b:Ev}{tg:Ev->D->Res Ev}{tt fe:Ev->Res D}{d:D}{r:List D}{ρ1:Ev}(h1:tg b d=.ok ρ1)(h2:tt ρ1=.ok (.bl false)):zcM b tg tt fe (d::r)=zcM b tg tt fe r:=by
 rw[zcM,h1]
 simp only[Res.bind,h2]
theorem zmQ {b:Ev}{tg:Ev->D->Res Ev}{tt fe:Ev->Res D}:∀ {r q es:List D},zcM b tg tt fe (r++q)=.ok es->∃ e1 e2,zcM b tg tt fe r=.ok e1/\zcM b tg tt fe q=.ok e2/\es=e1++e2
 | [],q,es,h=>⟨[],es,rfl,h,rfl⟩
 | d::r,q,es,h=>by
  obtain⟨ρ1,t,h1,h2,h3⟩:=zi6 h
  rcases h3 with⟨rfl,x,xs,h3,h4,rfl⟩ | ⟨rfl,h4⟩
  ·obtain⟨e1,e2,k1,k2,rfl⟩:=zmQ h4
   refine⟨x::e1,e2,?_,k2,rfl⟩
   rw[zio h1 h2 h3,k1];rfl
  ·obtain⟨e1,e2,k1,k2,rfl⟩:=zmQ h4
   refine⟨e1,e2,?_,k2,rfl⟩
   rw[zoO h1 h2];exact k1
theorem zi5 {b:Ev}{tg:Ev->D->Res Ev}{tt fe:Ev->Res D}:∀ {r q e1 e2:List D},zcM b tg tt fe r=.ok e1->zcM b tg tt fe q=.ok e2->zcM b tg tt fe (r++q)=.ok (e1++e2)
 | [],q,e1,e2,h,h'=>by cases h;exact h'
 | d::r,q,e1,e2,h,h'=>by
  obtain⟨ρ1,t,h1,h2,h3⟩:=zi6 h
  show zcM b tg tt fe (d::(r++q))=_
  rcases h3 with⟨rfl,x,xs,h3,h4,rfl⟩ | ⟨rfl,h4⟩
  ·rw[zio h1 h2 h3,zi5 h4 h'];rfl
  ·rw[zoO h1 h2];exact zi5 h4 h'
theorem zoP {b:Ev}{tg:Ev->D->Res Ev}{tt fe:Ev->Res D}:∀ {r es:List D},zcM b tg tt fe r=.ok es->es.length<=r.length
 | [],es,h=>by cases h;exact Nat.le_refl _
 | d::r,es,h=>by
  obtain⟨ρ1,t,h1,h2,h3⟩:=zi6 h
  rcases h3 with⟨rfl,x,xs,h3,h4,rfl⟩ | ⟨rfl,h4⟩
  ·exact Nat.succ_le_succ (zoP h4)
  ·exact Nat.le_succ_of_le (zoP h4)
def zDi (n:Nat)(tg:Ev->D->Res Ev):Prop:=∀ ρ d ρ',tg ρ d=.ok ρ'->ρ'.length=ρ.length/\∀ (k:Nat),n<=k->ρ'[k]?=ρ[k]?
theorem zdh {i n:Nat}(h:i < n):zDi n (zcx i):=fun ρ d ρ' e=>by
 cases e
 exact⟨by simp,fun k hk=>by rw[List.getElem?_set_ne (by omega)]⟩
theorem zuk {K:W.Frag}{H₀:Hp}{σ:L2.St}{ρ:Ev}{n:Nat}{fr:List Nat}(h:ziB K H₀ σ ρ):ziB K H₀ (zoY n fr σ) (zeT n fr ρ):=fun i d e=>by
 unfold zeT at e
 unfold zoY
 by_cases hi:i < n
 ·rw[List.getElem?_append_left (by simpa using hi),List.getElem?_replicate,if_pos hi] at e
  cases e
 ·rw[List.getElem?_append_right (by simpa using hi),List.length_replicate,List.getElem?_map] at e ⊢
  cases hf:fr[i-n]? with
  | none=>rw[hf] at e;cases e
  | some j =>
   rw[hf] at e
   simp only[Option.map_some,Option.some.injEq] at e ⊢
   cases hj:ρ[j]? with
   | none=>rw[hj] at e;cases e
   | some s =>
    rw[hj] at e
    cases s with
    | sh d' =>
     cases e
     obtain⟨v,h1,h2⟩:=h j d hj
     exact⟨v,by rw[h1];rfl,h2⟩
    | _=>cases e
theorem zBa {n:Nat}{fr:List Nat}{ρ:Ev}{k:Nat}(h:k < n):(zeT n fr ρ)[k]?=some .no:=by
 unfold zeT
 rw[List.getElem?_append_left (by simpa using h),List.getElem?_replicate,if_pos h]
theorem zy2 {n:Nat}{fr:List Nat}{ρ:Ev}(i j:Nat)(es:List D):(zeT n fr ρ)[i]?≠some (.ox j es):=fun e=>by
 unfold zeT at e
 by_cases hj:i < n
 ·rw[List.getElem?_append_left (by simpa using hj),List.getElem?_replicate,if_pos hj] at e;cases e
 ·rw[List.getElem?_append_right (by simpa using hj),List.getElem?_map] at e
  cases hf:fr[i-(List.replicate n Sl.no).length]? with
  | none=>rw[hf] at e;cases e
  | some z =>
   rw[hf] at e
   simp only[Option.map_some,Option.some.injEq] at e
   split at e<;>cases e
theorem zs7 {n:Nat}{fr:List Nat}{ρ:Ev}:(zeT n fr ρ).length=n+fr.length:=by unfold zeT;simp
theorem zuj {K:W.Frag}{E:XK}{n:Nat}{fr:List Nat}{tg:Ev->D->Res Ev}{tt fe:Ev->Res D}{σ:L2.St}{ρ:Ev}{H H₀ H1 H01:Hp}{ds es:List D}{J:It}{Q:VK}(hsame:za2 H₀ H)(g1:zbZ H H₀ H1 H01)(it:ItD K ds J H01)(hl:ds.length<=line)
  (e2:zcM (zeT n fr ρ) tg tt fe ds=.ok es)(hr:ziB K H01 σ ρ)(hok:zDi n tg)
  (q:∀ p vs H' H₀',zbZ H H₀ H' H₀'->H p=none->H₀' p=none->H' p=some (.lst vs)->Reps K H₀' es vs->Q (.ref p) H') :
  zuQ n fr (zD9 K tg) (tDT K E tt) (tD K E fe) J σ H1 Q:=by
 intro Da hDa
 have h0D:H01 Da=none:=g1.sub.free hDa
 refine⟨fun i m ys σ' H'=>m=ds.length-i/\i<=ds.length/\σ'.length=n+fr.length/\∃ H₀',zbZ H1 H01 H' H₀'/\H₀' Da=none/\H' Da=some (.lst ys)/\ziB K H₀' σ' (zeT n fr ρ)/\∃ es1,zcM (zeT n fr ρ) tg tt fe (ds.take i)=.ok es1/\Reps K H₀' es1 ys,
  ⟨ds.length,by simp,Nat.zero_le _,by unfold zoY;simp,H01,?_,h0D,zaB,zuk hr,[],rfl,Reps.nil⟩,?_⟩
 ·refine⟨fun b o e=>by rw[zaE (za0 e hDa)];exact e,za2.refl _,fun b o e=>?_,fun b k1 k2=>absurd k2 k1⟩
  rw[zaE (by intro z;subst z;rw[h0D] at e;cases e)];exact g1.sub _ _ e
 ·rintro i m ys σ' H' ⟨rfl,hile,hsl,H₀',gg,hD0,hDl,hrd,es1,hes1,hys⟩
  refine⟨hDl,?_⟩
  by_cases hlt:i < ds.length
  ·refine .inr ⟨it.go i H' H₀' gg.z gg.sub hlt,?_,?_⟩
   ·rw[← hys.length]
    have:=zoP hes1
    rw[List.length_take] at this
    have h2:line < sizeLine:=by decide
    omega
   ·intro x H2 hy
    obtain⟨H₀2,g2,rp⟩:=it.yld i H' H₀' x H2 ds[i] gg.z gg.sub (List.getElem?_eq_getElem hlt) hy
    have hsplit:ds=ds.take i++(ds[i]::ds.drop (i+1)):=by rw[← List.drop_eq_getElem_cons hlt,List.take_append_drop]
    rw[hsplit] at e2
    obtain⟨a1,a2,k1,k2,k3⟩:=zmQ e2
    rw[hes1] at k1;cases k1
    obtain⟨ρ1,t,t1,t2,t3⟩:=zi6 k2
    have hn2:H₀2 Da=none:=by
     cases qq:H₀2 Da with
     | none=>rfl
     | some o=>have:=g2.nw Da (by rw[qq];simp) hD0;rw[hDl] at this;cases this
    have hD2:H2 Da=some (.lst ys):=g2.s _ _ hDl
    refine⟨H2,H₀2,H₀2,zeT n fr ρ,ds[i],⟨zbZ.refl g2.sub,hrd.mono g2.z,fun j d' e=>?_,fun j k d1 d2 _ e=>?_,by rw[zs7,hsl],OX.none zy2⟩,rp,?_⟩
    ·unfold zeT at e
     by_cases hj:j < n
     ·rw[List.getElem?_append_left (by simpa using hj),List.getElem?_replicate,if_pos hj] at e;cases e
     ·rw[List.getElem?_append_right (by simpa using hj),List.getElem?_map] at e
      cases hf:fr[j-(List.replicate n Sl.no).length]? with
      | none=>rw[hf] at e;cases e
      | some z =>
       rw[hf] at e
       simp only[Option.map_some,Option.some.injEq] at e
       split at e<;>cases e
    ·unfold zeT at e
     by_cases hj:j < n
     ·rw[List.getElem?_append_left (by simpa using hj),List.getElem?_replicate,if_pos hj] at e;cases e
     ·rw[List.getElem?_append_right (by simpa using hj),List.getElem?_map] at e
      cases hf:fr[j-(List.replicate n Sl.no).length]? with
      | none=>rw[hf] at e;cases e
      | some z =>
       rw[hf] at e
       simp only[Option.map_some,Option.some.injEq] at e
       split at e<;>cases e
    ·rw[t1]
     intro σ3 H3 H03 z3 s3
     have hrl:=hok _ _ _ t1
     have hσ3:σ3.length=n+fr.length:=by rw[← s3.ln,hrl.1,zs7]
     have back:∀ {Hx:Hp},za2 H03 Hx->ziB K Hx σ3 (zeT n fr ρ):=fun {Hx} sx k d e=>by
      by_cases hk:k < n
      ·rw[zBa hk] at e;cases e
      ·rw[← hrl.2 k (by omega)] at e
       obtain⟨v,h1,h2⟩:=s3.rd k d e
       exact⟨v,h1,h2.mono sx⟩
     have n3:H03 Da=none:=by
      cases qq:H03 Da with
      | none=>rfl
      | some o=>have:=s3.g.nw Da (by rw[qq];simp) hn2;rw[hD2] at this;cases this
     have hD3:H3 Da=some (.lst ys):=s3.g.s _ _ hD2
     refine⟨H03,ρ1,s3.g.sub,s3.rd,?_⟩
     rw[t2]
     intro H4 H04 g4
     have hD4:H4 Da=some (.lst ys):=g4.s _ _ hD3
     have n4:H04 Da=none:=by
      cases qq:H04 Da with
      | none=>rfl
      | some o=>have:=g4.nw Da (by rw[qq];simp) n3;rw[hD3] at this;cases this
     have htake:ds.take (i+1)=ds.take i++[ds[i]]:=by rw[List.take_add_one,List.getElem?_eq_getElem hlt];rfl
     have g04:=(gg.trans g2).trans (s3.g.trans g4)
     rcases t3 with⟨rfl,y,xs,t3,t4,_⟩ | ⟨rfl,t4⟩
     ·rw[if_pos rfl]
      refine⟨H04,ρ1,g4.sub,s3.rd.mono g4.z,?_⟩
      rw[t3]
      intro yv H5 H05 g5 ry
      have hD5:H5 Da=some (.lst ys):=g5.s _ _ hD4
      have n5:H05 Da=none:=by
       cases qq:H05 Da with
       | none=>rfl
       | some o=>have:=g5.nw Da (by rw[qq];simp) n4;rw[hD4] at this;cases this
      have gall:=g04.trans g5
      refine⟨hD5,ds.length-(i+1),by omega,rfl,hlt,hσ3,H05,⟨fun b o e=>?_,gall.z,fun b o e=>?_,gall.nw⟩,n5,zaB,back (g4.z.trans g5.z),es1++[y],?_,?_⟩
      ·rw[zaE (za0 e hDa)];exact gall.s _ _ e
      ·rw[zaE (by intro z;subst z;rw[n5] at e;cases e)];exact gall.sub _ _ e
      ·rw[htake]
       refine zi5 hes1 ?_
       rw[zio t1 t2 t3];rfl
      ·exact(hys.mono ((g2.z.trans s3.g.z).trans (g4.z.trans g5.z))).app (Reps.cons ry Reps.nil)
     ·rw[if_neg Bool.false_ne_true]
      refine⟨ds.length-(i+1),by omega,rfl,hlt,hσ3,H04,g04,n4,hD4,back g4.z,es1,?_,hys.mono ((g2.z.trans s3.g.z).trans g4.z)⟩
      rw[htake]
      rw[show es1=es1++[] by simp]
      refine zi5 hes1 ?_
      rw[zoO t1 t2];rfl
  ·have hi2:i=ds.length:=by omega
   refine .inl ⟨it.stop i H' H₀' gg.z gg.sub (by omega),?_⟩
   rw[hi2,List.take_length] at hes1
   rw[e2] at hes1;cases hes1
   exact q Da ys H' H₀' (g1.trans gg) (g1.s.free hDa) hD0 hDl hys
structure DIf (X:Cx) (E:XK) (ifs:List Expr) (f:Ev->Res D):Prop where
 o:PIf X ifs (tDT X.K E f)
def mYes:Ev->Res D:=fun _=>.ok (.bl true)
theorem zjG {X:Cx}{E:XK}:DIf X E [] mYes:=⟨fun pins s σ H Q I ⟨H₀,ρ,hs,hr,q⟩=>zAo pins s σ H Q I (q H H₀ (zbZ.refl hs))⟩
theorem zmF {X:Cx}{E:XK}{c:Expr}{f:Ev->Res D}(h:DT X E c f):DIf X E [c] f:=⟨zAn h.o⟩
structure DCo (X:Cx) (E:XK) (e:Expr) (f:Ev->Res D):Prop where
 ev:PE X e (tF X.K E f)
 st:∀ {i:Nat}{x:Str}{pos' spos:Pos},X.N.Nodup->X.N[i]?=some x->X.env.scope.names.lookup x=some .local -> swapsWith e (some (.Name x pos')) spos.line X.env=pure true->PS X (.Assign [.Name x pos'] e spos) (zDA (tF X.K E f) (zAY i))
theorem dco {X:Cx}{E:XK}{tgt iter elt:Expr}{ifs:List Expr}{scope:Scope}{pos:Pos}(N:List Str)(n:Nat)(fr:List Nat){src:Ev->Res (List D)}{tg:Ev->D->Res Ev}{tt fe:Ev->Res D}(hc:X.calm=true)(hi:DI X E tgt iter src)(hok:zDi n tg)
  (blk:∀ s H C fp pn,(∀ He H0e,DG (zg9 X N scope s H C fp pn) E He H0e tgt tg)/\DIf (zg9 X N scope s H C fp pn) E ifs tt/\DE (zg9 X N scope s H C fp pn) E elt fe)
  (hfr:zC9 X N n fr scope)(hcell:∀ x∈scope.names,x.2≠.cell)(hfree:∀ x∈scope.names,x.2=.free->X.env.scope.names.lookup x.1=some .cell)(hkind:scope.kind=.function)(hnames:∀ x∈scope.names,x.2=.local -> scope.names.lookup x.1=some .local)
  (hs:∀ x,foldedSetIterable iter X.env x=pure x:=by intro _;rfl):DCo X E (.ListComp elt [⟨tgt,iter,ifs,0⟩] scope pos) (zd6 n fr src tg tt fe):=by
 have blk':∀ s H C fp pn,PG (zg9 X N scope s H C fp pn) tgt (zD9 X.K tg)/\PIf (zg9 X N scope s H C fp pn) ifs (tDT X.K E tt)/\PE (zg9 X N scope s H C fp pn) elt (tD X.K E fe):=fun s H C fp pn =>
  ⟨fun pins s' σ' H' v u Q' I r ⟨He,H0e,q'⟩=>((blk s H C fp pn).1 He H0e).o pins s' σ' H' v u Q' I r q',(blk s H C fp pn).2.1.o,(blk s H C fp pn).2.2.o⟩
 have first:∀ {pins:List (Addr×Obj)}{s:Shared}{σ:L2.St}{H:Hp}{Q:VK}{RR:Value->Addr->Result->Shared->Prop},L2.Inv X pins σ H s->tF X.K E (zd6 n fr src tg tt fe) σ H Q ->
   (∀ (Da C:Addr) (s6:Shared) (H5:Hp) (m:Str->Option Value),L2.Inv X pins σ H5 s6->s6.heap.Ns C m->zum X pins H5 C->Q (.ref Da) H5->RR (.ref Da) C (.ok .next) s6) ->
   wpAny (model X.prog X.w) X.A (eval iter X.env) (fun x s₁=>wpAny (model X.prog X.w) X.A (pyIter x) (fun it s₂=>wpAny (model X.prog X.w) X.A (newList []) (fun acc s₃ =>
    wpAny (model X.prog X.w) X.A (newFunctionEnv scope X.env.globals (znl X.env.cells scope.names []) [] X.env.qual none .none (some X.env)) (fun cenv s₄ =>
     codeAny (model X.prog X.w) X.A (.compStart (.ListComp elt [⟨tgt,iter,ifs,0⟩] scope pos) 0 it acc { cenv with scope:=relabel scope X.env }) (RR acc cenv.locals) s₄) X.xe s₃) X.xe s₂) X.xe s₁) X.xe s:=by
  intro pins s σ H Q RR I ⟨H₀,ρ,hsame,hr,q⟩ fin
  refine thn (hi.o pins s σ H (fun J H1=>zuQ n fr (zD9 X.K tg) (tDT X.K E tt) (tD X.K E fe) J σ H1 Q) I ⟨H₀,ρ,hsame,hr,?_⟩) fun v s1 h1=>thn h1 fun itv s2 h2=>zwN (N:=N) hc hfr hcell hfree hkind blk' h2 fin
  unfold zd6 at q
  cases e1:src ρ with
  | stuck=>rw[e1] at q;exact q
  | exn x=>rw[e1] at q;exact q
  | ok ds =>
   rw[e1] at q
   intro J H1 H01 g1 it
   replace q:match (if ds.length<=line then match zcM (zeT n fr ρ) tg tt fe ds with
     | .ok es=>Res.ok (D.lst es)
     | _=>.stuck else .stuck) with
    | .ok (.lst ds)=>∀ p vs H' H₀',zbZ H H₀ H' H₀'->H p=none->H₀' p=none->H' p=some (.lst vs)->Reps X.K H₀' ds vs->Q (.ref p) H'
    | .ok _=>False
    | .exn x=>∀ C ox H' H₀',zbZ H H₀ H' H₀'->ExR X.K H₀' x C ox->E C ox H'
    | .stuck=>False:=q
   by_cases hl:ds.length<=line
   ·rw[if_pos hl] at q
    cases e2:zcM (zeT n fr ρ) tg tt fe ds with
    | stuck=>rw[e2] at q;exact q.elim
    | exn x=>rw[e2] at q;exact q.elim
    | ok es =>
     rw[e2] at q
     exact zuj hsame g1 it hl e2 (hr.mono g1.z) hok q
   ·rw[if_neg hl] at q;exact q.elim
 have hcl:∀ {pins:List (Addr×Obj)}{s:Shared}{σ:L2.St}{H:Hp},L2.Inv X pins σ H s->closureFor scope X.env=pure (znl X.env.cells scope.names []):=fun {pins s σ H} I=>zoQ fun y hy hf=>I.ok.has y.1 (.inl (hfree y hy hf))
 refine⟨fun pins s σ H Q I h=>?_,fun {i x pos' spos} hN hi' hx hsw pins s σ H D' I h=>?_⟩
 ·rw[eval_ListComp]
  refine wpAny_comprehension_free (use:=none) rfl hs (hcl I) hkind hnames (first (RR:=fun acc C=>compPost (model X.prog X.w) X.A X.xe none (EP X pins σ Q) acc C) I h fun Da C s6 H5 m I6 ns fC q=>?_)
  refine⟨m,ns,fun h' sb=>⟨.ref Da,H5,?_,rfl,q⟩⟩
  exact I6.turned (t':=s6.toks) (it:=C) (fun b o hb e=>(sb.2 b hb).trans e) fC.1 fC.2.1 fC.2.2.2.1 fC.2.2.2.2.1 fC.2.2.2.2.2
 ·rw[exec_Assign_Name_used _ _ _ _ hsw]
  refine wpAny_bind (wpAny_standAt (wpAny_bind ?_))
  show wpAny _ X.A (do let _ ← comprehension (.ListComp elt [⟨tgt,iter,ifs,0⟩] scope pos) scope X.env _ (newList []) false (eval iter X.env) (some (assign (.Name x pos') X.env))) _ _ s
  refine wpAny_bind (wpAny_mono (wpAny_comprehension_free (use:=some (assign (.Name x pos') X.env)) (Q:=fun _ s'=>SP X pins D' .next s') rfl hs (hcl I) hkind hnames
   (first (RR:=fun acc C=>compPost (model X.prog X.w) X.A X.xe (some (assign (.Name x pos') X.env)) (fun _ s'=>SP X pins D' .next s') acc C) I h fun Da C s6 H5 m I6 ns fC q=>?_)) (fun _ s' hq=>wpAny_pure (wpAny_pure hq)) fun _ _ e=>e)
  show wpAny _ X.A (assign (.Name x pos') X.env (.ref Da)) _ _ _
  refine wpAny_assign_Name (zpy (v:=.ref Da) I6 hN hi' (.inl hx) rfl (fun s' I' ⟨a,sb,ha⟩=>?_) (.inr hx))
  have hCa:C≠a:=by
   rcases ha with rfl | ha
   ·exact fC.2.1
   ·exact fun z=>fC.2.2.2.2.1 x a ha z.symm
  refine⟨m,ns.sameBut sb hCa,fun h' sb'=>⟨_,H5,?_,q⟩⟩
  exact I'.turned (t':=s'.toks) (it:=C) (fun b o hb e=>(sb'.2 b hb).trans e) fC.1 fC.2.1 fC.2.2.2.1 fC.2.2.2.2.1 fC.2.2.2.2.2
theorem zEf {X:Cx}{E:XK}{e:Expr}{f:Ev->Res D}(h:DCo X E e f):DF X E e f:=⟨h.ev⟩
theorem zoJ {X:Cx}{E:XK}{e:Expr}{n:Nat}{fr:List Nat}{src:Ev->Res (List D)}{tg:Ev->D->Res Ev}{tt fe:Ev->Res D}(h:DCo X E e (zd6 n fr src tg tt fe)):DE X E e (zd6 n fr src tg tt fe):=zyM zka (zEf h)
section
variable {X:Cx}{E:XK}{He H0e:Hp}{e:Expr}{f:Ev->Res D}{s:Ev->Res Fl}{pos:Pos}{st:Stmt}
def unown (i:Nat)(ρ:Ev):Ev:=match ρ[i]? with
 | some (.ow d)=>ρ.set i (.sh d)
 | _=>ρ
def zzg (i:Nat)(s:Ev->Res Fl):Ev->Res Fl:=fun ρ=>s (unown i ρ)
theorem SRx.unown {K:W.Frag}{H₀ H:Hp}{σ:L2.St}{ρ:Ev}(h:SRx K He H0e H₀ σ H ρ)(i:Nat):∃ H₀',za2 H₀ H₀'/\SRx K He H0e H₀' σ H (DL.unown i ρ):=by
 unfold DL.unown
 cases e:ρ[i]? with
 | none=>exact⟨H₀,za2.refl _,h⟩
 | some s =>
  cases s with
  | no=>exact⟨H₀,za2.refl _,h⟩
  | sh d=>exact⟨H₀,za2.refl _,h⟩
  | ox j ds=>exact⟨H₀,za2.refl _,h⟩
  | ow d =>
   obtain⟨a,k1,k2,k3,k4⟩:=h.ow i d e
   cases d with
   | lst ds =>
    obtain⟨vs,h5,h6⟩:=k4
    have z:za2 H₀ (upd H₀ a (.lst vs)):=fun b o q=>by rw[zaE (by intro z;subst z;rw[k3] at q;cases q)];exact q
    have h':SRx K He H0e (upd H₀ a (.lst vs)) σ H (ρ.set i .no):=by
     have nset:∀ (j:Nat) (s:Sl),(ρ.set i .no)[j]?=some s->s≠.no->j≠i/\ρ[j]?=some s:=fun j s q hs=>by
      by_cases hj:i=j
      ·subst hj
       rw[List.getElem?_set_self'] at q
       rw[e] at q;cases q;exact absurd rfl hs
      ·rw[List.getElem?_set_ne hj] at q;exact⟨fun z=>hj z.symm,q⟩
     refine⟨⟨h.g.s,h.g.z.trans z,fun b o q=>?_,fun b q1 q2=>?_⟩,fun j d' q=>?_,fun j d' q=>?_,fun j k d1 d2 hn q1 q2=>?_,by simp [h.ln],h.ex.upd (fun j s q=>?_) z (fun b us _ eb=>eb) fun q us _ q0 hq hd=>?_⟩
     rotate_left 5
     ·by_cases hs:s=.no
      ·exact .inr (.inr (.inl hs))
      ·exact .inl ⟨(nset j s q hs).2,rfl⟩
     ·have hq':q≠a:=by
       intro zz;subst zz
       exact hd i _ e k1
      exact⟨hq,by rw[zaE hq'];exact q0⟩
     ·by_cases hb:b=a
      ·subst hb;rw[zaB] at q;cases q;exact h5
      ·rw[zaE hb] at q;exact h.g.sub _ _ q
     ·by_cases hb:b=a
      ·subst hb;exact k2
      ·rw[zaE hb] at q1;exact h.g.nw b q1 q2
     ·obtain⟨hj,q⟩:=nset j _ q (fun z=>nomatch z)
      obtain⟨v,q1,q2⟩:=h.rd j d' q
      exact⟨v,q1,q2.mono z⟩
     ·obtain⟨hj,q⟩:=nset j _ q (fun z=>nomatch z)
      obtain⟨b,q1,q2,q3,q4⟩:=h.ow j d' q
      have hb:b≠a:=by
       intro zz;subst zz
       exact h.ap j i d' (.lst ds) hj q e (by rw[q1,k1])
      refine⟨b,q1,q2,by rw[zaE hb];exact q3,?_⟩
      cases d' with
      | lst ds'=>obtain⟨vs',h7,h8⟩:=q4;exact⟨vs',h7,h8.mono z⟩
      | _=>exact q4.elim
     ·obtain⟨_,q1⟩:=nset j _ q1 (fun z=>nomatch z)
      obtain⟨_,q2⟩:=nset k _ q2 (fun z=>nomatch z)
      exact h.ap j k d1 d2 hn q1 q2
    refine⟨_,z,?_⟩
    have hp:=h'.put (i:=i) (d:=.lst ds) (v:=.ref a) (Rep.lst_iff.mpr ⟨a,vs,rfl,SqL.of zaB,h6.mono z⟩)
    rw[List.set_set] at hp
    have hσ:σ.set i (some (V.ref a))=σ:=by
     apply List.ext_getElem?
     intro k
     by_cases hk:i=k
     ·subst hk
      obtain⟨hil,_⟩:=List.getElem?_eq_some_iff.mp k1
      rw[List.getElem?_set_self hil,k1]
     ·rw[List.getElem?_set_ne hk]
    rw[hσ] at hp
    exact hp
   | _=>exact k4.elim
theorem zwy (i:Nat)(h:DS X E He H0e st s):DS X E He H0e st (zzg i s):=⟨zdn h.o fun D' σ H ⟨H₀,ρ,hr,q⟩=>by
 obtain⟨H₀',z,hr'⟩:=hr.unown i
 exact⟨H₀',DL.unown i ρ,hr',zcQ.grow (r:=s (DL.unown i ρ)) q z⟩⟩
end
theorem zuo {X:Cx}{E:XK}{tgt iter elt:Expr}{ifs:List Expr}{scope:Scope}{pos:Pos}(N:List Str)(n:Nat)(fr:List Nat){src:Ev->Res (List D)}{tg:Ev->D->Res Ev}{tt fe:Ev->Res D}(hc:X.calm=true)(hi:DI X E tgt iter src)(hok:zDi n tg)
  (blk:∀ s H C fp pn,(∀ He H0e,DG (zg9 X N scope s H C fp pn) E He H0e tgt tg)/\DIf (zg9 X N scope s H C fp pn) E ifs tt/\DE (zg9 X N scope s H C fp pn) E elt fe)
  (hfr:zC9 X N n fr scope)(hcell:(scope.names.all fun x=>!(x.2==.cell))=true)(hfree:(scope.names.all fun x=>!(x.2==.free)||(X.env.scope.names.lookup x.1==some .cell))=true)(hkind:scope.kind=.function)
  (hnames:(scope.names.all fun x=>!(x.2==.local)||(scope.names.lookup x.1==some .local))=true)
  (hs:∀ x,foldedSetIterable iter X.env x=pure x:=by intro _;rfl):DCo X E (.ListComp elt [⟨tgt,iter,ifs,0⟩] scope pos) (zd6 n fr src tg tt fe):=by
 refine dco N n fr hc hi hok blk hfr (fun x hx z=>?_) (fun x hx z=>?_) hkind (fun x hx z=>?_) hs
 ·have:=List.all_eq_true.mp hcell x hx
  rw[z] at this;simp at this
 ·have:=List.all_eq_true.mp hfree x hx
  rw[z] at this;simpa using this
 ·have:=List.all_eq_true.mp hnames x hx
  rw[z] at this;simpa using this
theorem zrT {X:Cx}{E:XK}{He H0e:Hp}{e:Expr}{f:Ev->Res D}{pos:Pos}{i:Nat}{x:Str}{pos':Pos}(hN:X.N.Nodup)(hi:X.N[i]?=some x)(hx:X.env.scope.names.lookup x=some .local)(hl:zlU f)(he:DCo X E e f)(hs:swapsWith e (some (.Name x pos')) pos.line X.env=pure true:=by rfl):DS X E He H0e (.Assign [.Name x pos'] e pos) (za7 i f):=by
 refine⟨zdn (he.st hN hi hx hs) fun D σ H ⟨H₀,ρ,h,q⟩=>?_⟩
 refine zsh hl ⟨H₀,ρ,h.g.sub,h.rd,?_⟩
 refine plain h q fun d v H' H₀' _ g rp q'=>?_
 exact q' _ H' H₀' (za2.refl _) ((h.grow g).put rp)
theorem zdg.there {P:Program}{w:World}{H:Hp}{h:Heap}{a:Addr}{o:HO}(x:zdg P w H h a o):∃ u,h.get? a=some u:=by
 cases o with
 | lst xs=>obtain⟨_,_,_,_,e⟩:=x;exact⟨_,e⟩
 | tup xs=>obtain⟨_,_,_,ob,e,_⟩:=x;exact⟨_,e⟩
 | dK kvs=>obtain⟨_,_,_,_,o,_,_,e,_⟩:=x;exact⟨_,e⟩
 | dT kvs=>obtain⟨_,_,_,_,o,_,_,e,_⟩:=x;exact⟨_,e⟩
 | set S n=>obtain⟨o,_,_,_,e,_⟩:=x;exact⟨_,e⟩
 | ins C dx fs=>obtain⟨_,_,_,e,_⟩:=x;exact⟨_,e⟩
 | own y=>obtain⟨_,e⟩:=x;exact⟨_,e⟩
 | xd fs=>obtain⟨_,⟨_,_,_,e,_⟩,_⟩:=x;exact⟨_,e⟩
 | rng lo hi=>obtain⟨_,_,_,e⟩:=x;exact⟨_,e⟩
 | frz ob u=>obtain⟨e,_⟩:=x;exact⟨_,e⟩
 | tbl ps=>exact⟨_,show h.get? a=some _ from x⟩
 | met f y=>exact⟨_,show h.get? a=some _ from x⟩
 | ext φ=>obtain⟨_,⟨_,e⟩,_⟩:=x;exact⟨_,e⟩
def CXE (P:Program)(w:World):CXT:=fun outer H s E e s'=>∃ (ea C:Addr) (a0:Value) (B:Heap) (H':Hp),e=.ref ea/\s'.os=s.os/\AllBare s'.gens/\Un (frs outer) [] H H' s.heap s'.heap/\HOk P w H' s'.heap/\H' ea=none /\
 Heap.FlyingW B outer ea (.ref C) a0 s'.heap/\(∀ b,b∉frs outer->(H' b≠none∨∃ o,s.heap.get? b=some o)->∃ o,B.get? b=some o)/\E (.ref C) none H'
theorem zwl {l:List PySem.Env}:∀ env∈l,∀ a,env.frame=some a->a∈frs l:=fun env he a hf=>List.mem_filterMap.mpr ⟨env,he,hf⟩
section
variable {P:Program}{w:World}{K:W.Frag}{mg:Str->Option Value}{base:Heap}{N:List Str}{qual:Str}{scope:Scope}{f:Addr}{cd:Value}{A:Around}{outer:List PySem.Env}{s0:Shared}{H0:Hp}{E:XK}
 {pins:List (Addr×Obj)}{σ:L2.St}{H:Hp}{s:Shared}
theorem zgZ {B h h':Heap}(k:B.StaysIn h)(k':B.StaysIn h'){b:Addr}{o:Obj}(hb:∃ u,B.get? b=some u)(e:h.get? b=some o):h'.get? b=some o:=by
 obtain⟨u,q⟩:=hb
 have:=k b u q
 rw[e] at this;cases this
 exact k' b o q
theorem zA1 {X:Cx}(hX:X=zil (CXE P w) P w K mg base N qual scope f cd A outer s0 H0 E)(I:Inv X pins σ H s){s1:Shared}{H1:Hp}{ea C:Addr}{a0:Value}{B h':Heap}(os:s1.os=s.os)(bare:AllBare s1.gens)
  (un:Un (frs X.stack) [] H H1 s.heap s1.heap)(hok:HOk P w H1 s1.heap)(hne:H1 ea=none)(hst:B.StaysIn s1.heap)(hfr:s1.heap.FunFrames B X.stack)
  (hB:∀ b,b∉frs X.stack->(H1 b≠none∨∃ o,s.heap.get? b=some o)->∃ o,B.get? b=some o)(fl:Heap.FlyingW B outer ea (.ref C) a0 h')(up:s1.heap.UpToSlots h')(hE:E (.ref C) none H1) :
  CXE P w outer H0 s0 E (.ref ea) { s1 with heap:=h' }:=by
 subst hX
 have hL:(envOfC qual scope s0.heap.objs.size f cd).frame=some (envOfC qual scope s0.heap.objs.size f cd).locals:=rfl
 have hstk:∀ b,b∈frs (envOfC qual scope s0.heap.objs.size f cd::outer)->b=(envOfC qual scope s0.heap.objs.size f cd).locals∨b∈frs outer:=fun b hb=>by
  unfold frs at hb;rw[List.filterMap_cons,hL] at hb;exact List.mem_cons.mp hb
 have hsub:∀ b,b∈frs outer->b∈frs (envOfC qual scope s0.heap.objs.size f cd::outer):=fun b hb=>by
  unfold frs;rw[List.filterMap_cons,hL];exact List.mem_cons_of_mem _ hb
 have old:∀ b o,s0.heap.get? b=some o->b≠(envOfC qual scope s0.heap.objs.size f cd).locals:=fun b o e=>Nat.ne_of_lt (Nat.lt_of_lt_of_le (Heap.lt_size e) I.ok.above)
 have nofr:∀ b o,s0.heap.get? b=some o->b∉frs outer->b∉frs (envOfC qual scope s0.heap.objs.size f cd::outer):=fun b o e hb hm=>(hstk b hm).elim (old b o e) hb
 have thr:∀ b o,s0.heap.get? b=some o->∃ o',s.heap.get? b=some o':=fun b o e=>I.base.there b o e (by intro z;exact nomatch z)
 have fst:∀ b,b∈frs outer->∀ o,s1.heap.get? b=some o->∃ sl,h'.get? b=some { o with slots:=sl }:=fun b hb o e=>by
  obtain⟨_,o',ho',hd⟩:=hfr.mem (hsub b hb)
  rw[e] at ho';cases ho'
  exact up b o e hd
 have free1:∀ b∈frs (envOfC qual scope s0.heap.objs.size f cd::outer),H1 b=none:=fun b hb=>by
  obtain⟨_,o,ho,_⟩:=I.stack.mem hb
  exact un.free b o ho (I.stkFree b hb) (by simp)
 have B0:∀ b o,s0.heap.get? b=some o->b∉frs outer->∃ u,B.get? b=some u:=fun b o e hb=>hB b (nofr b o e hb) (.inr (thr b o e))
 refine⟨ea,C,a0,B,H1,rfl,os.trans I.os,bare,⟨fun b o e n hb hx=>?_,fun b o e n hb hx=>?_,fun b o e n hx=>?_,fun b o e hx=>?_,fun b xs e=>un.tups b xs (I.base.tups b xs e),fun b o u e=>un.frzs b o u (I.base.frzs b o u e),fun b ps e=>?_⟩,fun a o e=>?_,hne,fl,fun b hb h=>?_,hE⟩
 ·have e1:=I.base.keep b o e n hb (by intro z;exact nomatch z)
  have n1:=I.base.free b o e n (by intro z;exact nomatch z)
  have e2:=un.keep b o e1 n1 (nofr b o e hb) (by simp)
  exact zgZ hst fl.1 (B0 b o e hb) e2
 ·obtain⟨sl,e1⟩:=I.base.slot b o e n hb (by intro z;exact nomatch z)
  have n1:=I.base.free b o e n (by intro z;exact nomatch z)
  obtain⟨sl2,e2⟩:=un.any e1 n1 (by simp)
  obtain⟨sl3,e3⟩:=fst b hb _ e2
  exact⟨sl3,e3⟩
 ·obtain⟨o',e1⟩:=thr b o e
  exact un.free b o' e1 (I.base.free b o e n (by intro z;exact nomatch z)) (by simp)
 ·obtain⟨o',e1⟩:=thr b o e
  obtain⟨o2,e2⟩:=un.there b o' e1 (by simp)
  by_cases hb:b∈frs outer
  ·obtain⟨sl,e3⟩:=fst b hb _ e2
   exact⟨_,e3⟩
  ·exact⟨_,zgZ hst fl.1 (B0 b o e hb) e2⟩
 ·obtain⟨m1,e1⟩:=I.base.tbls b ps e
  obtain⟨m2,e2⟩:=un.tbls b _ e1
  exact⟨m1++m2,by rw[e2,Array.append_assoc]⟩
 ·refine(hok a o e).stay (fun b u hb q=>?_) (fun _ q=>q) fun _ _ q=>q
  have hn:H1 b≠none:=by
   rcases hb with rfl | hb
   ·rw[e];simp
   ·rw[hb];simp
  exact zgZ hst fl.1 (hB b (fun hm=>hn (free1 b hm)) (.inl hn)) q
 ·by_cases hm:b∈frs (envOfC qual scope s0.heap.objs.size f cd::outer)
  ·rcases hstk b hm with z | z
   ·rcases h with h | ⟨o,h⟩
    ·exact absurd (free1 b hm) h
    ·exact absurd z (old b o h)
   ·exact absurd z hb
  ·exact hB b hm (h.elim .inl fun⟨o,h⟩=>.inr (thr b o h))
theorem zpI (I:Inv (zil (CXE P w) P w K mg base N qual scope f cd A outer s0 H0 E) pins σ H s){h1:Heap}{e C:Addr}{vs:List Value}(hx:Heap.MadeExcOf s.heap h1 e (.ref C) vs)(hE:E (.ref C) none H) :
  (zil (CXE P w) P w K mg base N qual scope f cd A outer s0 H0 E).xe (.ref e) { s with heap:=h1 }:=by
 have hin:=zwl (l:=envOfC qual scope s0.heap.objs.size f cd::outer)
 have hl:s.heap.FunFrames (W.hideAll s.heap (frs (envOfC qual scope s0.heap.objs.size f cd::outer))) (envOfC qual scope s0.heap.objs.size f cd::outer):=W.funFrames_hide I.stack hin
 have hn:H e=none:=by
  cases q:H e with
  | none=>rfl
  | some o=>obtain⟨u,hu⟩:=zdg.there (I.hok e o q);rw[hx.new] at hu;cases hu
 refine wpAny_leaves_madeW (h:=s.heap) (base:=W.hideAll s.heap (frs (envOfC qual scope s0.heap.objs.size f cd::outer))) (cls:=.ref C) (args:=vs) I.ok.frames rfl (fun b o q=>W.of_hideAll _ q) hl hx fun h' t fl tup _ up=>?_
 refine zA1 rfl I (s1:={ s with heap:=h1 }) (H1:=H) rfl I.bare (Un.kept hx.keeps) (I.hok.kept hx.keeps) hn (fun b o q=>hx.keeps b o (W.of_hideAll _ q)) (hl.of_keeps fun b o hb _=>⟨o,hx.keeps b o hb,rfl⟩) (fun b hb h=>?_) fl up hE
 have:∃ o,s.heap.get? b=some o:=by
  rcases h with h | h
  ·cases q:H b with
   | none=>exact absurd q h
   | some o=>exact zdg.there (I.hok b o q)
  ·exact h
 obtain⟨o,q⟩:=this
 exact⟨o,W.hideAll_get _ q hb⟩
theorem zeV:zkg (CXE P w) (zil (CXE P w) P w K mg base N qual scope f cd A outer s0 H0 E) E:=by
 intro pins σ H s e s' I h
 obtain⟨ea,C,a0,B,H',rfl,os,bare,un,hok,hne,fl,hB,hE⟩:=h
 refine wpAny_leaves_onW I.ok.frames rfl fl fun h' fl' up=>?_
 exact zA1 rfl I os bare un hok hne fl.1 fl.2.2.1 hB fl' up hE
end
theorem zhV {X:Cx}{E:XK}:zkg CX0 X E:=fun _ _ _ _ _ _ _ h=>h.elim
theorem zcr {P:Program}{w:World}{K:W.Frag}{mg:Str->Option Value}{base:Heap}{x qual:Str}{st:Stmt}{f:Addr}{fd:FuncData}{N ps:List Str}{k:Nat}{s:Ev->Res Fl}(F:Fun K x qual st f fd)(S:zaD N ps (defScope st))
  (hbody:∀ (cdv:Value) (A:Around) (outer:List PySem.Env) (s0:Shared) (H H₀:Hp) (E:XK),zjd k (A.deeper (envOfC qual (defScope st) s0.heap.objs.size f cdv)) ->
   DSs (zil (CXE P w) P w K mg base N qual (defScope st) f cdv A outer s0 H E) E H H₀ (defBody st) s):zda P w K mg base (CXE P w) (k+1) f fd ps (spD K ps.length (zc5 N.length s)):=by
 have hpl:ps.length<=N.length:=by have:=congrArg List.length S.pre;rw[List.length_take] at this;omega
 obtain⟨oc,od,kV,doc,pm,an,cdv,ct,osl,rfl,lk,hcd⟩:=F.ex
 refine zCP lk hcd S (fun vs H Q E h=>h.1) fun A outer s0 H vs Q E hr h=>?_
 obtain⟨hn,H₀,ds,hs,hv,q⟩:=h
 refine⟨_,(hbody cdv A outer s0 H H₀ E hr).o,H₀,ds.map Sl.sh++List.replicate (N.length-ds.length) .no,?_,?_⟩
 ·refine⟨zbZ.refl hs,zjx hv,fun i d e=>?_,fun i j d d' hij e=>?_,?_,OX.none zl0⟩
  ·by_cases hi:i < ds.length
   ·rw[List.getElem?_append_left (by simpa using hi),List.getElem?_map] at e
    cases q:ds[i]? with
    | none=>rw[q] at e;cases e
    | some d'=>rw[q] at e;cases e
   ·rw[List.getElem?_append_right (by simpa using hi),List.getElem?_replicate] at e
    split at e<;>cases e
  ·by_cases hi:i < ds.length
   ·rw[List.getElem?_append_left (by simpa using hi),List.getElem?_map] at e
    cases q:ds[i]? with
    | none=>rw[q] at e;cases e
    | some d'=>rw[q] at e;cases e
   ·rw[List.getElem?_append_right (by simpa using hi),List.getElem?_replicate] at e
    split at e<;>cases e
  ·unfold L2.start
   have:=hv.length
   simp only[List.length_append,List.length_map,List.length_replicate]
   omega
 ·unfold zc5 at q
  cases e1:s (ds.map Sl.sh++List.replicate (N.length-ds.length) .no) with
  | stuck=>rw[e1] at q;exact q
  | exn x=>rw[e1] at q;exact q
  | ok r =>
   rw[e1] at q
   cases r with
   | nx ρ'=>exact fun σ' H' H₀' _ h'=>q .non H' H₀' h'.g (Rep.non_iff.mpr rfl)
   | rt d=>exact fun v H' H₀' g rp=>q v H' H₀' g rp
   | bk ρ'=>exact q.elim
   | ct ρ'=>exact q.elim
structure zDh (K:W.Frag) (x:Str) (C:Addr):Prop where
 xc:XC K x C
 ex:W.excIn K C [.type "ValueError",.type "Exception",.type "BaseException",.type "object"] "ValueError.__new__"=true
theorem zDh.obj {K:W.Frag}{x:Str}{C:Addr}(c:zDh K x C){h:Heap}(X:K.In h):∃ bm N nm q bs hdct sn sub ab col dd k0 k1 k2 k3 k5 mN,h.get? C=some (excClassObj nm q C N bs bm hdct sn sub ab col dd k0 k1 k2 k3 k5 "ValueError.__new__")/\h.Ns N mN/\mN "__init__"=none /\
  OwnTail h [.type "ValueError",.type "Exception",.type "BaseException",.type "object"] bm:=by
 have q:=c.ex
 unfold W.excIn at q
 split at q
 ·rename_i dd cd sl ho
  split at q
  ·rename_i C' bm k0 k1 k2 k3 n k5 hm hs
   simp only[Bool.and_eq_true,beq_iff_eq,Bool.not_eq_true'] at q
   obtain⟨⟨⟨⟨⟨rfl,rfl⟩,hdel⟩,ht⟩,hok⟩,hni⟩:=q
   obtain⟨nm,bs,mro,ns,qn,hd,sn,sub,ab,col,del⟩:=cd
   dsimp only at hm hdel hok hni
   subst hm hdel
   have hsl:sl=#[k0,k1,k2,k3,some (.builtin "ValueError.__new__"),k5]:=by
    obtain⟨l⟩:=sl
    simp only at hs
    rw[hs]
   subst hsl
   exact⟨bm,ns,nm,qn,bs,hd,sn,sub,ab,col,dd,k0,k1,k2,k3,k5,_,X _ _ ho,.of_isNs (W.isNs_of_in X hok),W.nsMap_none_of_in X hok hni,W.tail_of_in X ht⟩
  ·cases q
 ·cases q
def zhT (x:Str)(fa:Ev->Res (List D)):Ev->Res Fl:=fun ρ=>(fa (shr ρ)).bind fun ds=>if ds.length<=line then .exn ⟨x,[]⟩ else .stuck
section
variable {P:Program}{w:World}{K:W.Frag}{mg:Str->Option Value}{base:Heap}{N:List Str}{qual:Str}{scope:Scope}{f:Addr}{cd:Value}{A:Around}{outer:List PySem.Env}{s0:Shared}{H0:Hp}{E:XK}{He H0e:Hp}
theorem zi2 {x:Str}{C:Addr}{np cpos pos:Pos}{e:Expr}{es:List Expr}{fa:Ev->Res (List D)}(c:zDh K x C)(hm:mg x=some (.ref C))(hh:A.handled=none)
  (hg:Gl (zil (CXE P w) P w K mg base N qual scope f cd A outer s0 H0 E) x)(ha:DA (zil (CXE P w) P w K mg base N qual scope f cd A outer s0 H0 E) E (e::es) fa)
  (hdb:(x==("__debug__" : Str))=false:=by decide)(he:starEach (e::es) (zil (CXE P w) P w K mg base N qual scope f cd A outer s0 H0 E).env=(false,eval e (zil (CXE P w) P w K mg base N qual scope f cd A outer s0 H0 E).env)::starEach es (zil (CXE P w) P w K mg base N qual scope f cd A outer s0 H0 E).env:=by exact zaM rfl)
  (hpl:(backTo cpos (starEach es (zil (CXE P w) P w K mg base N qual scope f cd A outer s0 H0 E).env)).any (·.1)=false:=by exact zbH rfl) :
  DS (zil (CXE P w) P w K mg base N qual scope f cd A outer s0 H0 E) E He H0e (.Raise (some (.Call (.Name x np) (e::es) [] cpos)) none pos) (zhT x fa):=by
 refine⟨?_⟩
 intro pins s σ H D I ⟨H₀,ρ,hr,q⟩
 obtain⟨bm,Nn,nm,qn,bs,hdct,sn,sub,ab,col,dd,k0,k1,k2,k3,k5,mN,hC,hN,hni,T⟩:=c.obj I.ok.mod.kin
 refine wpAny_Raise_call_subT (C:=C) (nm:=nm) (q:=qn) (N:=Nn) (bs:=bs) (bm:=bm) (hdct:=hdct) (sn:=sn) (sub:=sub) (ab:=ab) (col:=col) (dd:=dd) (k0:=k0) (k1:=k1) (k2:=k2) (k3:=k3) (k5:=k5)
  PySem.F.excBase_ValueError (mN:=mN) (T.hasType PySem.F.excBase_ValueError.hasBase) hh (by rw[he];show(false||(backTo cpos (starEach es (zil (CXE P w) P w K mg base N qual scope f cd A outer s0 H0 E).env)).any (·.1))=false;rw[hpl];rfl) hni (zhn I hg hm ⟨rfl,?_⟩ hdb)
 have hq:zre K E H (frz He H₀ H) (fa (shr ρ)) (fun vs H1=>vs.length<=sizeLine/\E (.ref C) none H1):=by
  unfold zhT at q
  cases e1:fa (shr ρ) with
  | stuck=>rw[e1] at q;exact q
  | exn z=>rw[e1] at q;exact fun C ox H' H₀' g ex=>q C ox H' H₀' (hr.frz_grow.trans g) ex
  | ok ds =>
   rw[e1] at q
   intro vs H1 H01 g rp
   have q:zcQ K E He H0e H₀ (if ds.length<=line then Res.exn ⟨x,[]⟩ else .stuck) D:=q
   by_cases hl:ds.length<=line
   ·rw[if_pos hl] at q
    exact⟨by rw[← rp.length];exact zeK hl,q (.ref C) none H1 H01 (hr.frz_grow.trans g) ⟨⟨C,rfl,c.xc⟩,rfl⟩⟩
   ·rw[if_neg hl] at q;exact q.elim
 have h1:=ha.o cpos pins s σ H _ I ⟨frz He H₀ H,shr ρ,hr.frz_le,hr.looks,hq⟩
 rw[he] at h1 ⊢
 refine Calls.evalArgs_plain (wpAny_mono h1 (fun vs s2 h2=>?_) fun _ _ y=>y)
 obtain⟨vs',H1,I1,rv,hl,hE⟩:=h2
 exact⟨rfl,by rw[← rv.length];exact hl,I1.bk _ _ hC,hN.keeps I1.bk,T.keeps I1.bk,fun h' ee hx=>zpI I1 hx hE⟩
end
section
variable {P:Program}{w:World}{st:List PySem.Env}{H H':Hp}{h g g' B:Heap}
theorem Un.fly (un:Un (frs st) [] H H' h g)(k:B.StaysIn g)(hfr:g.FunFrames B st)(hB:∀ b,b∉frs st->(H' b≠none∨∃ o,h.get? b=some o)->∃ o,B.get? b=some o)(k':B.StaysIn g')(up:g.UpToSlots g'):Un (frs st) [] H H' h g':=by
 have fst:∀ b,b∈frs st->∀ o,g.get? b=some o->∃ sl,g'.get? b=some { o with slots:=sl }:=fun b hb o e=>by
  obtain⟨_,o',ho',hd⟩:=hfr.mem hb
  rw[e] at ho';cases ho'
  exact up b o e hd
 refine⟨fun b o e n hb hx=>?_,fun b o e n hb hx=>?_,un.free,fun b o e hx=>?_,un.tups,un.frzs,un.tbls⟩
 ·exact zgZ k k' (hB b hb (.inr ⟨o,e⟩)) (un.keep b o e n hb hx)
 ·obtain⟨sl,e1⟩:=un.slot b o e n hb hx
  obtain⟨sl2,e2⟩:=fst b hb _ e1
  exact⟨sl2,e2⟩
 ·obtain⟨o',e1⟩:=un.there b o e hx
  by_cases hb:b∈frs st
  ·obtain⟨sl,e2⟩:=fst b hb _ e1
   exact⟨_,e2⟩
  ·exact⟨_,zgZ k k' (hB b hb (.inr ⟨o,e⟩)) e1⟩
theorem HOk.fly (ok:HOk P w H' g)(hf:∀ b∈frs st,H' b=none)(k:B.StaysIn g)(hB:∀ b,b∉frs st->(H' b≠none∨∃ o,h.get? b=some o)->∃ o,B.get? b=some o)(k':B.StaysIn g'):HOk P w H' g':=fun a o e=>by
 refine(ok a o e).stay (fun b u hb q=>?_) (fun _ q=>q) fun _ _ q=>q
 have hn:H' b≠none:=by
  rcases hb with rfl | hb
  ·rw[e];simp
  ·rw[hb];simp
 exact zgZ k k' (hB b (fun hm=>hn (hf b hm)) (.inl hn)) q
theorem HOk.ext (ok:HOk P w H g){a:Addr}{φ:Heap->Prop}(hn:H a=none)(p:φ g)(ht:∃ o,g.get? a=some o)(hm:∀ h1 h2:Heap,φ h1->(∀ o,h1.get? a=some o->h2.get? a=some o)->φ h2):HOk P w (upd H a (.ext φ)) g:=fun b u e=>by
 by_cases hb:b=a
 ·subst hb;rw[zaB] at e;cases e;exact⟨p,ht,hm⟩
 ·rw[zaE hb] at e
  exact(ok b u e).stay (fun c v _ q=>q) (fun c q=>by rw[zaE (za0 q hn)];exact q) fun c xs q=>by rw[zaE (za0 q hn)];exact q
theorem Un.ext {fs:List Addr}(un:Un fs [] H H' h g){a:Addr}{o:HO}(hn:H' a=none)(ha:h.get? a=none):Un fs [] H (upd H' a o) h g :=
 ⟨un.keep,un.slot,fun b ob e n hx=>by rw[zaE (fun z=>by subst z;rw[ha] at e;cases e)];exact un.free b ob e n hx,un.there,fun b xs q=>by rw[zaE (za0 (un.tups b xs q) hn)];exact un.tups b xs q,
  fun b ob u q=>by rw[zaE (za0 (un.frzs b ob u q) hn)];exact un.frzs b ob u q,fun b ps q=>by
   obtain⟨m,e⟩:=un.tbls b ps q
   exact⟨m,by rw[zaE (za0 e hn)];exact e⟩⟩
theorem zwu {a C:Addr}:∀ h1 h2:Heap,zw3 a C h1->(∀ o,h1.get? a=some o->h2.get? a=some o)->zw3 a C h2:=fun h1 h2 ⟨o,vs,e,c,d⟩ k=>⟨o,vs,k o e,c,d⟩
end
def hand (X:Cx)(e:Addr):Cx:={ X with A:=X.A.mark (some (.ref e)),calm:=false,xe:=fun _ _=>False }
section
variable {X:Cx}{pins:List (Addr×Obj)}{σ:L2.St}{H:Hp}{s:Shared}{e:Addr}
theorem zAR (ok:X.Ok):(hand X e).Ok :=
 ⟨ok.mod,ok.kind,ok.glob,ok.blt,ok.above,ok.inj,ok.has,ok.cab,fun z=>Bool.noConfusion z,ok.frames,ok.stk,ok.exf,ok.bs,ok.bsz,ok.noex,ok.exfs,ok.funs,ok.frf⟩
theorem Inv.hand (I:Inv X pins σ H s):Inv (DL.hand X e) pins σ H s:=⟨zAR I.ok,I.os,I.bare,I.base,I.loc,I.cell,I.free,I.freeC,I.pin,I.hok,I.len⟩
theorem Inv.unhand (ok:X.Ok)(I:Inv (DL.hand X e) pins σ H s):Inv X pins σ H s:=⟨ok,I.os,I.bare,I.base,I.loc,I.cell,I.free,I.freeC,I.pin,I.hok,I.len⟩
theorem Inv.gone {i:Nat}{x:Str}{m:Str->Option Value}{v:Option Value}{h':Heap}{t':Nat}(I:Inv X pins σ H s)(hN:X.N.Nodup)(hi:X.N[i]?=some x)
  (hm:∀ (j:Nat) (y:Str) (v:V),X.N[j]?=some y->σ[j]?=some (some v)->Vis X.env.scope y->∃ u,zcN v u/\zEP X.env s.heap m y u)(hn:h'.Ns X.env.locals (fun y=>if y=x then v else m y))(hs:Heap.SameBut X.env.locals s.heap h') :
  Inv X pins (σ.set i none) H { s with heap:=h',toks:=t' }:=by
 have cne:=I.cne
 obtain⟨m0,⟨oL,_,_,hoL,_⟩,_⟩:=id I.loc
 have tracked:HOk X.prog X.w H h':=fun b ob e=>by
  refine(I.hok b ob e).stay (fun c w' hc q=>(hs.2 c ?_).trans q) (fun _ q=>q) fun _ _ q=>q
  rintro rfl
  have hfree:=I.free
  rcases hc with rfl | hc
  ·rw[hfree] at e;cases e
  ·rw[hfree] at hc;cases hc
 refine⟨I.ok,I.os,I.bare,⟨fun b o e n hb hx=>?_,fun b o e n hb hx=>?_,I.base.free,fun b o e hx=>?_,I.base.tups,I.base.frzs,I.base.tbls⟩,⟨_,hn,fun j y v' e1 e2 e3=>?_⟩,fun y c e=>?_,I.free,I.freeC,fun p hp=>?_,tracked,by simpa using I.len⟩
 ·exact(hs.2 b (Nat.ne_of_lt (Nat.lt_of_lt_of_le (Heap.lt_size e) I.ok.above))).trans (I.base.keep b o e n hb hx)
 ·obtain⟨sl,e1⟩:=I.base.slot b o e n hb hx
  exact⟨sl,(hs.2 b (Nat.ne_of_lt (Nat.lt_of_lt_of_le (Heap.lt_size e) I.ok.above))).trans e1⟩
 ·obtain⟨o',e1⟩:=I.base.there b o e hx
  exact⟨o',(hs.2 b (Nat.ne_of_lt (Nat.lt_of_lt_of_le (Heap.lt_size e) I.ok.above))).trans e1⟩
 ·by_cases hj:j=i
  ·subst hj
   have hiσ:j < σ.length:=by rw[I.len];exact(List.getElem?_eq_some_iff.mp hi).1
   rw[List.getElem?_set_self hiσ] at e2;cases e2
  ·rw[List.getElem?_set_ne (Ne.symm hj)] at e2
   obtain⟨u',r',q⟩:=hm j y v' e1 e2 e3
   refine⟨u',r',?_⟩
   rcases q with⟨k,e⟩ | ⟨k,c,e,z⟩
   ·refine .inl ⟨k,?_⟩
    have:y≠x:=fun e=>hj (zoo hN e1 (e▸hi))
    simp [this,e]
   ·exact .inr ⟨k,c,e,z.sameBut hs (cne y c e)⟩
 ·obtain⟨w',z⟩:=I.cell y c e
  exact⟨w',z.sameBut hs (cne y c e)⟩
 ·obtain⟨e,n,ne,nf,d⟩:=I.pin p hp
  exact⟨(hs.2 p.1 ne).trans e,n,ne,nf,d⟩
theorem zC2 {H1:Hp}{s1 s':Shared}{Ex:XK}{ev:Value}{c n:Str}{np hpos:Pos}{b₀:Stmt}{suite:List Stmt}{rest:List ExceptHandler}{cv:Value}{ni:Nat}{D:znm}(hstk:X.stack=X.env::X.outer/\X.env.frame=some X.env.locals)(I:Inv X pins σ H1 s1)
  (h:CXE X.prog X.w X.stack H1 s1 Ex ev s')(hg:Gl X c)(hm:X.mg c=some cv)(hx:∀ C H',Ex (.ref C) none H'->W.exmOne X.K (.ref C) cv=some true)
  (hN:X.N.Nodup)(hi:X.N[ni]?=some n)(hlo:X.env.scope.names.lookup n=some .local)
  (hs:∀ ea C H' s2,Ex (.ref C) none H'->H' ea=none->Inv (DL.hand X ea) pins (σ.set ni (some (.ref ea))) (upd H' ea (.ext (zw3 ea C))) s2 ->
   wpAny (model X.prog X.w) (X.A.mark (some (.ref ea))) (execs (b₀::suite) X.env) (SP (DL.hand X ea) pins { nx:=fun σ' H=>D.nx (σ'.set ni none) H,rt:=D.rt,bk:=fun σ' H=>D.bk (σ'.set ni none) H,ct:=fun σ' H=>D.ct (σ'.set ni none) H }) (fun _ _=>False) s2)
  (hdb:(c==("__debug__" : Str))=false:=by decide) :
  wpAny (model X.prog X.w) X.A (noteFrame ev X.env) (fun _ s₂=>wpAny (model X.prog X.w) X.A (setFlight ev none) (fun _ s₃ =>
   wpAny (model X.prog X.w) X.A (handleBy ev X.env (.ExceptHandler (some (.Name c np)) (some n) (b₀::suite) hpos::rest)) (SP X pins D) X.xe s₃) X.xe s₂) X.xe s':=by
 obtain⟨ea,C,a0,B,H',rfl,os,bare,un,hok,hne,fl,hB,hE⟩:=h
 have hA:X.A.frames=some (X.env::X.outer):=by rw[← hstk.1];exact I.ok.frames
 have fl0:=fl
 rw[hstk.1] at fl
 have hf1:∀ b∈frs X.stack,H' b=none:=fun b hb=>by
  obtain⟨_,o,ho,_⟩:=I.stack.mem hb
  exact un.free b o ho (I.stkFree b hb) (by simp)
 have hnew:s1.heap.get? ea=none:=by
  cases q:s1.heap.get? ea with
  | none=>rfl
  | some o =>
   by_cases hb:ea∈frs X.stack
   ·obtain⟨_,o',ho',hd⟩:=fl0.2.2.1.mem hb
    obtain⟨oe,vs,he,_,hd',_⟩:=fl0.first
    rw[ho'] at he;cases he
    exact absurd hd' (hd vs)
   ·obtain⟨u,hu⟩:=hB ea hb (.inr ⟨o,q⟩)
    rw[fl.2.1] at hu;cases hu
 have inv:∀ g,B.StaysIn g->s'.heap.UpToSlots g->Inv X pins σ H' { s' with heap:=g }:=fun g k up =>
  I.call' (ch:=[]) os (Un.fly un fl0.1 fl0.2.2.1 hB k up) (HOk.fly hok hf1 fl0.1 hB k) bare (fun _ z=>nomatch z)
 have invx:∀ g,B.StaysIn g->s'.heap.UpToSlots g->zw3 ea C g->Inv X pins σ (upd H' ea (.ext (zw3 ea C))) { s' with heap:=g }:=fun g k up p =>
  I.call' (ch:=[]) os (Un.ext (Un.fly un fl0.1 fl0.2.2.1 hB k up) hne hnew) (HOk.ext (HOk.fly hok hf1 fl0.1 hB k) hne p (let ⟨o,_,e,_⟩:=p;⟨o,e⟩) zwu) bare (fun _ z=>nomatch z)
 refine wpAny_looks_onW hA hstk.2 fl fun h4 held4 up4=>?_
 refine wpAny_landsW held4 fun h5 fl5 up5=>?_
 have I5:Inv (DL.hand X ea) pins σ H' { s' with heap:=h5 }:=Inv.hand (inv h5 fl5.1 (up4.trans up5))
 refine wpAny_handleBy_cons (codeAny_handlers_test ?_) (by intro q;cases q)
 refine zhn I5 hg hm ?_ hdb
 obtain⟨ob,hob,hoc⟩:=fl5.there
 have LT:W.Looks (model X.prog X.w) h5 (typeOf (.ref ea)) (.ref C):=hoc▸(W.Looks.ld hob).andThen .now
 refine(W.exm_one I5.kIn LT (hx C H' hE)).here ?_
 refine codeAny_handlers_suite_as ?_
 refine lands_againW fl5 fun h6 fl6 up6=>?_
 obtain⟨oe,vs,he,hc,hd,_⟩:=fl6.first
 have I6:Inv (DL.hand X ea) pins σ (upd H' ea (.ext (zw3 ea C))) { s' with heap:=h6 }:=Inv.hand (invx h6 fl6.1 ((up4.trans up5).trans up6) ⟨oe,vs,he,hc,hd⟩)
 refine ziJ (X:=DL.hand X ea) (v:=.ref ea) I6 hN hi (.inl hlo) rfl (fun s7 I7=>?_) (.inr hlo)
 refine wpAny_mono (hs ea C H' s7 hE hne I7) (fun f s8 h8=>?_) fun _ _ z=>z.elim
 have hcls:(X.env.scope.kind==.class||(X.env.scope.kind==.module&&X.env.locals != X.env.globals))=false:=by rw[I.ok.kind];rfl
 have fin:∀ {σ':L2.St}{H2:Hp}{Q:Unit->Shared->Prop},Inv (DL.hand X ea) pins σ' H2 s8->(∀ s9,Inv X pins (σ'.set ni none) H2 s9->Q () s9) ->
   wpAny (model X.prog X.w) X.A (do bindName X.env n .none;unbindBehindTheSuite X.env n hpos) Q X.xe s8:=fun {σ' H2 Q} J q=>by
  have J':=Inv.unhand I.ok J
  obtain⟨m,hn,hl⟩:=id J'.loc
  exact wpAny_nameGoes_keeps hlo hn hcls fun h' v hn' hs'=>q _ (Inv.gone J' hN hi hl hn' hs')
 cases f with
 | next=>obtain⟨σ',H2,J,q⟩:=h8;exact fin J fun s9 J9=>⟨_,H2,J9,q⟩
 | brk=>obtain⟨σ',H2,J,q⟩:=h8;exact fin J fun s9 J9=>⟨_,H2,J9,q⟩
 | cont=>obtain⟨σ',H2,J,q⟩:=h8;exact fin J fun s9 J9=>⟨_,H2,J9,q⟩
 | ret u=>obtain⟨v,σ',H2,J,r,q⟩:=h8;exact fin J fun s9 J9=>⟨v,_,H2,J9,r,q⟩
end
theorem PA.nox {X:Cx}{es:List Expr}{t:TA}(h:PA X.nox es t):PA X es t:=fun pos pins s σ H Q I hw =>
 wpAny_mono (h pos pins s σ H Q (I.wish _) hw) (fun _ _ ⟨v,H',I',r,q⟩=>⟨v,H',I'.unwish,r,q⟩) fun _ _ z=>False.elim z
section
variable {X:Cx}{pins:List (Addr×Obj)}{σ:L2.St}{H:Hp}{s:Shared}{CX:CXT}{k:Nat}{f:Addr}{fd:FuncData}{ps:List Str}{sp:Sp}{Ex:XK}{x:Str}{p pos:Pos}{e:Expr}{es:List Expr}{t:TA}
theorem zA9 {Q:VK}{XE:Value->Shared->Prop}(F:zda X.prog X.w X.K X.mg X.base CX k f fd ps sp)(hr:zjd k X.A)(hg:Gl X x)(hm:X.mg x=some (.ref f))(hk:W.keepIn X.K (.ref f)=true)(hb:zbk X.K fd ps [])(ha:PA X.nox (e::es) t)
  (I:Inv X pins σ H s)(h:t σ H fun vs H1=>sp vs H1 Q Ex)(hx:∀ H1 s1 e s',Inv X pins σ H1 s1->CX X.stack H1 s1 Ex e s'->XE e s')
  (hdb:(x==("__debug__" : Str))=false:=by decide)(he:starEach (e::es) X.env=(false,eval e X.env)::starEach es X.env:=by exact zaM rfl)(hpl:(backTo pos (starEach es X.env)).any (·.1)=false:=by exact zbH rfl) :
  wpAny (model X.prog X.w) X.A (eval (.Call (.Name x p) (e::es) [] pos) X.env) (EP X pins σ Q) XE s:=by
 refine wpAny_Call_Name_kw (zhn I hg hm ?_ hdb)
 have ha':PA (X.wish XE) (e::es) t:=PA.nox (X:=X.wish XE) ha
 refine W.callWith_K (h₀:=X.base) I.ok.mod.kin hk (thn (ha' pos pins s σ H _ (I.wish XE) h) fun us s1 ⟨vs,H1,I1,r,q⟩=>⟨I1.unwish.kIn,?_⟩) he hpl
 have I1:=I1.unwish
 have hl:us.length=ps.length:=by rw[← r.length];exact F.len _ _ _ _ q
 have hb1:=hb s1 us I1.kIn (by simpa using hl)
 rw[List.append_nil] at hb1
 refine wpAny_call (codeAny_mono (F.run X.A X.stack s1 H1 ⟨us,[]⟩ us vs Q Ex hr I1.env0 hb1 r q) fun r s' hq=>?_)
 cases r with
 | error e=>exact hx H1 s1 e s' I1 hq
 | ok fl =>
  cases fl with
  | ret u=>exact I1.after hq
  | next=>exact False.elim hq
  | brk=>exact False.elim hq
  | cont=>exact False.elim hq
end
def zzb (K:W.Frag)(He H0e H₀:Hp)(r:Res Fl)(D:znm):Prop:=match r with
 | .exn _=>True
 | r=>zcQ K E0 He H0e H₀ r D
def zES (K:W.Frag)(He H0e H₀:Hp)(σ:L2.St)(ρ:Ev)(r:Res Fl):XK:=fun C ox H'=>∃ x H₀',r=.exn x/\za2 H₀ H₀'/\SRx K He H0e H₀' σ H' ρ/\ExR K H₀' x C ox
structure TB (X:Cx) (st:Stmt) (g:Ev->Res Fl):Prop where
 o:∀ (pins:List (Addr×Obj)) (s:Shared) (σ:L2.St) (H He H0e H₀:Hp) (ρ:Ev) (D:znm) (XE:Value->Shared->Prop),Inv X pins σ H s->SRx X.K He H0e H₀ σ H ρ->zzb X.K He H0e H₀ (g ρ) D ->
  (∀ H1 s1 e s',Inv X pins σ H1 s1->CXE X.prog X.w X.stack H1 s1 (zES X.K He H0e H₀ σ ρ (g ρ)) e s'->XE e s')->wpAny (model X.prog X.w) X.A (exec st X.env) (SP X pins D) XE s
def zm9 (i:Nat)(fa:Ev->Res (List D))(m:List D->Res D):Ev->Res Fl:=fun ρ=>match fa ρ with
 | .ok ds=>(m ds).bind fun d=>.ok (.nx (ρ.set i (.sh d)))
 | _=>.stuck
section
variable {X:Cx}{E:XK}{e:Expr}{es:List Expr}{fa:Ev->Res (List D)}{pos:Pos}
theorem zsf {i:Nat}{y:Str}{pos':Pos}{k n:Nat}{fn:Addr}{fd:FuncData}{ps:List Str}{m:List D->Res D}{x:Str}{p cpos:Pos}(hN:X.N.Nodup)(hi:X.N[i]?=some y)(hy:Loc X.env.scope y)
  (F:zda X.prog X.w X.K X.mg X.base (CXE X.prog X.w) k fn fd ps (spD X.K n m))(hr:zjd k X.A)(hg:Gl X x)(hm:X.mg x=some (.ref fn))
  (hk:W.keepIn X.K (.ref fn)=true)(hb:zbk X.K fd ps [])(ha:DA X.nox E0 (e::es) fa)(hn:(e::es).length=n:=by rfl)(hl:∀ ρ ds,fa ρ=.ok ds->ds.length=(e::es).length)
  (hdb:(x==("__debug__" : Str))=false:=by decide)(he:starEach (e::es) X.env=(false,eval e X.env)::starEach es X.env:=by exact zaM rfl)(hpl:(backTo cpos (starEach es X.env)).any (·.1)=false:=by exact zbH rfl)
  (hs:swapsWith (.Call (.Name x p) (e::es) [] cpos) (some (.Name y pos')) pos.line X.env=pure false:=by rfl)
  (hf:X.fn y=true∨X.env.scope.names.lookup y=some .local := by first | exact .inl rfl | exact .inr rfl | assumption):TB X (.Assign [.Name y pos'] (.Call (.Name x p) (e::es) [] cpos) pos) (zm9 i fa m):=by
 refine⟨fun pins s σ H He H0e H₀ ρ D XE I h q hx=>?_⟩
 refine wpAny_Assign_Name (thn (zA9 (Q:=fun v H1=>D.nx (σ.set i (some v)) H1) F hr hg hm hk hb ha.o I ?_ hx hdb he hpl) fun v s1 ⟨y,H1,I1,r1,q1⟩=>?_) hs
 ·refine⟨H₀,ρ,h.g.sub,h.rd,?_⟩
  unfold zm9 at q ⊢
  cases e1:fa ρ with
  | stuck=>rw[e1] at q;exact q
  | exn x=>rw[e1] at q;exact q.elim
  | ok ds =>
   rw[e1] at q
   intro vs H1 H01 g1 r1
   refine⟨?_,H01,ds,g1.sub,r1,?_⟩
   ·have:=r1.length
    have:=hl ρ ds e1
    omega
   ·show post _ _ _ _ (m ds) _
    cases e2:m ds with
    | stuck=>simp only[e2] at q;exact q
    | exn x=>exact fun C ox H' H₀' g ex=>⟨x,H₀',by simp only[e2];rfl,g1.z.trans g.z,h.grow (g1.trans g),ex⟩
    | ok d =>
     simp only[e2] at q
     exact fun v H' H₀' g rp=>q _ H' H₀' (g1.z.trans g.z) ((h.grow (g1.trans g)).put rp)
 ·exact ziJ I1 hN hi hy r1 (fun s2 I2=>⟨_,H1,I2,q1⟩) hf
theorem SRx.drop {K:W.Frag}{He H0e H₀ H:Hp}{σ:L2.St}{ρ:Ev}(h:SRx K He H0e H₀ σ H ρ){i:Nat}:SRx K He H0e H₀ (σ.set i none) H (ρ.set i .no):=by
 have key:∀ (j:Nat) (s:Sl),(ρ.set i .no)[j]?=some s->s≠.no->j≠i/\ρ[j]?=some s:=fun j s e hs=>by
  by_cases hj:i=j
  ·subst hj
   rw[List.getElem?_set_self'] at e
   cases q:ρ[i]? with
   | none=>rw[q] at e;cases e
   | some s'=>rw[q] at e;cases e;exact absurd rfl hs
  ·rw[List.getElem?_set_ne hj] at e
   exact⟨fun z=>hj z.symm,e⟩
 refine⟨h.g,fun j d' e=>?_,fun j d' e=>?_,fun j k d1 d2 hn e1 e2=>?_,by simp [h.ln],h.ex.upd (fun j s e=>?_) (za2.refl _) (fun a vs _ e=>e) fun p us _ h0 hp _=>⟨hp,h0⟩⟩
 rotate_left 3
 ·by_cases hs:s=.no
  ·exact .inr (.inr (.inl hs))
  ·obtain⟨hj,e'⟩:=key j s e hs
   exact .inl ⟨e',by rw[List.getElem?_set_ne (Ne.symm hj)]⟩
 ·obtain⟨hj,e'⟩:=key j _ e (by simp)
  obtain⟨v',h1,h2⟩:=h.rd j d' e'
  exact⟨v',by rw[List.getElem?_set_ne (Ne.symm hj)];exact h1,h2⟩
 ·obtain⟨hj,e'⟩:=key j _ e (by simp)
  obtain⟨a,h1,h2⟩:=h.ow j d' e'
  exact⟨a,by rw[List.getElem?_set_ne (Ne.symm hj)];exact h1,h2⟩
 ·obtain⟨hj,e1'⟩:=key j _ e1 (by simp)
  obtain⟨hk,e2'⟩:=key k _ e2 (by simp)
  rw[List.getElem?_set_ne (Ne.symm hj),List.getElem?_set_ne (Ne.symm hk)]
  exact h.ap j k d1 d2 hn e1' e2'
def zDY (ni:Nat)(r:Fl):Res Fl:=match r with
 | .nx ρ=>.ok (.nx (ρ.set ni .no))
 | .rt d=>.ok (.rt d)
 | .bk ρ=>.ok (.bk (ρ.set ni .no))
 | .ct ρ=>.ok (.ct (ρ.set ni .no))
def zBj (g:Ev->Res Fl)(hit:Str->Bool)(ni:Nat)(sh:Ev->Res Fl):Ev->Res Fl:=fun ρ=>match g ρ with
 | .exn x=>if hit x.cls=true then(sh (ρ.set ni (.sh (.exc x.cls)))).bind (zDY ni) else .stuck
 | r=>r
theorem zCR {He H0e:Hp}{st b₀:Stmt}{suite:List Stmt}{g sh:Ev->Res Fl}{hit:Str->Bool}{ni:Nat}{c n:Str}{np hpos:Pos}{cv:Value}(hstk:X.stack=X.env::X.outer/\X.env.frame=some X.env.locals)(hb:TB X st g)
  (hg:Gl X c)(hm:X.mg c=some cv)(hhit:∀ x C,hit x=true->XC X.K x C->W.exmOne X.K (.ref C) cv=some true)(hN:X.N.Nodup)(hi:X.N[ni]?=some n)(hlo:X.env.scope.names.lookup n=some .local)
  (hh:∀ ea,DSs (DL.hand X ea) E He H0e (b₀::suite) sh)(hdb:(c==("__debug__" : Str))=false:=by decide) :
  DS X E He H0e (.Try [st] [.ExceptHandler (some (.Name c np)) (some n) (b₀::suite) hpos] [] [] pos) (zBj g hit ni sh):=by
 refine⟨?_⟩
 intro pins s σ H D I ⟨H₀,ρ,h,q⟩
 have hq:zzb X.K He H0e H₀ (g ρ) D:=by
  unfold zBj at q
  cases e1:g ρ with
  | exn x=>trivial
  | stuck=>rw[e1] at q;exact q
  | ok r=>rw[e1] at q;cases r<;>exact q
 refine wpAny_Try_except (wpAny_execs_cons (thn (hb.o pins s σ H He H0e H₀ ρ D _ I h hq fun H1 s1 e s' I1 hc=>?_) fun f s1 hf=>?_))
 ·have hit1:∀ x,g ρ=.exn x->hit x.cls=true:=fun x e1=>by
   unfold zBj at q
   rw[e1] at q
   by_cases z:hit x.cls=true
   ·exact z
   ·simp only[if_neg z] at q;exact q.elim
  refine zC2 hstk I1 hc hg hm (fun C H' ⟨x,H₀',e1,_,_,⟨⟨c',ec,xc⟩,_⟩⟩=>?_) hN hi hlo (fun ea C H' s2 ⟨x,H₀',e1,sm,srx,⟨⟨c',ec,xc⟩,_⟩⟩ hne I2=>?_) hdb
  ·cases ec;exact hhit _ _ (hit1 x e1) xc
  ·cases ec
   refine(hh ea).o pins s2 _ _ _ I2 ⟨upd H₀' ea (.ext (zw3 ea C)),ρ.set ni (.sh (.exc x.cls)),(srx.grow (zbZ.alloc srx.g.sub hne)).put (Rep.exc_iff.mpr ⟨ea,C,rfl,xc,.inl zaB⟩),?_⟩
   have sm2:za2 H₀ (upd H₀' ea (.ext (zw3 ea C))):=sm.trans (zbZ.alloc srx.g.sub hne).z
   unfold zBj at q
   rw[e1] at q
   simp only[if_pos (hit1 x e1)] at q
   cases e2:sh (ρ.set ni (.sh (.exc x.cls))) with
   | stuck=>rw[e2] at q;exact q
   | exn z=>rw[e2] at q;exact q
   | ok r =>
    rw[e2] at q
    cases r with
    | nx ρ'=>exact fun σ' H2 H02 s2 h2=>q _ H2 H02 (sm2.trans s2) (SRx.drop h2)
    | rt d=>exact q
    | bk ρ'=>exact fun σ' H2 H02 s2 h2=>q _ H2 H02 (sm2.trans s2) (SRx.drop h2)
    | ct ρ'=>exact fun σ' H2 H02 s2 h2=>q _ H2 H02 (sm2.trans s2) (SRx.drop h2)
 ·cases f with
  | next=>exact wpAny_execs_nil (wpAny_execs_nil hf)
  | brk=>exact hf
  | cont=>exact hf
  | ret u=>exact hf
end
structure zkf (k:Nat) (A:Around):Prop where
 dp:A.depth+3*k+5 < recursionLimit
 un:A.units+16*k+200 < cLine
theorem zjd.h {k:Nat}{A:Around}(r:zjd k A):zkf k A:=⟨r.dp,r.un⟩
theorem zkf.mono {j k:Nat}{A:Around}(r:zkf k A)(h:j<=k):zkf j A:=⟨by have:=r.dp;omega,by have:=r.un;omega⟩
theorem zkf.deeper {k:Nat}{A:Around}(r:zkf (k+1) A)(env:PySem.Env):zkf k (A.deeper env) :=
 ⟨by have:=r.dp;show A.depth+1+3*k+5 < _;omega,by have:=r.un;show A.units+3+16*k+200 < _;omega⟩
theorem zkf.hand {k:Nat}{X:Cx}{e:Addr}(r:zjd k X.A):zkf k (DL.hand X e).A:=⟨r.dp,r.un⟩
structure FnH (P:Program) (w:World) (K:W.Frag) (mg:Str->Option Value) (base:Heap) (k:Nat) (f:Addr) (fd:FuncData) (ps:List Str) (sp:Sp):Prop where
 len:∀ vs H Q E,sp vs H Q E->vs.length=ps.length
 run:∀ (A:Around) (outer:List PySem.Env) (s:Shared) (H:Hp) (args:Args) (us:List Value) (vs:List V) (Q:VK) (E:XK),zkf k A->zw7 P w K mg base A outer s H->BindsTo s fd args (ps.zip us)->zce vs us->sp vs H Q E ->
  codeAny (model P w) A (.call (.ref f) args) (CR CX0 outer P w H s Q E) s
theorem FnH.mono {P:Program}{w:World}{K:W.Frag}{mg:Str->Option Value}{base:Heap}{j k:Nat}{f:Addr}{fd:FuncData}{ps:List Str}{sp:Sp}(F:FnH P w K mg base j f fd ps sp)(h:j<=k):FnH P w K mg base k f fd ps sp :=
 ⟨F.len,fun A outer s H args us vs Q E hr=>F.run A outer s H args us vs Q E (hr.mono h)⟩
theorem FnH.ok {P:Program}{w:World}{K:W.Frag}{mg:Str->Option Value}{base:Heap}{k:Nat}{f:Addr}{fd:FuncData}{ps:List Str}{sp:Sp}(F:FnH P w K mg base k f fd ps sp):zda P w K mg base CX0 k f fd ps sp :=
 ⟨F.len,fun A outer s H args us vs Q E hr=>F.run A outer s H args us vs Q E (zjd.h hr)⟩
def zwH (P:Program)(w:World)(K:W.Frag)(mg:Str->Option Value)(base:Heap)(N:List Str)(qual:Str)(scope:Scope)(f:Addr)(cd:Value)(A:Around)(outer:List PySem.Env)(s:Shared)(H:Hp):Cx :=
 { zil CX0 P w K mg base N qual scope f cd A outer s H E0 with calm:=false,xe:=fun _ _=>False }
theorem zt0 {P:Program}{w:World}{K:W.Frag}{mg:Str->Option Value}{base:Heap}{N ps:List Str}{qual:Str}{scope:Scope}{f:Addr}{cd:Value}{A:Around}{outer:List PySem.Env}{s s1:Shared}{H:Hp}{us:List Value}{vs:List V}
  (S:zaD N ps scope)(e0:zw7 P w K mg base A outer s H)(hl:vs.length=ps.length)(r:zce vs us)
  (x:InCallC s s.heap.objs.size (bindL (envOfC qual scope s.heap.objs.size f cd).kindOf (ps.zip us) fun _=>none) (cellsFrom (s.heap.objs.size+1) scope.names []) (bindC (envOfC qual scope s.heap.objs.size f cd).kindOf (ps.zip us) fun _=>none) s1) :
  Inv (zwH P w K mg base N qual scope f cd A outer s H) [] (start N vs) H s1:=by
 have e1:zw7 P w K mg base { A with handled:=none } outer s H:=⟨e0.frames,e0.mod,e0.bs,e0.bsz,e0.funs,e0.frf,e0.hok,e0.bare⟩
 have I:Inv (zil CX0 P w K mg base N qual scope f cd { A with handled:=none } outer s H E0) [] (start N vs) H s1:=zqa S rfl e1 hl r x
 have ok:=I.ok
 exact⟨⟨ok.mod,ok.kind,ok.glob,ok.blt,ok.above,ok.inj,ok.has,ok.cab,fun z=>Bool.noConfusion z,Around.frames_deeper e0.frames,ok.stk,ok.exf,ok.bs,ok.bsz,ok.noex,ok.exfs,ok.funs,ok.frf⟩,I.os,I.bare,I.base,I.loc,I.cell,I.free,I.freeC,I.pin,I.hok,I.len⟩
theorem zCO {P:Program}{w:World}{K:W.Frag}{mg:Str->Option Value}{base:Heap}{k:Nat}{f:Addr}{name qual:Str}{params:Arguments}{body:List Stmt}{scope:Scope}{dV kV doc pm cdv ct oc:Value}{an od:Option Addr}
  {osl:Array (Option Value)}{N ps:List Str}{sp:Sp}(lk:K.lookup f=some ⟨oc,od,.func (W.fnOf name qual params body scope dV kV doc pm an cdv ct),osl⟩) (hcd:W.codeIn K cdv qual=true) (S:zaD N ps scope)
  (len:∀ vs H Q E,sp vs H Q E->vs.length=ps.length)
  (hbody:∀ (A:Around) (outer:List PySem.Env) (s:Shared) (H:Hp) (vs:List V) (Q:VK) (E:XK),zkf k (A.deeper (envOfC qual scope s.heap.objs.size f cdv))->sp vs H Q E ->
   ∃ t,PSs (zwH P w K mg base N qual scope f cdv A outer s H) body t/\t { nx:=fun _ H'=>Q .non H',rt:=Q } (start N vs) H) :
  FnH P w K mg base (k+1) f (W.fnOf name qual params body scope dV kV doc pm an cdv ct) ps sp:=by
 refine⟨len,fun A outer s H args us vs Q E hr e0 hb r hsp=>?_⟩
 have hl:=len _ _ _ _ hsp
 have KX:K.In s.heap:=e0.mod.kin.keeps fun b o e=>(e0.bs b o e).1
 have lim:s.heap.NoLimit:=e0.mod.nolimit.keeps fun b o e=>(e0.bs b o e).1
 have hkind:∀ y∈ps.zip us,scope.names.lookup y.1=some .local ∨ (scope.names.lookup y.1=some .cell/\((cellsFrom (s.heap.objs.size+1) scope.names []).lookup y.1).isSome=true):=fun⟨n,v⟩ hy=>by
  rcases S.par n (List.of_mem_zip hy).1 with q | q
  ·exact .inl q
  ·exact .inr ⟨q,W.cellsFrom_some _ _ _ (.inl q)⟩
 refine codeAny_call_function (by have:=hr.dp;omega) (KX _ _ lk) rfl S.co S.gen rfl (W.codeRec_of KX hcd) (hb _ _ _ _ ?_)
 refine wpAny_newFunctionEnv_cells S.kind hkind fun env he s1 x=>?_
 subst he
 refine⟨lim.keeps x.toInCall.keep,codeAny_func ?_⟩
 obtain⟨t,ht,hq⟩:=hbody A outer s H vs Q E (hr.deeper _) hsp
 have I:Inv (zwH P w K mg base N qual scope f cdv A outer s H) [] (start N vs) H s1:=zt0 S e0 hl r x
 refine wpAny_mono (ht [] s1 (start N vs) H _ I hq) (fun fl s' hs=>?_) fun e s' hs=>False.elim hs
 have fin:∀ {σ':L2.St}{H':Hp}{v:V}{u:Value},Inv (zwH P w K mg base N qual scope f cdv A outer s H) [] σ' H' s'->zcN v u->Q v H'->CE outer P w H s Q u s' :=
  fun {σ' H' v u} J rv q=>⟨v,H',J.os,J.bare,J.base,J.hok,rv,q⟩
 cases fl with
 | ret u =>
  obtain⟨v,σ',H',J,rv,q⟩:=hs
  exact fin J rv q
 | next =>
  obtain⟨σ',H',J,q⟩:=hs
  exact fin (v:=V.non) (u:=Value.none) J rfl q
 | brk =>
  obtain⟨_,_,_,q⟩:=hs
  exact False.elim q
 | cont =>
  obtain⟨_,_,_,q⟩:=hs
  exact False.elim q
theorem zuc {P:Program}{w:World}{K:W.Frag}{mg:Str->Option Value}{base:Heap}{x qual:Str}{st:Stmt}{f:Addr}{fd:FuncData}{N ps:List Str}{k:Nat}{s:Ev->Res Fl}(F:Fun K x qual st f fd)(S:zaD N ps (defScope st))
  (hbody:∀ (cdv:Value) (A:Around) (outer:List PySem.Env) (s0:Shared) (H H₀:Hp) (E:XK),zkf k (A.deeper (envOfC qual (defScope st) s0.heap.objs.size f cdv)) ->
   DSs (zwH P w K mg base N qual (defScope st) f cdv A outer s0 H) E H H₀ (defBody st) s):FnH P w K mg base (k+1) f fd ps (spD K ps.length (zc5 N.length s)):=by
 have hpl:ps.length<=N.length:=by have:=congrArg List.length S.pre;rw[List.length_take] at this;omega
 obtain⟨oc,od,kV,doc,pm,an,cdv,ct,osl,rfl,lk,hcd⟩:=F.ex
 refine zCO lk hcd S (fun vs H Q E h=>h.1) fun A outer s0 H vs Q E hr h=>?_
 obtain⟨hn,H₀,ds,hs,hv,q⟩:=h
 refine⟨_,(hbody cdv A outer s0 H H₀ E hr).o,H₀,ds.map Sl.sh++List.replicate (N.length-ds.length) .no,?_,?_⟩
 ·refine⟨zbZ.refl hs,zjx hv,fun i d e=>?_,fun i j d d' hij e=>?_,?_,OX.none zl0⟩
  ·by_cases hi:i < ds.length
   ·rw[List.getElem?_append_left (by simpa using hi),List.getElem?_map] at e
    cases q:ds[i]? with
    | none=>rw[q] at e;cases e
    | some d'=>rw[q] at e;cases e
   ·rw[List.getElem?_append_right (by simpa using hi),List.getElem?_replicate] at e
    split at e<;>cases e
  ·by_cases hi:i < ds.length
   ·rw[List.getElem?_append_left (by simpa using hi),List.getElem?_map] at e
    cases q:ds[i]? with
    | none=>rw[q] at e;cases e
    | some d'=>rw[q] at e;cases e
   ·rw[List.getElem?_append_right (by simpa using hi),List.getElem?_replicate] at e
    split at e<;>cases e
  ·unfold L2.start
   have:=hv.length
   simp only[List.length_append,List.length_map,List.length_replicate]
   omega
 ·unfold zc5 at q
  cases e1:s (ds.map Sl.sh++List.replicate (N.length-ds.length) .no) with
  | stuck=>rw[e1] at q;exact q
  | exn x=>rw[e1] at q;exact q
  | ok r =>
   rw[e1] at q
   cases r with
   | nx ρ'=>exact fun σ' H' H₀' _ h'=>q .non H' H₀' h'.g (Rep.non_iff.mpr rfl)
   | rt d=>exact fun v H' H₀' g rp=>q v H' H₀' g rp
   | bk ρ'=>exact q.elim
   | ct ρ'=>exact q.elim
section
variable {X:Cx}{E:XK}{e a:Expr}{es:List Expr}{f:Ev->Res D}{fa:Ev->Res (List D)}{pos:Pos}
theorem zyR {k n:Nat}{fn:Addr}{fd:FuncData}{ps:List Str}{m:List D->Res D}{x:Str}{p:Pos}(F:FnH X.prog X.w X.K X.mg X.base k fn fd ps (spD X.K n m))(hr:zkf k X.A)(hg:Gl X x)(hm:X.mg x=some (.ref fn))
  (hk:W.keepIn X.K (.ref fn)=true)(hb:zbk X.K fd ps [])(ha:DA X E (e::es) fa)(hn:(e::es).length=n:=by rfl)(hl:∀ ρ ds,fa ρ=.ok ds->ds.length=(e::es).length)
  (hdb:(x==("__debug__" : Str))=false:=by decide)(he:starEach (e::es) X.env=(false,eval e X.env)::starEach es X.env:=by exact zaM rfl)(hpl:(backTo pos (starEach es X.env)).any (·.1)=false:=by exact zbH rfl) :
  DE X E (.Call (.Name x p) (e::es) [] pos) (zan fa m):=by
 refine⟨?_⟩
 intro pins s σ H Q I ⟨H₀,ρ,hs,hrd,q⟩
 refine wpAny_Call_Name_kw (zhn I hg hm ?_ hdb)
 have h2:tDA X.K E fa σ H (fun vs H1=>spD X.K n m vs H1 Q E):=by
  refine⟨H₀,ρ,hs,hrd,?_⟩
  unfold zan at q
  cases e1:fa ρ with
  | stuck=>rw[e1] at q;exact q
  | exn x=>rw[e1] at q;exact q
  | ok ds =>
   rw[e1] at q
   intro v H1 H01 g1 r1
   refine⟨?_,H01,ds,g1.sub,r1,post.grow (r:=m ds) q g1⟩
   have:=r1.length
   have:=hl ρ ds e1
   omega
 refine W.callWith_K (h₀:=X.base) I.ok.mod.kin hk (thn (ha.o pos pins s σ H _ I h2) fun us s1 ⟨vs,H1,I1,r,q⟩=>⟨I1.kIn,?_⟩) he hpl
 have hl2:us.length=ps.length:=by rw[← r.length];exact F.len _ _ _ _ q
 have hb1:=hb s1 us I1.kIn (by simpa using hl2)
 rw[List.append_nil] at hb1
 refine wpAny_call (codeAny_mono (F.run X.A X.stack s1 H1 ⟨us,[]⟩ us vs Q E hr I1.env0 hb1 r q) fun r s' hq=>?_)
 cases r with
 | error e=>exact False.elim hq
 | ok fl =>
  cases fl with
  | ret u=>exact I1.after hq
  | next=>exact False.elim hq
  | brk=>exact False.elim hq
  | cont=>exact False.elim hq
end
def zqp (tab:Str->Option Bool)(x:D):Res D:=match x with
 | .exc c=>(match tab c with
  | some b=>.ok (.bl b)
  | none=>.stuck)
 | _=>.stuck
def zqE (K:W.Frag)(tab:Str->Option Bool)(cv:Value):Prop:=∀ c C b,tab c=some b->XC K c C->W.kitOne K (.ref C) cv=some b
def znN (K:W.Frag)(tab:Str->Option Bool)(cs:List Addr):Prop:=∀ c C b,tab c=some b->XC K c C->W.kitAny K (.ref C) (cs.map Value.ref)=some b
section
variable {X:Cx}{E:XK}{e a:Expr}{es:List Expr}{f:Ev->Res D}{pos:Pos}{tab:Str->Option Bool}
theorem zAP {cV:V}{cv:Value}(hrel:∀ u,zcN cV u->u=cv)(ht:zqE X.K tab cv):zkh X (.builtin "isinstance") (fun vs H Q=>∃ c v b,vs=[v,cV]/\Rep X.K H (.exc c) v/\tab c=some b/\Q (.bl b) H):=by
 intro pins s σ H xs us Q I r h
 obtain⟨c,v,b,rfl,h1,h2,q⟩:=h
 cases r with
 | cons r1 r2 =>
  cases r2 with
  | cons r3 r4 =>
   cases r4
   rename_i u1 u2
   obtain rfl:=hrel _ r3
   obtain⟨ad,C,rfl,hc,hr⟩:=Rep.exc_iff.mp h1
   cases (show u1=Value.ref ad from r1)
   obtain⟨p,_,_⟩:=hr.ok I.hok
   exact W.kia_one (zos hc.ek hc.ek.isCls) I.kIn p (ht c C b h2 hc) (fun z=>nomatch z) fun tk=>⟨.bl b,H,I.tok _,rfl,q⟩
theorem zyn {cV:V}{σ:L2.St}{H:Hp}{Q:VK}(h:tD X.K E (za4 f (zqp tab)) σ H Q):tD X.K E f σ H fun v H1=>∃ c v' b,[v,cV]=[v',cV]/\Rep X.K H1 (.exc c) v'/\tab c=some b/\Q (.bl b) H1:=by
 obtain⟨H₀,ρ,hs,hr,q⟩:=h
 refine⟨H₀,ρ,hs,hr,?_⟩
 unfold za4 at q
 cases e1:f ρ with
 | stuck=>rw[e1] at q;exact q
 | exn x=>rw[e1] at q;exact q
 | ok d =>
  rw[e1] at q
  intro v H1 H01 g1 r1
  have q:post X.K E H H₀ (zqp tab d) Q:=q
  cases d with
  | exc c =>
   unfold zqp at q
   cases e2:tab c with
   | none=>simp only[e2] at q;exact q.elim
   | some b=>simp only[e2] at q;exact⟨c,v,b,rfl,r1.mono g1.sub,e2,q _ H1 H01 g1 (rb _)⟩
  | _=>exact q.elim
theorem zzy {x:Str}{p1 p2:Pos}{cV:V}{cv:Value}(hrel:∀ u,zcN cV u->u=cv)(ht:zqE X.K tab cv)(hc:PE X (.Name x p2) (tC cV))(hgi:Gl X "isinstance")(hmi:X.mg "isinstance"=none)(ha:DE X E a f)
  (he:starEach [a,.Name x p2] X.env=(false,eval a X.env)::starEach [.Name x p2] X.env:=by exact zaM rfl)(he2:starEach [.Name x p2] X.env=(false,eval (.Name x p2) X.env)::starEach [] X.env:=by exact zaM rfl)(hpl:(backTo pos (starEach [.Name x p2] X.env)).any (·.1)=false:=by exact zbH rfl) :
  DE X E (.Call (.Name "isinstance" p1) [a,.Name x p2] [] pos) (za4 f (zqp tab)):=by
 refine⟨?_⟩
 exact za3 (zlE (zAP hrel ht) hgi hmi PyProof.Rows.Boot.«isinstance» (zdo ha.o (zdo hc zhy he2) he) (by decide) (by decide) he hpl) fun σ H Q h=>zyn h
theorem zmJ {x:Str}{p1 p2:Pos}{C:Addr}(hg:Gl X x)(hm:X.mg x=some (.ref C))(ht:zqE X.K tab (.ref C))(hgi:Gl X "isinstance")(hmi:X.mg "isinstance"=none)(ha:DE X E a f)(hdb:(x==("__debug__" : Str))=false:=by decide)
  (he:starEach [a,.Name x p2] X.env=(false,eval a X.env)::starEach [.Name x p2] X.env:=by exact zaM rfl):DE X E (.Call (.Name "isinstance" p1) [a,.Name x p2] [] pos) (za4 f (zqp tab)) :=
 zzy (cV:=.ref C) (fun u h=>h) ht (zrh hg hm rfl hdb) hgi hmi ha he
theorem zwD {x:Str}{p1 p2:Pos}{T:String}(hg:Gl X x)(hm:X.mg x=none)(hv:bootBuiltins x=some (.type T))(ht:zqE X.K tab (.type T))(hgi:Gl X "isinstance")(hmi:X.mg "isinstance"=none)(ha:DE X E a f)(hn:x≠"__name__":=by decide)(hdb:(x==("__debug__" : Str))=false:=by decide)
  (he:starEach [a,.Name x p2] X.env=(false,eval a X.env)::starEach [.Name x p2] X.env:=by exact zaM rfl):DE X E (.Call (.Name "isinstance" p1) [a,.Name x p2] [] pos) (za4 f (zqp tab)) :=
 zzy (cV:=.ty T) (fun u h=>h) ht (zvy hg hm hv rfl hn hdb) hgi hmi ha he
structure CN (X:Cx) (es:List Expr) (cs:List Addr):Prop where
 o:PA X es (fun σ H Q=>Q (cs.map V.ref) H)
theorem zsY:CN X [] []:=⟨zhy⟩
theorem zcw {x:Str}{p:Pos}{C:Addr}{cs:List Addr}(hg:Gl X x)(hm:X.mg x=some (.ref C))(h:CN X es cs)(hdb:(x==("__debug__" : Str))=false:=by decide):CN X (.Name x p::es) (C::cs) :=
 ⟨zdo (zrh (v:=.ref C) hg hm rfl hdb) h.o (zaM rfl)⟩
theorem zpu:∀ {cs:List Addr}{us:List Value},zce (cs.map V.ref) us->us=cs.map Value.ref
 | [],_,.nil=>rfl
 | c::cs,_,.cons r t=>by rw[zpu t];obtain rfl:_=Value.ref c:=r;rfl
theorem zAO {cs:List Addr}(ht:znN X.K tab cs):zkh X (.builtin "isinstance") (fun vs H Q=>∃ c v b p,vs=[v,.ref p]/\H p=some (.tup (cs.map V.ref))/\Rep X.K H (.exc c) v/\tab c=some b/\Q (.bl b) H):=by
 intro pins s σ H xs us Q I r h
 obtain⟨c,v,b,p,rfl,hp,h1,h2,q⟩:=h
 cases r with
 | cons r1 r2 =>
  cases r2 with
  | cons r3 r4 =>
   cases r4
   rename_i u1 u2
   obtain rfl:u2=Value.ref p:=r3
   obtain⟨ad,C,rfl,hc,hr⟩:=Rep.exc_iff.mp h1
   cases (show u1=Value.ref ad from r1)
   obtain⟨pe,_,_⟩:=hr.ok I.hok
   obtain⟨_,its,rv,ob,k1,k2,n,k3⟩:=I.hok p _ hp
   obtain rfl:=zpu rv
   obtain⟨oc,od,odt,osl⟩:=ob
   cases k2;cases k3
   exact W.kia_tup (zos hc.ek hc.ek.isCls) I.kIn pe k1 (ht c C b h2 hc) (fun z=>nomatch z) fun tk=>⟨.bl b,H,I.tok _,rfl,q⟩
theorem zoI {p1 p2:Pos}{k2}{cs:List Addr}(ht:znN X.K tab cs)(hc:CN X es cs)(hl:cs.length<=30)(hgi:Gl X "isinstance")(hmi:X.mg "isinstance"=none)(ha:DE X E a f)
  (he:starEach [a,.Tuple es k2 p2] X.env=(false,eval a X.env)::starEach [.Tuple es k2 p2] X.env:=by exact zaM rfl)(he2:starEach [.Tuple es k2 p2] X.env=(false,eval (.Tuple es k2 p2) X.env)::starEach [] X.env:=by exact zaM rfl)(hpl:(backTo pos (starEach [.Tuple es k2 p2] X.env)).any (·.1)=false:=by exact zbH rfl) :
  DE X E (.Call (.Name "isinstance" p1) [a,.Tuple es k2 p2] [] pos) (za4 f (zqp tab)):=by
 refine⟨?_⟩
 refine za3 (zlE (zAO ht) hgi hmi PyProof.Rows.Boot.«isinstance» (zdo ha.o (zdo (zzn hc.o) zhy he2) he) (by decide) (by decide) he hpl) fun σ H Q ⟨H₀,ρ,hs,hr,q⟩=>⟨H₀,ρ,hs,hr,?_⟩
 unfold za4 at q
 cases e1:f ρ with
 | stuck=>rw[e1] at q;exact q
 | exn x=>rw[e1] at q;exact q
 | ok d =>
  rw[e1] at q
  intro v H1 H01 g1 r1
  have q:post X.K E H H₀ (zqp tab d) Q:=q
  cases d with
  | exc c =>
   unfold zqp at q
   cases e2:tab c with
   | none=>simp only[e2] at q;exact q.elim
   | some b =>
    simp only[e2] at q
    refine⟨?_,fun p hp=>?_⟩
    ·rw[List.length_map];exact Nat.le_trans hl (by decide)
    ·have ga:=zbZ.alloc (o:=.tup (cs.map V.ref)) g1.sub hp
     exact⟨c,v,b,p,rfl,zaB,(r1.mono g1.sub).mono ga.s,e2,q _ _ _ (g1.trans ga) (rb _)⟩
  | _=>exact q.elim
end
end DL
namespace DL
open PySem PySem.Spec PyProof.Rows L2 PySem.W
structure zji (K:Frag) (x:Str) (C:Addr):Prop where
 ns:nsIn K mainGlobals x=some (some (.ref C))
 ty:typeIn K (.ref C)=some (.type "type")
 ob:mroIn K C (.type "object")=some true
 be:subIn K (.ref C) (.type "BaseException")=some true
theorem zji.isCls {K:Frag}{x:Str}{C:Addr}(Z:zji K x C):(clsIn K C).isSome=true:=by
 obtain⟨cd,a,b⟩:=Option.bind_eq_some_iff.mp Z.ob
 rw[a];rfl
theorem zji.kitCls {K:Frag}{x:Str}{C:Addr}(Z:zji K x C){t:Value}:W.kitCls K t (.ref C)=subIn K t (.ref C):=by
 show(if((clsIn K C).isSome&&typeIn K (.ref C)==some (.type "type"))=true then subIn K t (.ref C) else none)=_
 rw[Z.isCls,Z.ty];rfl
theorem zji.exm {K:Frag}{x:Str}{C:Addr}(Z:zji K x C){t:Value}{b:Bool}(h:subIn K t (.ref C)=some b):exmOne K t (.ref C)=some b:=by
 unfold exmOne
 rw[Z.be,if_pos (by decide),Z.kitCls,h]
theorem zji.kit {K:Frag}{x:Str}{C R:Addr}(Z:zji K x C){b:Bool}(hR:subIn K (.ref R) (.ref R)=some true)(h:subIn K (.ref R) (.ref C)=some b):kitOne K (.ref R) (.ref C)=some b:=by
 unfold kitOne
 by_cases e:(Value.ref R==Value.ref C)=true
 ·rw[if_pos e]
  cases (Value.ref.inj (beq_iff_eq.mp e))
  rw[← hR,h]
 ·rw[if_neg e,Z.kitCls,h]
theorem zmp {K:Frag}{C:Addr}{T:String}{b:Bool}(hm:kitMeta T=true)(h:subIn K (.ref C) (.type T)=some b):kitOne K (.ref C) (.type T)=some b:=by
 unfold kitOne
 rw[if_neg (by intro z;cases beq_iff_eq.mp z)]
 show(if kitMeta T=true then subIn K (.ref C) (.type T) else none)=_
 rw[if_pos hm,h]
theorem zbt {K:Frag}{t:Value}:kitAny K t []=some false:=rfl
theorem zar {K:Frag}{t c:Value}{r:List Value}{b:Bool}(h:kitOne K t c=some false)(h':kitAny K t r=some b):kitAny K t (c::r)=some b:=by unfold kitAny;rw[h];exact h'
theorem zyg {K:Frag}{t c:Value}{r:List Value}(h:kitOne K t c=some true):kitAny K t (c::r)=some true:=by unfold kitAny;rw[h]
theorem zjD:∀ T∈zhH,kitMeta T=true:=by decide +kernel
theorem ziU:kitMeta "ValueError"=true:=by decide +kernel
structure zwZ (K:Frag) (x:Str) (C:Addr):Prop where
 i:zji K x C
 cls:findIn K (.ref C) "__class__"=some (some (.builtin "object.__class__"))
 ga:findIn K (.ref C) "__getattribute__"=some (some (.builtin "BaseException.__getattribute__"))
 gt:findIn K (.ref C) "__getattr__"=some none
 t1:subIn K (.ref C) (.type "NoneType")=some false
 t2:subIn K (.ref C) (.type "bool")=some false
 t3:subIn K (.ref C) (.type "int")=some false
 t4:subIn K (.ref C) (.type "str")=some false
 t5:subIn K (.ref C) (.type "tuple")=some false
 t6:subIn K (.ref C) (.type "list")=some false
 t7:subIn K (.ref C) (.type "dict")=some false
 ve:subIn K (.ref C) (.type "ValueError")=some true
 self:subIn K (.ref C) (.ref C)=some true
 ex:excIn K C [.type "ValueError",.type "Exception",.type "BaseException",.type "object"] "ValueError.__new__"=true
theorem zwZ.xcls {K:Frag}{x:Str}{C:Addr}(Z:zwZ K x C):zDh K x C where
 xc:=⟨Z.i.ns,⟨Z.cls,Z.ga,Z.gt,Z.i.ob,Z.i.be⟩,fun T hT=>by
  refine zmp (zjD T hT) ?_
  simp only[zhH,List.mem_cons,List.not_mem_nil,or_false] at hT
  rcases hT with rfl | rfl | rfl | rfl | rfl | rfl | rfl
  ·exact Z.t1
  ·exact Z.t2
  ·exact Z.t3
  ·exact Z.t4
  ·exact Z.t5
  ·exact Z.t6
  ·exact Z.t7⟩
 ex:=Z.ex
theorem XC.inj {K:Frag}{x:Str}{C C':Addr}(a:XC K x C)(b:XC K x C'):C=C':=by
 have:=a.ns.symm.trans b.ns
 simpa using this
def zlo:List (Str×Bool)->Str->Option Bool
 | [],_=>none
 | (x,b)::r,c=>if x=c then some b else zlo r c
theorem zdb {K:Frag}{p:Str->Addr->Bool->Prop}:∀ {l:List (Str×Bool)},(∀ q∈l,∃ C,XC K q.1 C/\p q.1 C q.2)->∀ c C b,zlo l c=some b->XC K c C->p c C b
 | [],_,c,C,b,h,_=>by cases h
 | (x,v)::r,H,c,C,b,h,xc=>by
  unfold zlo at h
  by_cases e:x=c
  ·subst e
   rw[if_pos rfl] at h;cases h
   obtain⟨C',xc',q⟩:=H _ List.mem_cons_self
   obtain rfl:=XC.inj xc xc'
   exact q
  ·rw[if_neg e] at h
   exact zdb (fun q hq=>H q (List.mem_cons_of_mem _ hq)) c C b h xc
def zrO (l:List (Str×Bool))(c:Str):Bool:=zlo l c==some true
theorem zyq {K:Frag}{l:List (Str×Bool)}{cv:Value}(H:∀ q∈l,∃ C,XC K q.1 C/\exmOne K (.ref C) cv=some q.2):∀ x C,zrO l x=true->XC K x C->exmOne K (.ref C) cv=some true:=fun x C h xc =>
 zdb (p:=fun _ C b=>exmOne K (.ref C) cv=some b) H x C true (by unfold zrO at h;exact beq_iff_eq.mp h) xc
end DL
namespace DL
open PySem PySem.Spec PyProof.Rows L2
section
variable {X:Cx}{E:XK}{tg a b c:Expr}{f g:Ev->Res D}
end
section
variable {X:Cx}{pins:List (Addr×Obj)}{σ:L2.St}{H:Hp}{s:Shared}{h':Heap}
theorem zuK {t':Nat}{fp:List Addr}{T:Addr}{xs:List V}(I:Inv X pins σ H s)(k:∀ b o,b∉fp->s.heap.get? b=some o->h'.get? b=some o)(hf:∀ b∈fp,zum X pins H b)(hT:s.heap.objs.size<=T)
  (new:zdg X.prog X.w (upd H T (.tup xs)) h' T (.tup xs)):Inv X pins σ (upd H T (.tup xs)) { s with heap:=h',toks:=t' }:=by
 have hn:H T=none:=I.hok.fresh hT
 have nit:∀ b u,H b=some u->b∉fp:=fun b u e z=>by rw[(hf b z).1] at e;cases e
 refine I.step (g':=s.gens) (d':=s.drawn) (ch:=fp) (fun b hb=>?_) (fun b o _ _ hc e _=>k b o hc e) (fun b o _ _ hc e _=>⟨o.slots,k b o hc e⟩) (fun b o _ e n=>?_)
  (fun b o hc e=>⟨o,k b o hc e⟩) (fun b xs e=>by rw[zaE (za0 e hn)];exact e) (fun b o u e=>by rw[zaE (za0 e hn)];exact e) (fun b ps e=>⟨#[],by rw[zaE (za0 e hn),e];simp⟩) (fun m hm=>?_) (fun b u e=>?_) I.bare
 ·obtain⟨_,f1,_,f3,f4,f5⟩:=hf b hb
  exact⟨f3,f1,f4,f5⟩
 ·rw[zaE (Nat.ne_of_lt (Nat.lt_of_lt_of_le (Heap.lt_size e) hT))];exact n
 ·obtain⟨o,es,ep,ho,r⟩:=hm
  exact⟨o,es,ep,k _ o (fun z=>(hf _ z).2.1 rfl) ho,r⟩
 ·by_cases hb:b=T
  ·subst hb;rw[zaB] at e;cases e;exact new
  ·rw[zaE hb] at e
   refine(I.hok b u e).stay (fun c v hc q=>k c v ?_ q) (fun c q=>by rw[zaE (za0 q hn)];exact q) fun c xs q=>by rw[zaE (za0 q hn)];exact q
   rcases hc with z | z
   ·rw[z];exact nit b u e
   ·exact nit c _ z
theorem zzY {t':Nat}{fp:List Addr}(I:Inv X pins σ H s)(k:∀ b o,b∉fp->s.heap.get? b=some o->h'.get? b=some o)(hf:∀ b∈fp,zum X pins H b):Inv X pins σ H { s with heap:=h',toks:=t' }:=by
 have nit:∀ b u,H b=some u->b∉fp:=fun b u e z=>by rw[(hf b z).1] at e;cases e
 refine I.step (g':=s.gens) (d':=s.drawn) (ch:=fp) (fun b hb=>?_) (fun b o _ _ hc e _=>k b o hc e) (fun b o _ _ hc e _=>⟨o.slots,k b o hc e⟩) (fun b o _ e n=>n)
  (fun b o hc e=>⟨o,k b o hc e⟩) (fun b xs e=>e) (fun b o u e=>e) (fun b ps e=>⟨#[],by rw[e];simp⟩) (fun m hm=>?_) (fun b u e=>?_) I.bare
 ·obtain⟨_,f1,_,f3,f4,f5⟩:=hf b hb
  exact⟨f3,f1,f4,f5⟩
 ·obtain⟨o,es,ep,ho,r⟩:=hm
  exact⟨o,es,ep,k _ o (fun z=>(hf _ z).2.1 rfl) ho,r⟩
 ·refine(I.hok b u e).stay (fun c v hc q=>k c v ?_ q) (fun _ q=>q) fun _ _ q=>q
  rcases hc with z | z
  ·rw[z];exact nit b u e
  ·exact nit c _ z
end
def Ite (K:W.Frag)(a:Addr):It :=
 ⟨fun i H=>∃ xs x,SqL K H a xs/\xs[i]?=some x,fun i H x H'=>∃ p y,H p=none/\x=.ref p/\(∀ xs,SqL K H a xs->xs[i]?=some y)/\H'=upd H p (.tup [.int i,y]),fun i H=>∃ xs,SqL K H a xs/\xs.length<=i⟩
theorem zuN {P:Program}{w:World}{K:W.Frag}{elts:List Expr}{k:Nat}{pos:Pos}(a it e:Addr)(hne:e≠it)(hae:a≠e)(hai:a≠it) :
  zBo P w K (.Tuple elts k pos) (Ite K a) [e,it] e (fun i h=>(∃ old,IsEnum h e it i old)/\h.IsListIter it a i) where
 mem:=by simp
 obj:=fun i h st b hb=>by
  obtain⟨⟨old,he⟩,o,h1,h2,h3⟩:=st
  rcases List.mem_cons.mp hb with rfl | hb
  ·exact⟨_,he,fun v z=>by cases z⟩
  ·rcases List.mem_cons.mp hb with rfl | hb
   ·exact⟨o,h1,fun v z=>by rw[h3] at z;cases z⟩
   ·cases hb
 keep:=fun i h h' st k=>by
  obtain⟨⟨old,he⟩,hi⟩:=st
  exact⟨⟨old,k e (by simp) _ he⟩,hi.at fun o y=>k it (by simp) o y⟩
 item:=by
  intro X hP hw hK hc i pins s σ H E I hf st hg
  subst hP hw hK
  obtain⟨xs,x,hq,hx⟩:=hg
  obtain⟨its,rv,p,hz⟩:=I.list hq
  obtain⟨u,hu,ru⟩:=rv.get hx
  have W:=WalksT.enumerate (prog:=X.prog) (w:=X.w) (I.ok.hd hc) e it a hne hae hai its.toArray
  have hil:i < its.toArray.size:=by simpa using (List.getElem?_eq_some_iff.mp hu).1
  refine W.item i s _ _ hil ⟨st.1,st.2,p.isList⟩ fun T vals h' tk hPt hT hTup hMid hk=>?_
  refine⟨_,rfl,W.go elts k pos i T _ _ _ hMid fun h'' st'' hk''=>?_⟩
  obtain⟨t,y,hy,rfl⟩:=hPt
  have hyu:y=u:=by
   have:its[i]?=some y:=by simpa using hy
   rw[hu] at this;cases this;rfl
  subst hyu
  obtain⟨o,ho,hr⟩:=hTup
  have ho':=hk'' T o (W.apart i T _ hMid) ho
  refine⟨.ref T,upd H T (.tup [.int i,x]),zuK (s:=s) (h':=h'') (t':=tk) I (fun b o hb e=>hk'' b o hb (hk b o hb e)) hf hT ⟨by show 2<=sizeLine;decide,[.int i t,y],.cons ⟨t,rfl⟩ (.cons ru .nil),o,ho',hr⟩,rfl,⟨T,x,I.hok.fresh hT,rfl,fun ys hy=>by rw[I.list_inj hy hq];exact hx,rfl⟩,⟨st''.1,st''.2.1⟩,fun b hb=>?_⟩
  have hb0:=(hf b hb).1
  obtain⟨ob,hob,_⟩:∃ o,s.heap.get? b=some o/\∀ v,o.data≠.cell v:=by
   obtain⟨⟨old,he⟩,o,h1,h2,h3⟩:=st
   rcases List.mem_cons.mp hb with rfl | hb
   ·exact⟨_,he,fun v z=>by cases z⟩
   ·rcases List.mem_cons.mp hb with rfl | hb
    ·exact⟨o,h1,fun v z=>by rw[h3] at z;cases z⟩
    ·cases hb
  rw[zaE (Nat.ne_of_lt (Nat.lt_of_lt_of_le (Heap.lt_size hob) hT))];exact hb0
 done:=by
  intro X hP hw hK hc i pins s σ H E I hf st hg
  subst hP hw hK
  obtain⟨xs,hq,hx⟩:=hg
  obtain⟨its,rv,p,hz⟩:=I.list hq
  have hl:=rv.length
  obtain⟨⟨old,he⟩,hi⟩:=st
  exact wpAny_pyNext_enum_end (I.ok.hd hc) he hi p.isList (by simp;omega) fun h' hx=>⟨rfl,zzY (t':=s.toks) I (fun b o hb e=>hx b o (fun z=>hb (by simp [z])) e) hf⟩
 self:=fun _ _ _ _ _ st h=>by
  obtain⟨⟨old,he⟩,_⟩:=st
  exact wpAny_pyIter_enum he h
section
variable {X:Cx}{E:XK}{elts:List Expr}{k:Nat}{tp:Pos}{e a b:Expr}{f g:Ev->Res D}
def zD6 (K:W.Frag)(ta:TA):TI:=fun σ H R=>ta σ H fun vs H1=>∃ a,vs=[.ref a]/\(∃ xs,SqL K H1 a xs)/\R (Ite K a) H1
theorem zAp {ta:TA}{p pos:Pos}(hg:Gl X "enumerate")(hm:X.mg "enumerate"=none)(ha:PA X [a] ta)(hs:starEach [a] X.env=[(false,eval a X.env)]:=by rfl):PI X (.Tuple elts k tp) (.Call (.Name "enumerate" p) [a] [] pos) (zD6 X.K ta):=by
 intro pins s σ H R I h
 refine Call_ (zpS I hg hm PyProof.Rows.Boot.«enumerate» (PyProof.Rows.callWith_type1 (thn (ha pos pins s σ H _ I h) fun us s1 ⟨vs,H1,I1,r1,q1⟩=>?_) hs rfl))
 obtain⟨l,e,⟨xs,hq⟩,q⟩:=q1
 subst e
 cases r1 with
 | cons r rr =>
  cases rr
  cases r
  obtain⟨its,rv,p,hz⟩:=I1.list hq
  have hlt:l < s1.heap.objs.size:=by obtain⟨o,n,e,_⟩:=p;exact Heap.lt_size e
  refine call_enumerate_list p.isList fun h' he hi hsz hk=>?_
  refine wpAny_pyIter_enum he ?_
  refine⟨s1.heap.objs.size+1,[s1.heap.objs.size+1,s1.heap.objs.size],_,_,H1,rfl,I1.kept (t':=s1.toks) hk,zuN l s1.heap.objs.size (s1.heap.objs.size+1) (Nat.succ_ne_self _) (Nat.ne_of_lt (Nat.lt_succ_of_lt hlt)) (Nat.ne_of_lt hlt),⟨⟨_,he⟩,hi⟩,fun b hb=>?_,q⟩
  have hb':s1.heap.objs.size<=b:=by
   rcases List.mem_cons.mp hb with rfl | hb
   ·omega
   ·rcases List.mem_cons.mp hb with rfl | hb
    ·exact Nat.le_refl _
    ·cases hb
  exact I1.fpOk hb' (I1.hok.fresh hb')
def zc0 (n:Nat):List D->List D
 | []=>[]
 | d::ds=>.tup [.int n,d]::zc0 (n+1) ds
theorem zhY:∀ (ds:List D) (n:Nat),(zc0 n ds).length=ds.length
 | [],_=>rfl
 | d::ds,n=>by simp [zc0,zhY ds]
theorem zhZ:∀ (ds:List D) (n i:Nat),(zc0 n ds)[i]?=(ds[i]?).map fun d=>D.tup [.int (n+i:Nat),d]
 | [],_,_=>by simp [zc0]
 | d::ds,n,0=>by simp [zc0]
 | d::ds,n,i+1=>by simp only[zc0,List.getElem?_cons_succ];rw[zhZ ds (n+1) i,show n+1+i=n+(i+1) by omega]
def zz6 (f:Ev->Res D):Ev->Res (List D):=fun ρ=>(f ρ).bind fun d=>match d with
 | .lst ds=>.ok (zc0 0 ds)
 | _=>.stuck
theorem zzZ {K:W.Frag}{H H₀:Hp}{p:Addr}{vs:List V}{ds:List D}(hs:za2 H₀ H)(hp:H p=none)(r:Reps K H₀ ds vs):∃ H₀2,zbZ H H₀ (upd H p (.tup vs)) H₀2/\Rep K H₀2 (.tup ds) (.ref p) :=
 ⟨upd H₀ p (.tup vs),zbZ.alloc hs hp,Rep.tup_iff.mpr ⟨p,vs,rfl,SqT.of zaB,r.mono (zbZ.alloc (o:=.tup vs) hs hp).z⟩⟩
theorem zwA {p pos:Pos}(hg:Gl X "enumerate")(hm:X.mg "enumerate"=none)(h:DE X E a f)(hn:nst a=true:=by exact rfl):DI X E (.Tuple elts k tp) (.Call (.Name "enumerate" p) [a] [] pos) (zz6 f):=by
 refine⟨zoe (zAp hg hm (zdo h.o zhy (ziK hn)) (ziK hn)) fun σ H R ⟨H₀,ρ,hs,hr,q⟩=>⟨H₀,ρ,hs,hr,?_⟩⟩
 unfold zz6 at q
 cases e1:f ρ with
 | stuck=>rw[e1] at q;exact q
 | exn x=>rw[e1] at q;exact q
 | ok d =>
  rw[e1] at q
  intro v H1 H01 g1 r1
  cases d with
  | lst ds =>
   obtain⟨l,vs,rfl,hv,hrv⟩:=Rep.lst_iff.mp r1
   refine⟨l,rfl,⟨vs,za2.sqL g1.sub hv⟩,q _ H1 H01 g1 ⟨fun i H' H₀' s1 s2 hi=>?_,fun i H' H₀' x H2 d s1 s2 hd hy=>?_,fun i H' H₀' s1 s2 hi=>?_⟩⟩
   ·rw[zhY] at hi
    exact⟨vs,vs[i]'(by rw[← hrv.length];exact hi),za2.sqL (s1.trans s2) hv,by simp⟩
   ·obtain⟨p,y,hp,rfl,hy,rfl⟩:=hy
    rw[zhZ] at hd
    cases ei:ds[i]? with
    | none=>rw[ei] at hd;cases hd
    | some d' =>
     rw[ei] at hd
     cases hd
     obtain⟨u,k1,k2⟩:=hrv.get ei
     have:=hy vs (za2.sqL (s1.trans s2) hv)
     rw[k1] at this;cases this
     exact zzZ s2 hp (Reps.cons (Rep.int_iff.mpr (by simp)) (Reps.cons (k2.mono s1) Reps.nil))
   ·rw[zhY] at hi
    exact⟨vs,za2.sqL (s1.trans s2) hv,by rw[← hrv.length];exact hi⟩
  | _=>exact q.elim
end
section
variable {X:Cx}{E:XK}{elts:List Expr}{k:Nat}{tp:Pos}{e a b:Expr}{f g:Ev->Res D}
end
def zud (f:Str):List Str->List D->Option D
 | k::ks,d::ds=>if f=k then some d else zud f ks ds
 | _,_=>none
theorem zwr {K:W.Frag}{H:Hp}{f:Str}:∀ {ks:List Str}{ds:List D}{vs:List V}{d:D},ks.length=vs.length->Reps K H ds vs->zud f ks ds=some d->∃ v,(ks.zip vs).lookup f=some v/\Rep K H d v/\f∈ks
 | [],ds,vs,d,_,_,h=>by unfold zud at h;cases h
 | k::ks,[],vs,d,_,_,h=>by unfold zud at h;cases h
 | k::ks,x::ds,vs,d,hl,r,h=>by
  obtain⟨v,r',rfl,r1,r2⟩:=Reps.cons_iff.mp r
  unfold zud at h
  by_cases c:f=k
  ·rw[if_pos c] at h
   cases h
   exact⟨v,by rw[List.zip_cons_cons,List.lookup_cons,beq_iff_eq.mpr c],r1,by rw[c];exact List.mem_cons_self⟩
  ·rw[if_neg c] at h
   obtain⟨u,h1,h2,h3⟩:=zwr (by simpa using hl) r2 h
   exact⟨u,by rw[List.zip_cons_cons,List.lookup_cons,beq_eq_false_iff_ne.mpr c];exact h1,h2,List.mem_cons_of_mem _ h3⟩
def zw5 (f:Str)(x:D):Res D:=match x with
 | .ob (.ins c ks) ds=>match zud f ks ds with
  | some d=>.ok d
  | none=>.stuck
 | _=>.stuck
section
variable {X:Cx}{E:XK}{e a b o:Expr}{es:List Expr}{fe fo:Ev->Res D}{fa:Ev->Res (List D)}{pos:Pos}
theorem zzz {f:Str}(he:DE X E e fe)(hb:attributeBase e f X.env (eval e X.env)=eval e X.env:=by rfl):DE X E (.Attribute e f pos) (za4 fe (zw5 f)):=by
 refine⟨za3 (zCn he.o hb) fun σ H Q ⟨H₀,ρ,hs,hr,q⟩=>⟨H₀,ρ,hs,hr,?_⟩⟩
 unfold za4 at q
 cases e1:fe ρ with
 | stuck=>rw[e1] at q;exact q
 | exn x=>rw[e1] at q;exact q
 | ok d =>
  rw[e1] at q
  intro v H1 H01 g1 r1
  replace q:post X.K E H H₀ (zw5 f d) Q:=q
  unfold zw5 at q
  cases d with
  | ob k ds =>
   cases k with
   | ins c ks =>
    replace q:post X.K E H H₀ (match zud f ks ds with | some d=>Res.ok d | none=>.stuck) Q:=q
    cases e2:zud f ks ds with
    | none=>rw[e2] at q;exact q.elim
    | some d =>
     rw[e2] at q
     obtain⟨p,vs,rfl,⟨C,dx,h0,h1,h2,h3⟩,h4⟩:=Rep.ob_iff.mp r1
     obtain⟨u,k1,k2,k3⟩:=zwr h3 h4 e2
     exact⟨p,C,dx,_,u,rfl,g1.sub _ _ h2,h1.cls,h1.no f k3,k1,q u H1 H01 g1 k2⟩
   | _=>exact q.elim
  | _=>exact q.elim
def putAll:List Str->List V->List (Str×V)->List (Str×V)
 | f::fs,v::vs,l=>putAll fs vs (zlu f v l)
 | _,_,l=>l
theorem zsz {f:Str}{v:V}:∀ {l:List (Str×V)},f∉l.map (·.1)->zlu f v l=l++[(f,v)]
 | [],_=>rfl
 | (k,x)::l,h=>by
  simp only[List.map_cons,List.mem_cons,not_or] at h
  unfold zlu
  rw[if_neg (fun z=>h.1 z.symm),zsz h.2]
  rfl
theorem znq:∀ {fs:List Str}{vs:List V}{l:List (Str×V)},fs.Nodup->(∀ f∈fs,f∉l.map (·.1))->fs.length=vs.length->putAll fs vs l=l++fs.zip vs
 | [],[],l,_,_,_=>by simp [putAll]
 | [],v::vs,l,_,_,h=>by simp at h
 | f::fs,[],l,_,_,h=>by simp at h
 | f::fs,v::vs,l,nd,hn,h=>by
  rw[List.nodup_cons] at nd
  unfold putAll
  rw[zsz (hn f List.mem_cons_self),znq nd.2 (fun g hg=>?_) (by simpa using h),List.zip_cons_cons,List.append_assoc]
  ·rfl
  ·simp only[List.map_append,List.map_cons,List.map_nil,List.mem_append,List.mem_singleton,not_or]
   exact⟨hn g (List.mem_cons_of_mem _ hg),fun z=>nd.1 (z▸hg)⟩
def zDw (K:W.Frag)(fs:List Str)(is:List Nat):TS:=fun D σ H=>∃ a C dx l vs,σ[0]?=some (some (V.ref a))/\H a=some (.ins C dx l)/\Cls K C/\(∀ f∈fs,zgn K C f)/\l.length+fs.length < 1000/\fs.length=vs.length /\
 is.map (fun i=>σ[i]?)=vs.map (fun v=>some (some v))/\D.nx σ (upd H a (.ins C dx (putAll fs vs l)))
structure zy7 (X:Cx) (sts:List Stmt) (fs:List Str) (is:List Nat):Prop where
 o:PSs X sts (zDw X.K fs is)
theorem znZ {H:Hp}{a:Addr}{o:HO}(h:H a=some o):upd H a o=H:=by
 funext b
 by_cases hb:b=a
 ·subst hb;rw[zaB,h]
 ·rw[zaE hb]
theorem zhN {H:Hp}{a:Addr}{o u:HO}:upd (upd H a o) a u=upd H a u:=by
 funext b
 by_cases hb:b=a
 ·subst hb;rw[zaB,zaB]
 ·rw[zaE hb,zaE hb,zaE hb]
theorem zCV:zy7 X [] [] []:=⟨zhh zrb fun D σ H ⟨a,C,dx,l,vs,h1,h2,h3,h4,h5,h6,h7,q⟩=>by
 cases vs with
 | nil =>
  unfold putAll at q
  rw[znZ h2] at q
  exact q
 | cons v vs=>simp at h6⟩
theorem zoc {f:Str}{v:V}:∀ {l:List (Str×V)},(zlu f v l).length<=l.length+1
 | []=>by simp [zlu]
 | (k,x)::l=>by
  unfold zlu
  split
  ·simp
  ·have:=zoc (f:=f) (v:=v) (l:=l)
   simp;omega
theorem zrU {sts:List Stmt}{fs:List Str}{is:List Nat}{f:Str}{i:Nat}{x y:Str}{p1 p2 p3:Pos}(hN:X.N[i]?=some y)(hN0:X.N[0]?=some x)(hv:Vis X.env.scope y)(hv0:Vis X.env.scope x)(h:zy7 X sts fs is)
  (hd:(y==("__debug__" : Str))=false:=by decide)(hcd:(y==("__classdict__" : Str))=false:=by decide)(hd0:(x==("__debug__" : Str))=false:=by decide)(hcd0:(x==("__classdict__" : Str))=false:=by decide)
  (hs:swapsWith (.Name y p3) (some (.Attribute (.Name x p1) f p2)) pos.line X.env=pure false:=by rfl) :
  zy7 X (.Assign [.Attribute (.Name x p1) f p2] (.Name y p3) pos::sts) (f::fs) (i::is):=by
 refine⟨zhh (zjS (zCe (zjl hN0 hv0 hd0 hcd0) (zjl hN hv hd hcd) hs) h.o) fun D σ H ⟨a,C,dx,l,vs,h1,h2,h3,h4,h5,h6,h7,q⟩=>?_⟩
 cases vs with
 | nil=>simp at h6
 | cons v vs =>
  simp only[List.map_cons,List.cons.injEq] at h7
  simp only[List.length_cons] at h5 h6
  refine⟨v,h7.1,.ref a,h1,a,C,dx,l,rfl,h2,h3,h4 f List.mem_cons_self,by omega,?_⟩
  refine⟨a,C,dx,_,vs,h1,zaB,h3,fun g hg=>h4 g (List.mem_cons_of_mem _ hg),?_,by omega,h7.2,?_⟩
  ·have:=zoc (f:=f) (v:=v) (l:=l)
   omega
  ·rw[zhN];exact q
def zsk (K:W.Frag)(ks:List Str):Sp:=fun vs H Q _=>∃ x dx C args,vs=.ref x::args/\args.length=ks.length/\H x=some (.ins C dx [])/\Cls K C/\(∀ f∈ks,zgn K C f)/\Q .non (upd H x (.ins C dx (ks.zip args)))
theorem zA0 {P:Program}{w:World}{K:W.Frag}{mg:Str->Option Value}{base:Heap}{x qual:Str}{st:Stmt}{f:Addr}{fd:FuncData}{ps:List Str}{ks:List Str}(F:Fun K x qual st f fd)(S:zaD ps ps (defScope st))(hk:ks.Nodup)(hps:ps.length=ks.length+1)(hf:ks.length < 500)
  (hbody:∀ (cdv:Value) (A:Around) (outer:List PySem.Env) (s0:Shared) (H:Hp) (E:XK),zy7 (zil CX0 P w K mg base ps qual (defScope st) f cdv A outer s0 H E).nox (defBody st) ks ((List.range ks.length).map (· + 1))):zda P w K mg base CX0 1 f fd ps (zsk K ks):=by
 refine F.ok S (fun vs H Q E h=>?_) fun cdv A outer s0 H vs Q E hr h=>?_
 ·obtain⟨x,dx,C,args,rfl,hl,_⟩:=h
  simp [hl,hps]
 ·obtain⟨x,dx,C,args,rfl,hl,hH,hC,hn,q⟩:=h
  refine⟨_,(hbody cdv A outer s0 H E).o,x,C,dx,[],args,?_,hH,hC,hn,by simp;omega,hl.symm,?_,?_⟩
  ·unfold L2.start;simp
  ·unfold L2.start
   apply List.ext_getElem?
   intro i
   simp only[List.getElem?_map,List.map_map]
   by_cases hi:i < ks.length
   ·have hia:i < args.length:=by omega
    simp [hi,hia,List.getElem?_append_left,List.getElem?_cons_succ]
   ·have hia:¬ i < args.length:=by omega
    simp [hi,hia]
  ·rw[znq hk (by simp) hl.symm]
   exact q
def zDd (c:Str)(ks:List Str)(ds:List D):Res D:=if ds.length=ks.length then .ok (.ob (.ins c ks) ds) else .stuck
theorem zCY {k:Nat}{C fn:Addr}{fd:FuncData}{ps ks:List Str}{x:Str}{p:Pos}(M:Mk X.K C fn)(F:zda X.prog X.w X.K X.mg X.base CX0 k fn fd ps (zsk X.K ks))(hr:zjd (k+1) X.A)(hg:Gl X x)(hm:X.mg x=some (.ref C))(hns:W.nsIn X.K mainGlobals x=some (some (.ref C)))(hb:zbk X.K fd ps [])(hC:zEo X.K ks C)(hx:zkg CX0 X E)(ha:DA X E (e::es) fa)
  (hdb:(x==("__debug__" : Str))=false:=by decide)(he:starEach (e::es) X.env=(false,eval e X.env)::starEach es X.env:=by exact zaM rfl)(hpl:(backTo pos (starEach es X.env)).any (·.1)=false:=by exact zbH rfl) :
  DE X E (.Call (.Name x p) (e::es) [] pos) (zan fa (zDd x ks)):=by
 refine⟨za3 (zAt M F hr hg hm hb .nil hx ha.o hdb he hpl) (zit (r:=fun vs H1 Q=>∀ x dx,H1 x=none->H1 dx=none->dx≠x->zsk X.K ks (.ref x::(vs++[])) (upd (upd H1 dx (.own x)) x (.ins C dx [])) (fun v H2=>v=.non/\Q (.ref x) H2) E) fun ds vs H H₀ Q hs hr q=>?_)⟩
 intro y dx hy hdx hne
 unfold zDd at q
 by_cases hl:ds.length=ks.length
 ·rw[if_pos hl] at q
  have hlv:vs.length=ks.length:=by rw[← hr.length];exact hl
  refine⟨y,dx,C,vs,by simp,hlv,zaB,hC.cls,hC.no,rfl,?_⟩
  rw[zhN]
  have hy':(upd H dx (.own y)) y=none:=by rw[zaE hne.symm];exact hy
  have g1:=zbZ.alloc (o:=.own y) hs hdx
  have g2:=zbZ.alloc (o:=.ins C dx (ks.zip vs)) g1.sub hy'
  refine q _ _ _ (g1.trans g2) (Rep.ob_iff.mpr ⟨y,vs,rfl,⟨C,dx,hns,hC,zaB,hlv.symm⟩,hr.mono (g1.trans g2).z⟩)
 ·rw[if_neg hl] at q;exact q.elim
def zh5:List D->Option (List Int)
 | []=>some []
 | .int x::r=>(zh5 r).map (x::·)
 | _=>none
theorem zsN {K:W.Frag}{H:Hp}:∀ {ds:List D}{ys:List Int}{vs:List V}{us:List Value},zh5 ds=some ys->Reps K H ds vs->zce vs us->IntsAre us ys
 | [],ys,vs,us,h,r,q=>by
  cases h
  rw[Reps.nil_iff.mp r] at q
  cases q
  exact .nil
 | d::ds,ys,vs,us,h,r,q=>by
  obtain⟨v,r',rfl,h1,h2⟩:=Reps.cons_iff.mp r
  cases q with
  | cons q1 q2 =>
   cases d with
   | int x =>
    unfold zh5 at h
    cases e:zh5 ds with
    | none=>rw[e] at h;cases h
    | some zs =>
     rw[e] at h
     cases h
     rw[Rep.int_iff.mp h1] at q1
     obtain⟨t,rfl⟩:=q1
     exact .cons _ _ (zsN e h2 q2)
   | _=>cases h
def zzr (a:Int):List Int->List Int
 | []=>[a]
 | b::l=>if a<=b then a::b::l else b::zzr a l
def zg0:List Int->List Int
 | []=>[]
 | a::l=>zzr a (zg0 l)
theorem zmt (a:Int):∀ l:List Int,(zzr a l).Perm (a::l)
 | []=>by unfold zzr;exact .refl _
 | b::l=>by
  unfold zzr
  split
  ·exact .refl _
  ·exact((zmt a l).cons b).trans (.swap a b l)
theorem ziL:∀ l:List Int,(zg0 l).Perm l
 | []=>.refl _
 | a::l=>by unfold zg0;exact(zmt a _).trans ((ziL l).cons a)
theorem zms (a:Int):∀ l:List Int,l.Pairwise (·<=·)->(zzr a l).Pairwise (·<=·)
 | [],_=>by simp [zzr]
 | b::l,h=>by
  rw[List.pairwise_cons] at h
  unfold zzr
  split
  ·rename_i c
   refine List.pairwise_cons.mpr ⟨fun x hx=>?_,List.pairwise_cons.mpr h⟩
   rcases List.mem_cons.mp hx with rfl | hx
   ·exact c
   ·exact Int.le_trans c (h.1 x hx)
  ·rename_i c
   refine List.pairwise_cons.mpr ⟨fun x hx=>?_,zms a l h.2⟩
   rcases List.mem_cons.mp ((zmt a l).mem_iff.mp hx) with rfl | hx
   ·omega
   ·exact h.1 x hx
theorem zkV:∀ l:List Int,(zg0 l).Pairwise (·<=·)
 | []=>.nil
 | a::l=>by unfold zg0;exact zms a _ (zkV l)
def zzi (K:W.Frag):List V->Hp->VK->Prop:=fun xs H Q=>∃ p ds ns,xs=[.ref p]/\Rep K H (.lst ds) (.ref p)/\zh5 ds=some ns/\ns.length < 64/\∀ l,H l=none->Q (.ref l) (upd H l (.lst ((zg0 ns).map V.int)))
theorem zhM:∀ {us:List Value}{ns:List Int},IntsAre us ns->zce (ns.map V.int) us
 | _,_,.nil=>.nil
 | _,_,.cons _ t h=>.cons ⟨_,rfl⟩ (zhM h)
theorem zsL:∀ {us:List Value}{ns:List Int},IntsAre us ns->us.length=ns.length
 | _,_,.nil=>rfl
 | _,_,.cons _ _ h=>by simp [zsL h]
theorem znM:zkh X (.builtin "sorted") (zzi X.K):=by
 intro pins s σ H xs us Q I r h
 obtain⟨p,ds,ns,rfl,hr,hi,hl,q⟩:=h
 obtain⟨u,rfl,ru⟩:=r.one
 obtain⟨a,vs,its,ea,rfl,h1,h2,h3,h4,_⟩:=Rep.lst_get I hr ru
 have hI:=zsN hi h2 h3
 refine sorted_ints h4 hI (by rw[zsL hI];exact hl) fun out ns' a1 a2 a3=>?_
 obtain⟨e,he⟩:=sortedAll_at s.heap its out
 have en:ns'=zg0 ns:=W.ksm_same (a2.trans (ziL ns).symm) a3 (zkV ns)
 subst en
 have hz:(zg0 ns).length=ns.length:=(ziL ns).length_eq
 refine⟨.ref (s.heap.objs.size+1),upd H (s.heap.objs.size+1) (.lst ((zg0 ns).map V.int)),I.laid (o:=.lst ((zg0 ns).map V.int)) (t':=s.toks) (fun b o e=>sortedAll_old e) (Nat.le_succ _) ⟨?_,out.toList,e,zhM a1,?_⟩,rfl,q _ (I.hok.fresh (Nat.le_succ _))⟩
 ·rw[List.length_map,hz];exact Nat.le_trans (Nat.le_of_lt hl) (by decide)
 ·simpa [seqObj] using he
def zqn (x:D):Res D:=match x with
 | .lst ds=>match zh5 ds with
  | some ns=>if ns.length < 64 then .ok (.lst ((zg0 ns).map D.int)) else .stuck
  | none=>.stuck
 | _=>.stuck
theorem zwQ:zlD X E (zzi X.K) (m1 zqn):=zrZ fun x v H H₀ Q hs r q=>by
 cases x with
 | lst ds =>
  unfold zqn at q
  cases e:zh5 ds with
  | none=>simp only[e] at q;exact q.elim
  | some ns =>
   simp only[e] at q
   by_cases c:ns.length < 64
   ·rw[if_pos c] at q
    obtain⟨p,vs,rfl,h1,h2⟩:=Rep.lst_iff.mp r
    exact⟨p,ds,ns,rfl,r.mono hs,e,c,fun l hl=>q _ _ _ (zbZ.alloc hs hl) (Rep.lst_iff.mpr ⟨l,_,rfl,SqL.of zaB,Reps.ints _⟩)⟩
   ·rw[if_neg c] at q;exact q.elim
 | _=>exact q.elim
def zDe (x:D)(ds:List D):Option Nat:=ds.findIdx? fun d=>eqD d x
def znL (x y:D):Res D:=match x with
 | .lst ds=>if zbE 40 y=true/\ds.all (zbE 40)=true then match zDe y ds with
   | some j=>.ok (.int j)
   | none=>.stuck
  else .stuck
 | _=>.stuck
def zB3 (K:W.Frag):V->List V->Hp->VK->Prop:=fun x vs H Q=>∃ ds y d j,Rep K H (.lst ds) x/\vs=[y]/\Rep K H d y/\zbE 40 d=true/\ds.all (zbE 40)=true/\zDe d ds=some j/\Q (.int j) H
theorem zx7 (hu:X.A.units+64 < cLine):MtR X "list.index" (zB3 X.K):=by
 intro pins s σ H x vs v us Q I rx rv h
 obtain⟨ds,y,d,j,hr,rfl,hd,s1,s2,hj,q⟩:=h
 obtain⟨u,rfl,ru⟩:=rv.one
 obtain⟨a,vs,its,ea,rfl,h1,h2,h3,h4,h5⟩:=Rep.lst_get I hr rx
 subst ea
 obtain⟨its',h3',⟨o,n,e,hc,hdd,hda⟩,hz⟩:=I.list h1
 have ei:its'=its:=by
  obtain⟨o',e',_,n',d'⟩:=h4
  rw[e] at e';cases e'
  rw[hda] at d'
  injection d' with d1 _
  simpa using congrArg Array.toList d1
 subst ei
 unfold zDe at hj
 rw[List.findIdx?_eq_some_iff_getElem] at hj
 obtain⟨hjl,hjt,hjf⟩:=hj
 have at_:∀ m (hm:m < its'.length),zm2 X.K H ds d its'[m]=eqD (ds[m]'(by rw[h5];exact hm)) d:=fun m hm=>by
  obtain⟨v',k1,k2⟩:=h2.get (List.getElem?_eq_getElem (by rw[h5];exact hm:m < ds.length))
  obtain⟨u',k3,k4⟩:=h3.get k1
  rw[List.getElem?_eq_getElem hm] at k3
  cases k3
  exact zoF I s2 (List.getElem_mem _) k2 k4
 have hsm:(j:Int) < 2 ^ 63-1:=by
  have h7:=h2.length
  have:j < sizeLine:=by omega
  have:sizeLine<=2 ^ 60:=by decide
  omega
 obtain⟨oc,od,odt,osl⟩:=o
 replace hc:oc=.type "list":=hc
 replace hda:odt=.seq its'.toArray n:=hda
 subst hc hda
 refine call_meets F.slot_list_index ⟨_,e,rfl⟩ F.entry_list_index (F.args_list_index_2 _ _) (SeqAt.list_indexAt a its'.toArray n od osl u (zm2 X.K H ds d) j (by simp;omega) hsm ?_ ?_) ⟨e,fun w hw=>zf6 I hu s1 hd ru s2 (fun _ z=>z) h2 h3 w (by simpa using hw),.int j,H,I.tok _,⟨_,rfl⟩,q⟩
 ·have:=at_ j (by omega)
  simp only[List.getElem_toArray]
  rw[this];exact hjt
 ·intro m hm hmj
  have:=at_ m (by simpa using hm)
  simp only[List.getElem_toArray]
  rw[this]
  have:=hjf m hmj
  simpa using this
def zoN (fo:Ev->Res D)(fe:Ev->Res D):Ev->Res D:=fun ρ=>(fo ρ).bind fun x=>match x with
 | .lst ds=>(fe ρ).bind fun y=>znL (.lst ds) y
 | _=>.stuck
theorem zyN {apos cpos:Pos}(hu:X.A.units+64 < cLine)(ho:DE X E o fo)(he:DE X E e fe)
  (hbase:attributeBase o "index" X.env (eval o X.env)=eval o X.env:=by rfl)
  (hfew:((backTo cpos (starEach [e] X.env)).all (fun x=>!x.1)&&(backToKw cpos (keywordEach [] X.env)).all (fun x=>x.1.isSome)
  &&decide ([e].length+([]:List Keyword).length+(if([]:List Keyword).isEmpty then 0 else 1) < 30))=true:=by exact zlO rfl)
  (hline:(apos.endLine==cpos.line)=true:=by rfl) (hs:starEach [e] X.env=(false,eval e X.env)::starEach [] X.env:=by exact zaM rfl) (hplain:(backTo cpos (starEach [] X.env)).any (·.1)=false:=by exact zbH rfl) :
  DE X E (.Call (.Attribute o "index" apos) [e] [] cpos) (zoN fo fe):=by
 refine⟨za3 (zx0 PySem.F.plainAttrs_list PySem.F.slot_list_index PySem.F.type_list_index (zx7 hu) ho.o (zdo he.o zhy hs) hbase hfew hline hs hplain) fun σ H Q ⟨H₀,ρ,hs,hr,q⟩=>⟨H₀,ρ,hs,hr,?_⟩⟩
 unfold zoN at q
 cases e1:fo ρ with
 | stuck=>rw[e1] at q;exact q
 | exn x=>rw[e1] at q;exact q
 | ok x =>
  rw[e1] at q
  intro v H1 H01 g1 r1
  cases x with
  | lst ds =>
   replace q:post X.K E H H₀ ((fe ρ).bind fun y=>znL (.lst ds) y) Q:=q
   replace q:=q.grow g1
   refine⟨?_,H01,ρ,g1.sub,hr.mono g1.z,?_⟩
   ·obtain⟨p,vs,rfl,h1,h2⟩:=Rep.lst_iff.mp r1
    exact .inl ⟨rfl,vs,za2.sqL g1.sub h1⟩
   ·cases e2:fe ρ with
    | stuck=>rw[e2] at q;exact q
    | exn x=>rw[e2] at q;exact q
    | ok y =>
     rw[e2] at q
     intro u H2 H02 g2 r2
     replace q:=post.grow (r:=znL (.lst ds) y) q g2
     unfold znL at q
     by_cases c:zbE 40 y=true/\ds.all (zbE 40)=true
     ·simp only[if_pos c] at q
      cases e3:zDe y ds with
      | none=>simp only[e3] at q;exact q.elim
      | some j =>
       simp only[e3] at q
       exact⟨ds,u,y,j,(r1.mono g2.z).mono g2.sub,rfl,r2.mono g2.sub,c.1,c.2,e3,zbA g2.sub q (ri _)⟩
     ·simp only[if_neg c] at q;exact q.elim
  | _=>exact q.elim
end
structure zEN (K:W.Frag) (x:Str) (ks:List Str) (C:Addr):Prop where
 ns:W.nsIn K mainGlobals x=some (some (.ref C))
 recC:zEo K ks C
theorem zvO {K:W.Frag}{C:Addr}:∀ f∈([]:List Str),zgn K C f:=fun _ h=>nomatch h
theorem zjU {K:W.Frag}{C:Addr}{f:Str}{ks:List Str}(h:W.findIn K (.ref C) f=some none)(r:∀ f∈ks,zgn K C f):∀ g∈f::ks,zgn K C g:=fun g hg=>by
 rcases List.mem_cons.mp hg with rfl | hg
 ·exact h
 ·exact r g hg
theorem zAf {K:W.Frag}{x:Str}{ks:List Str}{C:Addr}(ns:W.nsIn K mainGlobals x=some (some (.ref C)))(pg:W.plainGet K C Str.empty=true)(hd:W.hasDictIn K C=true)(po:W.plainOver K C=true)(sa:W.findIn K (.ref C) "__setattr__"=some (some (.builtin "object.__setattr__")))
  (gc:W.findIn K (.ref C) "__class__"=some (some (.builtin "object.__class__")))(gn:W.specialIn K (.builtin "object.__class__") "__get__"=some (some (.builtin "getset_descriptor.__get__")))(tk:W.takesIn K (.builtin "object.__class__")=some true)(mo:W.mroIn K C (.type "object")=some true)
  (t1:W.subIn K (.ref C) (.type "NoneType")=some false)(t2:W.subIn K (.ref C) (.type "bool")=some false)(t3:W.subIn K (.ref C) (.type "int")=some false)(t4:W.subIn K (.ref C) (.type "str")=some false)(t5:W.subIn K (.ref C) (.type "tuple")=some false)
  (t6:W.subIn K (.ref C) (.type "list")=some false)(t7:W.subIn K (.ref C) (.type "dict")=some false)(no:∀ f∈ks,zgn K C f):zEN K x ks C :=
 ⟨ns,⟨⟨pg,hd,po,sa⟩,no,gc,gn,tk,mo,fun T hT=>by
  refine zmp (zjD T hT) ?_
  simp only[zhH,List.mem_cons,List.not_mem_nil,or_false] at hT
  rcases hT with rfl | rfl | rfl | rfl | rfl | rfl | rfl
  ·exact t1
  ·exact t2
  ·exact t3
  ·exact t4
  ·exact t5
  ·exact t6
  ·exact t7⟩⟩
section
variable {X:Cx}{E:XK}{He H0e:Hp}{e:Expr}{es:List Expr}{f:Ev->Res D}{fa:Ev->Res (List D)}{pos:Pos}
def aFr (f:Ev->Res D)(fa:Ev->Res (List D)):Ev->Res (List D):=fun ρ=>(f ρ).bind fun x=>match x with
 | .lst ds=>(fa ρ).bind fun xs=>.ok (.lst ds::xs)
 | _=>.stuck
def zFf:Sl->Bool
 | .ox _ _=>true
 | _=>false
def zFd (i:Nat)(ρ:Ev):Bool:=(ρ.set i .no).all fun s=>!(zFf s)
def zED (i j:Nat)(ρ:Ev)(ds:List D):Res Fl:=match ds[j]? with
 | some (.lst _)=>if ds.length<=line/\zFd i ρ=true then .ok (.nx (ρ.set i (.ox j ds))) else .stuck
 | _=>.stuck
def zDI (i j:Nat)(fa:Ev->Res (List D)):Ev->Res Fl:=fun ρ=>(fa ρ).bind (zED i j ρ)
def zA8 (i j:Nat)(ρ:Ev)(s:Option Sl):Res Fl:=match s with
 | some (.ox j' ds)=>if j'=j then .ok (.nx (ρ.set i (.ox j (ds.set j (.lst []))))) else .stuck
 | _=>.stuck
def zBZ (i j:Nat):Ev->Res Fl:=fun ρ=>zA8 i j ρ ρ[i]?
end
section
variable {X:Cx}{E:XK}{He H0e:Hp}{st:Stmt}{rest:List Stmt}{e:Expr}{es:List Expr}{f:Ev->Res D}{fa:Ev->Res (List D)}{s t:Ev->Res Fl}{pos:Pos}
end
section
variable {X:Cx}{E:XK}{He H0e:Hp}{e:Expr}{es:List Expr}{f:Ev->Res D}{fa:Ev->Res (List D)}{pos:Pos}
end
section
variable {X:Cx}{E:XK}{He H0e:Hp}{e a b:Expr}{es:List Expr}{f g:Ev->Res D}{fa:Ev->Res (List D)}{pos:Pos}
def zup (x y:D):Res D:=match x,y with
 | .lst ds,.lst es=>if ds.length+es.length<=line then .ok (.lst (ds++es)) else .stuck
 | _,_=>.stuck
theorem zzx (ha:DE X E a f)(hb:DE X E b g):DF X E (.BinOp a .Add b pos) (zab f g zup):=by
 refine⟨?_⟩
 refine za3 (zAs zvC ha.o hb.o) fun σ H Q ⟨H₀,ρ,hs,hr,q⟩=>⟨H₀,ρ,hs,hr,?_⟩
 unfold zab at q
 cases e1:f ρ with
 | stuck=>rw[e1] at q;exact q
 | exn x=>rw[e1] at q;exact q
 | ok x =>
  rw[e1] at q
  intro v H1 H01 g1 r1
  refine⟨H01,ρ,g1.sub,hr.mono g1.z,?_⟩
  cases e2:g ρ with
  | stuck=>simp only[Res.bind,e2] at q
  | exn y=>simp only[Res.bind,e2] at q;exact fun C ox H' H₀' g' ex=>q C ox H' H₀' (g1.trans g') ex
  | ok y =>
   simp only[Res.bind,e2] at q
   intro u H2 H02 g2 r2
   cases x with
   | lst ds =>
    cases y with
    | lst es =>
     by_cases h:ds.length+es.length<=line
     ·simp only[zup,if_pos h] at q
      obtain⟨l,vs,rfl,h1,h2⟩:=Rep.lst_iff.mp (r1.mono g2.z)
      obtain⟨m,us,rfl,k1,k2⟩:=Rep.lst_iff.mp r2
      refine⟨l,m,vs,us,rfl,rfl,za2.sqL g2.sub h1,za2.sqL g2.sub k1,by rw[← h2.length,← k2.length];exact zeK h,fun p hp=>?_⟩
      have sm:za2 H2 (upd H2 p (.lst (vs++us))):=fun b o eb=>by rw[zaE (by intro z;subst z;rw[hp] at eb;cases eb)];exact eb
      refine q p (vs++us) _ H02 ⟨(g1.s.trans g2.s).trans sm,g1.z.trans g2.z,g2.sub.trans sm,(g1.trans g2).nw⟩ ((g1.s.trans g2.s).free hp) ?_ zaB (h2.app k2)
      cases qq:H02 p with
      | none=>rfl
      | some o=>have:=g2.sub _ _ qq;rw[hp] at this;cases this
     ·simp only[zup,if_neg h] at q
    | _=>simp only[zup] at q
   | _=>simp only[zup] at q
end
theorem PT.nox {X:Cx}{e:Expr}{t:TT}(h:PT X.nox e t):PT X e t:=fun pins s σ H Q I hw =>
 wpAny_mono (h pins s σ H Q (I.wish _) hw) (fun _ _ ⟨H',I',q⟩=>⟨H',I'.unwish,q⟩) fun _ _ z=>False.elim z
section
variable {X:Cx}{c e:Expr}{es:List Expr}{fc:Ev->Res D}{fa:Ev->Res (List D)}{ga gb:Ev->Res Fl}{sa sb:Stmt}{pos:Pos}
def zq7 (fc:Ev->Res D)(ga gb:Ev->Res Fl):Ev->Res Fl:=fun ρ=>match fc (shr ρ) with
 | .ok (.bl b)=>if b=true then ga ρ else gb ρ
 | _=>.stuck
theorem zz0 (hc:DT X.nox E0 c fc)(ha:TB X sa ga)(hb:TB X sb gb):TB X (.If c [sa] [sb] pos) (zq7 fc ga gb):=by
 refine⟨fun pins s σ H He H0e H₀ ρ D XE I h q hx=>?_⟩
 have hc':=PT.nox (X:=X.wish XE) hc.o
 cases e1:fc (shr ρ) with
 | stuck =>
  have e2:zq7 fc ga gb ρ=.stuck:=by unfold zq7;rw[e1]
  rw[e2] at q;exact q.elim
 | exn x =>
  have e2:zq7 fc ga gb ρ=.stuck:=by unfold zq7;rw[e1]
  rw[e2] at q;exact q.elim
 | ok d =>
  cases d with
  | bl b =>
   have e2:zq7 fc ga gb ρ=if b=true then ga ρ else gb ρ:=by unfold zq7;rw[e1]
   rw[e2] at q hx
   refine wpAny_If (thn (hc' pins s σ H (fun b' H1=>b'=b/\za2 H H1) (I.wish XE) ⟨frz He H₀ H,shr ρ,h.frz_le,h.looks,?_⟩) fun d s1 ⟨H1,I1,eb,hs⟩=>?_)
   ·rw[e1];exact fun H' J g=>⟨rfl,g.s⟩
   ·subst eb
    cases d with
    | true =>
     rw[if_pos rfl] at q hx
     refine wpAny_execs_cons (thn (ha.o pins s1 σ H1 He H0e H₀ ρ D XE I1.unwish (h.same hs) q hx) fun f s2 hf=>?_)
     cases f with
     | next=>exact wpAny_execs_nil hf
     | brk=>exact hf
     | cont=>exact hf
     | ret u=>exact hf
    | false =>
     rw[if_neg Bool.false_ne_true] at q hx
     refine wpAny_execs_cons (thn (hb.o pins s1 σ H1 He H0e H₀ ρ D XE I1.unwish (h.same hs) q hx) fun f s2 hf=>?_)
     cases f with
     | next=>exact wpAny_execs_nil hf
     | brk=>exact hf
     | cont=>exact hf
     | ret u=>exact hf
  | _ =>
   have e2:zq7 fc ga gb ρ=.stuck:=by unfold zq7;rw[e1]
   rw[e2] at q;exact q.elim
end
section
variable {X:Cx}{E:XK}{e a b o:Expr}{es:List Expr}{fe fo:Ev->Res D}{fa:Ev->Res (List D)}{pos:Pos}
def zsW (x y:D):Res D:=match x with
 | .lst ds=>if zbE 40 y=true/\ds.all (zbE 40)=true then .ok (.int (ds.countP fun d=>eqD d y:Nat)) else .stuck
 | _=>.stuck
theorem zqr {α β:Type}{p:α->Bool}{q:β->Bool}:∀ {l:List α}{m:List β},l.length=m.length->(∀ (i:Nat) (h:i < l.length) (h':i < m.length),p l[i]=q m[i])->l.countP p=m.countP q
 | [],[],_,_=>rfl
 | a::l,b::m,hl,h=>by
  rw[List.countP_cons,List.countP_cons,zqr (l:=l) (m:=m) (by simpa using hl) (fun i h1 h2=>h (i+1) (by simpa using h1) (by simpa using h2))]
  have:=h 0 (by simp) (by simp)
  simp only[List.getElem_cons_zero] at this
  rw[this]
def zB5 (K:W.Frag):V->List V->Hp->VK->Prop:=fun x vs H Q=>∃ ds y d,Rep K H (.lst ds) x/\vs=[y]/\Rep K H d y/\zbE 40 d=true/\ds.all (zbE 40)=true/\Q (.int (ds.countP fun x=>eqD x d:Nat)) H
theorem zx8 (hu:X.A.units+64 < cLine):MtR X "list.count" (zB5 X.K):=by
 intro pins s σ H x vs v us Q I rx rv h
 obtain⟨ds,y,d,hr,rfl,hd,s1,s2,q⟩:=h
 obtain⟨u,rfl,ru⟩:=rv.one
 obtain⟨a,vs,its,ea,rfl,h1,h2,h3,h4,h5⟩:=Rep.lst_get I hr rx
 subst ea
 obtain⟨its',h3',⟨o,n,e,hc,hdd,hda⟩,hz⟩:=I.list h1
 have ei:its'=its:=by
  obtain⟨o',e',_,n',d'⟩:=h4
  rw[e] at e';cases e'
  rw[hda] at d'
  injection d' with d1 _
  simpa using congrArg Array.toList d1
 subst ei
 have at_:∀ m (hm:m < its'.length),zm2 X.K H ds d its'[m]=eqD (ds[m]'(by rw[h5];exact hm)) d:=fun m hm=>by
  obtain⟨v',k1,k2⟩:=h2.get (List.getElem?_eq_getElem (by rw[h5];exact hm:m < ds.length))
  obtain⟨u',k3,k4⟩:=h3.get k1
  rw[List.getElem?_eq_getElem hm] at k3
  cases k3
  exact zoF I s2 (List.getElem_mem _) k2 k4
 obtain⟨oc,od,odt,osl⟩:=o
 replace hc:oc=.type "list":=hc
 replace hda:odt=.seq its'.toArray n:=hda
 subst hc hda
 have hcnt:its'.toArray.toList.countP (zm2 X.K H ds d)=ds.countP fun x=>eqD x d:=by
  rw[List.toList_toArray]
  exact zqr h5.symm fun i h h'=>at_ i h
 refine call_meets F.slot_list_count ⟨_,e,rfl⟩ F.entry_list_count (F.args_list_count_2 _ _) (SeqAt.list_countAt a its'.toArray n od osl u (zm2 X.K H ds d)) ⟨e,fun w hw=>zf6 I hu s1 hd ru s2 (fun _ z=>z) h2 h3 w (by simpa using hw),.int (its'.toArray.toList.countP (zm2 X.K H ds d):Nat),H,I.tok _,⟨_,rfl⟩,by rw[hcnt];exact q⟩
def zrW (fo:Ev->Res D)(fe:Ev->Res D):Ev->Res D:=fun ρ=>(fo ρ).bind fun x=>match x with
 | .lst ds=>(fe ρ).bind fun y=>zsW (.lst ds) y
 | _=>.stuck
theorem zyP {apos cpos:Pos}(hu:X.A.units+64 < cLine)(ho:DE X E o fo)(he:DE X E e fe)
  (hbase:attributeBase o "count" X.env (eval o X.env)=eval o X.env:=by rfl)
  (hfew:((backTo cpos (starEach [e] X.env)).all (fun x=>!x.1)&&(backToKw cpos (keywordEach [] X.env)).all (fun x=>x.1.isSome)
  &&decide ([e].length+([]:List Keyword).length+(if([]:List Keyword).isEmpty then 0 else 1) < 30))=true:=by exact zlO rfl)
  (hline:(apos.endLine==cpos.line)=true:=by rfl) (hs:starEach [e] X.env=(false,eval e X.env)::starEach [] X.env:=by exact zaM rfl) (hplain:(backTo cpos (starEach [] X.env)).any (·.1)=false:=by exact zbH rfl) :
  DE X E (.Call (.Attribute o "count" apos) [e] [] cpos) (zrW fo fe):=by
 refine⟨za3 (zx0 PySem.F.plainAttrs_list PySem.F.slot_list_count PySem.F.type_list_count (zx8 hu) ho.o (zdo he.o zhy hs) hbase hfew hline hs hplain) fun σ H Q ⟨H₀,ρ,hs,hr,q⟩=>⟨H₀,ρ,hs,hr,?_⟩⟩
 unfold zrW at q
 cases e1:fo ρ with
 | stuck=>rw[e1] at q;exact q
 | exn x=>rw[e1] at q;exact q
 | ok x =>
  rw[e1] at q
  intro v H1 H01 g1 r1
  cases x with
  | lst ds =>
   replace q:post X.K E H H₀ ((fe ρ).bind fun y=>zsW (.lst ds) y) Q:=q
   replace q:=q.grow g1
   refine⟨?_,H01,ρ,g1.sub,hr.mono g1.z,?_⟩
   ·obtain⟨p,vs,rfl,h1,h2⟩:=Rep.lst_iff.mp r1
    exact .inl ⟨rfl,vs,za2.sqL g1.sub h1⟩
   ·cases e2:fe ρ with
    | stuck=>rw[e2] at q;exact q
    | exn x=>rw[e2] at q;exact q
    | ok y =>
     rw[e2] at q
     intro u H2 H02 g2 r2
     replace q:=post.grow (r:=zsW (.lst ds) y) q g2
     unfold zsW at q
     by_cases c:zbE 40 y=true/\ds.all (zbE 40)=true
     ·simp only[if_pos c] at q
      exact⟨ds,u,y,(r1.mono g2.z).mono g2.sub,rfl,r2.mono g2.sub,c.1,c.2,zbA g2.sub q (ri _)⟩
     ·simp only[if_neg c] at q;exact q.elim
  | _=>exact q.elim
end
section
variable {prog:Program}{w:World}{A:Around}{E:Value->Shared->Prop}{h:Heap}{g:Array GenState}{d:Drawn}{t:Nat}{os:OsState}
variable {nm q:Str}{C N:Addr}{bs bm bmB:List Value}{hdct:Bool}{sn:List Str}{sub:List Value}{ab:Bool}{col:Option Bool}{dd:Option Addr}{k0 k1 k2 k3 k5:Option Value}{B newId initId:String}{mN:Str->Option Value}{rest:List Value}{fI:Addr}{oI:Obj}
theorem zzO {Q:Fin->Shared->Prop}(F:ExcBaseFacts B newId initId bmB)(T:OwnTail h bmB bm)(hC:h.get? C=some (excClassObj nm q C N bs bm hdct sn sub ab col dd k0 k1 k2 k3 k5 newId))(hn:h.Ns N mN)(hi:mN "__init__"=some (.ref fI))(hfI:h.get? fI=some oI)(hfc:oI.cls=.type "function")(hrest:rest.length<=sizeLine)
  (hq:∀ h' e,Heap.MadeExcOf h h' e (.ref C) rest->wpAny (model prog w) A (call (.ref fI) (.ref e::rest)) (fun r s'=>r=.none/\Q (.done (.ret (.ref e))) s') E ⟨h',g,d,t,os⟩):wpAny (model prog w) A (Builtin.«type.__call__» ⟨.ref C::rest,[]⟩) Q E ⟨h,g,d,t,os⟩:=by
 repeat (first | with_reducible refine wpAny_loadPart_at hC ?_ | with_reducible refine wpAny_madeBy_exc hC ?_ | wp_step)
 refine codeAny_call_builtin_code (Code.quiet_builtin _ F.quiet) (wpAny_check_new_subT F T hC (codeAny_exc_new_subT F T hC ?_ hrest))
 generalize hT0:({ cls:=.type "tuple",data:=.seq rest.toArray }:Obj)=o0
 generalize hX0:({ cls:=.ref C,data:=.fields #[.ref h.objs.size,.none,.none,.none,.bool false,.none] }:Obj)=o1
 have kp:∀ b o,h.get? b=some o->((h.push o0).push o1).get? b=some o:=fun b o hb=>Heap.get?_push_of_some o1 (Heap.get?_push_of_some o0 hb)
 have hget:((h.push o0).push o1).get? (h.objs.size+1)=some o1:=by subst hX0 hT0;heap_get
 have hc1:o1.cls=.ref C:=by subst hX0;rfl
 have hcC:(Value.ref C::bm).contains (.ref C)=true:=by simp
 show wpAny _ _ _ _ _ _
 unfold isInstance
 repeat (first | (with_reducible refine wpAny_loadPart_at hget ?_;try rw[hc1]) | (with_reducible refine wpAny_isSubtype_exc (kp _ _ hC) ?_;rw[hcC]) | wp_step)
 show wpAny _ _ (typeLookup (.ref C) _) _ _ _
 refine wpAny_typeLookup_tail (kp _ _ hC) (hn.keeps kp) (T.keeps kp) F.mroIs F.init.lookup ?_
 rw[hi]
 refine wpAny_holding (wpAny_bind (show wpAny _ _ (bindSpecial _ _) _ _ _ from ?_))
 unfold bindSpecial
 refine wpAny_bind (wpAny_typeOf (T:="function") ⟨_,kp _ _ hfI,hfc⟩ ?_);rw[if_pos (by decide)]
 refine wpAny_pure (wpAny_bind (wpAny_mono (hq _ (h.objs.size+1) ⟨kp,Heap.get?_none_of_le (Nat.le_succ _),h.objs.size,by rw[hX0];exact hget,Heap.get?_none_of_le (Nat.le_refl _),?_⟩) (fun r s' hr=>?_) fun _ _ x=>x))
 ·subst hT0;exact Heap.get?_push_of_some _ (Heap.get?_push_at rfl rfl)
 ·obtain⟨rfl,hQ⟩:=hr
  wp_walk
  exact hQ
theorem zzR {Q:Value->Shared->Prop}(F:ExcBaseFacts B newId initId bmB)(T:OwnTail h bmB bm)(hC:h.get? C=some (excClassObj nm q C N bs bm hdct sn sub ab col dd k0 k1 k2 k3 k5 newId))(hn:h.Ns N mN)(hi:mN "__init__"=some (.ref fI))(hfI:h.get? fI=some oI)(hfc:oI.cls=.type "function")(hrest:rest.length<=sizeLine)
  (hq:∀ h' e,Heap.MadeExcOf h h' e (.ref C) rest->wpAny (model prog w) (A.under (.builtin "type.__call__" ⟨.ref C::rest,[]⟩)) (call (.ref fI) (.ref e::rest)) (fun r s'=>r=.none/\Q (.ref e) s') E ⟨h',g,d,t,os⟩):wpAny (model prog w) A (call (.ref C) rest) Q E ⟨h,g,d,t,os⟩:=by
 have f1:=tc_lookup;have f2:=tc_bind (.ref C)
 have hT:(⟨h,g,d,t,os⟩:Shared).TypeIs (.ref C) "type":=⟨_,hC,rfl⟩
 refine wpAny_call (codeAny_of_tree (show wpAny _ _ (callAny (.ref C) _) _ _ _ from ?_))
 repeat (any_goals (first | assumption | with_reducible refine wpAny_loadPart_at hC ?_ | wp_step))
 exact⟨rfl,codeAny_call_builtin_at (Code.quiet_builtin _ (by decide +kernel)) entry_typeCall (wpAny_check_type_call_sub hC (zzO F T hC hn hi hfI hfc hrest fun h' e hm=>hq h' e hm))⟩
end
section
variable {M:Model}{A:Around}{E:Value->Shared->Prop}{env:PySem.Env}
variable {nm q:Str}{C N:Addr}{bs bm:List Value}{hdct:Bool}{sn:List Str}{sub:List Value}{ab:Bool}{col:Option Bool}{dd:Option Addr}{k0 k1 k2 k3 k5:Option Value}{newId:String}
theorem zxb {s:Shared}{x:Sem Value}{Q:Flow->Shared->Prop}(hbase:bm.contains (.type "BaseException")=true)(hh:A.handled=none)
  (h:wpAny M A x (fun v s₁=>∃ e dc t,v=.ref e/\s₁.heap.get? C=some (excClassObj nm q C N bs bm hdct sn sub ab col dd k0 k1 k2 k3 k5 newId)/\s₁.heap.get? e=some ⟨.ref C,dc,.fields #[.ref t,.none,.none,.none,.bool false,.none],#[]⟩/\E (.ref e) s₁) E s):wpAny M A (raiseStmt env (some x) none) Q E s:=by
 have hcB:(Value.ref C::bm).contains (.type "BaseException")=true:=by rw[List.contains_cons,hbase,Bool.or_true]
 unfold raiseStmt
 refine wpAny_bind (wpAny_mono h (fun v s₁ ⟨e,dc,t,hv,hC,he,hE⟩=>?_) fun _ _ x=>x)
 subst hv
 obtain⟨hp,g,d,tk,os⟩:=s₁
 repeat (first | with_reducible refine wpAny_loadPart_at he ?_ | with_reducible refine wpAny_loadPart_at hC ?_ | (with_reducible refine wpAny_isSubtype_exc hC ?_;rw[hcB]) | wp_step)
 exact wpAny_raiseNew_none hh hE
end
def zkU:List Value->Bool
 | .ref _::r=>zkU r
 | l=>l==[.type "ValueError",.type "Exception",.type "BaseException",.type "object"]
theorem zpG (self:Value):∀ {l:List Value},zkU l=true->refuseLoop self "__setattr__" l=pure ()
 | [],e=>by cases e
 | x::r,e=>by
  cases x with
  | ref c=>rw[refuseLoop_ref];exact zpG self (l:=r) (by unfold zkU at e;exact e)
  | _=>unfold zkU at e;rw[beq_iff_eq.mp e];exact PySem.F.store_ValueError.passes self
theorem zza:∀ {l:List Value},zkU l=true->l.contains (.type "object")=true
 | [],e=>by cases e
 | x::r,e=>by
  cases x with
  | ref c=>rw[List.contains_cons,zza (l:=r) (by unfold zkU at e;exact e),Bool.or_true]
  | _=>unfold zkU at e;rw[beq_iff_eq.mp e];decide
structure XSt (K:W.Frag) (C:Addr) (ks:List Str):Prop where
 sa:W.findIn K (.ref C) "__setattr__"=some (some (.builtin "object.__setattr__"))
 hd:W.hasDictIn K C=true
 mr:(W.clsIn K C).any (fun cd=>zkU cd.mro)=true
 no:∀ f∈ks,zgn K C f
section
variable {prog:Program}{w:World}{A:Around}{K:W.Frag}{C x:Addr}{s:Shared}{R:Result->Shared->Prop}
theorem zuC {ox:Obj}{od:Option Obj}{name:Str}{tk:Tok}{v:Value}{ks:List Str}(X:K.In s.heap)(I:W.InstAt s.heap x ox C od)(c:XSt K C ks)(hf:name∈ks)
  (h:∀ b,wpAny (model prog w) A.in1 (Builtin.ObjectAttr.storeInOwnDict (.ref x) (.ref C) (.str name tk) name v b) (fun fin s'=>match fin with | .done f=>R (.ok f) s' | .again c'=>c'.quiet=true/\codeAny (model prog w) A c' R s') (fun e s'=>R (.error e) s') s) :
  codeAny (model prog w) A (.call (.builtin "object.__setattr__") ⟨[.ref x,.str name tk,v],[]⟩) R s:=by
 have SF:=PySem.F.store_object
 obtain⟨cd,hc,ho⟩:=W.any_some c.mr
 have ne:cd.mro.isEmpty=false:=by cases q:cd.mro with | nil=>rw[q] at ho;cases ho | cons _ _=>rfl
 have sub:W.Looks (model prog w) s.heap (isInstance (.ref x) (.type "object")) true:=I.type.andThen (W.looks_mroIn X (by unfold W.mroIn;rw[hc,Option.bind_some,if_neg (by rw[ne];decide),zza ho]))
 refine codeAny_call_builtin SF.slot.plain SF.entry (@W.check_slot (model prog w) _ _ s "object.__setattr__" "object" "__setattr__" (.ref x) [.str name tk,v] [] _ SF.kind SF.split sub (SF.args (.ref x) (.str name tk) v) ?_)
 have hm:W.Looks (model prog w) s.heap (mroOf (.ref C)) cd.mro:=(W.looks_clsIn X hc).andThen .now
 rw[W.osa_eq,refuse_eq]
 refine wpAny_bind (wpAny_bind (I.type.here (wpAny_bind (hm.here ?_))));rw[zpG _ ho];refine wpAny_pure ?_
 have L3:W.Looks (model prog w) s.heap (Builtin.ObjectAttr.storeTaker? none) none:=.now
 have L2:W.Looks (model prog w) s.heap (typeLookup (.ref C) name) none:=W.looks_findIn X (c.no name hf)
 refine wpAny_bind (I.type.here (wpAny_bind (L2.here (wpAny_bind (L3.here ?_)))))
 exact h _
theorem zzQ {E:Value->Shared->Prop}{Q:Unit->Shared->Prop}{name:Str}{v:Value}{ks:List Str}{fs:Array Value}(X:K.In s.heap)(hx:s.heap.get? x=some ⟨.ref C,none,.fields fs,#[]⟩)(c:XSt K C ks)(hf:name∈ks)
  (h:∀ h',h'.get? x=some ⟨.ref C,some s.heap.objs.size,.fields fs,#[]⟩->h'.Ns1 s.heap.objs.size (fun y=>if y=name then some v else none)->(∀ b o,b≠x->s.heap.get? b=some o->h'.get? b=some o)->Q () { s with heap:=h',toks:=s.toks+2 }) :
  wpAny (model prog w) A (setAttr (.ref x) name v) Q E s:=by
 have J:W.InstAt s.heap x ⟨.ref C,none,.fields fs,#[]⟩ C none:=⟨hx,rfl,rfl,trivial⟩
 refine W.set_plain X J c.sa (zuC (s:={ s with toks:=s.toks+1 }) X J c hf fun b=>?_)
 obtain⟨cd,hc,hd'⟩:=W.any_some c.hd
 refine wpAny_bind (wpAny_pure (wpAny_bind (wpAny_bind (wpAny_loadPart hx (wpAny_bind (W.Looks.here (s:={ s with toks:=s.toks+1 }) (W.looks_clsIn X hc) ?_))))))
 rw[hd']
 have hx₁:(s.heap.push W.emptyDict).get? x=some ⟨.ref C,none,.fields fs,#[]⟩:=Heap.get?_push_of_some _ hx
 have hxs:x≠s.heap.objs.size:=Nat.ne_of_lt (Heap.lt_size hx)
 have hgd:((s.heap.push W.emptyDict).update x fun o=>{ o with dict:=some s.heap.objs.size }).get? s.heap.objs.size=some W.emptyDict:=(Heap.get?_update_ne _ _ _ _ hxs.symm).trans (Heap.get?_push_at rfl rfl)
 have hnd:((s.heap.push W.emptyDict).update x fun o=>{ o with dict:=some s.heap.objs.size }).Ns s.heap.objs.size (fun _=>none):=⟨_,#[],_,hgd,rfl,fun e he=>absurd he (by simp),fun _=>rfl⟩
 have hx2:((s.heap.push W.emptyDict).update x fun o=>{ o with dict:=some s.heap.objs.size }).get? x=some ⟨.ref C,some s.heap.objs.size,.fields fs,#[]⟩:=Heap.get?_update_self _ hx₁ rfl
 refine wpAny_bind (wpAny_alloc' (wpAny_bind (wpAny_update' hx₁ (wpAny_pure ?_))))
 refine wpAny_bind (wpAny_pure (wpAny_bind (wpAny_nsSet1 (Heap.Ns1.of_empty hnd) fun h' hn' hs=>?_)))
 obtain⟨oD,esD,epD,hoD,hdD,hcD⟩:=hn'.count (PySem.Within.cons name v PySem.Within.nil)
 refine wpAny_bind (wpAny_lookBehind hoD (by rw[hdD];exact pastItsLine_dict (Nat.le_trans hcD (by rw[List.length_cons,List.length_nil,sizeLine_eq];omega))) (wpAny_pure (h h' ?_ hn' fun b o hb e=>?_)))
 ·exact(hs.2 x hxs).trans hx2
 ·exact(hs.2 b (Nat.ne_of_lt (Heap.lt_size e))).trans ((Heap.get?_update_ne _ _ _ _ hb).trans (Heap.get?_push_of_some _ e))
theorem zzP {E:Value->Shared->Prop}{Q:Unit->Shared->Prop}{name:Str}{v:Value}{ks ns:List Str}{fs:Array Value}{dx:Addr}{mA:Str->Option Value}(X:K.In s.heap)(hx:s.heap.get? x=some ⟨.ref C,some dx,.fields fs,#[]⟩)(hn:s.heap.Ns1 dx mA)(hne:dx≠x)(hw:PySem.Within mA ns)(hsz:ns.length<=sizeLine)(c:XSt K C ks)(hf:name∈ks)
  (h:∀ h',h'.Ns1 dx (fun y=>if y=name then some v else mA y)->Heap.SameBut dx s.heap h'->Q () { s with heap:=h',toks:=s.toks+2 }):wpAny (model prog w) A (setAttr (.ref x) name v) Q E s:=by
 obtain⟨od,hod,hl⟩:=zpR hn
 have J:W.InstAt s.heap x ⟨.ref C,some dx,.fields fs,#[]⟩ C (some od):=⟨hx,rfl,rfl,hod⟩
 refine W.set_plain X J c.sa (zuC (s:={ s with toks:=s.toks+1 }) X J c hf fun b=>?_)
 obtain⟨cd,hc,hd'⟩:=W.any_some c.hd
 refine wpAny_bind (wpAny_pure (wpAny_bind (wpAny_bind (wpAny_loadPart hx (wpAny_bind (W.Looks.here (s:={ s with toks:=s.toks+1 }) (W.looks_clsIn X hc) ?_))))))
 rw[hd']
 refine wpAny_pure (a:=some dx) (wpAny_bind (wpAny_pure (wpAny_bind (wpAny_nsSet1 (s:={ s with toks:=s.toks+1 }) hn fun h' hn2 hs2=>?_))))
 obtain⟨oD,esD,epD,hoD,hdD,hcD⟩:=hn2.count (PySem.Within.cons name v hw)
 exact wpAny_bind (wpAny_lookBehind hoD (by rw[hdD];exact pastItsLine_dict (Nat.le_trans hcD (by rw[List.length_cons];omega))) (wpAny_pure (h _ hn2 hs2)))
end
def ExN (a C:Addr)(dc:Option Addr)(h:Heap):Prop:=∃ t,h.get? a=some ⟨.ref C,dc,.fields #[.ref t,.none,.none,.none,.bool false,.none],#[]⟩
def XDs (a:Addr)(fs:List (Str×V))(h:Heap):Prop:=∃ mA,h.Ns1 a mA/\(∀ f,zy4 (fs.lookup f) (mA f))/\PySem.Within mA (fs.map (·.1))
theorem zoD {a C:Addr}{dc:Option Addr}:∀ h1 h2:Heap,ExN a C dc h1->(∀ o,h1.get? a=some o->h2.get? a=some o)->ExN a C dc h2:=fun _ _ ⟨t,e⟩ k=>⟨t,k _ e⟩
theorem zsd {a:Addr}{fs:List (Str×V)}:∀ h1 h2:Heap,XDs a fs h1->(∀ o,h1.get? a=some o->h2.get? a=some o)->XDs a fs h2:=fun _ _ ⟨m,n,r⟩ k=>⟨m,n.at k,r⟩
theorem zlW {a:Addr}{fs:List (Str×V)}{h:Heap}(x:XDs a fs h):∃ o,h.get? a=some o:=let ⟨_,⟨o,_,_,e,_⟩,_⟩:=x;⟨o,e⟩
theorem znW {a:Addr}{fs:List (Str×V)}{h:Heap}{mA:Str->Option Value}{f:Str}{y:V}{u:Value}(ry:zcN y u)(r:∀ f,zy4 (fs.lookup f) (mA f))(wi:PySem.Within mA (fs.map (·.1)))(n:h.Ns1 a (fun z=>if z=f then some u else mA z)):XDs a (zlu f y fs) h:=by
 refine⟨_,n,fun g=>?_,fun g hg=>?_⟩
 ·rw[zjz]
  by_cases q:g=f
  ·rw[if_pos q];simp only[if_pos q];exact ry
  ·rw[if_neg q];simp only[if_neg q];exact r g
 ·by_cases q:g=f
  ·rw[q];exact(zh2 f y fs).1
  ·exact(zh2 f y fs).2 g (wi g fun z=>hg (by simp only[if_neg q];exact z))
section
variable {X:Cx}{o value:Expr}{f:Str}{pos pos':Pos}{ta tv:TE}
def sX2 (K:W.Frag)(ta tv:TE)(f:Str):TS:=fun D σ H=>tv σ H fun y H1=>ta σ H1 fun x H2=>∃ a C dx l ks,x=.ref a/\H2 a=some (.ext (ExN a C (some dx)))/\H2 dx=some (.ext (XDs dx l))/\dx≠a/\XSt K C ks/\f∈ks/\l.length < 1000/\D.nx σ (upd H2 dx (.ext (XDs dx (zlu f y l))))
def sX1 (K:W.Frag)(ta tv:TE)(f:Str):TS:=fun D σ H=>tv σ H fun y H1=>ta σ H1 fun x H2=>∃ a C ks,x=.ref a/\H2 a=some (.ext (ExN a C none))/\XSt K C ks/\f∈ks/\∀ dx,H2 dx=none->D.nx σ (upd (upd H2 a (.ext (ExN a C (some dx)))) dx (.ext (XDs dx [(f,y)])))
theorem zDP (ha:PE X o ta)(hv:PE X value tv)(hs:swapsWith value (some (.Attribute o f pos')) pos.line X.env=pure false):PS X (.Assign [.Attribute o f pos'] value pos) (sX2 X.K ta tv f):=by
 intro pins s σ H D I h
 refine plainObj_wpAny_Assign_Attribute (thn (hv pins s σ H _ I h) fun u s1 ⟨y,H1,I1,ry,q⟩=>thn (ha pins s1 σ H1 _ I1 q) fun ov s2 ⟨x,H2,I2,rx,a,C,dx,l,ks,ex,ea,ed,hne,c,hf,hl,q2⟩=>?_) hs
 subst ex
 obtain rfl:ov=Value.ref a:=rx
 obtain⟨⟨t,hx⟩,_,_⟩:=(show zdg X.prog X.w H2 s2.heap a (.ext _) from I2.hok a _ ea)
 obtain⟨⟨mA,n,r,wi⟩,_,_⟩:=(show zdg X.prog X.w H2 s2.heap dx (.ext _) from I2.hok dx _ ed)
 refine zzP I2.kIn hx n hne wi (by rw[List.length_map,sizeLine_eq];omega) c hf fun h' n' sb=>⟨σ,_,I2.write (o:=.ext (XDs dx (zlu f y l))) (x:=dx) (e:=dx) (by rw[ed];exact True.intro) (.inl rfl) (fun b q hb z=>(sb.2 b hb).trans z) (zlW (znW ry r wi n')) ⟨znW ry r wi n',zlW (znW ry r wi n'),zsd⟩,q2⟩
theorem zDQ (ha:PE X o ta)(hv:PE X value tv)(hs:swapsWith value (some (.Attribute o f pos')) pos.line X.env=pure false):PS X (.Assign [.Attribute o f pos'] value pos) (sX1 X.K ta tv f):=by
 intro pins s σ H D I h
 refine plainObj_wpAny_Assign_Attribute (thn (hv pins s σ H _ I h) fun u s1 ⟨y,H1,I1,ry,q⟩=>thn (ha pins s1 σ H1 _ I1 q) fun ov s2 ⟨x,H2,I2,rx,a,C,ks,ex,ea,c,hf,q2⟩=>?_) hs
 subst ex
 obtain rfl:ov=Value.ref a:=rx
 obtain⟨⟨t,hx⟩,_,_⟩:=(show zdg X.prog X.w H2 s2.heap a (.ext _) from I2.hok a _ ea)
 have fr:H2 s2.heap.objs.size=none:=I2.hok.fresh (Nat.le_refl _)
 have hne:s2.heap.objs.size≠a:=fun z=>Nat.lt_irrefl _ (z▸Heap.lt_size hx)
 refine zzQ I2.kIn hx c hf fun h' e' n' k'=>⟨σ,_,?_,q2 s2.heap.objs.size fr⟩
 have p:XDs s2.heap.objs.size [(f,y)] h':=znW (fs:=[]) (mA:=fun _=>none) ry (fun _=>True.intro) (fun _ z=>absurd rfl z) n'
 have mu:Mut (H2 a):=by rw[ea];exact True.intro
 have fr':(upd H2 a (.ext (ExN a C (some s2.heap.objs.size)))) s2.heap.objs.size=none:=by rw[zaE hne];exact fr
 exact I2.un (Un.ext (Un.write mu (.inl rfl) (fun b q hb z=>k' b q hb z) ⟨_,e'⟩) fr' (Heap.get?_none_of_le (Nat.le_refl _))) (HOk.ext (I2.hok.write (o':=.ext (ExN a C (some s2.heap.objs.size))) mu (.inl rfl) (fun b q hb z=>k' b q hb z) ⟨_,e'⟩ ⟨⟨t,e'⟩,⟨_,e'⟩,zoD⟩) fr' p (zlW p) zsd)
end
def zDr (is:List Nat):TA:=fun σ H Q=>∃ vs,is.map (fun i=>σ[i]?)=vs.map (fun v=>some (some v))/\Q vs H
structure PV (X:Cx) (es:List Expr) (is:List Nat):Prop where
 o:PA X es (zDr is)
section
variable {X:Cx}
theorem zB8:PV X [] []:=⟨fun pos pins s σ H Q I ⟨vs,e,h⟩=>by
 cases vs with
 | nil=>exact zhy pos pins s σ H Q I h
 | cons v vs=>simp at e⟩
theorem zq9 {es:List Expr}{is:List Nat}{i:Nat}{y:Str}{p:Pos}(hN:X.N[i]?=some y)(hv:Vis X.env.scope y)(h:PV X es is)(hd:(y==("__debug__" : Str))=false:=by decide)(hcd:(y==("__classdict__" : Str))=false:=by decide):PV X (.Name y p::es) (i::is) :=
 ⟨fun pos pins s σ H Q I ⟨vs,e,q⟩=>by
  cases vs with
  | nil=>simp at e
  | cons v vs =>
   simp only[List.map_cons,List.cons.injEq] at e
   exact zdo (zjl hN hv hd hcd) h.o (zaM rfl) pos pins s σ H Q I ⟨v,e.1,vs,e.2,q⟩⟩
structure zBg (K:W.Frag) (CE:Addr):Prop where
 rd:W.readsIn K CE (.type "type")=true
 fc:W.findCls K (.ref CE) (.type "type") "__init__"=some (.val (.builtin "ValueError.__init__"))
 sp:W.specialIn K (.ref CE) "__getattribute__"=some (some (.builtin "type.__getattribute__"))
structure XIn (K:W.Frag) (C fn:Addr):Prop where
 ex:∃ CE nm q N bs hdct sn sub ab col dd k0 k1 k2 k3 k5,K.lookup C=some (excClassObj nm q C N bs [.ref CE,.type "ValueError",.type "Exception",.type "BaseException",.type "object"] hdct sn sub ab col dd k0 k1 k2 k3 k5 "ValueError.__new__")/\W.nsOkIn K N=true/\W.nsIn K N "__init__"=some (some (.ref fn)) /\
  W.excIn K CE [.type "ValueError",.type "Exception",.type "BaseException",.type "object"] "ValueError.__new__"=true
theorem zAF {K:W.Frag}{h:Heap}{N:Addr}{mg:Str->Option Value}{n:Str}{v:Value}(X:K.In h)(G:h.Ns N mg)(e:W.nsIn K N n=some (some v)):mg n=some v:=by
 obtain⟨o,es,ep,ho,hd,_,hf⟩:=G
 unfold W.nsIn at e
 split at e
 ·rename_i c d es' n' sl q
  have:=X _ _ q
  rw[ho] at this;cases this
  cases hd
  split at e
  ·rename_i en he
   rw[← hf];unfold nsFind findBy
   rw[← Array.find?_toList,he]
   simpa using e
  ·split at e<;>cases e
 ·cases e
structure zFm (h:Heap) (C fn:Addr):Prop where
 ex:∃ bm N nm q bs hdct sn sub ab col dd k0 k1 k2 k3 k5 mN,h.get? C=some (excClassObj nm q C N bs bm hdct sn sub ab col dd k0 k1 k2 k3 k5 "ValueError.__new__")/\h.Ns N mN/\mN "__init__"=some (.ref fn)/\OwnTail h [.type "ValueError",.type "Exception",.type "BaseException",.type "object"] bm
theorem zxl {K:W.Frag}{CE:Addr}{h:Heap}(X:K.In h)(q:W.excIn K CE [.type "ValueError",.type "Exception",.type "BaseException",.type "object"] "ValueError.__new__"=true):OwnTail h [.type "ValueError",.type "Exception",.type "BaseException",.type "object"] [.ref CE,.type "ValueError",.type "Exception",.type "BaseException",.type "object"]:=by
 unfold W.excIn at q
 split at q
 ·rename_i dd cd sl ho
  split at q
  ·simp only[Bool.and_eq_true,beq_iff_eq,Bool.not_eq_true'] at q
   obtain⟨⟨⟨⟨_,_⟩,_⟩,hok⟩,hni⟩:=q
   exact .own (X _ _ ho) (.of_isNs (W.isNs_of_in X hok)) (W.nsMap_none_of_in X hok hni) .base
  ·cases q
 ·cases q
theorem zuB {K:W.Frag}{C fn:Addr}{h:Heap}(X:K.In h)(q:XIn K C fn):zFm h C fn:=by
 obtain⟨CE,nm,qn,N,bs,hdct,sn,sub,ab,col,dd,k0,k1,k2,k3,k5,ho,hok,hi,he⟩:=q.ex
 exact⟨_,N,nm,qn,bs,hdct,sn,sub,ab,col,dd,k0,k1,k2,k3,k5,_,X _ _ ho,.of_isNs (W.isNs_of_in X hok),zAF X (.of_isNs (W.isNs_of_in X hok)) hi,zxl X he⟩
def sXI (K:W.Frag)(t:TA):TE:=fun σ H Q=>t σ H fun vs H1=>∃ a C rest fn,vs=.ref a::rest/\rest.length<=line/\H1 a=some (.ext (ExN a C none))/\XIn K C fn/\Q .non (upd H1 a (.ext (ExN a C none)))
theorem zDT {ce:Str}{CE:Addr}{np apos cpos:Pos}{e:Expr}{es:List Expr}{t:TA}{pl:Sem Bool}(b:zBg X.K CE)(hg:Gl X ce)(hm:X.mg ce=some (.ref CE))(ha:PA X (e::es) t)(hdb:(ce==("__debug__" : Str))=false:=by decide)
  (he:starEach (e::es) X.env=(false,eval e X.env)::starEach es X.env:=by exact zaM rfl)(hpl:(backTo cpos (starEach es X.env)).any (·.1)=false:=by exact zbH rfl)
  (ht:eval (.Call (.Attribute (.Name ce np) "__init__" apos) (e::es) [] cpos) X.env=(do
   let ov ← eval (.Name ce np) X.env
   standAt apos.atName
   let (f,first) ← holding [ov] (getMethod ov "__init__" pl)
   callWith cpos f first (backTo cpos (starEach (e::es) X.env)) (backToKw cpos (keywordEach [] X.env))):=by rfl) :
  PE X (.Call (.Attribute (.Name ce np) "__init__" apos) (e::es) [] cpos) (sXI X.K t):=by
 intro pins s σ H Q I h
 refine W.methodCall_KW (pl:=pl) (zhn I hg hm (W.method_cls I.kIn b.sp (W.cls_value I.kIn b.rd b.fc rfl ?_)) hdb) ht
 have I0:=I.tok (s.toks+1)
 have hA:=ha cpos pins _ σ H _ I0 h
 rw[he] at hA ⊢
 refine Calls.callWith_builtin (by show(false||(backTo cpos (starEach es X.env)).any (·.1))=false;rw[hpl];rfl) (Calls.evalArgs_plain (thn hA fun us s1 ⟨vs,H1,I1,r,a,C,rest,fn,ev,hl,ea,hx,q⟩=>?_))
 subst ev
 obtain⟨_,us',rfl,ra,r'⟩:∃ u us',us=u::us'/\zcN (.ref a) u/\zce rest us':=by cases r with | cons r1 r2=>exact⟨_,_,rfl,r1,r2⟩
 obtain rfl:_=Value.ref a:=ra
 obtain⟨bm,N,nm,qn,bs,hdct,sn,sub,ab,col,dd,k0,k1,k2,k3,k5,mN,hC,hn,hi,T⟩:=(zuB I1.kIn hx).ex
 obtain⟨⟨t0,hae⟩,_,_⟩:=(show zdg X.prog X.w H1 s1.heap a (.ext _) from I1.hok a _ ea)
 have F:=PySem.F.excBase_ValueError
 have hz:us'.length<=sizeLine:=by rw[← r'.length];exact zeK hl
 obtain⟨hp,g,d,tk,os⟩:=s1
 refine wpAny_call (codeAny_call_builtin F.init.plain F.initEntry (wpAny_check_init_subT F T hC hae rfl ?_))
 wp_walk
 have mu:Mut (H1 a):=by rw[ea];exact True.intro
 have hne:a≠hp.objs.size:=Nat.ne_of_lt (Heap.lt_size hae)
 refine⟨.non,upd H1 a (.ext (ExN a C none)),I1.write (o:=.ext (ExN a C none)) (x:=a) (e:=a) mu (.inl rfl) (fun b u hb e=>(Heap.get?_update_other _ _ (Ne.symm hb)).trans (Heap.get?_push_of_some _ e)) ⟨_,Heap.get?_update_self _ (Heap.get?_push_of_some _ hae) rfl⟩ ⟨⟨hp.objs.size,?_⟩,⟨_,Heap.get?_update_self _ (Heap.get?_push_of_some _ hae) rfl⟩,zoD⟩,rfl,q⟩
 rw[Heap.get?_update_self _ (Heap.get?_push_of_some _ hae) rfl];rfl
end
section
variable {X:Cx}
def tXR (K:W.Frag)(fs:List Str)(is:List Nat):TS:=fun D σ H=>∃ a C dx l ks vs,σ[0]?=some (some (V.ref a))/\H a=some (.ext (ExN a C (some dx)))/\H dx=some (.ext (XDs dx l))/\dx≠a/\XSt K C ks/\(∀ f∈fs,f∈ks)/\l.length+fs.length < 1000/\fs.length=vs.length /\
 is.map (fun i=>σ[i]?)=vs.map (fun v=>some (some v))/\D.nx σ (upd H dx (.ext (XDs dx (putAll fs vs l))))
structure XR (X:Cx) (sts:List Stmt) (fs:List Str) (is:List Nat):Prop where
 o:PSs X sts (tXR X.K fs is)
theorem zBu:XR X [] [] []:=⟨zhh zrb fun D σ H ⟨a,C,dx,l,ks,vs,h1,h2,h3,h4,h5,h6,h7,h8,h9,q⟩=>by
 cases vs with
 | nil=>unfold putAll at q;rw[znZ h3] at q;exact q
 | cons v vs=>simp at h8⟩
theorem zzN {sts:List Stmt}{fs:List Str}{is:List Nat}{f:Str}{i:Nat}{x y:Str}{p1 p2 p3 pos:Pos}(hN:X.N[i]?=some y)(hN0:X.N[0]?=some x)(hv:Vis X.env.scope y)(hv0:Vis X.env.scope x)(h:XR X sts fs is)
  (hd:(y==("__debug__" : Str))=false:=by decide)(hcd:(y==("__classdict__" : Str))=false:=by decide)(hd0:(x==("__debug__" : Str))=false:=by decide)(hcd0:(x==("__classdict__" : Str))=false:=by decide)
  (hs:swapsWith (.Name y p3) (some (.Attribute (.Name x p1) f p2)) pos.line X.env=pure false:=by rfl):XR X (.Assign [.Attribute (.Name x p1) f p2] (.Name y p3) pos::sts) (f::fs) (i::is):=by
 refine⟨zhh (zjS (zDP (zjl hN0 hv0 hd0 hcd0) (zjl hN hv hd hcd) hs) h.o) fun D σ H ⟨a,C,dx,l,ks,vs,h1,h2,h3,h4,h5,h6,h7,h8,h9,q⟩=>?_⟩
 cases vs with
 | nil=>simp at h8
 | cons v vs =>
  simp only[List.map_cons,List.cons.injEq] at h9
  simp only[List.length_cons] at h7 h8
  refine⟨v,h9.1,.ref a,h1,a,C,dx,l,ks,rfl,h2,h3,h4,h5,h6 f List.mem_cons_self,by omega,a,C,dx,_,ks,vs,h1,?_,zaB,h4,h5,fun g hg=>h6 g (List.mem_cons_of_mem _ hg),?_,by omega,h9.2,?_⟩
  ·rw[zaE h4.symm];exact h2
  ·have:=zoc (f:=f) (v:=v) (l:=l);omega
  ·rw[zhN];exact q
def tXB (K:W.Frag)(ks:List Str)(is:List Nat):TS:=fun D σ H=>∃ a C fn vs,σ[0]?=some (some (V.ref a))/\H a=some (.ext (ExN a C none))/\XSt K C ks/\XIn K C fn/\ks.length=vs.length/\ks.length<=60 /\
 is.map (fun i=>σ[i]?)=vs.map (fun v=>some (some v))/\∀ dx,H dx=none->D.nx σ (upd (upd H a (.ext (ExN a C (some dx)))) dx (.ext (XDs dx (putAll ks vs []))))
structure XB (X:Cx) (sts:List Stmt) (ks:List Str) (is:List Nat):Prop where
 o:PSs X sts (tXB X.K ks is)
theorem zDm {sts:List Stmt}{fs:List Str}{is:List Nat}{f:Str}{i:Nat}{x y ce:Str}{CE:Addr}{p1 p2 p3 pos np apos cpos spos sp0:Pos}{es:List Expr}{pl:Sem Bool}(b:zBg X.K CE)(hg:Gl X ce)(hm:X.mg ce=some (.ref CE))(hpv:PV X es (i::is))(hN:X.N[i]?=some y)(hN0:X.N[0]?=some x)(hv:Vis X.env.scope y)(hv0:Vis X.env.scope x)(h:XR X sts fs is)
  (hd:(y==("__debug__" : Str))=false:=by decide)(hcd:(y==("__classdict__" : Str))=false:=by decide)(hd0:(x==("__debug__" : Str))=false:=by decide)(hcd0:(x==("__classdict__" : Str))=false:=by decide)(hdb:(ce==("__debug__" : Str))=false:=by decide)
  (hs:swapsWith (.Name y p3) (some (.Attribute (.Name x p1) f p2)) pos.line X.env=pure false:=by rfl)(hs0:swapsWith (.Call (.Attribute (.Name ce np) "__init__" apos) (.Name x sp0::es) [] cpos) none spos.line X.env=pure false:=by rfl)(hpl:(backTo cpos (starEach es X.env)).any (·.1)=false:=by exact zbH rfl)
  (ht:eval (.Call (.Attribute (.Name ce np) "__init__" apos) (.Name x sp0::es) [] cpos) X.env=(do
   let ov ← eval (.Name ce np) X.env
   standAt apos.atName
   let (f,first) ← holding [ov] (getMethod ov "__init__" pl)
   callWith cpos f first (backTo cpos (starEach (.Name x sp0::es) X.env)) (backToKw cpos (keywordEach [] X.env))):=by rfl) :
  XB X (.Expr (.Call (.Attribute (.Name ce np) "__init__" apos) (.Name x sp0::es) [] cpos) spos::.Assign [.Attribute (.Name x p1) f p2] (.Name y p3) pos::sts) (f::fs) (i::is):=by
 refine⟨zhh (zjS (zrc (zDT b hg hm (zq9 (p:=sp0) hN0 hv0 hpv hd0 hcd0).o hdb (zaM rfl) hpl ht) hs0) (zjS (zDQ (zjl hN0 hv0 hd0 hcd0) (zjl hN hv hd hcd) hs) h.o)) fun D σ H ⟨a,C,fn,vs,h1,h2,h3,h4,h5,h6,h7,q⟩=>?_⟩
 refine⟨.ref a::vs,(show σ[0]?::(i::is).map (fun i=>σ[i]?)=some (some (V.ref a))::vs.map (fun v=>some (some v)) by rw[h1,h7]),a,C,vs,fn,rfl,?_,h2,h4,?_⟩
 ·have:vs.length<=60:=by omega
  exact Nat.le_trans this (by decide)
 ·cases vs with
  | nil=>simp at h5
  | cons v vs =>
   simp only[List.map_cons,List.cons.injEq] at h7
   simp only[List.length_cons] at h5 h6
   rw[znZ h2]
   refine⟨v,h7.1,.ref a,h1,a,C,f::fs,rfl,h2,h3,List.mem_cons_self,fun dx hdx=>?_⟩
   have hne:dx≠a:=fun z=>by subst z;rw[h2] at hdx;cases hdx
   refine⟨a,C,dx,[(f,v)],f::fs,vs,h1,?_,zaB,hne,h3,fun g hg=>List.mem_cons_of_mem _ hg,?_,by omega,h7.2,?_⟩
   ·rw[zaE hne.symm,zaB]
   ·simp only[List.length_cons,List.length_nil];omega
   ·rw[zhN]
    have:=q dx hdx
    unfold putAll at this
    exact this
end
def zDb (K:W.Frag)(ks:List Str):Sp:=fun vs H Q _=>∃ a C fn args,vs=.ref a::args/\args.length=ks.length/\H a=some (.ext (ExN a C none))/\XSt K C ks/\XIn K C fn/\∀ dx,H dx=none->Q .non (upd (upd H a (.ext (ExN a C (some dx)))) dx (.ext (XDs dx (putAll ks args []))))
theorem zEa {P:Program}{w:World}{K:W.Frag}{mg:Str->Option Value}{base:Heap}{x qual:Str}{st:Stmt}{f:Addr}{fd:FuncData}{ps:List Str}{ks:List Str}(F:Fun K x qual st f fd)(S:zaD ps ps (defScope st))(hps:ps.length=ks.length+1)(hf:ks.length<=60)
  (hbody:∀ (cdv:Value) (A:Around) (outer:List PySem.Env) (s0:Shared) (H:Hp) (E:XK),XB (zil CX0 P w K mg base ps qual (defScope st) f cdv A outer s0 H E).nox (defBody st) ks ((List.range ks.length).map (· + 1))):zda P w K mg base CX0 1 f fd ps (zDb K ks):=by
 refine F.ok S (fun vs H Q E h=>?_) fun cdv A outer s0 H vs Q E hr h=>?_
 ·obtain⟨a,C,fn,args,rfl,hl,_⟩:=h
  simp [hl,hps]
 ·obtain⟨a,C,fn,args,rfl,hl,hH,hC,hn,q⟩:=h
  refine⟨_,(hbody cdv A outer s0 H E).o,a,C,fn,args,?_,hH,hC,hn,hl.symm,hf,?_,q⟩
  ·unfold L2.start;simp
  ·unfold L2.start
   apply List.ext_getElem?
   intro i
   simp only[List.getElem?_map,List.map_map]
   by_cases hi:i < ks.length
   ·have hia:i < args.length:=by omega
    simp [hi,hia,List.getElem?_append_left,List.getElem?_cons_succ]
   ·have hia:¬ i < args.length:=by omega
    simp [hi,hia]
section
variable {prog:Program}{w:World}{A:Around}{E:Value->Shared->Prop}{s:Shared}{env:PySem.Env}
variable {nm q:Str}{C N:Addr}{bs bm bmB:List Value}{hdct:Bool}{sn:List Str}{sub:List Value}{ab:Bool}{col:Option Bool}{dd:Option Addr}{k0 k1 k2 k3 k5:Option Value}{B newId initId:String}{mN:Str->Option Value}{fI:Addr}{oI:Obj}
theorem zxc (F:ExcBaseFacts B newId initId bmB){x:Str}{np cpos pos:Pos}{args:List Expr}{Q:Flow->Shared->Prop}(hbase:bm.contains (.type "BaseException")=true)(hh:A.handled=none)(hplain:(backTo cpos (starEach args env)).any (·.1)=false)(hi:mN "__init__"=some (.ref fI))
  (h:wpAny (model prog w) A (eval (.Name x np) env) (fun f s₁=>f=.ref C/\wpAny (model prog w) A (evalArgs (.ref C) true (backTo cpos (starEach args env)) []) (fun a s₂=>a.kw=[]/\a.pos.length<=sizeLine/\s₂.heap.get? C=some (excClassObj nm q C N bs bm hdct sn sub ab col dd k0 k1 k2 k3 k5 newId)/\s₂.heap.Ns N mN/\OwnTail s₂.heap bmB bm/\s₂.heap.get? fI=some oI/\oI.cls=.type "function" /\
    ∀ h' e,Heap.MadeExcOf s₂.heap h' e (.ref C) a.pos->wpAny (model prog w) (A.under (.builtin "type.__call__" ⟨.ref C::a.pos,[]⟩)) (call (.ref fI) (.ref e::a.pos)) (fun r s'=>r=.none/\s'.heap.get? C=some (excClassObj nm q C N bs bm hdct sn sub ab col dd k0 k1 k2 k3 k5 newId)/\(∃ dc t,s'.heap.get? e=some ⟨.ref C,dc,.fields #[.ref t,.none,.none,.none,.bool false,.none],#[]⟩)/\E (.ref e) s') E { s₂ with heap:=h' }) E s₁) E s) :
  wpAny (model prog w) A (exec (.Raise (some (.Call (.Name x np) args [] cpos)) none pos) env) Q E s:=by
 rw[arm_exec_Raise]
 refine wpAny_bind (wpAny_standAt (zxb (C:=C) (nm:=nm) (q:=q) (N:=N) (bs:=bs) (bm:=bm) (hdct:=hdct) (sn:=sn) (sub:=sub) (ab:=ab) (col:=col) (dd:=dd) (k0:=k0) (k1:=k1) (k2:=k2) (k3:=k3) (k5:=k5) (newId:=newId) hbase hh (wpAny_bind (wpAny_mono (wpAny_Call_ofName (wpAny_mono h (fun f s₁ h₁=>?_) fun _ _ x=>x)) (fun v s₃ h₃=>wpAny_bind (wpAny_standAt (wpAny_pure h₃))) fun _ _ x=>x))))
 obtain⟨rfl,h₁⟩:=h₁
 unfold callWith
 refine wpAny_bind (wpAny_holding (wpAny_mono h₁ (fun⟨apos,akw⟩ s₂ ⟨hkw,hlen,hC,hn,T,hf,hfc,h₂⟩=>wpAny_bind (wpAny_standAt ?_)) fun _ _ x=>x))
 obtain rfl:akw=[]:=hkw
 obtain⟨hp,g,d,tk,os⟩:=s₂
 simp only[hplain]
 refine wpAny_bind (wpAny_keeperOf_exc hC (wpAny_bind (zzR F T hC hn hi hf hfc hlen fun h' e hm=>wpAny_mono (h₂ h' e hm) (fun r s' hr=>?_) fun _ _ z=>z)))
 obtain⟨rfl,hC',⟨dc,t,he⟩,hE⟩:=hr
 exact⟨rfl,wpAny_bind (wpAny_holding (wpAny_point (wpAny_pure ⟨e,dc,t,rfl,hC',he,hE⟩)))⟩
end
structure zBf (K:W.Frag) (x:Str) (C:Addr):Prop where
 i:zji K x C
 cls:W.findIn K (.ref C) "__class__"=some (some (.builtin "object.__class__"))
 ga:W.findIn K (.ref C) "__getattribute__"=some (some (.builtin "BaseException.__getattribute__"))
 gt:W.findIn K (.ref C) "__getattr__"=some none
 t1:W.subIn K (.ref C) (.type "NoneType")=some false
 t2:W.subIn K (.ref C) (.type "bool")=some false
 t3:W.subIn K (.ref C) (.type "int")=some false
 t4:W.subIn K (.ref C) (.type "str")=some false
 t5:W.subIn K (.ref C) (.type "tuple")=some false
 t6:W.subIn K (.ref C) (.type "list")=some false
 t7:W.subIn K (.ref C) (.type "dict")=some false
 ve:W.subIn K (.ref C) (.type "ValueError")=some true
 self:W.subIn K (.ref C) (.ref C)=some true
theorem zBf.xc {K:W.Frag}{x:Str}{C:Addr}(Z:zBf K x C):XC K x C :=
 ⟨Z.i.ns,⟨Z.cls,Z.ga,Z.gt,Z.i.ob,Z.i.be⟩,fun T hT=>by
  refine zmp (zjD T hT) ?_
  simp only[zhH,List.mem_cons,List.not_mem_nil,or_false] at hT
  rcases hT with rfl | rfl | rfl | rfl | rfl | rfl | rfl
  all_goals first | exact Z.t1 | exact Z.t2 | exact Z.t3 | exact Z.t4 | exact Z.t5 | exact Z.t6 | exact Z.t7⟩
theorem zBt {K:W.Frag}{C fn:Addr}{ks:List Str}(z:XIn K C fn)(sa:W.findIn K (.ref C) "__setattr__"=some (some (.builtin "object.__setattr__")))(hd:W.hasDictIn K C=true)(no:∀ f∈ks,zgn K C f):XSt K C ks:=by
 obtain⟨CE,nm,qn,N,bs,hdct,sn,sub,ab,col,dd,k0,k1,k2,k3,k5,ho,_⟩:=z.ex
 refine⟨sa,hd,?_,no⟩
 unfold W.clsIn;rw[ho];rfl
def zgB (x:Str)(n:Nat)(fa:Ev->Res (List D)):Ev->Res Fl:=fun ρ=>(fa (shr ρ)).bind fun ds=>if ds.length=n then .exn ⟨x,[]⟩ else .stuck
section
variable {P:Program}{w:World}{K:W.Frag}{mg:Str->Option Value}{base:Heap}{N:List Str}{qual:Str}{scope:Scope}{f:Addr}{cd:Value}{A:Around}{outer:List PySem.Env}{s0:Shared}{H0:Hp}{E:XK}{He H0e:Hp}
theorem zyp {H:Hp}{h:Heap}{e dx:Addr}{o1 o2:HO}(ok:HOk P w (upd (upd H e o1) dx o2) h)(he:H e=none)(hd:H dx=none)(n1:∀ b,o1≠.own b)(n2:∀ b,o2≠.own b)(m1:∀ b,o1≠.tup b)(m2:∀ b,o2≠.tup b):HOk P w H h:=fun a o q=>by
 have a1:a≠e:=fun z=>by subst z;rw[he] at q;cases q
 have a2:a≠dx:=fun z=>by subst z;rw[hd] at q;cases q
 refine(ok a o (by rw[zaE a2,zaE a1];exact q)).stay (fun b u _ z=>z) (fun b z=>?_) fun b xs z=>?_
 ·by_cases b2:b=dx
  ·subst b2;rw[zaB] at z;exact absurd (Option.some.inj z) (n2 _)
  ·rw[zaE b2] at z
   by_cases b1:b=e
   ·subst b1;rw[zaB] at z;exact absurd (Option.some.inj z) (n1 _)
   ·rw[zaE b1] at z;exact z
 ·by_cases b2:b=dx
  ·subst b2;rw[zaB] at z;exact absurd (Option.some.inj z) (m2 _)
  ·rw[zaE b2] at z
   by_cases b1:b=e
   ·subst b1;rw[zaB] at z;exact absurd (Option.some.inj z) (m1 _)
   ·rw[zaE b1] at z;exact z
theorem Un.forget {fs:List Addr}{H H2:Hp}{h h2:Heap}(u:Un fs [] H H2 h h2):Un fs [] H H h h2:=⟨u.keep,u.slot,fun _ _ _ n _=>n,u.there,fun _ _ q=>q,fun _ _ _ q=>q,fun _ ps q=>⟨#[],by rw[q];simp⟩⟩
theorem zf8 {x:Str}{C fn:Addr}{np cpos pos:Pos}{e:Expr}{es:List Expr}{fa:Ev->Res (List D)}{k:Nat}{fd:FuncData}{ps ks:List Str}(xc:XC K x C)(z:XIn K C fn)(st:XSt K C ks)(hfn:W.isFn K (.ref fn)=true)(F:zda P w K mg base CX0 k fn fd ps (zDb K ks))(hb:zbk K fd ps [])(hks:ks.length<=60)(hr:zjd (k+1) (zil (CXE P w) P w K mg base N qual scope f cd A outer s0 H0 E).A)(hm:mg x=some (.ref C))(hh:A.handled=none)
  (hg:Gl (zil (CXE P w) P w K mg base N qual scope f cd A outer s0 H0 E) x)(ha:DA (zil (CXE P w) P w K mg base N qual scope f cd A outer s0 H0 E) E (e::es) fa)
  (hdb:(x==("__debug__" : Str))=false:=by decide)(he:starEach (e::es) (zil (CXE P w) P w K mg base N qual scope f cd A outer s0 H0 E).env=(false,eval e (zil (CXE P w) P w K mg base N qual scope f cd A outer s0 H0 E).env)::starEach es (zil (CXE P w) P w K mg base N qual scope f cd A outer s0 H0 E).env:=by exact zaM rfl)
  (hpl:(backTo cpos (starEach es (zil (CXE P w) P w K mg base N qual scope f cd A outer s0 H0 E).env)).any (·.1)=false:=by exact zbH rfl) :
  DS (zil (CXE P w) P w K mg base N qual scope f cd A outer s0 H0 E) E He H0e (.Raise (some (.Call (.Name x np) (e::es) [] cpos)) none pos) (zgB x ks.length fa):=by
 refine⟨?_⟩
 intro pins s σ H D I ⟨H₀,ρ,hr',q⟩
 obtain⟨bm,Nn,nm,qn,bs,hdct,sn,sub,ab,col,dd,k0,k1,k2,k3,k5,mN,hC,hN,hi,T⟩:=(zuB I.ok.mod.kin z).ex
 obtain⟨oI,hoI,hoc⟩:∃ oI,base.get? fn=some oI/\oI.cls=.type "function":=by
  have:=beq_iff_eq.mp hfn
  obtain⟨o,ho,hc⟩:=Option.map_eq_some_iff.mp this
  exact⟨o,I.ok.mod.kin _ _ ho,hc⟩
 refine zxc (C:=C) (nm:=nm) (q:=qn) (N:=Nn) (bs:=bs) (bm:=bm) (hdct:=hdct) (sn:=sn) (sub:=sub) (ab:=ab) (col:=col) (dd:=dd) (k0:=k0) (k1:=k1) (k2:=k2) (k3:=k3) (k5:=k5)
  PySem.F.excBase_ValueError (mN:=mN) (oI:=oI) (T.hasType PySem.F.excBase_ValueError.hasBase) hh (by rw[he];show(false||(backTo cpos (starEach es (zil (CXE P w) P w K mg base N qual scope f cd A outer s0 H0 E).env)).any (·.1))=false;rw[hpl];rfl) hi (zhn I hg hm ⟨rfl,?_⟩ hdb)
 have hq:zre K E H (frz He H₀ H) (fa (shr ρ)) (fun vs H1=>vs.length=ks.length/\E (.ref C) none H1):=by
  unfold zgB at q
  cases e1:fa (shr ρ) with
  | stuck=>rw[e1] at q;exact q
  | exn z=>rw[e1] at q;exact fun C ox H' H₀' g ex=>q C ox H' H₀' (hr'.frz_grow.trans g) ex
  | ok ds =>
   rw[e1] at q
   intro vs H1 H01 g rp
   have q:zcQ K E He H0e H₀ (if ds.length=ks.length then Res.exn ⟨x,[]⟩ else .stuck) D:=q
   by_cases hl:ds.length=ks.length
   ·rw[if_pos hl] at q
    exact⟨by rw[← rp.length];exact hl,q (.ref C) none H1 H01 (hr'.frz_grow.trans g) ⟨⟨C,rfl,xc⟩,rfl⟩⟩
   ·rw[if_neg hl] at q;exact q.elim
 have h1:=ha.o cpos pins s σ H _ I ⟨frz He H₀ H,shr ρ,hr'.frz_le,hr'.looks,hq⟩
 rw[he] at h1 ⊢
 refine Calls.evalArgs_plain (wpAny_mono h1 (fun us s2 h2=>?_) fun _ _ y=>y)
 obtain⟨vs,H1,I1,rv,hl,hE⟩:=h2
 have hz:us.length<=sizeLine:=by rw[← rv.length,hl,sizeLine_eq];omega
 refine⟨rfl,hz,I1.bk _ _ hC,hN.keeps I1.bk,T.keeps I1.bk,I1.bk _ _ hoI,hoc,fun h' ee hx=>?_⟩
 have hn:H1 ee=none:=by
  cases q:H1 ee with
  | none=>rfl
  | some o=>obtain⟨u,hu⟩:=zdg.there (I1.hok ee o q);rw[hx.new] at hu;cases hu
 obtain⟨t,ht,_,_⟩:=hx.there
 have hxn:ExN ee C none h':=⟨t,ht⟩
 have un1:Un (frs (zil (CXE P w) P w K mg base N qual scope f cd A outer s0 H0 E).stack) [] H1 (upd H1 ee (.ext (ExN ee C none))) s2.heap h':=Un.ext (Un.kept hx.keeps) hn hx.new
 have I2:Inv (zil (CXE P w) P w K mg base N qual scope f cd A outer s0 H0 E) pins σ (upd H1 ee (.ext (ExN ee C none))) { s2 with heap:=h' } :=
  I1.call' (ch:=[]) rfl un1 (HOk.ext (I1.hok.kept hx.keeps) hn hxn ⟨_,ht⟩ zoD) I1.bare (fun _ z=>nomatch z)
 have rv2:zce (V.ref ee::vs) (Value.ref ee::us):=.cons rfl rv
 have hsp:zDb K ks (V.ref ee::vs) (upd H1 ee (.ext (ExN ee C none))) (fun v H2=>v=.non/\∃ dx,H1 dx=none/\dx≠ee/\H2=upd (upd (upd H1 ee (.ext (ExN ee C none))) ee (.ext (ExN ee C (some dx)))) dx (.ext (XDs dx (putAll ks vs [])))) E :=
  ⟨ee,C,fn,vs,rfl,hl,zaB,st,z,fun dx hdx=>by
   have c:dx≠ee:=fun c=>by rw[c,zaB] at hdx;cases hdx
   rw[zaE c] at hdx
   exact⟨rfl,dx,hdx,c,rfl⟩⟩
 have hl2:(Value.ref ee::us).length=ps.length:=by rw[← rv2.length];exact F.len _ _ _ _ hsp
 have hbb:=hb { s2 with heap:=h' } (Value.ref ee::us) I2.kIn (by simpa using hl2)
 rw[List.append_nil] at hbb
 refine wpAny_call (codeAny_mono (F.run _ _ { s2 with heap:=h' } _ ⟨Value.ref ee::us,[]⟩ (Value.ref ee::us) _ _ E (hr.make C us []) (I2.env0.make C us []) hbb rv2 hsp) fun r s3 hq3=>?_)
 cases r with
 | error e=>exact False.elim hq3
 | ok fl =>
  cases fl with
  | next=>exact False.elim hq3
  | brk=>exact False.elim hq3
  | cont=>exact False.elim hq3
  | ret u =>
   obtain⟨v,H2,os3,bare3,un3,hok3,rel3,rfl,dx,hdx,hdne,rfl⟩:=hq3
   obtain rfl:u=Value.none:=rel3
   rw[zhN] at hok3 un3
   have un4:=Un.forget (un1.trans un3)
   have hok4:HOk P w H1 s3.heap:=zyp hok3 hn hdx (fun _ z=>by cases z) (fun _ z=>by cases z) (fun _ z=>by cases z) (fun _ z=>by cases z)
   obtain⟨⟨t3,ht3⟩,_,_⟩:=(show zdg P w _ s3.heap ee (.ext (ExN ee C (some dx))) from hok3 ee _ (by rw[zaE hdne.symm,zaB]))
   have I3:=I1.call' (ch:=[]) os3 un4 hok4 bare3 (fun _ z=>nomatch z)
   refine⟨rfl,I3.bk _ _ hC,⟨_,t3,ht3⟩,?_⟩
   have hin:=zwl (l:=envOfC qual scope s0.heap.objs.size f cd::outer)
   have hfr:s3.heap.FunFrames (W.hideAll s3.heap (ee::frs (envOfC qual scope s0.heap.objs.size f cd::outer))) (envOfC qual scope s0.heap.objs.size f cd::outer):=W.funFrames_hide I3.stack fun env he a hf=>List.mem_cons_of_mem _ (hin env he a hf)
   have hst:(W.hideAll s3.heap (ee::frs (envOfC qual scope s0.heap.objs.size f cd::outer))).StaysIn s3.heap:=fun b o q=>W.of_hideAll _ q
   have hen:(W.hideAll s3.heap (ee::frs (envOfC qual scope s0.heap.objs.size f cd::outer))).get? ee=none:=W.hideAll_none _ (.head _)
   refine wpAny_leaving_firstW (a0:=.ref t3) I3.ok.frames hfr rfl ht3 hst hen rfl rfl rfl fun h4 hL=>?_
   obtain⟨l1,⟨_,_,l2⟩,l3,l4⟩:=hL
   refine zA1 rfl I1 (s1:=s3) (H1:=H1) os3 bare3 un4 hok4 hn hst hfr (fun b hb hy=>?_) ⟨l1,hen,l2,l3⟩ l4 hE
   have hbe:b≠ee:=fun c=>by
    subst c
    rcases hy with hy | ⟨o,hy⟩
    ·exact hy hn
    ·rw[hx.new] at hy;cases hy
   have hth:∃ o,s3.heap.get? b=some o:=by
    rcases hy with hy | ⟨o,hy⟩
    ·cases q:H1 b with
     | none=>exact absurd q hy
     | some o=>exact zdg.there (hok4 b o q)
    ·exact un4.there b o hy (by simp)
   obtain⟨o,q⟩:=hth
   exact⟨o,W.hideAll_get _ q (List.not_mem_cons_of_ne_of_not_mem hbe hb)⟩
end
def zCx (e:DictEntry):Bool:=match e.key with
 | .str _ _=>true
 | _=>false
theorem zy9 {K:W.Frag}{C CE fn N:Addr}{nm q:Str}{bs sub:List Value}{hdct ab:Bool}{sn:List Str}{col:Option Bool}{dd dn:Option Addr}{k0 k1 k2 k3 k5:Option Value}{cn:Value}{es:Array DictEntry}{ep:Nat}{st:Array (Option Value)}
  (xl:K.lookup C=some (excClassObj nm q C N bs [.ref CE,.type "ValueError",.type "Exception",.type "BaseException",.type "object"] hdct sn sub ab col dd k0 k1 k2 k3 k5 "ValueError.__new__"))(xn:K.lookup N=some ⟨cn,dn,.dict es ep,st⟩)(xk:es.toList.all zCx=true)(xv:W.nsIn K N "__init__"=some (some (.ref fn)))
  (xb:W.excIn K CE [.type "ValueError",.type "Exception",.type "BaseException",.type "object"] "ValueError.__new__"=true):XIn K C fn:=by
 refine⟨CE,nm,q,N,bs,hdct,sn,sub,ab,col,dd,k0,k1,k2,k3,k5,xl,?_,xv,xb⟩
 unfold W.nsOkIn;rw[xn]
 rw[Array.all_toList] at xk
 exact xk
end DL
namespace Com
open PySem L2 DL
def zct:Ev->Res Fl :=
 (zap (za7 2 (zan (zad (zaf 0) (zad (zab (za4 (dC (.int 1)) zo2) (zaf 0) znK) zau)) (m2 zEi)))
 (zap (za7 3 (zaf 2))
 (zap (zsm 4 (zan zau zc3))
 (zap (zl6 (zan (zad (zaf 1) zau) (m1 zhE)) (zcx 5)
 (zap (sIf (zhG (zab (zaf 2) (zab (dC (.int 10)) (dC (.int 18)) zni) dGe) (zab (zaf 3) (dC (.int 0)) dGt))
 (zap (zc8 4 (zab (zaf 3) (zab (zaf 1) (zaf 5) dIx) zfw))
 (zap (za7 3 (zab (zaf 3) (zab (zaf 1) (zaf 5) dIx) zo3))
 zal))
 (zap (za7 6 (zab (zab (zab (zab (zab (zab (zaf 2) (dC (.int 2147483647)) zfw) (zab (zab (dC (.int 1009)) (zaf 5) zbB) (zaf 5) zbB) zbx) (zab (dC (.int 31)) (zaf 5) zbB) zbx) (dC (.int 7)) zbx) (dC (.int 48271)) zbB) (dC (.int 2147483629)) zfw))
 (zap (za7 6 (zab (zab (zab (zab (zab (zaf 6) (zaf 6) zbB) (dC (.int 2147483647)) zfw) (zaf 5) zbx) (dC (.int 39373)) zbB) (dC (.int 2147483587)) zfw))
 (zap (zc8 4 (zab (zab (zaf 6) (dC (.int 8)) zo3) (zab (zaf 1) (zaf 5) dIx) zfw))
 zal))))
 zal))
 (zap (zcf (zaf 4))
 zal)))))
def zaU:List D->Res D:=zc5 7 zct
def zcd:Ev->Res Fl :=
 (zap (zpE (zoB 1) (zab (zaf 1) (dC (.int 0)) dNe)
 (zap (zzf 0 1 (zad (zaf 1) (zad (zab (zaf 0) (zaf 1) zfw) zau)))
 zal))
 (zap (zcf (zan (zad (zaf 0) zau) (m1 zBn)))
 zal))
def zcF:List D->Res D:=zc5 2 zcd
def zbv:Ev->Res Fl :=
 (zap (za7 2 (zan (zad (zaf 0) (zad (zaf 1) zau)) zcF))
 (zap (zcf (zan (zad (zab (zaf 0) (zaf 2) zo3) (zad (zab (zaf 1) (zaf 2) zo3) zau)) zjO))
 zal))
def za1:List D->Res D:=zc5 3 zbv
def zgx:Ev->Res Fl :=
 (zap (zcf (zhG (za4 (zaf 0) (zdz "int")) (zdN (za4 (zaf 0) (zdz "bool")))))
 zal)
def zeR:List D->Res D:=zc5 1 zgx
def zcs:Ev->Res Fl :=
 (zap (sIf (dOr (zdN (za4 (zaf 0) (zdz "tuple"))) (zab (zan (zad (zaf 0) zau) (m1 zhE)) (dC (.int 2)) dNe))
 (zap (zcf (dC (.bl false)))
 zal)
 zal)
 (zap (sIf (dOr (zdN (zan (zad (zab (zaf 0) (dC (.int 0)) dIx) zau) zeR)) (dOr (zdN (zan (zad (zab (zaf 0) (dC (.int 1)) dIx) zau) zeR)) (zab (zab (zaf 0) (dC (.int 1)) dIx) (dC (.int 1)) dLt)))
 (zap (zcf (dC (.bl false)))
 zal)
 zal)
 (zap (zcf (zab (zan (zad (zab (zaf 0) (dC (.int 0)) dIx) (zad (zab (zaf 0) (dC (.int 1)) dIx) zau)) zcF) (dC (.int 1)) dEq))
 zal)))
def zbh:List D->Res D:=zc5 1 zcs
def zeN:Ev->Res Fl :=
 (zap (zcf (zhG (za4 (zaf 0) (zdz "int")) (zdN (za4 (zaf 0) (zdz "bool")))))
 zal)
def zcq:List D->Res D:=zc5 1 zeN
def zbo:Ev->Res Fl :=
 (zap (za7 2 (zan (zad (zaf 0) zau) (m1 zBn)))
 (zap (za7 3 (zan (zad (zaf 1) zau) (m1 zBn)))
 (zap (zpE (zoB 3) (zab (zaf 3) (dC (.int 0)) dNe)
 (zap (za7 4 (zab (zaf 2) (zaf 3) zfw))
 (zap (za7 2 (zaf 3))
 (zap (za7 3 (zaf 4))
 zal))))
 (zap (zcf (zaf 2))
 zal))))
def za8:List D->Res D:=zc5 5 zbo
def zgR:Ev->Res Fl :=
 (zap (sIf (dOr (zdN (zan (zad (zaf 0) zau) zcq)) (zdN (zan (zad (zaf 1) zau) zcq)))
 (zap zee
 zal)
 zal)
 (zap (sIf (zab (zaf 1) (dC (.int 0)) dEq)
 (zap zee
 zal)
 zal)
 (zap (za7 2 (zan (zad (zaf 0) (zad (zaf 1) zau)) za8))
 (zap (sIf (zab (zaf 1) (dC (.int 0)) dLt)
 (zap (za7 2 (za4 (zaf 2) zo2))
 zal)
 zal)
 (zap (zcf (zan (zad (zab (zaf 0) (zaf 2) zo3) (zad (zab (zaf 1) (zaf 2) zo3) zau)) zjO))
 zal)))))
def zgK:List D->Res D:=zc5 3 zgR
def zkc:Ev->Res Fl :=
 (zap (zcf (zan (zad (zab (zab (zab (zaf 0) (dC (.int 0)) dIx) (zab (zaf 1) (dC (.int 1)) dIx) zbB) (zab (zab (zaf 1) (dC (.int 0)) dIx) (zab (zaf 0) (dC (.int 1)) dIx) zbB) zbx) (zad (zab (zab (zaf 0) (dC (.int 1)) dIx) (zab (zaf 1) (dC (.int 1)) dIx) zbB) zau)) zgK))
 zal)
def zjn:List D->Res D:=zc5 2 zkc
def zkd:Ev->Res Fl :=
 (zap (zcf (zab (zab (zab (zaf 0) (dC (.int 0)) dIx) (zab (zaf 1) (dC (.int 1)) dIx) zbB) (zab (zab (zaf 1) (dC (.int 0)) dIx) (zab (zaf 0) (dC (.int 1)) dIx) zbB) dLt))
 zal)
def zf4:List D->Res D:=zc5 2 zkd
def zfD:Ev->Res Fl :=
 (zap (za7 1 (dC (.tup [(.int 0),(.int 1)])))
 (zap (zq8 (zaf 0) (zcx 2)
 (zap (za7 1 (zan (zad (zaf 1) (zad (zaf 2) zau)) zjn))
 zal))
 (zap (zcf (zaf 1))
 zal)))
def zfA:List D->Res D:=zc5 3 zfD
theorem bok {α β:Type}{a:α}{f:α->Res β}:(Res.ok a).bind f=f a:=rfl
theorem zdc {s t:Ev->Res Fl}{ρ ρ':Ev}(h:s ρ=.ok (.nx ρ')):zap s t ρ=t ρ':=by unfold zap;rw[h];rfl
theorem zkX {s t:Ev->Res Fl}{ρ:Ev}{d:D}(h:s ρ=.ok (.rt d)):zap s t ρ=.ok (.rt d):=by unfold zap;rw[h];rfl
theorem ziO {s:Ev->Res Fl}{ρ ρ':Ev}(h:s ρ=.ok (.nx ρ')):zap s zal ρ=.ok (.nx ρ'):=by unfold zap;rw[h];rfl
theorem zl3 {i:Nat}{f:Ev->Res D}{ρ:Ev}{d:D}(h:f ρ=.ok d):za7 i f ρ=.ok (.nx (ρ.set i (.sh d))):=by unfold za7;rw[h];rfl
theorem zkZ {f:Ev->Res D}{ρ:Ev}{d:D}(h:f (shr ρ)=.ok d):zcf f ρ=.ok (.rt d):=by unfold zcf;rw[h];rfl
theorem zFg {c:Ev->Res D}{s t:Ev->Res Fl}{ρ:Ev}(h:c (shr ρ)=.ok (.bl true)):sIf c s t ρ=s ρ:=by unfold sIf;rw[h];rfl
theorem zBl {c:Ev->Res D}{s t:Ev->Res Fl}{ρ:Ev}(h:c (shr ρ)=.ok (.bl false)):sIf c s t ρ=t ρ:=by unfold sIf;rw[h];rfl
theorem ne_int {i j:Int}:dNe (.int i) (.int j)=.ok (.bl (!(i==j))):=by unfold dNe;rw[if_pos ⟨rfl,rfl⟩,eqD]
theorem eq_int {i j:Int}:dEq (.int i) (.int j)=.ok (.bl (i==j)):=by unfold dEq;rw[if_pos ⟨rfl,rfl⟩,eqD]
theorem zu2 {n:Nat}{s:Ev->Res Fl}{ds:List D}{d:D}(h:s (ds.map Sl.sh++List.replicate (n-ds.length) .no)=.ok (.rt d)):zc5 n s ds=.ok d:=by unfold zc5;rw[h];rfl
theorem zgA {f:Ev->Res D}{fa:Ev->Res (List D)}{ρ:Ev}{x:D}{xs:List D}(h:f ρ=.ok x)(h':fa ρ=.ok xs):zad f fa ρ=.ok (x::xs):=by unfold zad;rw[h,bok,h'];rfl
theorem zaP {f g:Ev->Res D}{op:D->D->Res D}{ρ:Ev}{x y:D}(h:f ρ=.ok x)(h':g ρ=.ok y):zab f g op ρ=op x y:=by unfold zab;rw[h,bok,h'];rfl
theorem zhs {fa:Ev->Res (List D)}{m:List D->Res D}{ρ:Ev}{xs:List D}(h:fa ρ=.ok xs):zan fa m ρ=m xs:=by unfold zan;rw[h];rfl
theorem zjX {a b:Int}(h:b≠0):zfw (.int a) (.int b)=.ok (.int (a.fmod b)):=by
 show(if decide (b≠0)=true then Res.ok (D.int (a.fmod b)) else .stuck)=_
 rw[if_pos (decide_eq_true h)]
theorem znJ {a b:Int}(h:zj8 a b=true):zo3 (.int a) (.int b)=.ok (.int (a.fdiv b)):=by
 show(if zj8 a b=true then Res.ok (D.int (a.fdiv b)) else .stuck)=_
 rw[if_pos h]
theorem zjW {a b:Int}(h:zhK a b=true):zbB (.int a) (.int b)=.ok (.int (a*b)):=by
 show(if zhK a b=true then Res.ok (D.int (a*b)) else .stuck)=_
 rw[if_pos h]
theorem zsO (a b:Int):Int.gcd b (a.fmod b)=Int.gcd a b:=by
 rw[Int.fmod_def,Int.gcd_sub_mul_left_right,Int.gcd_comm]
theorem zwq {a b:Int}(h:b≠0):(a.fmod b).natAbs < b.natAbs:=by
 rcases Int.lt_or_gt_of_ne h with hb | hb
 ·have h1:=Int.fmod_lt_of_pos (-a) (show 0 < -b by omega)
  have h2:=Int.fmod_nonneg_of_pos (-a) (show 0 < -b by omega)
  rw[Int.neg_fmod_neg] at h1 h2
  omega
 ·have h1:=Int.fmod_lt_of_pos a hb
  have h2:=Int.fmod_nonneg_of_pos a hb
  omega
theorem zld:∀ (n:Nat) (a b:Int),b.natAbs < n->∃ g:Int,g.natAbs=Int.gcd a b /\
  zgp (zab (zaf 1) (dC (.int 0)) dNe) (zap (zzf 0 1 (zad (zaf 1) (zad (zab (zaf 0) (zaf 1) zfw) zau))) zal) n [.sh (.int a),.sh (.int b)]=.ok (.nx [.sh (.int g),.sh (.int 0)])
 | 0,a,b,h=>absurd h (Nat.not_lt_zero _)
 | n+1,a,b,h=>by
  unfold zgp
  have c:(zab (zaf 1) (dC (.int 0)) dNe) (shr [.sh (.int a),.sh (.int b)])=.ok (.bl (!(b==0))):=ne_int
  rw[c]
  by_cases hb:b=0
  ·subst hb
   exact⟨a,by simp,rfl⟩
  ·have e:(!(b==0))=true:=by simp [hb]
   obtain⟨g,h1,h2⟩:=zld n b (a.fmod b) (by have:=zwq (a:=a) hb;omega)
   refine⟨g,by rw[h1,zsO],?_⟩
   rw[← h2]
   rw[e]
   have st:(zap (zzf 0 1 (zad (zaf 1) (zad (zab (zaf 0) (zaf 1) zfw) zau))) zal) [.sh (.int a),.sh (.int b)]=.ok (.nx [.sh (.int b),.sh (.int (a.fmod b))]):=by
    refine ziO ?_
    unfold zzf
    have:(zad (zaf 1) (zad (zab (zaf 0) (zaf 1) zfw) zau)) [.sh (.int a),.sh (.int b)]=.ok [.int b,.int (a.fmod b)]:=by
     exact zgA rfl (zgA (zjX hb) rfl)
    rw[this]
    rfl
   show(Res.bind _ _)=_
   rw[st]
   rfl
theorem znI (a b:Int):zcF [.int a,.int b]=.ok (.int (Int.gcd a b)):=by
 obtain⟨g,h1,h2⟩:=zld (b.natAbs+1) a b (Nat.lt_succ_self _)
 have w:zpE (zoB 1) (zab (zaf 1) (dC (.int 0)) dNe) (zap (zzf 0 1 (zad (zaf 1) (zad (zab (zaf 0) (zaf 1) zfw) zau))) zal) [.sh (.int a),.sh (.int b)]=.ok (.nx [.sh (.int g),.sh (.int 0)]):=h2
 have r:zcd [.sh (.int a),.sh (.int b)]=.ok (.rt (.int (if g < 0 then -g else g))):=by
  unfold zcd
  rw[zdc w]
  exact zkX (zkZ rfl)
 show(zcd [.sh (.int a),.sh (.int b)]).bind _=_
 rw[r]
 show Res.ok (D.int (if g < 0 then -g else g))=_
 congr 2
 rw[← h1]
 split<;>omega
theorem zmO:∀ (n:Nat) (x y:D) (a b:Int) (r:Sl),0<=a->0<=b->b.natAbs < n->∃ r',
  zgp (zab (zaf 3) (dC (.int 0)) dNe) (zap (za7 4 (zab (zaf 2) (zaf 3) zfw)) (zap (za7 2 (zaf 3)) (zap (za7 3 (zaf 4)) zal))) n [.sh x,.sh y,.sh (.int a),.sh (.int b),r]=.ok (.nx [.sh x,.sh y,.sh (.int (Int.gcd a b)),.sh (.int 0),r'])
 | 0,_,_,a,b,_,_,_,h=>absurd h (Nat.not_lt_zero _)
 | n+1,x,y,a,b,r,ha,hb0,h=>by
  unfold zgp
  have c:∀ r,(zab (zaf 3) (dC (.int 0)) dNe) (shr [.sh x,.sh y,.sh (.int a),.sh (.int b),r])=.ok (.bl (!(b==0))):=fun r=>ne_int
  rw[c]
  by_cases hb:b=0
  ·subst hb
   refine⟨r,?_⟩
   have e:((Int.gcd a 0:Nat):Int)=a:=by simp;omega
   rw[e]
   rfl
  ·have e:(!(b==0))=true:=by simp [hb]
   have hp:0 < b:=by omega
   obtain⟨r',h2⟩:=zmO n x y b (a.fmod b) (.sh (.int (a.fmod b))) hb0 (Int.fmod_nonneg_of_pos a hp) (by have:=zwq (a:=a) hb;omega)
   refine⟨r',?_⟩
   rw[zsO] at h2
   rw[← h2,e]
   have st:(zap (za7 4 (zab (zaf 2) (zaf 3) zfw)) (zap (za7 2 (zaf 3)) (zap (za7 3 (zaf 4)) zal))) [.sh x,.sh y,.sh (.int a),.sh (.int b),r]=.ok (.nx [.sh x,.sh y,.sh (.int b),.sh (.int (a.fmod b)),.sh (.int (a.fmod b))]):=by
    have m:(zab (zaf 2) (zaf 3) zfw) [.sh x,.sh y,.sh (.int a),.sh (.int b),r]=.ok (.int (a.fmod b)):=by
     exact zjX hb
    rw[zdc (zl3 m)]
    rfl
   show(Res.bind _ _)=_
   rw[st]
   rfl
theorem zkb (a b:Int):za8 [.int a,.int b]=.ok (.int (Int.gcd a b)):=by
 have e:∀ i:Int,(if i < 0 then -i else i)=(i.natAbs:Int):=fun i=>by split<;>omega
 obtain⟨r',h⟩:=zmO ((b.natAbs:Int).natAbs+1) (.int a) (.int b) a.natAbs b.natAbs .no (Int.natCast_nonneg _) (Int.natCast_nonneg _) (Nat.lt_succ_self _)
 have hg:Int.gcd (a.natAbs:Int) (b.natAbs:Int)=Int.gcd a b:=by simp [Int.gcd]
 rw[hg] at h
 have r:zbo [.sh (.int a),.sh (.int b),.no,.no,.no]=.ok (.rt (.int (Int.gcd a b))):=by
  unfold zbo
  rw[zdc (ρ':=[.sh (.int a),.sh (.int b),.sh (.int (a.natAbs:Int)),.no,.no]) (by rw[← e a];rfl)]
  rw[zdc (ρ':=[.sh (.int a),.sh (.int b),.sh (.int (a.natAbs:Int)),.sh (.int (b.natAbs:Int)),.no]) (by rw[← e b];rfl)]
  have w:zpE (zoB 3) (zab (zaf 3) (dC (.int 0)) dNe) (zap (za7 4 (zab (zaf 2) (zaf 3) zfw)) (zap (za7 2 (zaf 3)) (zap (za7 3 (zaf 4)) zal))) [.sh (.int a),.sh (.int b),.sh (.int (a.natAbs:Int)),.sh (.int (b.natAbs:Int)),.no]=.ok (.nx [.sh (.int a),.sh (.int b),.sh (.int (Int.gcd a b)),.sh (.int 0),r']):=h
  rw[zdc w]
  exact zkX (zkZ rfl)
 show(zbo [.sh (.int a),.sh (.int b),.no,.no,.no]).bind _=_
 rw[r]
 rfl
theorem zC7 {f g:Ev->Res D}{ρ:Ev}{b c:Bool}(h:f ρ=.ok (.bl b))(h':g ρ=.ok (.bl c)):zhG f g ρ=.ok (.bl (b&&c)):=by
 unfold zhG;rw[h,bok];cases b
 ·rfl
 ·exact h'
theorem zEF {f g:Ev->Res D}{ρ:Ev}(h:f ρ=.ok (.bl false)):dOr f g ρ=g ρ:=by unfold dOr;rw[h,bok]
theorem ztm:(2:Nat) ^ 64<=B60:=by rw[ztb];exact Nat.pow_le_pow_right (by decide) (by decide)
theorem zEI {i:Int}(h:i.natAbs < 18446744073709551616):i.natAbs < B60:=Nat.lt_of_lt_of_le h ztm
theorem zfz {i j:Int}(h:i.natAbs < 18446744073709551616)(h':j.natAbs < 18446744073709551616):zhK i j=true:=by
 unfold zhK
 rw[Bool.and_eq_true]
 exact⟨decide_eq_true (zEI h),decide_eq_true (zEI h')⟩
theorem zgr {i j:Int}(h:i.natAbs < B60)(h':j.natAbs < B60):zhK i j=true:=by
 unfold zhK
 rw[Bool.and_eq_true]
 exact⟨decide_eq_true h,decide_eq_true h'⟩
theorem zyL {i j:Int}(h0:j≠0)(h:j.natAbs < B9):zj8 i j=true:=by
 unfold zj8
 rw[Bool.and_eq_true,Bool.or_eq_true]
 exact⟨decide_eq_true h0,.inl (decide_eq_true h)⟩
theorem zqm {i j:Int}(h0:j≠0)(h:i.natAbs < B13):zj8 i j=true:=by
 unfold zj8
 rw[Bool.and_eq_true,Bool.or_eq_true]
 exact⟨decide_eq_true h0,.inr (decide_eq_true h)⟩
theorem zvq:(2:Nat) ^ 64<=B9:=by rw[zy8];exact Nat.pow_le_pow_right (by decide) (by decide)
theorem lt9 {i:Int}(h:i.natAbs < 18446744073709551616):i.natAbs < B9:=Nat.lt_of_lt_of_le h zvq
theorem zh4 {ds:List D}{k:Nat}{d:D}(h:ds[k]?=some d):dIx (.lst ds) (.int (k:Int))=.ok d:=by
 unfold dIx
 simp only[zbQ h]
def zho:Ev->Res Fl :=
 (zap (sIf (zhG (zab (zaf 2) (zab (dC (.int 10)) (dC (.int 18)) zni) dGe) (zab (zaf 3) (dC (.int 0)) dGt))
 (zap (zc8 4 (zab (zaf 3) (zab (zaf 1) (zaf 5) dIx) zfw))
 (zap (za7 3 (zab (zaf 3) (zab (zaf 1) (zaf 5) dIx) zo3))
 zal))
 (zap (za7 6 (zab (zab (zab (zab (zab (zab (zaf 2) (dC (.int 2147483647)) zfw) (zab (zab (dC (.int 1009)) (zaf 5) zbB) (zaf 5) zbB) zbx) (zab (dC (.int 31)) (zaf 5) zbB) zbx) (dC (.int 7)) zbx) (dC (.int 48271)) zbB) (dC (.int 2147483629)) zfw))
 (zap (za7 6 (zab (zab (zab (zab (zab (zaf 6) (zaf 6) zbB) (dC (.int 2147483647)) zfw) (zaf 5) zbx) (dC (.int 39373)) zbB) (dC (.int 2147483587)) zfw))
 (zap (zc8 4 (zab (zab (zaf 6) (dC (.int 8)) zo3) (zab (zaf 1) (zaf 5) dIx) zfw))
 zal))))
 zal)
theorem zzE {i:Nat}{f:Ev->Res D}{ρ:Ev}{d:D}{ds:List D}(hi:ρ[i]?=some (.ow (.lst ds)))(h:f ρ=.ok d)(hl:ds.length < line):zc8 i f ρ=.ok (.nx (ρ.set i (.ow (.lst (ds++[d]))))):=by
 unfold zc8 zri
 rw[hi]
 show(f ρ).bind _=_
 rw[h,bok,if_pos hl]
theorem zjf {a b:Int}(hb:0 < b):0<=a.fmod b/\a.fmod b < b:=⟨Int.fmod_nonneg_of_pos a hb,Int.fmod_lt_of_pos a hb⟩
theorem zug {c:D}{sz:List Int}{num left:Int}{F:List D}{k:Nat}{one:Sl}{s:Int}(hk:sz[k]?=some s)(hs:0 < s)(h9:s.natAbs < B9)(hk2:k < 1000)(hl:F.length < line)(h0:0<=left) :
  ∃ v left' one',0<=v/\v < s/\0<=left'/\zho [.sh c,.sh (.lst (sz.map D.int)),.sh (.int num),.sh (.int left),.ow (.lst F),.sh (.int (k:Int)),one] =
   .ok (.nx [.sh c,.sh (.lst (sz.map D.int)),.sh (.int num),.sh (.int left'),.ow (.lst (F++[.int v])),.sh (.int (k:Int)),one']):=by
 have hix:dIx (.lst (sz.map D.int)) (.int (k:Int))=.ok (.int s):=zh4 (by rw[List.getElem?_map,hk];rfl)
 have hc:(zhG (zab (zaf 2) (zab (dC (.int 10)) (dC (.int 18)) zni) dGe) (zab (zaf 3) (dC (.int 0)) dGt)) (shr [.sh c,.sh (.lst (sz.map D.int)),.sh (.int num),.sh (.int left),.ow (.lst F),.sh (.int (k:Int)),one])=.ok (.bl (decide ((10:Int) ^ (18:Int).toNat<=num)&&decide (0 < left))):=by
  refine zC7 ?_ ?_
  ·exact(zaP (x:=.int num) (y:=.int ((10:Int) ^ (18:Int).toNat)) rfl rfl).trans rfl
  ·exact(zaP (x:=.int left) (y:=.int 0) rfl rfl).trans rfl
 have hm:=zjf (a:=left) hs
 unfold zho
 cases hb:(decide ((10:Int) ^ (18:Int).toNat<=num)&&decide (0 < left)) with
 | true =>
  rw[hb] at hc
  refine⟨left.fmod s,left.fdiv s,one,hm.1,hm.2,Int.fdiv_nonneg h0 (by omega),?_⟩
  refine ziO ?_
  rw[zFg hc]
  rw[zdc (zzE (ds:=F) (d:=.int (left.fmod s)) rfl ((zaP (x:=.int left) (y:=.int s) rfl ((zaP (x:=.lst (sz.map D.int)) (y:=.int (k:Int)) rfl rfl).trans hix)).trans (zjX (by omega))) hl)]
  exact ziO (zl3 (d:=.int (left.fdiv s)) ((zaP (x:=.int left) (y:=.int s) rfl ((zaP (x:=.lst (sz.map D.int)) (y:=.int (k:Int)) rfl rfl).trans hix)).trans (znJ (zyL (by omega) h9))))
 | false =>
  rw[hb] at hc
  have hkk:(k:Int)*(k:Int) < 1000000:=by
   have:k*k < 1000*1000:=Nat.mul_lt_mul'' hk2 hk2
   omega
  have hkn:(0:Int)<=(k:Int)*(k:Int):=Int.mul_nonneg (by omega) (by omega)
  have a1:=zjf (a:=num) (b:=2147483647) (by decide)
  have hone1:((num.fmod 2147483647+1009*(k:Int)*(k:Int)+31*(k:Int)+7)*48271).fmod 2147483629=((num.fmod 2147483647+1009*(k:Int)*(k:Int)+31*(k:Int)+7)*48271).fmod 2147483629:=rfl
  generalize ho:((num.fmod 2147483647+1009*(k:Int)*(k:Int)+31*(k:Int)+7)*48271).fmod 2147483629=o1
  have a2:0<=o1/\o1 < 2147483629:=by rw[← ho];exact zjf (by decide)
  have hoo:o1*o1 < 4611686018427387904:=by
   have h1:o1*o1<=2147483628*2147483628:=Int.mul_le_mul (by omega) (by omega) a2.1 (by decide)
   omega
  have hoo0:0<=o1*o1:=Int.mul_nonneg a2.1 a2.1
  generalize ho2:(((o1*o1).fmod 2147483647+(k:Int))*39373).fmod 2147483587=o2
  have a3:0<=o2/\o2 < 2147483587:=by rw[← ho2];exact zjf (by decide)
  have hm2:=zjf (a:=o2.fdiv 8) hs
  refine⟨(o2.fdiv 8).fmod s,left,.sh (.int o2),hm2.1,hm2.2,h0,?_⟩
  refine ziO ?_
  rw[zBl hc]
  have ea:(1009:Int)*(k:Int)*(k:Int)=1009*((k:Int)*(k:Int)):=Int.mul_assoc _ _ _
  have e1:(zab (zab (zab (zab (zab (zab (zaf 2) (dC (.int 2147483647)) zfw) (zab (zab (dC (.int 1009)) (zaf 5) zbB) (zaf 5) zbB) zbx) (zab (dC (.int 31)) (zaf 5) zbB) zbx) (dC (.int 7)) zbx) (dC (.int 48271)) zbB) (dC (.int 2147483629)) zfw)
    [.sh c,.sh (.lst (sz.map D.int)),.sh (.int num),.sh (.int left),.ow (.lst F),.sh (.int (k:Int)),one]=.ok (.int o1):=by
   rw[← ho]
   refine(zaP (x:=.int ((num.fmod 2147483647+1009*(k:Int)*(k:Int)+31*(k:Int)+7)*48271)) (y:=.int 2147483629) ?_ rfl).trans (zjX (by decide))
   refine(zaP (x:=.int (num.fmod 2147483647+1009*(k:Int)*(k:Int)+31*(k:Int)+7)) (y:=.int 48271) ?_ rfl).trans (zjW (zfz (by omega) (by decide)))
   refine(zaP (x:=.int (num.fmod 2147483647+1009*(k:Int)*(k:Int)+31*(k:Int))) (y:=.int 7) ?_ rfl).trans rfl
   refine(zaP (x:=.int (num.fmod 2147483647+1009*(k:Int)*(k:Int))) (y:=.int (31*(k:Int))) ?_ ?_).trans rfl
   ·refine(zaP (x:=.int (num.fmod 2147483647)) (y:=.int (1009*(k:Int)*(k:Int))) ?_ ?_).trans rfl
    ·exact(zaP (x:=.int num) (y:=.int 2147483647) rfl rfl).trans (zjX (by decide))
    ·refine(zaP (x:=.int (1009*(k:Int))) (y:=.int (k:Int)) ?_ rfl).trans (zjW (zfz (by omega) (by omega)))
     exact(zaP (x:=.int 1009) (y:=.int (k:Int)) rfl rfl).trans (zjW (zfz (by decide) (by omega)))
   ·exact(zaP (x:=.int 31) (y:=.int (k:Int)) rfl rfl).trans (zjW (zfz (by decide) (by omega)))
  rw[zdc (zl3 e1)]
  have a4:=zjf (a:=o1*o1) (b:=2147483647) (by decide)
  have e2:(zab (zab (zab (zab (zab (zaf 6) (zaf 6) zbB) (dC (.int 2147483647)) zfw) (zaf 5) zbx) (dC (.int 39373)) zbB) (dC (.int 2147483587)) zfw)
    [.sh c,.sh (.lst (sz.map D.int)),.sh (.int num),.sh (.int left),.ow (.lst F),.sh (.int (k:Int)),.sh (.int o1)]=.ok (.int o2):=by
   rw[← ho2]
   refine(zaP (x:=.int (((o1*o1).fmod 2147483647+(k:Int))*39373)) (y:=.int 2147483587) ?_ rfl).trans (zjX (by decide))
   refine(zaP (x:=.int ((o1*o1).fmod 2147483647+(k:Int))) (y:=.int 39373) ?_ rfl).trans (zjW (zfz (by omega) (by decide)))
   refine(zaP (x:=.int ((o1*o1).fmod 2147483647)) (y:=.int (k:Int)) ?_ rfl).trans rfl
   refine(zaP (x:=.int (o1*o1)) (y:=.int 2147483647) ?_ rfl).trans (zjX (by decide))
   exact(zaP (x:=.int o1) (y:=.int o1) rfl rfl).trans (zjW (zfz (by omega) (by omega)))
  refine(zdc (zl3 e2)).trans ?_
  refine ziO (zzE (ds:=F) (d:=.int ((o2.fdiv 8).fmod s)) rfl ?_ hl)
  refine(zaP (x:=.int (o2.fdiv 8)) (y:=.int s) ?_ ((zaP (x:=.lst (sz.map D.int)) (y:=.int (k:Int)) rfl rfl).trans hix)).trans (zjX (by omega))
  exact(zaP (x:=.int o2) (y:=.int 8) rfl rfl).trans (znJ (zyL (by decide) (lt9 (by decide))))
theorem zqb {n k:Nat}(h:k < n):(DL.intsFrom 0 n).drop k=.int (k:Int)::(DL.intsFrom 0 n).drop (k+1):=by
 have hl:(DL.intsFrom 0 n).length=n:=by unfold DL.intsFrom;simp
 rw[List.drop_eq_getElem_cons (by rw[hl];exact h)]
 congr 1
 unfold DL.intsFrom
 simp
theorem zsM {n:Nat}:(DL.intsFrom 0 n).drop n=[]:=by
 have hl:(DL.intsFrom 0 n).length=n:=by unfold DL.intsFrom;simp
 exact List.drop_eq_nil_of_le (by omega)
theorem zjF {tg:Ev->D->Res Ev}{s:Ev->Res Fl}{d:D}{r:List D}{ρ ρ1 ρ2:Ev}(h1:tg ρ d=.ok ρ1)(h2:s ρ1=.ok (.nx ρ2)):zed tg s (d::r) ρ=zed tg s r ρ2:=by
 rw[zed,h1,bok,h2,bok]
theorem zAZ {tg:Ev->D->Res Ev}{s:Ev->Res Fl}{d v:D}{r:List D}{ρ ρ1:Ev}(h1:tg ρ d=.ok ρ1)(h2:s ρ1=.ok (.rt v)):zed tg s (d::r) ρ=.ok (.rt v):=by
 rw[zed,h1,bok,h2,bok]
theorem zmE {c:D}{sz:List Int}{num:Int}(hz:∀ s∈sz,0 < s/\s.natAbs < B9)(hn:sz.length<=1000):∀ (j k:Nat),k+j=sz.length->∀ (left:Int) (F:List Int) (x one:Sl),0<=left->F.length=k->(∀ (i:Nat) (v s:Int),F[i]?=some v->sz[i]?=some s->0<=v/\v < s) ->
  ∃ (left':Int) (F':List Int) (x' one':Sl),F'.length=sz.length/\(∀ (i:Nat) (v s:Int),F'[i]?=some v->sz[i]?=some s->0<=v/\v < s) /\
   zed (zcx 5) zho ((DL.intsFrom 0 sz.length).drop k) [.sh c,.sh (.lst (sz.map D.int)),.sh (.int num),.sh (.int left),.ow (.lst (F.map D.int)),x,one] =
    .ok (.nx [.sh c,.sh (.lst (sz.map D.int)),.sh (.int num),.sh (.int left'),.ow (.lst (F'.map D.int)),x',one'])
 | 0,k,hk,left,F,x,one,h0,hF,hb=>by
  refine⟨left,F,x,one,by omega,hb,?_⟩
  have:k=sz.length:=by omega
  rw[this,zsM]
  rfl
 | j+1,k,hk,left,F,x,one,h0,hF,hb=>by
  have hlt:k < sz.length:=by omega
  have hs:=hz _ (List.getElem_mem hlt)
  obtain⟨v,left',one',v0,v1,l0,e⟩:=zug (c:=c) (num:=num) (F:=F.map D.int) (one:=one) (List.getElem?_eq_getElem hlt) hs.1 hs.2 (by omega) (by rw[List.length_map,hF];exact Nat.lt_of_lt_of_le hlt (Nat.le_trans hn (by decide))) h0
  have hb':∀ (i:Nat) (v' s:Int),(F++[v])[i]?=some v'->sz[i]?=some s->0<=v'/\v' < s:=by
   intro i v' s h1 h2
   by_cases hi:i < F.length
   ·rw[List.getElem?_append_left hi] at h1
    exact hb i v' s h1 h2
   ·rw[List.getElem?_append_right (by omega)] at h1
    have hi2:i-F.length=0:=by
     cases hq:i-F.length with
     | zero=>rfl
     | succ m=>rw[hq] at h1;simp at h1
    rw[hi2] at h1
    have hik:i=k:=by omega
    subst hik
    rw[List.getElem?_eq_getElem hlt] at h2
    cases h1;cases h2
    exact⟨v0,v1⟩
  obtain⟨left2,F2,x2,one2,p1,p2,p3⟩:=zmE hz hn j (k+1) (by omega) left' (F++[v]) (.sh (.int (k:Int))) one' l0 (by simp [hF]) hb'
  refine⟨left2,F2,x2,one2,p1,p2,?_⟩
  rw[zqb hlt,zjF (ρ1:=[.sh c,.sh (.lst (sz.map D.int)),.sh (.int num),.sh (.int left),.ow (.lst (F.map D.int)),.sh (.int (k:Int)),one]) rfl e]
  rw[← p3,List.map_append]
  rfl
theorem zyJ (c:Int)(sz:List Int)(hz:∀ s∈sz,0 < s/\s.natAbs < B9)(hn:sz.length<=1000) :
  ∃ vs:List Int,vs.length=sz.length/\(∀ (i:Nat) (v s:Int),vs[i]?=some v->sz[i]?=some s->0<=v/\v < s)/\zaU [.int c,.lst (sz.map D.int)]=.ok (.lst (vs.map D.int)):=by
 generalize hnum:(if -1-c > c then -1-c else c)=num
 have hn0:0<=num:=by rw[← hnum];split<;>omega
 obtain⟨left',F',x',one',p1,p2,p3⟩:=zmE (c:=.int c) (num:=num) hz hn sz.length 0 (by omega) num [] .no .no hn0 rfl (fun i v s h=>by simp at h)
 refine⟨F',p1,p2,?_⟩
 have r:zct [.sh (.int c),.sh (.lst (sz.map D.int)),.no,.no,.no,.no,.no]=.ok (.rt (.lst (F'.map D.int))):=by
  unfold zct
  rw[zdc (ρ':=[.sh (.int c),.sh (.lst (sz.map D.int)),.sh (.int num),.no,.no,.no,.no]) (by rw[← hnum];rfl)]
  rw[zdc (ρ':=[.sh (.int c),.sh (.lst (sz.map D.int)),.sh (.int num),.sh (.int num),.no,.no,.no]) rfl]
  rw[zdc (ρ':=[.sh (.int c),.sh (.lst (sz.map D.int)),.sh (.int num),.sh (.int num),.ow (.lst []),.no,.no]) rfl]
  have w:(zl6 (zan (zad (zaf 1) zau) (m1 zhE)) (zcx 5) zho) [.sh (.int c),.sh (.lst (sz.map D.int)),.sh (.int num),.sh (.int num),.ow (.lst []),.no,.no] =
    .ok (.nx [.sh (.int c),.sh (.lst (sz.map D.int)),.sh (.int num),.sh (.int left'),.ow (.lst (F'.map D.int)),x',one']):=by
   unfold zl6
   have hlen:(zan (zad (zaf 1) zau) (m1 zhE)) (shr [.sh (.int c),.sh (.lst (sz.map D.int)),.sh (.int num),.sh (.int num),.ow (.lst []),.no,.no])=.ok (.int (sz.length:Int)):=by
    show Res.ok (D.int ((sz.map D.int).length:Int))=_
    rw[List.length_map]
   rw[hlen,bok]
   show(if _ then _ else _)=_
   rw[if_pos (by omega)]
   rw[← p3]
   rfl
  exact(zdc w).trans (zkX (zkZ rfl))
 exact zu2 (n:=7) (ds:=[.int c,.lst (sz.map D.int)]) r
def isI:D->Bool
 | .int _=>true
 | _=>false
theorem zbz (d:D):zcq [d]=.ok (.bl (isI d)):=by cases d<;>first | rfl | (rename_i k _;cases k<;>rfl)
theorem zi1 {a g:Int}(hg:0 < g):a.fdiv g=a / g:=Int.fdiv_eq_ediv_of_nonneg a (by omega)
theorem zmw {a b:Int}(h:b≠0):0 < (Int.gcd a b:Int):=by
 have:=Int.gcd_pos_of_ne_zero_right a h
 omega
theorem zvT {a b:Int}(hb:0 < b)(h1:a.natAbs < B13)(h2:b.natAbs < B13):za1 [.int a,.int b]=.ok (.tup [.int (a / Int.gcd a b),.int (b / Int.gcd a b)]):=by
 have hg:=zmw (a:=a) (b:=b) (by omega)
 have r:zbv [.sh (.int a),.sh (.int b),.no]=.ok (.rt (.tup [.int (a / Int.gcd a b),.int (b / Int.gcd a b)])):=by
  unfold zbv
  rw[zdc (ρ':=[.sh (.int a),.sh (.int b),.sh (.int (Int.gcd a b))]) (zl3 ((zhs (xs:=[.int a,.int b]) rfl).trans (znI a b)))]
  refine zkX (zkZ ?_)
  refine(zhs (xs:=[.int (a / Int.gcd a b),.int (b / Int.gcd a b)]) (zgA ?_ (zgA ?_ rfl))).trans rfl
  ·rw[← zi1 hg]
   exact(zaP (x:=.int a) (y:=.int (Int.gcd a b)) rfl rfl).trans (znJ (zqm (by omega) h1))
  ·rw[← zi1 hg]
   exact(zaP (x:=.int b) (y:=.int (Int.gcd a b)) rfl rfl).trans (znJ (zqm (by omega) h2))
 show(zbv [.sh (.int a),.sh (.int b),.no]).bind _=_
 rw[r]
 rfl
theorem zxK {a b:Int}(hb:0 < b)(h1:a.natAbs < B13)(h2:b.natAbs < B13):zgK [.int a,.int b]=.ok (.tup [.int (a / Int.gcd a b),.int (b / Int.gcd a b)]):=by
 have hg:=zmw (a:=a) (b:=b) (by omega)
 have r:zgR [.sh (.int a),.sh (.int b),.no]=.ok (.rt (.tup [.int (a / Int.gcd a b),.int (b / Int.gcd a b)])):=by
  unfold zgR
  rw[zdc (ρ':=[.sh (.int a),.sh (.int b),.no]) (zBl (t:=zal) rfl)]
  rw[zdc (ρ':=[.sh (.int a),.sh (.int b),.no]) (zBl (t:=zal) ((zaP (x:=.int b) (y:=.int 0) rfl rfl).trans (eq_int.trans (by rw[beq_eq_false_iff_ne.mpr (by omega)]))))]
  rw[zdc (ρ':=[.sh (.int a),.sh (.int b),.sh (.int (Int.gcd a b))]) (zl3 ((zhs (xs:=[.int a,.int b]) rfl).trans (zkb a b)))]
  rw[zdc (ρ':=[.sh (.int a),.sh (.int b),.sh (.int (Int.gcd a b))]) (zBl (t:=zal) (by
   show Res.ok (D.bl (decide (b < 0)))=_
   rw[decide_eq_false (by omega)]))]
  refine zkX (zkZ ?_)
  refine(zhs (xs:=[.int (a / Int.gcd a b),.int (b / Int.gcd a b)]) (zgA ?_ (zgA ?_ rfl))).trans rfl
  ·rw[← zi1 hg]
   exact(zaP (x:=.int a) (y:=.int (Int.gcd a b)) rfl rfl).trans (znJ (zqm (by omega) h1))
  ·rw[← zi1 hg]
   exact(zaP (x:=.int b) (y:=.int (Int.gcd a b)) rfl rfl).trans (znJ (zqm (by omega) h2))
 show(zgR [.sh (.int a),.sh (.int b),.no]).bind _=_
 rw[r]
 rfl
def zwm (p q:Int):D:=.tup [.int p,.int q]
theorem zrK {p q:Int}(hq:1<=q)(hg:Int.gcd p q=1):zbh [zwm p q]=.ok (.bl true):=by
 have r:zcs [.sh (zwm p q)]=.ok (.rt (.bl true)):=by
  unfold zcs
  rw[zdc (ρ':=[.sh (zwm p q)]) (zBl (t:=zal) rfl)]
  rw[zdc (ρ':=[.sh (zwm p q)]) (zBl (t:=zal) (by
   refine(zEF ?_).trans ((zEF ?_).trans ?_)
   ·rfl
   ·rfl
   ·show Res.ok (D.bl (decide (q < 1)))=_
    rw[decide_eq_false (by omega)]))]
  refine zkX (zkZ ?_)
  refine(zaP (x:=.int (Int.gcd p q)) (y:=.int 1) ((zhs (xs:=[.int p,.int q]) rfl).trans (znI p q)) rfl).trans ?_
  rw[eq_int,hg]
  rfl
 show(zcs [.sh (zwm p q)]).bind _=_
 rw[r]
 rfl
abbrev Fra:=Int×Int
def fr (x:Fra):D:=zwm x.1 x.2
def N60:Nat:=1000000000000000000000000000000000000000000000000000000000000
theorem zzH:N60<=B9:=by rw[zy8];exact Nat.le_trans (show N60<=2 ^ 200 by decide) (Nat.pow_le_pow_right (by decide) (by decide))
theorem zBh:N60<=B13:=by rw[zqG];exact Nat.le_trans (show N60<=2 ^ 200 by decide) (Nat.pow_le_pow_right (by decide) (by decide))
theorem zd9:N60<=B60:=by rw[ztb];exact Nat.le_trans (show N60<=2 ^ 200 by decide) (Nat.pow_le_pow_right (by decide) (by decide))
theorem ziI:B13<=B60:=by rw[zqG,ztb];exact Nat.pow_le_pow_right (by decide) (by decide)
structure Low (x:Fra):Prop where
 q1:1<=x.2
 g1:Int.gcd x.1 x.2=1
structure zea (x:Fra):Prop extends Low x where
 pN:x.1.natAbs < N60
 qN:x.2.natAbs < N60
def low (a b:Int):Fra:=(a / Int.gcd a b,b / Int.gcd a b)
theorem zkp {a b:Int}(hb:0 < b):Low (low a b):=by
 have hg:=zmw (a:=a) (b:=b) (by omega)
 refine⟨?_,Int.gcd_ediv_gcd_ediv_gcd (by omega)⟩
 have:=Int.ediv_gcd_ne_zero_if_ne_zero_right a (show b≠0 by omega)
 have h2:0<=b / (Int.gcd a b:Int):=Int.ediv_nonneg (by omega) (by omega)
 show 1<=b / (Int.gcd a b:Int)
 omega
theorem zrv {a b:Int}:(low a b).1*b=a*(low a b).2:=by
 unfold low
 obtain⟨x,hx⟩:=Int.gcd_dvd_left a b
 obtain⟨y,hy⟩:=Int.gcd_dvd_right a b
 by_cases hg:(Int.gcd a b:Int)=0
 ·simp only[hg,Int.ediv_zero,Int.zero_mul,Int.mul_zero]
 ·generalize hG:(Int.gcd a b:Int)=G at *
  have e1:a / G=x:=by rw[hx];exact Int.mul_ediv_cancel_left x hg
  have e2:b / G=y:=by rw[hy];exact Int.mul_ediv_cancel_left y hg
  show a / G*b=a*(b / G)
  rw[e1,e2]
  calc x*b=x*(G*y):=by rw[← hy]
   _=G*x*y:=by grind
   _=a*y:=by rw[← hx]
theorem zrx {a b:Int}:(low a b).1.natAbs<=a.natAbs:=Int.natAbs_ediv_le_natAbs _ _
theorem zrw {a b:Int}:(low a b).2.natAbs<=b.natAbs:=Int.natAbs_ediv_le_natAbs _ _
theorem zyc {x y:Fra}(hx:Low x)(hy:Low y)(h:x.1*y.2=y.1*x.2):x=y:=by
 have d1:x.2∣y.2:=by
  have:x.2∣x.1*y.2:=⟨y.1,by rw[h];exact Int.mul_comm _ _⟩
  rw[← Int.dvd_gcd_mul_iff_dvd_mul,Int.gcd_comm,hx.g1] at this
  simpa using this
 have d2:y.2∣x.2:=by
  have:y.2∣y.1*x.2:=⟨x.1,by rw[← h];exact Int.mul_comm _ _⟩
  rw[← Int.dvd_gcd_mul_iff_dvd_mul,Int.gcd_comm,hy.g1] at this
  simpa using this
 have e:x.2=y.2:=Int.dvd_antisymm (by have:=hx.q1;omega) (by have:=hy.q1;omega) d1 d2
 have e1:x.1=y.1:=by
  rw[e] at h
  exact Int.eq_of_mul_eq_mul_right (by have:=hy.q1;omega) h
 exact Prod.ext e1 e
theorem zjY {a b:Int}(hb:0 < b)(h1:a.natAbs < B13)(h2:b.natAbs < B13):za1 [.int a,.int b]=.ok (fr (low a b)):=zvT hb h1 h2
theorem zxJ {a b:Int}(hb:0 < b)(h1:a.natAbs < B13)(h2:b.natAbs < B13):zgK [.int a,.int b]=.ok (fr (low a b)):=zxK hb h1 h2
theorem zAJ {a b:Int}(hb:0 < b)(h1:a.natAbs < N60)(h2:b.natAbs < N60):zea (low a b):=⟨zkp hb,Nat.lt_of_le_of_lt zrx h1,Nat.lt_of_le_of_lt zrw h2⟩
theorem zrJ {x:Fra}(h:Low x):zbh [fr x]=.ok (.bl true):=zrK h.q1 h.g1
theorem zuX {n:Nat}(x:Fra):zbE (n+1) (fr x)=true:=by
 cases n<;>rfl
theorem zEc {x y:Fra}:eqD (fr x) (fr y)=(x.1==y.1&&x.2==y.2):=by
 unfold fr zwm
 simp [eqD,eqDs]
theorem zue {x:Fra}:eqD (fr x) (fr x)=true:=by rw[zEc];simp
def flt (x y:Fra):Bool:=decide (x.1*y.2 < y.1*x.2)
def bnd (k:Nat):Nat:=2 ^ (201*k)
theorem zmW {k:Nat}(h:k<=62):bnd k < B13:=by
 rw[zqG];unfold bnd
 exact Nat.pow_lt_pow_right (by decide) (by omega)
theorem zr7:N60<=2 ^ 200:=by decide
theorem zs6 (k:Nat):bnd (k+1)=bnd k*2 ^ 200+2 ^ 200*bnd k:=by
 unfold bnd
 rw[show 201*(k+1)=201*k+201 by omega,Nat.pow_add]
 generalize 2 ^ (201*k)=z
 omega
def un (s x:Fra):Fra:=(s.1*x.2+x.1*s.2,s.2*x.2)
structure Acc (k:Nat) (s:Fra):Prop where
 pos:0 < s.2
 b1:s.1.natAbs<=bnd k
 b2:s.2.natAbs<=bnd k
theorem Acc.step {k:Nat}{s x:Fra}(h:Acc k s)(hx:zea x):Acc (k+1) (un s x):=by
 have h1:x.1.natAbs<=2 ^ 200:=Nat.le_trans (Nat.le_of_lt hx.pN) zr7
 have h2:x.2.natAbs<=2 ^ 200:=Nat.le_trans (Nat.le_of_lt hx.qN) zr7
 have m1:=Nat.mul_le_mul h.b1 h2
 have m2:=Nat.mul_le_mul h1 h.b2
 have m3:=Nat.mul_le_mul h.b2 h2
 refine⟨Int.mul_pos h.pos (by have:=hx.q1;omega),?_,?_⟩
 ·show(s.1*x.2+x.1*s.2).natAbs<=_
  rw[zs6]
  refine Nat.le_trans (Int.natAbs_add_le _ _) ?_
  rw[Int.natAbs_mul,Int.natAbs_mul]
  exact Nat.add_le_add m1 m2
 ·show(s.2*x.2).natAbs<=_
  rw[zs6,Int.natAbs_mul]
  exact Nat.le_trans m3 (Nat.le_add_right _ _)
theorem Acc.start:Acc 0 (0,1):=⟨by decide,by decide,by decide⟩
theorem zyd {s x:Fra}(hs:0 < s.2)(hx:1<=x.2):low ((low s.1 s.2).1*x.2+x.1*(low s.1 s.2).2) ((low s.1 s.2).2*x.2)=low (un s x).1 (un s x).2:=by
 have ht:=zkp (a:=s.1) hs
 have hr:=zrv (a:=s.1) (b:=s.2)
 generalize low s.1 s.2=t at *
 have hq:0 < t.2*x.2:=Int.mul_pos (by have:=ht.q1;omega) (by omega)
 have hq2:0 < (un s x).2:=Int.mul_pos hs (by omega)
 have l1:=zkp (a:=t.1*x.2+x.1*t.2) hq
 have r1:=zrv (a:=t.1*x.2+x.1*t.2) (b:=t.2*x.2)
 have l2:=zkp (a:=(un s x).1) hq2
 have r2:=zrv (a:=(un s x).1) (b:=(un s x).2)
 generalize low (t.1*x.2+x.1*t.2) (t.2*x.2)=u at *
 generalize low (un s x).1 (un s x).2=v at *
 refine zyc l1 l2 ?_
 have r2':v.1*(s.2*x.2)=(s.1*x.2+x.1*s.2)*v.2:=r2
 have hk:0 < t.2*x.2*(s.2*x.2):=Int.mul_pos hq hq2
 have:u.1*v.2*(t.2*x.2*(s.2*x.2))=v.1*u.2*(t.2*x.2*(s.2*x.2)):=by
  have e1:u.1*v.2*(t.2*x.2*(s.2*x.2))=(u.1*(t.2*x.2))*v.2*(s.2*x.2):=by grind
  have e2:v.1*u.2*(t.2*x.2*(s.2*x.2))=(v.1*(s.2*x.2))*u.2*(t.2*x.2):=by grind
  rw[e1,e2,r1,r2']
  grind
 exact Int.eq_of_mul_eq_mul_right (by omega) this
theorem zAm {k:Nat}{s x:Fra}(h:Acc k s)(hk:k<=61)(hx:zea x):zjn [fr (low s.1 s.2),fr x]=.ok (fr (low (un s x).1 (un s x).2)):=by
 have ht:=zkp (a:=s.1) h.pos
 have a1:(low s.1 s.2).1.natAbs<=bnd k:=Nat.le_trans zrx h.b1
 have a2:(low s.1 s.2).2.natAbs<=bnd k:=Nat.le_trans zrw h.b2
 have hst:=zyd h.pos hx.q1
 have hA:Acc k (low s.1 s.2):=⟨by have:=ht.q1;omega,a1,a2⟩
 have hB:=hA.step hx
 rw[← hst]
 generalize low s.1 s.2=t at *
 have b60:bnd k < B60:=Nat.lt_of_lt_of_le (zmW (by omega)) ziI
 have bb:bnd (k+1) < B13:=zmW (by omega)
 have x1:x.1.natAbs < B60:=Nat.lt_of_lt_of_le hx.pN zd9
 have x2:x.2.natAbs < B60:=Nat.lt_of_lt_of_le hx.qN zd9
 refine zu2 (n:=2) (ds:=[fr t,fr x]) ?_
 show zkc [.sh (fr t),.sh (fr x)]=_
 unfold zkc
 refine zkX (zkZ ?_)
 refine(zhs (xs:=[.int (t.1*x.2+x.1*t.2),.int (t.2*x.2)]) (zgA ?_ (zgA ?_ rfl))).trans ?_
 ·refine(zaP (x:=.int (t.1*x.2)) (y:=.int (x.1*t.2)) ?_ ?_).trans rfl
  ·exact(zaP (x:=.int t.1) (y:=.int x.2) rfl rfl).trans (zjW (zgr (Nat.lt_of_le_of_lt a1 b60) x2))
  ·exact(zaP (x:=.int x.1) (y:=.int t.2) rfl rfl).trans (zjW (zgr x1 (Nat.lt_of_le_of_lt a2 b60)))
 ·exact(zaP (x:=.int t.2) (y:=.int x.2) rfl rfl).trans (zjW (zgr (Nat.lt_of_le_of_lt a2 b60) x2))
 ·exact zxJ hB.pos (Nat.lt_of_le_of_lt hB.b1 bb) (Nat.lt_of_le_of_lt hB.b2 bb)
theorem zn1 {L:Sl}:∀ (xs:List Fra) (k:Nat) (s:Fra) (z:Sl),Acc k s->k+xs.length<=61->(∀ x∈xs,zea x)->∃ z',zed (zcx 2) (zap (za7 1 (zan (zad (zaf 1) (zad (zaf 2) zau)) zjn)) zal) (xs.map fr) [L,.sh (fr (low s.1 s.2)),z] =
  .ok (.nx [L,.sh (fr (low (xs.foldl un s).1 (xs.foldl un s).2)),z'])/\Acc (k+xs.length) (xs.foldl un s)
 | [],k,s,z,h,_,_=>⟨z,rfl,h⟩
 | x::xs,k,s,z,h,hk,hx=>by
  have hx0:=hx x List.mem_cons_self
  simp only[List.length_cons] at hk
  obtain⟨z',e,a⟩:=zn1 xs (k+1) (un s x) (.sh (fr x)) (h.step hx0) (by omega) fun y hy=>hx y (List.mem_cons_of_mem _ hy)
  refine⟨z',?_,by rw[List.length_cons,show k+(xs.length+1)=k+1+xs.length by omega];exact a⟩
  rw[List.map_cons,zjF (ρ1:=[L,.sh (fr (low s.1 s.2)),.sh (fr x)]) (ρ2:=[L,.sh (fr (low (un s x).1 (un s x).2)),.sh (fr x)]) rfl]
  ·exact e
  ·exact ziO (zl3 ((zhs (xs:=[fr (low s.1 s.2),fr x]) rfl).trans (zAm h (by omega) hx0)))
theorem zzt {f:Ev->Res D}{tg:Ev->D->Res Ev}{s:Ev->Res Fl}{ρ:Ev}{ds:List D}(h:f ρ=.ok (.lst ds)):zq8 f tg s ρ=zed tg s ds ρ:=by unfold zq8;rw[h];rfl
def tot (xs:List Fra):Fra:=xs.foldl un (0,1)
theorem zuS {xs:List Fra}(hl:xs.length<=61)(hx:∀ x∈xs,zea x):zfA [.lst (xs.map fr)]=.ok (fr (low (tot xs).1 (tot xs).2)):=by
 obtain⟨z',e,a⟩:=zn1 (L:=.sh (.lst (xs.map fr))) xs 0 (0,1) .no Acc.start (by omega) hx
 refine zu2 (n:=3) (ds:=[.lst (xs.map fr)]) ?_
 show zfD [.sh (.lst (xs.map fr)),.no,.no]=_
 unfold zfD
 rw[zdc (ρ':=[.sh (.lst (xs.map fr)),.sh (fr (low 0 1)),.no]) rfl]
 refine(zdc ((zzt (ds:=xs.map fr) rfl).trans e)).trans ?_
 exact zkX (zkZ rfl)
theorem zqW {xs:List Fra}(hl:xs.length<=61)(hx:∀ x∈xs,zea x):Acc xs.length (tot xs):=by
 obtain⟨z',e,a⟩:=zn1 (L:=.no) xs 0 (0,1) .no Acc.start (by omega) hx
 rw[Nat.zero_add] at a
 exact a
theorem zwo {tg:Ev->D->Res Ev}{body:Ev->Res Fl}(P:Ev->Prop):∀ {ds:List D},(∀ d∈ds,∀ ρ,P ρ->∃ ρ1 ρ2,tg ρ d=.ok ρ1/\body ρ1=.ok (.nx ρ2)/\P ρ2)->∀ ρ,P ρ->∃ ρ',zed tg body ds ρ=.ok (.nx ρ')/\P ρ'
 | [],_,ρ,h=>⟨ρ,rfl,h⟩
 | d::r,hs,ρ,h=>by
  obtain⟨ρ1,ρ2,h1,h2,h3⟩:=hs d List.mem_cons_self ρ h
  obtain⟨ρ',h4,h5⟩:=zwo P (fun e he=>hs e (List.mem_cons_of_mem _ he)) ρ2 h3
  exact⟨ρ',by rw[zjF h1 h2];exact h4,h5⟩
theorem zC5 {α:Type}{xs:List α}{k:Int}(h0:0<=k)(h1:k < xs.length):∃ x∈xs,atI xs k=some x:=by
 obtain⟨n,rfl⟩:=Int.eq_ofNat_of_zero_le h0
 have hn:n < xs.length:=by omega
 exact⟨xs[n],List.getElem_mem hn,zbQ (List.getElem?_eq_getElem hn)⟩
theorem zCL {ds:List D}{k:Int}(h0:0<=k)(h1:k < ds.length):∃ d∈ds,dIx (.lst ds) (.int k)=.ok d:=by
 obtain⟨d,hd,e⟩:=zC5 h0 h1
 exact⟨d,hd,by unfold dIx;simp only[e]⟩
theorem nrfl {α:Type}{a b:α}(h:a=b):a=b:=h
def zAa (t:Ev->Res Fl)(r:Fl):Res Fl:=match r with
 | .nx ρ'=>t ρ'
 | r=>.ok r
def zDE (i:Nat)(ρ:Ev)(d:D):Res Fl:=.ok (.nx (ρ.set i (.sh d)))
def zEt (d:D):Res Fl:=.ok (.rt d)
def zCT (ρ:Ev)(_:D):Res Fl:=.ok (.nx ρ)
def ifK (s t:Ev->Res Fl)(ρ:Ev)(x:D):Res Fl:=match x with
 | .bl b=>if b=true then s ρ else t ρ
 | _=>.stuck
def zEE (i:Nat)(ρ:Ev)(d:D):Res Fl:=match d with
 | .lst ds=>.ok (.nx (ρ.set i (.ow (.lst ds))))
 | _=>.stuck
def zCp (s:Option Sl)(k:List D->Res Fl):Res Fl:=match s with
 | some (.ow (.lst ds))=>k ds
 | _=>.stuck
def zEL (i:Nat)(ρ:Ev)(ds:List D)(d:D):Res Fl:=if ds.length < line then .ok (.nx (ρ.set i (.ow (.lst (ds++[d]))))) else .stuck
def zC6 (i:Nat)(ρ:Ev)(ds:List D)(d:D):Res Fl:=if zzu d=true/\ds.length < line then .ok (.nx (ρ.set i (.ow (.lst (ds++[d]))))) else .stuck
def zDO (i:Nat)(ρ:Ev)(k:Ev->Res D)(ds:List D)(d:D):Res Fl:=(k ρ).bind (DL.putAt ρ i ds d)
def zzj (i:Nat)(ρ:Ev)(ds:List D)(d j:D):Res Fl:=if zzu d=true then DL.putAt ρ i ds d j else .stuck
def zB9 (i:Nat)(ρ:Ev)(k:Ev->Res D)(ds:List D)(d:D):Res Fl:=(k (shr ρ)).bind (zzj i ρ ds d)
def zBx (is:List Nat)(ρ:Ev)(d:D):Res Fl:=match zfT is.length d with
 | some ds=>.ok (.nx (zfv ρ is ds))
 | none=>.stuck
def zEC (i j:Nat)(ρ:Ev)(ds:List D):Res Fl:=match ds with
 | [x,y]=>.ok (.nx ((ρ.set i (.sh x)).set j (.sh y)))
 | _=>.stuck
def k2 (g:Ev->Res D)(op:D->D->Res D)(ρ:Ev)(x:D):Res D:=(g ρ).bind (op x)
def zwL (x:D)(xs:List D):Res (List D):=.ok (x::xs)
def zCZ (fa:Ev->Res (List D))(ρ:Ev)(x:D):Res (List D):=(fa ρ).bind (zwL x)
def zEm (g:Ev->Res D)(ρ:Ev)(x:D):Res D:=match x with
 | .bl true=>g ρ
 | .bl false=>.ok (.bl false)
 | _=>.stuck
def orK (g:Ev->Res D)(ρ:Ev)(x:D):Res D:=match x with
 | .bl true=>.ok (.bl true)
 | .bl false=>g ρ
 | _=>.stuck
def zEH (x:D):Res D:=match x with
 | .bl b=>.ok (.bl (!b))
 | _=>.stuck
def zD3 (f g:Ev->Res D)(ρ:Ev)(x:D):Res D:=match x with
 | .bl true=>f ρ
 | .bl false=>g ρ
 | _=>.stuck
def zEq (s:Option Sl):Res D:=match s with
 | some (.sh d)=>.ok d
 | _=>.stuck
def zBW (s:Sl):Sl:=match s with
 | .ow d=>.sh d
 | .ox _ ds=>.sh (.tup ds)
 | x=>x
def zDJ (r:Fl):Res D:=match r with
 | .nx _=>.ok .non
 | .rt d=>.ok d
 | _=>.stuck
def osK (x:D):Res (Option Int):=match x with
 | .int i=>.ok (some i)
 | _=>.stuck
def zzd (x:D)(l:Option Int)(h:Option Int):Res D:=zpB x l h
def slK (hi:Ev->Res (Option Int))(ρ:Ev)(x:D)(l:Option Int):Res D:=(hi ρ).bind (zzd x l)
def zEs (lo hi:Ev->Res (Option Int))(ρ:Ev)(x:D):Res D:=(lo ρ).bind (slK hi ρ x)
def zEJ (tg:Ev->D->Res Ev)(s:Ev->Res Fl)(ρ:Ev)(d:D):Res Fl:=match d with
 | .lst ds=>zed tg s ds ρ
 | _=>.stuck
def zDg (op':D->D->Res D)(h:Ev->Res D)(ρ:Ev)(y z:D):Res D:=match z with
 | .bl true=>(h ρ).bind (op' y)
 | .bl false=>.ok (.bl false)
 | _=>.stuck
def zEj (op op':D->D->Res D)(h:Ev->Res D)(ρ:Ev)(x y:D):Res D:=(op x y).bind (zDg op' h ρ y)
def chK (op op':D->D->Res D)(g h:Ev->Res D)(ρ:Ev)(x:D):Res D:=(g ρ).bind (zEj op op' h ρ x)
section
variable {s t:Ev->Res Fl}{f g h:Ev->Res D}{fa:Ev->Res (List D)}{ρ r:Ev}{i j:Nat}{d x y:D}{ds xs:List D}{op op':D->D->Res D}{a b:Int}
theorem ev_ok {α β:Type}{a:α}{k:α->Res β}:(Res.ok a).bind k=k a:=nrfl rfl
theorem ev_seq:zap s t ρ=(s ρ).bind (zAa t):=nrfl rfl
theorem ev_seq1:zAa t (.nx ρ)=t ρ:=nrfl rfl
theorem ev_seq2:zAa t (.rt d)=.ok (.rt d):=nrfl rfl
theorem ev_seq3:zAa t (.bk ρ)=.ok (.bk ρ):=nrfl rfl
theorem ev_seq4:zAa t (.ct ρ)=.ok (.ct ρ):=nrfl rfl
theorem ev_next:zal ρ=.ok (.nx ρ):=nrfl rfl
theorem ev_set:za7 i f ρ=(f ρ).bind (zDE i ρ):=nrfl rfl
theorem ev_set1:zDE i ρ d=.ok (.nx (ρ.set i (.sh d))):=nrfl rfl
theorem ev_ret:zcf f ρ=(f (shr ρ)).bind zEt:=nrfl rfl
theorem ev_ret1:zEt d=.ok (.rt d):=nrfl rfl
theorem ev_retN:zDG ρ=.ok (.rt .non):=nrfl rfl
theorem ev_drop:zg3 f ρ=(f (shr ρ)).bind (zCT ρ):=nrfl rfl
theorem ev_drop1:zCT ρ d=.ok (.nx ρ):=nrfl rfl
theorem ev_if:sIf f s t ρ=(f (shr ρ)).bind (ifK s t ρ):=nrfl rfl
theorem ev_if1:ifK s t ρ (.bl true)=s ρ:=nrfl rfl
theorem ev_if2:ifK s t ρ (.bl false)=t ρ:=nrfl rfl
theorem ev_own:zsm i f ρ=(f ρ).bind (zEE i ρ):=nrfl rfl
theorem ev_own1:zEE i ρ (.lst ds)=.ok (.nx (ρ.set i (.ow (.lst ds)))):=nrfl rfl
theorem ev_app:zc8 i f ρ=zCp ρ[i]? fun ds=>(f ρ).bind (zEL i ρ ds):=nrfl rfl
theorem ev_ownS {k:List D->Res Fl}:zCp (some (.ow (.lst ds))) k=k ds:=nrfl rfl
theorem ev_app1 (h:decide (ds.length<=999)=true):zEL i ρ ds d=.ok (.nx (ρ.set i (.ow (.lst (ds++[d]))))):=if_pos (Nat.lt_of_le_of_lt (of_decide_eq_true h) (by decide))
theorem ev_appL:zxE i f ρ=zCp ρ[i]? fun ds=>(f (shr ρ)).bind (zC6 i ρ ds):=nrfl rfl
theorem ev_appL1 (hf:zzu d=true)(h:decide (ds.length<=999)=true):zC6 i ρ ds d=.ok (.nx (ρ.set i (.ow (.lst (ds++[d]))))):=if_pos ⟨hf,Nat.lt_of_le_of_lt (of_decide_eq_true h) (by decide)⟩
theorem ev_put:zze i f g ρ=zCp ρ[i]? fun ds=>(f ρ).bind (zDO i ρ g ds):=nrfl rfl
theorem ev_put1:zDO i ρ g ds d=(g ρ).bind (DL.putAt ρ i ds d):=nrfl rfl
theorem ev_putL:zDH i f g ρ=zCp ρ[i]? fun ds=>(f (shr ρ)).bind (zB9 i ρ g ds):=nrfl rfl
theorem ev_putL1:zB9 i ρ g ds d=(g (shr ρ)).bind (zzj i ρ ds d):=nrfl rfl
theorem ev_frz:zzg i s ρ=s (unown i ρ):=nrfl rfl
theorem ev_unp {is:List Nat}:zBi is f ρ=(f ρ).bind (zBx is ρ):=nrfl rfl
theorem ev_par:zzf i j fa ρ=(fa ρ).bind (zEC i j ρ):=nrfl rfl
theorem ev_par1:zEC i j ρ [x,y]=.ok (.nx ((ρ.set i (.sh x)).set j (.sh y))):=nrfl rfl
theorem ev_b1 {o:D->Res D}:za4 f o ρ=(f ρ).bind o:=nrfl rfl
theorem ev_b2:zab f g op ρ=(f ρ).bind (k2 g op ρ):=nrfl rfl
theorem ev_b21:k2 g op ρ x=(g ρ).bind (op x):=nrfl rfl
theorem ev_bA {m:List D->Res D}:zan fa m ρ=(fa ρ).bind m:=nrfl rfl
theorem ev_nil:zau ρ=.ok []:=nrfl rfl
theorem ev_cons:zad f fa ρ=(f ρ).bind (zCZ fa ρ):=nrfl rfl
theorem ev_cons1:zCZ fa ρ x=(fa ρ).bind (zwL x):=nrfl rfl
theorem ev_cons2:zwL x xs=.ok (x::xs):=nrfl rfl
theorem ev_and:zhG f g ρ=(f ρ).bind (zEm g ρ):=nrfl rfl
theorem ev_and1:zEm g ρ (.bl true)=g ρ:=nrfl rfl
theorem ev_and2:zEm g ρ (.bl false)=.ok (.bl false):=nrfl rfl
theorem ev_or:dOr f g ρ=(f ρ).bind (orK g ρ):=nrfl rfl
theorem ev_or1:orK g ρ (.bl true)=.ok (.bl true):=nrfl rfl
theorem ev_or2:orK g ρ (.bl false)=g ρ:=nrfl rfl
theorem ev_not:zdN f ρ=(f ρ).bind zEH:=nrfl rfl
theorem ev_not1 {c:Bool}:zEH (.bl c)=.ok (.bl (!c)):=nrfl rfl
theorem ev_ifx:dIf h f g ρ=(h ρ).bind (zD3 f g ρ):=nrfl rfl
theorem ev_ifx1:zD3 f g ρ (.bl true)=f ρ:=nrfl rfl
theorem ev_ifx2:zD3 f g ρ (.bl false)=g ρ:=nrfl rfl
theorem ev_var:zaf i ρ=zEq ρ[i]?:=nrfl rfl
theorem ev_var1:zEq (some (.sh d))=.ok d:=nrfl rfl
theorem ev_C:dC d ρ=.ok d:=nrfl rfl
theorem ev_shr0:shr []=[]:=nrfl rfl
theorem ev_shr {c:Sl}:shr (c::r)=zBW c::shr r:=nrfl rfl
theorem ev_shr1:zBW (.ow d)=.sh d:=nrfl rfl
theorem ev_shr4:zBW (.ox j ds)=.sh (.tup ds):=nrfl rfl
theorem ev_shr2:zBW (.sh d)=.sh d:=nrfl rfl
theorem ev_shr3:zBW .no=.no:=nrfl rfl
theorem ev_run {n:Nat}:zc5 n s ds=(s (ds.map Sl.sh++List.replicate (n-ds.length) .no)).bind zDJ:=nrfl rfl
theorem ev_run1:zDJ (.rt d)=.ok d:=nrfl rfl
theorem ev_run2:zDJ (.nx ρ)=.ok .non:=nrfl rfl
theorem ev_os:zcb f ρ=(f ρ).bind osK:=nrfl rfl
theorem ev_os1:osK (.int a)=.ok (some a):=nrfl rfl
theorem ev_on:zec ρ=.ok none:=nrfl rfl
theorem ev_sl {lo hi:Ev->Res (Option Int)}:zij f lo hi ρ=(f ρ).bind (zEs lo hi ρ):=nrfl rfl
theorem ev_sl0 {lo hi:Ev->Res (Option Int)}:zEs lo hi ρ x=(lo ρ).bind (slK hi ρ x):=nrfl rfl
theorem ev_sl1 {hi:Ev->Res (Option Int)}{l:Option Int}:slK hi ρ x l=(hi ρ).bind (zzd x l):=nrfl rfl
theorem ev_sl2 {l l':Option Int}:zzd (.lst ds) l l'=.ok (.lst (zjJ ds l l')):=nrfl rfl
theorem ev_for {tg:Ev->D->Res Ev}:zq8 f tg s ρ=(f ρ).bind (zEJ tg s ρ):=nrfl rfl
theorem ev_for1 {tg:Ev->D->Res Ev}:zEJ tg s ρ (.lst ds)=zed tg s ds ρ:=nrfl rfl
theorem ev_chain:zik op op' f g h ρ=(f ρ).bind (chK op op' g h ρ):=nrfl rfl
theorem ev_ch:chK op op' g h ρ x=(g ρ).bind (zEj op op' h ρ x):=nrfl rfl
theorem ev_ch1:zEj op op' h ρ x y=(op x y).bind (zDg op' h ρ y):=nrfl rfl
theorem ev_ch2:zDg op' h ρ y (.bl true)=(h ρ).bind (op' y):=nrfl rfl
theorem ev_ch3:zDg op' h ρ y (.bl false)=.ok (.bl false):=nrfl rfl
theorem ev_iop {o:Int->Int->D}:iop (fun _ _=>true) o (.int a) (.int b)=.ok (o a b):=nrfl rfl
theorem ev_add:zbx (.int a) (.int b)=.ok (.int (a+b)):=nrfl rfl
theorem ev_addL {es:List D}(h:decide (ds.length+es.length<=1000)=true):zbx (.lst ds) (.lst es)=.ok (.lst (ds++es)):=if_pos (Nat.le_trans (of_decide_eq_true h) (by decide))
theorem ev_neg:zo2 (.int a)=.ok (.int (-a)):=nrfl rfl
theorem ev_m1 {m:D->Res D}:m1 m [x]=m x:=nrfl rfl
theorem ev_m2 {m:D->D->Res D}:m2 m [x,y]=m x y:=nrfl rfl
theorem ev_lenL:zhE (.lst ds)=.ok (.int ds.length):=nrfl rfl
theorem ev_lenT:zhE (.tup ds)=.ok (.int ds.length):=nrfl rfl
theorem ev_tup (h:decide (ds.length<=1000)=true):zjO ds=.ok (.tup ds):=if_pos (Nat.le_trans (of_decide_eq_true h) (by decide))
theorem ev_lst (h:decide (ds.length<=1000)=true):zc3 ds=.ok (.lst ds):=if_pos (Nat.le_trans (of_decide_eq_true h) (by decide))
theorem ev_is_bool_non:zdz "bool" (.non)=.ok (.bl false):=nrfl rfl
theorem ev_is_bool_bl {c:Bool}:zdz "bool" (.bl c)=.ok (.bl true):=nrfl rfl
theorem ev_is_bool_int:zdz "bool" (.int a)=.ok (.bl false):=nrfl rfl
theorem ev_is_bool_str {z:Str}:zdz "bool" (.str z)=.ok (.bl false):=nrfl rfl
theorem ev_is_bool_tup:zdz "bool" (.tup ds)=.ok (.bl false):=nrfl rfl
theorem ev_is_bool_lst:zdz "bool" (.lst ds)=.ok (.bl false):=nrfl rfl
theorem ev_is_bool_dic {ks:List Str}:zdz "bool" (.dic ks ds)=.ok (.bl false):=nrfl rfl
theorem ev_is_int_non:zdz "int" (.non)=.ok (.bl false):=nrfl rfl
theorem ev_is_int_bl {c:Bool}:zdz "int" (.bl c)=.ok (.bl true):=nrfl rfl
theorem ev_is_int_int:zdz "int" (.int a)=.ok (.bl true):=nrfl rfl
theorem ev_is_int_str {z:Str}:zdz "int" (.str z)=.ok (.bl false):=nrfl rfl
theorem ev_is_int_tup:zdz "int" (.tup ds)=.ok (.bl false):=nrfl rfl
theorem ev_is_int_lst:zdz "int" (.lst ds)=.ok (.bl false):=nrfl rfl
theorem ev_is_int_dic {ks:List Str}:zdz "int" (.dic ks ds)=.ok (.bl false):=nrfl rfl
theorem ev_is_str_non:zdz "str" (.non)=.ok (.bl false):=nrfl rfl
theorem ev_is_str_bl {c:Bool}:zdz "str" (.bl c)=.ok (.bl false):=nrfl rfl
theorem ev_is_str_int:zdz "str" (.int a)=.ok (.bl false):=nrfl rfl
theorem ev_is_str_str {z:Str}:zdz "str" (.str z)=.ok (.bl true):=nrfl rfl
theorem ev_is_str_tup:zdz "str" (.tup ds)=.ok (.bl false):=nrfl rfl
theorem ev_is_str_lst:zdz "str" (.lst ds)=.ok (.bl false):=nrfl rfl
theorem ev_is_str_dic {ks:List Str}:zdz "str" (.dic ks ds)=.ok (.bl false):=nrfl rfl
theorem ev_is_tuple_non:zdz "tuple" (.non)=.ok (.bl false):=nrfl rfl
theorem ev_is_tuple_bl {c:Bool}:zdz "tuple" (.bl c)=.ok (.bl false):=nrfl rfl
theorem ev_is_tuple_int:zdz "tuple" (.int a)=.ok (.bl false):=nrfl rfl
theorem ev_is_tuple_str {z:Str}:zdz "tuple" (.str z)=.ok (.bl false):=nrfl rfl
theorem ev_is_tuple_tup:zdz "tuple" (.tup ds)=.ok (.bl true):=nrfl rfl
theorem ev_is_tuple_lst:zdz "tuple" (.lst ds)=.ok (.bl false):=nrfl rfl
theorem ev_is_tuple_dic {ks:List Str}:zdz "tuple" (.dic ks ds)=.ok (.bl false):=nrfl rfl
theorem ev_is_list_non:zdz "list" (.non)=.ok (.bl false):=nrfl rfl
theorem ev_is_list_bl {c:Bool}:zdz "list" (.bl c)=.ok (.bl false):=nrfl rfl
theorem ev_is_list_int:zdz "list" (.int a)=.ok (.bl false):=nrfl rfl
theorem ev_is_list_str {z:Str}:zdz "list" (.str z)=.ok (.bl false):=nrfl rfl
theorem ev_is_list_tup:zdz "list" (.tup ds)=.ok (.bl false):=nrfl rfl
theorem ev_is_list_lst:zdz "list" (.lst ds)=.ok (.bl true):=nrfl rfl
theorem ev_is_list_dic {ks:List Str}:zdz "list" (.dic ks ds)=.ok (.bl false):=nrfl rfl
theorem ev_is_dict_non:zdz "dict" (.non)=.ok (.bl false):=nrfl rfl
theorem ev_is_dict_bl {c:Bool}:zdz "dict" (.bl c)=.ok (.bl false):=nrfl rfl
theorem ev_is_dict_int:zdz "dict" (.int a)=.ok (.bl false):=nrfl rfl
theorem ev_is_dict_str {z:Str}:zdz "dict" (.str z)=.ok (.bl false):=nrfl rfl
theorem ev_is_dict_tup:zdz "dict" (.tup ds)=.ok (.bl false):=nrfl rfl
theorem ev_is_dict_lst:zdz "dict" (.lst ds)=.ok (.bl false):=nrfl rfl
theorem ev_is_dict_dic {ks:List Str}:zdz "dict" (.dic ks ds)=.ok (.bl true):=nrfl rfl
theorem ev_isN_non:zoM (.non) .non=.ok (.bl true):=nrfl rfl
theorem ev_notN_non:zhL (.non) .non=.ok (.bl false):=nrfl rfl
theorem ev_isN_bl {c:Bool}:zoM (.bl c) .non=.ok (.bl false):=nrfl rfl
theorem ev_notN_bl {c:Bool}:zhL (.bl c) .non=.ok (.bl true):=nrfl rfl
theorem ev_isN_int:zoM (.int a) .non=.ok (.bl false):=nrfl rfl
theorem ev_notN_int:zhL (.int a) .non=.ok (.bl true):=nrfl rfl
theorem ev_isN_str {z:Str}:zoM (.str z) .non=.ok (.bl false):=nrfl rfl
theorem ev_notN_str {z:Str}:zhL (.str z) .non=.ok (.bl true):=nrfl rfl
theorem ev_isN_tup:zoM (.tup ds) .non=.ok (.bl false):=nrfl rfl
theorem ev_notN_tup:zhL (.tup ds) .non=.ok (.bl true):=nrfl rfl
theorem ev_isN_lst:zoM (.lst ds) .non=.ok (.bl false):=nrfl rfl
theorem ev_notN_lst:zhL (.lst ds) .non=.ok (.bl true):=nrfl rfl
theorem ev_isN_dic {ks:List Str}:zoM (.dic ks ds) .non=.ok (.bl false):=nrfl rfl
theorem ev_notN_dic {ks:List Str}:zhL (.dic ks ds) .non=.ok (.bl true):=nrfl rfl
theorem zeS (h:zhK a b=true):zbB (.int a) (.int b)=.ok (.int (a*b)):=if_pos h
theorem ev_mod (h:(b==0)=false):zfw (.int a) (.int b)=.ok (.int (a.fmod b)):=zjX (fun z=>by rw[z] at h;cases h)
theorem zwv (h:zj8 a b=true):zo3 (.int a) (.int b)=.ok (.int (a.fdiv b)):=if_pos h
theorem ev_unpL {is:List Nat}(h:(ds.length==is.length)=true):zBx is ρ (.lst ds)=.ok (.nx (zfv ρ is ds)):=by
 unfold zBx zfT
 simp only[if_pos (eq_of_beq h)]
theorem ev_unpT {is:List Nat}(h:(ds.length==is.length)=true):zBx is ρ (.tup ds)=.ok (.nx (zfv ρ is ds)):=by
 unfold zBx zfT
 simp only[if_pos (eq_of_beq h)]
theorem ev_sa {is:List Nat}:zfv ρ (i::is) (d::ds)=zfv (ρ.set i (.sh d)) is ds:=nrfl rfl
theorem ev_sa0:zfv ρ [] ds=ρ:=nrfl rfl
def unK (i:Nat)(ρ:Ev)(s:Option Sl):Ev:=match s with
 | some (.ow d)=>ρ.set i (.sh d)
 | _=>ρ
theorem ev_un:unown i ρ=unK i ρ ρ[i]?:=nrfl rfl
theorem ev_un1:unK i ρ (some (.ow d))=ρ.set i (.sh d):=nrfl rfl
theorem ev_un2:unK i ρ (some (.sh d))=ρ:=nrfl rfl
theorem ev_un3:unK i ρ (some .no)=ρ:=nrfl rfl
theorem zj6 {n:Nat}{j:Int}(h:ixN ds.length j=some n):DL.putAt ρ i ds d (.int j)=.ok (.nx (ρ.set i (.ow (.lst (ds.set n d))))):=by
 unfold DL.putAt
 simp only[h]
theorem ev_ixL0 {x0:D}:dIx (.lst (x0::xs)) (.int 0)=.ok x0:=by
 unfold dIx
 simp only[show atI (x0::xs) 0=some x0 from zbQ (j:=0) rfl]
theorem ev_ixT0 {x0:D}:dIx (.tup (x0::xs)) (.int 0)=.ok x0:=by
 unfold dIx
 simp only[show atI (x0::xs) 0=some x0 from zbQ (j:=0) rfl]
theorem ev_ixL1 {x0 x1:D}:dIx (.lst (x0::x1::xs)) (.int 1)=.ok x1:=by
 unfold dIx
 simp only[show atI (x0::x1::xs) 1=some x1 from zbQ (j:=1) rfl]
theorem ev_ixT1 {x0 x1:D}:dIx (.tup (x0::x1::xs)) (.int 1)=.ok x1:=by
 unfold dIx
 simp only[show atI (x0::x1::xs) 1=some x1 from zbQ (j:=1) rfl]
theorem ev_ixL2 {x0 x1 x2:D}:dIx (.lst (x0::x1::x2::xs)) (.int 2)=.ok x2:=by
 unfold dIx
 simp only[show atI (x0::x1::x2::xs) 2=some x2 from zbQ (j:=2) rfl]
theorem ev_ixT2 {x0 x1 x2:D}:dIx (.tup (x0::x1::x2::xs)) (.int 2)=.ok x2:=by
 unfold dIx
 simp only[show atI (x0::x1::x2::xs) 2=some x2 from zbQ (j:=2) rfl]
theorem ev_ixL3 {x0 x1 x2 x3:D}:dIx (.lst (x0::x1::x2::x3::xs)) (.int 3)=.ok x3:=by
 unfold dIx
 simp only[show atI (x0::x1::x2::x3::xs) 3=some x3 from zbQ (j:=3) rfl]
theorem ev_ixT3 {x0 x1 x2 x3:D}:dIx (.tup (x0::x1::x2::x3::xs)) (.int 3)=.ok x3:=by
 unfold dIx
 simp only[show atI (x0::x1::x2::x3::xs) 3=some x3 from zbQ (j:=3) rfl]
theorem ev_ixL4 {x0 x1 x2 x3 x4:D}:dIx (.lst (x0::x1::x2::x3::x4::xs)) (.int 4)=.ok x4:=by
 unfold dIx
 simp only[show atI (x0::x1::x2::x3::x4::xs) 4=some x4 from zbQ (j:=4) rfl]
theorem ev_ixT4 {x0 x1 x2 x3 x4:D}:dIx (.tup (x0::x1::x2::x3::x4::xs)) (.int 4)=.ok x4:=by
 unfold dIx
 simp only[show atI (x0::x1::x2::x3::x4::xs) 4=some x4 from zbQ (j:=4) rfl]
theorem ev_ixL5 {x0 x1 x2 x3 x4 x5:D}:dIx (.lst (x0::x1::x2::x3::x4::x5::xs)) (.int 5)=.ok x5:=by
 unfold dIx
 simp only[show atI (x0::x1::x2::x3::x4::x5::xs) 5=some x5 from zbQ (j:=5) rfl]
theorem ev_ixT5 {x0 x1 x2 x3 x4 x5:D}:dIx (.tup (x0::x1::x2::x3::x4::x5::xs)) (.int 5)=.ok x5:=by
 unfold dIx
 simp only[show atI (x0::x1::x2::x3::x4::x5::xs) 5=some x5 from zbQ (j:=5) rfl]
theorem ev_ixL6 {x0 x1 x2 x3 x4 x5 x6:D}:dIx (.lst (x0::x1::x2::x3::x4::x5::x6::xs)) (.int 6)=.ok x6:=by
 unfold dIx
 simp only[show atI (x0::x1::x2::x3::x4::x5::x6::xs) 6=some x6 from zbQ (j:=6) rfl]
theorem ev_ixL7 {x0 x1 x2 x3 x4 x5 x6 x7:D}:dIx (.lst (x0::x1::x2::x3::x4::x5::x6::x7::xs)) (.int 7)=.ok x7:=by
 unfold dIx
 simp only[show atI (x0::x1::x2::x3::x4::x5::x6::x7::xs) 7=some x7 from zbQ (j:=7) rfl]
theorem ev_ixL8 {x0 x1 x2 x3 x4 x5 x6 x7 x8:D}:dIx (.lst (x0::x1::x2::x3::x4::x5::x6::x7::x8::xs)) (.int 8)=.ok x8:=by
 unfold dIx
 simp only[show atI (x0::x1::x2::x3::x4::x5::x6::x7::x8::xs) 8=some x8 from zbQ (j:=8) rfl]
theorem ev_ixL9 {x0 x1 x2 x3 x4 x5 x6 x7 x8 x9:D}:dIx (.lst (x0::x1::x2::x3::x4::x5::x6::x7::x8::x9::xs)) (.int 9)=.ok x9:=by
 unfold dIx
 simp only[show atI (x0::x1::x2::x3::x4::x5::x6::x7::x8::x9::xs) 9=some x9 from zbQ (j:=9) rfl]
theorem ev_ixL10 {x0 x1 x2 x3 x4 x5 x6 x7 x8 x9 x10:D}:dIx (.lst (x0::x1::x2::x3::x4::x5::x6::x7::x8::x9::x10::xs)) (.int 10)=.ok x10:=by
 unfold dIx
 simp only[show atI (x0::x1::x2::x3::x4::x5::x6::x7::x8::x9::x10::xs) 10=some x10 from zbQ (j:=10) rfl]
theorem ev_ixL11 {x0 x1 x2 x3 x4 x5 x6 x7 x8 x9 x10 x11:D}:dIx (.lst (x0::x1::x2::x3::x4::x5::x6::x7::x8::x9::x10::x11::xs)) (.int 11)=.ok x11:=by
 unfold dIx
 simp only[show atI (x0::x1::x2::x3::x4::x5::x6::x7::x8::x9::x10::x11::xs) 11=some x11 from zbQ (j:=11) rfl]
theorem ev_ixL12 {x0 x1 x2 x3 x4 x5 x6 x7 x8 x9 x10 x11 x12:D}:dIx (.lst (x0::x1::x2::x3::x4::x5::x6::x7::x8::x9::x10::x11::x12::xs)) (.int 12)=.ok x12:=by
 unfold dIx
 simp only[show atI (x0::x1::x2::x3::x4::x5::x6::x7::x8::x9::x10::x11::x12::xs) 12=some x12 from zbQ (j:=12) rfl]
theorem ev_ixL13 {x0 x1 x2 x3 x4 x5 x6 x7 x8 x9 x10 x11 x12 x13:D}:dIx (.lst (x0::x1::x2::x3::x4::x5::x6::x7::x8::x9::x10::x11::x12::x13::xs)) (.int 13)=.ok x13:=by
 unfold dIx
 simp only[show atI (x0::x1::x2::x3::x4::x5::x6::x7::x8::x9::x10::x11::x12::x13::xs) 13=some x13 from zbQ (j:=13) rfl]
theorem ev_c0:((0:Nat):Int)=0:=nrfl rfl
theorem ev_c1:((1:Nat):Int)=1:=nrfl rfl
theorem ev_c2:((2:Nat):Int)=2:=nrfl rfl
theorem ev_c3:((3:Nat):Int)=3:=nrfl rfl
theorem ev_c4:((4:Nat):Int)=4:=nrfl rfl
theorem ev_c5:((5:Nat):Int)=5:=nrfl rfl
theorem ev_c6:((6:Nat):Int)=6:=nrfl rfl
theorem ev_c7:((7:Nat):Int)=7:=nrfl rfl
theorem ev_c8:((8:Nat):Int)=8:=nrfl rfl
theorem ev_c9:((9:Nat):Int)=9:=nrfl rfl
theorem ev_c10:((10:Nat):Int)=10:=nrfl rfl
theorem ev_c11:((11:Nat):Int)=11:=nrfl rfl
theorem ev_pt0 {x0:D}:DL.putAt ρ i (x0::xs) d (.int 0)=.ok (.nx (ρ.set i (.ow (.lst (d::xs))))):=by
 refine(zj6 (n:=0) ?_).trans rfl
 unfold ixN
 rw[if_pos (by decide),if_pos (by simp only[List.length_cons];omega)]
 rfl
theorem ev_pt1 {x0 x1:D}:DL.putAt ρ i (x0::x1::xs) d (.int 1)=.ok (.nx (ρ.set i (.ow (.lst (x0::d::xs))))):=by
 refine(zj6 (n:=1) ?_).trans rfl
 unfold ixN
 rw[if_pos (by decide),if_pos (by simp only[List.length_cons];omega)]
 rfl
theorem ev_pt2 {x0 x1 x2:D}:DL.putAt ρ i (x0::x1::x2::xs) d (.int 2)=.ok (.nx (ρ.set i (.ow (.lst (x0::x1::d::xs))))):=by
 refine(zj6 (n:=2) ?_).trans rfl
 unfold ixN
 rw[if_pos (by decide),if_pos (by simp only[List.length_cons];omega)]
 rfl
theorem ev_pt3 {x0 x1 x2 x3:D}:DL.putAt ρ i (x0::x1::x2::x3::xs) d (.int 3)=.ok (.nx (ρ.set i (.ow (.lst (x0::x1::x2::d::xs))))):=by
 refine(zj6 (n:=3) ?_).trans rfl
 unfold ixN
 rw[if_pos (by decide),if_pos (by simp only[List.length_cons];omega)]
 rfl
theorem ev_pt4 {x0 x1 x2 x3 x4:D}:DL.putAt ρ i (x0::x1::x2::x3::x4::xs) d (.int 4)=.ok (.nx (ρ.set i (.ow (.lst (x0::x1::x2::x3::d::xs))))):=by
 refine(zj6 (n:=4) ?_).trans rfl
 unfold ixN
 rw[if_pos (by decide),if_pos (by simp only[List.length_cons];omega)]
 rfl
theorem ev_p60:zni (.int 10) (.int 60)=.ok (.int (N60:Int)):=by
 have e:(10:Int) ^ (60:Int).toNat=(N60:Int):=by decide
 rw[← e]
 rfl
end
def zCH (fa:Ev->Res (List D))(ρ:Ev)(x:D):Res D:=match x with
 | .str z=>(fa ρ).bind (zrI z)
 | _=>.stuck
theorem ev_join {f:Ev->Res D}{fa:Ev->Res (List D)}{ρ:Ev}:zyT f fa ρ=(f ρ).bind (zCH fa ρ):=nrfl rfl
theorem ev_join1 {fa:Ev->Res (List D)}{ρ:Ev}{z:Str}:zCH fa ρ (.str z)=(fa ρ).bind (zrI z):=nrfl rfl
def zEu (g:Ev->Res D)(ρ:Ev)(x:D):Res D:=match x with
 | .lst ds=>(g ρ).bind (zzA (.lst ds))
 | _=>.stuck
theorem ev_rep {f g:Ev->Res D}{ρ:Ev}:zAe f g ρ=(f ρ).bind (zEu g ρ):=nrfl rfl
theorem ev_rep1 {g:Ev->Res D}{ρ:Ev}{ds:List D}:zEu g ρ (.lst ds)=(g ρ).bind (zzA (.lst ds)):=nrfl rfl
theorem zsQ {α:Type}{x:α}:∀ {n:Nat},(List.replicate n [x]).flatten=List.replicate n x
 | 0=>rfl
 | n+1=>by rw[List.replicate_succ,List.flatten_cons,zsQ,List.replicate_succ];rfl
theorem ev_rep2 {x:D}{k:Int}(h:(decide (0<=k)&&decide (k<=1000))=true):zzA (.lst [x]) (.int k)=.ok (.lst (List.replicate k.toNat x)):=by
 simp only[Bool.and_eq_true,decide_eq_true_eq] at h
 unfold zzA
 have:([x]:List D).length*k.toNat<=line/\-9223372036854775808<=k/\k < 9223372036854775808:=⟨by
  have h2:k.toNat<=1000:=by omega
  show 1*k.toNat<=line
  have:(1000:Nat)<=line:=by decide
  omega,by omega,by omega⟩
 simp only[if_pos this,zsQ]
def zdf:Ev->Res Fl :=
 (zap (sIf (dOr (zdN (za4 (zaf 0) (zdz "str"))) (zdN (zik dLe dLe (dC (.int 1)) (zan (zad (zaf 0) zau) (m1 zhE)) (dC (.int 8)))))
 (zap (zcf (dC (.bl false)))
 zal)
 zal)
 (zap (zcf (zan (zad (zd6 1 [] (zDa (zaf 0)) (zcx 0) mYes (zab (zaf 0) (dC (.str "abcdefghijklmnopqrstuvwxyz")) dIn)) zau) (m1 zDf)))
 zal))
def zcT:List D->Res D:=zc5 1 zdf
def zb5:Ev->Res Fl :=
 (zap (sIf (dOr (zdN (za4 (zaf 0) (zdz "tuple"))) (zab (zan (zad (zaf 0) zau) (m1 zhE)) (dC (.int 2)) dNe))
 (zap (zcf (dC (.bl false)))
 zal)
 zal)
 (zap (sIf (dOr (zdN (zan (zad (zab (zaf 0) (dC (.int 0)) dIx) zau) zcq)) (zdN (zan (zad (zab (zaf 0) (dC (.int 1)) dIx) zau) zcq)))
 (zap (zcf (dC (.bl false)))
 zal)
 zal)
 (zap (zcf (zhG (zab (zab (zaf 0) (dC (.int 1)) dIx) (dC (.int 1)) dGe) (zab (zan (zad (zab (zaf 0) (dC (.int 0)) dIx) (zad (zab (zaf 0) (dC (.int 1)) dIx) zau)) za8) (dC (.int 1)) dEq)))
 zal)))
def zc1:List D->Res D:=zc5 1 zb5
def abc:Str:="abcdefghijklmnopqrstuvwxyz"
def zt2 (c:Nat):Bool:=occ ⟨#[c]⟩ abc
def zoq (z:Str):Bool:=decide (1<=z.length)&&(decide (z.length<=8)&&z.cps.toList.all zt2)
def zD2:D->Bool
 | .str z=>zoq z
 | _=>false
def fit:D->Bool
 | .str z=>decide (z.length<=line)
 | _=>true
theorem zqs {b:Ev}{tg:Ev->D->Res Ev}{tt fe:Ev->Res D}{F:D->D}:∀ {ds:List D},(∀ d∈ds,∃ ρ1,tg b d=.ok ρ1/\tt ρ1=.ok (.bl true)/\fe ρ1=.ok (F d))->zcM b tg tt fe ds=.ok (ds.map F)
 | [],_=>rfl
 | d::r,h=>by
  obtain⟨ρ1,h1,h2,h3⟩:=h d List.mem_cons_self
  rw[zio h1 h2 h3,zqs (fun e he=>h e (List.mem_cons_of_mem _ he))]
  rfl
theorem zmV {α:Type}(F:α->Bool):∀ (cs:List α),zir (cs.map fun c=>D.bl (F c))=some (cs.map F)
 | []=>rfl
 | c::r=>by
  show(zir (r.map fun c=>D.bl (F c))).map (F c::·)=_
  rw[zmV F r];rfl
theorem ztu {z:Str}(hz:z.length<=line):zd6 1 [] (zDa (zaf 0)) (zcx 0) mYes (zab (zaf 0) (dC (.str "abcdefghijklmnopqrstuvwxyz")) dIn) [.sh (.str z)]=.ok (.lst (z.cps.toList.map fun c=>.bl (zt2 c))):=by
 have hl:(zkW z).length<=line:=by rw[zki];exact hz
 unfold zd6
 show(if(zkW z).length<=line then _ else _)=_
 rw[if_pos hl]
 have:zcM (zeT 1 [] [.sh (.str z)]) (zcx 0) mYes (zab (zaf 0) (dC (.str "abcdefghijklmnopqrstuvwxyz")) dIn) (zkW z)=.ok (z.cps.toList.map fun c=>D.bl (zt2 c)):=by
  unfold zkW
  induction z.cps.toList with
  | nil=>rfl
  | cons c r ih =>
   rw[List.map_cons,zio (x:=.bl (zt2 c)) rfl rfl rfl,ih]
   rfl
 rw[this]
theorem ztY {d:D}(h:fit d=true):zcT [d]=.ok (.bl (zD2 d)):=by
 cases d with
 | str z =>
  have hz:z.length<=line:=of_decide_eq_true h
  have hlen:zhE (.str z)=.ok (.int z.length):=if_pos hz
  show zc5 1 zdf _=.ok (.bl (zoq z))
  unfold zoq
  by_cases h1:1<=z.length
  ·by_cases h8:z.length<=8
   ·have e1:decide ((1:Int)<=(z.length:Int))=true:=decide_eq_true (by omega)
    have e2:decide ((z.length:Int)<=8)=true:=decide_eq_true (by omega)
    simp only[zdf,ev_ok,ev_seq,ev_seq1,ev_seq2,ev_seq3,ev_seq4,ev_next,ev_set,ev_set1,ev_ret,ev_ret1,ev_retN,ev_drop,ev_drop1,ev_if,ev_if1,ev_if2,ev_own,ev_own1,ev_app,ev_ownS,ev_appL,ev_put,ev_put1,ev_putL,ev_putL1,ev_frz,ev_unp,ev_par,ev_par1,ev_b1,ev_b2,ev_b21,ev_bA,ev_nil,ev_cons,ev_cons1,ev_cons2,ev_and,ev_and1,ev_and2,ev_or,ev_or1,ev_or2,ev_not,ev_not1,ev_ifx,ev_ifx1,ev_ifx2,ev_var,ev_var1,ev_C,ev_shr0,ev_shr,ev_shr1,ev_shr2,ev_shr3,ev_run,ev_run1,ev_run2,ev_os,ev_os1,ev_on,ev_sl,ev_sl0,ev_sl1,ev_sl2,ev_for,ev_for1,ev_chain,ev_ch,ev_ch1,ev_ch2,ev_ch3,ev_iop,ev_add,ev_neg,ev_m1,ev_m2,ev_lenL,ev_lenT,ev_p60,eq_int,ne_int,List.map_cons,List.map_nil,List.length_cons,List.length_nil,List.replicate_succ,List.replicate_zero,List.nil_append,List.cons_append,List.getElem?_cons_zero,List.getElem?_cons_succ,List.set_cons_zero,List.set_cons_succ,Nat.sub_zero,Nat.reduceSub,Nat.reduceAdd,Nat.add_zero,Nat.zero_add,Bool.not_true,Bool.not_false,ev_tup,ev_lst,ev_addL,ev_app1,ev_appL1,ev_mod,ev_unpL,ev_unpT,ev_sa,ev_sa0,ev_un,ev_un1,ev_un2,ev_un3,ev_ixL0,ev_ixL1,ev_ixL2,ev_ixL3,ev_ixL4,ev_ixL5,ev_ixL6,ev_ixL7,ev_ixL8,ev_ixL9,ev_ixL10,ev_ixL11,ev_ixL12,ev_ixL13,ev_ixT0,ev_ixT1,ev_ixT2,ev_ixT3,ev_ixT4,ev_ixT5,decide_true,decide_false,Nat.reduceLeDiff,Nat.reduceBEq,Int.reduceBEq,beq_self_eq_true,dOne,mYes,ev_is_bool_non,ev_is_bool_bl,ev_is_bool_int,ev_is_bool_str,ev_is_bool_tup,ev_is_bool_lst,ev_is_bool_dic,ev_is_int_non,ev_is_int_bl,ev_is_int_int,ev_is_int_str,ev_is_int_tup,ev_is_int_lst,ev_is_int_dic,ev_is_str_non,ev_is_str_bl,ev_is_str_int,ev_is_str_str,ev_is_str_tup,ev_is_str_lst,ev_is_str_dic,ev_is_tuple_non,ev_is_tuple_bl,ev_is_tuple_int,ev_is_tuple_str,ev_is_tuple_tup,ev_is_tuple_lst,ev_is_tuple_dic,ev_is_list_non,ev_is_list_bl,ev_is_list_int,ev_is_list_str,ev_is_list_tup,ev_is_list_lst,ev_is_list_dic,ev_is_dict_non,ev_is_dict_bl,ev_is_dict_int,ev_is_dict_str,ev_is_dict_tup,ev_is_dict_lst,ev_is_dict_dic,ev_isN_non,ev_notN_non,ev_isN_bl,ev_notN_bl,ev_isN_int,ev_notN_int,ev_isN_str,ev_notN_str,ev_isN_tup,ev_notN_tup,ev_isN_lst,ev_notN_lst,ev_isN_dic,ev_notN_dic,ev_c0,ev_c1,ev_c2,ev_c3,ev_c4,ev_c5,ev_c6,ev_c7,ev_c8,ev_c9,ev_c10,ev_c11,Int.reduceLT,Int.reduceLE,Int.reduceSub,Int.reduceAdd,Int.reduceMul,Int.reduceNeg,ev_join,ev_join1,ev_pt0,ev_pt1,ev_pt2,ev_pt3,ev_pt4,ev_rep,ev_rep1,ev_rep2,Int.reduceToNat,Bool.and_self,hlen,e1,e2,ztu hz,zDf,zmV,decide_eq_true h1,decide_eq_true h8,Bool.true_and]
    simp [List.all_map,Function.comp_def]
   ·have e1:decide ((1:Int)<=(z.length:Int))=true:=decide_eq_true (by omega)
    have e2:decide ((z.length:Int)<=8)=false:=decide_eq_false (by omega)
    simp only[zdf,ev_ok,ev_seq,ev_seq1,ev_seq2,ev_seq3,ev_seq4,ev_next,ev_set,ev_set1,ev_ret,ev_ret1,ev_retN,ev_drop,ev_drop1,ev_if,ev_if1,ev_if2,ev_own,ev_own1,ev_app,ev_ownS,ev_appL,ev_put,ev_put1,ev_putL,ev_putL1,ev_frz,ev_unp,ev_par,ev_par1,ev_b1,ev_b2,ev_b21,ev_bA,ev_nil,ev_cons,ev_cons1,ev_cons2,ev_and,ev_and1,ev_and2,ev_or,ev_or1,ev_or2,ev_not,ev_not1,ev_ifx,ev_ifx1,ev_ifx2,ev_var,ev_var1,ev_C,ev_shr0,ev_shr,ev_shr1,ev_shr2,ev_shr3,ev_run,ev_run1,ev_run2,ev_os,ev_os1,ev_on,ev_sl,ev_sl0,ev_sl1,ev_sl2,ev_for,ev_for1,ev_chain,ev_ch,ev_ch1,ev_ch2,ev_ch3,ev_iop,ev_add,ev_neg,ev_m1,ev_m2,ev_lenL,ev_lenT,ev_p60,eq_int,ne_int,List.map_cons,List.map_nil,List.length_cons,List.length_nil,List.replicate_succ,List.replicate_zero,List.nil_append,List.cons_append,List.getElem?_cons_zero,List.getElem?_cons_succ,List.set_cons_zero,List.set_cons_succ,Nat.sub_zero,Nat.reduceSub,Nat.reduceAdd,Nat.add_zero,Nat.zero_add,Bool.not_true,Bool.not_false,ev_tup,ev_lst,ev_addL,ev_app1,ev_appL1,ev_mod,ev_unpL,ev_unpT,ev_sa,ev_sa0,ev_un,ev_un1,ev_un2,ev_un3,ev_ixL0,ev_ixL1,ev_ixL2,ev_ixL3,ev_ixL4,ev_ixL5,ev_ixL6,ev_ixL7,ev_ixL8,ev_ixL9,ev_ixL10,ev_ixL11,ev_ixL12,ev_ixL13,ev_ixT0,ev_ixT1,ev_ixT2,ev_ixT3,ev_ixT4,ev_ixT5,decide_true,decide_false,Nat.reduceLeDiff,Nat.reduceBEq,Int.reduceBEq,beq_self_eq_true,dOne,mYes,ev_is_bool_non,ev_is_bool_bl,ev_is_bool_int,ev_is_bool_str,ev_is_bool_tup,ev_is_bool_lst,ev_is_bool_dic,ev_is_int_non,ev_is_int_bl,ev_is_int_int,ev_is_int_str,ev_is_int_tup,ev_is_int_lst,ev_is_int_dic,ev_is_str_non,ev_is_str_bl,ev_is_str_int,ev_is_str_str,ev_is_str_tup,ev_is_str_lst,ev_is_str_dic,ev_is_tuple_non,ev_is_tuple_bl,ev_is_tuple_int,ev_is_tuple_str,ev_is_tuple_tup,ev_is_tuple_lst,ev_is_tuple_dic,ev_is_list_non,ev_is_list_bl,ev_is_list_int,ev_is_list_str,ev_is_list_tup,ev_is_list_lst,ev_is_list_dic,ev_is_dict_non,ev_is_dict_bl,ev_is_dict_int,ev_is_dict_str,ev_is_dict_tup,ev_is_dict_lst,ev_is_dict_dic,ev_isN_non,ev_notN_non,ev_isN_bl,ev_notN_bl,ev_isN_int,ev_notN_int,ev_isN_str,ev_notN_str,ev_isN_tup,ev_notN_tup,ev_isN_lst,ev_notN_lst,ev_isN_dic,ev_notN_dic,ev_c0,ev_c1,ev_c2,ev_c3,ev_c4,ev_c5,ev_c6,ev_c7,ev_c8,ev_c9,ev_c10,ev_c11,Int.reduceLT,Int.reduceLE,Int.reduceSub,Int.reduceAdd,Int.reduceMul,Int.reduceNeg,ev_join,ev_join1,ev_pt0,ev_pt1,ev_pt2,ev_pt3,ev_pt4,ev_rep,ev_rep1,ev_rep2,Int.reduceToNat,Bool.and_self,hlen,e1,e2,decide_eq_true h1,decide_eq_false h8,Bool.false_and,Bool.and_false]
  ·have e1:decide ((1:Int)<=(z.length:Int))=false:=decide_eq_false (by omega)
   simp only[zdf,ev_ok,ev_seq,ev_seq1,ev_seq2,ev_seq3,ev_seq4,ev_next,ev_set,ev_set1,ev_ret,ev_ret1,ev_retN,ev_drop,ev_drop1,ev_if,ev_if1,ev_if2,ev_own,ev_own1,ev_app,ev_ownS,ev_appL,ev_put,ev_put1,ev_putL,ev_putL1,ev_frz,ev_unp,ev_par,ev_par1,ev_b1,ev_b2,ev_b21,ev_bA,ev_nil,ev_cons,ev_cons1,ev_cons2,ev_and,ev_and1,ev_and2,ev_or,ev_or1,ev_or2,ev_not,ev_not1,ev_ifx,ev_ifx1,ev_ifx2,ev_var,ev_var1,ev_C,ev_shr0,ev_shr,ev_shr1,ev_shr2,ev_shr3,ev_run,ev_run1,ev_run2,ev_os,ev_os1,ev_on,ev_sl,ev_sl0,ev_sl1,ev_sl2,ev_for,ev_for1,ev_chain,ev_ch,ev_ch1,ev_ch2,ev_ch3,ev_iop,ev_add,ev_neg,ev_m1,ev_m2,ev_lenL,ev_lenT,ev_p60,eq_int,ne_int,List.map_cons,List.map_nil,List.length_cons,List.length_nil,List.replicate_succ,List.replicate_zero,List.nil_append,List.cons_append,List.getElem?_cons_zero,List.getElem?_cons_succ,List.set_cons_zero,List.set_cons_succ,Nat.sub_zero,Nat.reduceSub,Nat.reduceAdd,Nat.add_zero,Nat.zero_add,Bool.not_true,Bool.not_false,ev_tup,ev_lst,ev_addL,ev_app1,ev_appL1,ev_mod,ev_unpL,ev_unpT,ev_sa,ev_sa0,ev_un,ev_un1,ev_un2,ev_un3,ev_ixL0,ev_ixL1,ev_ixL2,ev_ixL3,ev_ixL4,ev_ixL5,ev_ixL6,ev_ixL7,ev_ixL8,ev_ixL9,ev_ixL10,ev_ixL11,ev_ixL12,ev_ixL13,ev_ixT0,ev_ixT1,ev_ixT2,ev_ixT3,ev_ixT4,ev_ixT5,decide_true,decide_false,Nat.reduceLeDiff,Nat.reduceBEq,Int.reduceBEq,beq_self_eq_true,dOne,mYes,ev_is_bool_non,ev_is_bool_bl,ev_is_bool_int,ev_is_bool_str,ev_is_bool_tup,ev_is_bool_lst,ev_is_bool_dic,ev_is_int_non,ev_is_int_bl,ev_is_int_int,ev_is_int_str,ev_is_int_tup,ev_is_int_lst,ev_is_int_dic,ev_is_str_non,ev_is_str_bl,ev_is_str_int,ev_is_str_str,ev_is_str_tup,ev_is_str_lst,ev_is_str_dic,ev_is_tuple_non,ev_is_tuple_bl,ev_is_tuple_int,ev_is_tuple_str,ev_is_tuple_tup,ev_is_tuple_lst,ev_is_tuple_dic,ev_is_list_non,ev_is_list_bl,ev_is_list_int,ev_is_list_str,ev_is_list_tup,ev_is_list_lst,ev_is_list_dic,ev_is_dict_non,ev_is_dict_bl,ev_is_dict_int,ev_is_dict_str,ev_is_dict_tup,ev_is_dict_lst,ev_is_dict_dic,ev_isN_non,ev_notN_non,ev_isN_bl,ev_notN_bl,ev_isN_int,ev_notN_int,ev_isN_str,ev_notN_str,ev_isN_tup,ev_notN_tup,ev_isN_lst,ev_notN_lst,ev_isN_dic,ev_notN_dic,ev_c0,ev_c1,ev_c2,ev_c3,ev_c4,ev_c5,ev_c6,ev_c7,ev_c8,ev_c9,ev_c10,ev_c11,Int.reduceLT,Int.reduceLE,Int.reduceSub,Int.reduceAdd,Int.reduceMul,Int.reduceNeg,ev_join,ev_join1,ev_pt0,ev_pt1,ev_pt2,ev_pt3,ev_pt4,ev_rep,ev_rep1,ev_rep2,Int.reduceToNat,Bool.and_self,hlen,e1,decide_eq_false h1,Bool.false_and]
 | ob k _=>cases k<;>rfl
 | _=>rfl
def zpH:D->Bool
 | .tup [.int p,.int q]=>decide (1<=q)&&(Int.gcd p q==1)
 | _=>false
theorem zCQ {g:Nat}:((g:Int)==1)=(g==1):=by
 cases h:(g==1) with
 | true=>rw[eq_of_beq h];rfl
 | false =>
  have:g≠1:=fun z=>by rw[z] at h;cases h
  exact beq_eq_false_iff_ne.mpr (by omega)
theorem zBA {xs:List D}:(∃ x y,xs=[x,y])∨xs.length≠2:=by
 match xs with
 | []=>exact .inr (by decide)
 | [x]=>exact .inr (by simp)
 | [x,y]=>exact .inl ⟨x,y,rfl⟩
 | x::y::z::r=>exact .inr (by simp)
theorem zxI:∀ {xs:List D},xs.length≠2->zpH (.tup xs)=false
 | [],_=>rfl
 | [x],_=>by cases x<;>rfl
 | [x,y],h=>absurd rfl h
 | x::y::z::r,_=>by cases x<;>cases y<;>rfl
theorem ztl {x y:D}:zpH (.tup [x,y])=(isI x&&(isI y&&zpH (.tup [x,y]))):=by
 cases x<;>cases y<;>rfl
theorem zp9 (d:D):zc1 [d]=.ok (.bl (zpH d)):=by
 cases d with
 | tup xs =>
  rcases zBA (xs:=xs) with⟨x,y,rfl⟩ | h
  ·rw[ztl]
   show zc5 1 zb5 _=_
   cases hx:isI x with
   | false=>simp only[zb5,ev_ok,ev_seq,ev_seq1,ev_seq2,ev_seq3,ev_seq4,ev_next,ev_set,ev_set1,ev_ret,ev_ret1,ev_retN,ev_drop,ev_drop1,ev_if,ev_if1,ev_if2,ev_own,ev_own1,ev_app,ev_ownS,ev_appL,ev_put,ev_put1,ev_putL,ev_putL1,ev_frz,ev_unp,ev_par,ev_par1,ev_b1,ev_b2,ev_b21,ev_bA,ev_nil,ev_cons,ev_cons1,ev_cons2,ev_and,ev_and1,ev_and2,ev_or,ev_or1,ev_or2,ev_not,ev_not1,ev_ifx,ev_ifx1,ev_ifx2,ev_var,ev_var1,ev_C,ev_shr0,ev_shr,ev_shr1,ev_shr2,ev_shr3,ev_run,ev_run1,ev_run2,ev_os,ev_os1,ev_on,ev_sl,ev_sl0,ev_sl1,ev_sl2,ev_for,ev_for1,ev_chain,ev_ch,ev_ch1,ev_ch2,ev_ch3,ev_iop,ev_add,ev_neg,ev_m1,ev_m2,ev_lenL,ev_lenT,ev_p60,eq_int,ne_int,List.map_cons,List.map_nil,List.length_cons,List.length_nil,List.replicate_succ,List.replicate_zero,List.nil_append,List.cons_append,List.getElem?_cons_zero,List.getElem?_cons_succ,List.set_cons_zero,List.set_cons_succ,Nat.sub_zero,Nat.reduceSub,Nat.reduceAdd,Nat.add_zero,Nat.zero_add,Bool.not_true,Bool.not_false,ev_tup,ev_lst,ev_addL,ev_app1,ev_appL1,ev_mod,ev_unpL,ev_unpT,ev_sa,ev_sa0,ev_un,ev_un1,ev_un2,ev_un3,ev_ixL0,ev_ixL1,ev_ixL2,ev_ixL3,ev_ixL4,ev_ixL5,ev_ixL6,ev_ixL7,ev_ixL8,ev_ixL9,ev_ixL10,ev_ixL11,ev_ixL12,ev_ixL13,ev_ixT0,ev_ixT1,ev_ixT2,ev_ixT3,ev_ixT4,ev_ixT5,decide_true,decide_false,Nat.reduceLeDiff,Nat.reduceBEq,Int.reduceBEq,beq_self_eq_true,dOne,mYes,ev_is_bool_non,ev_is_bool_bl,ev_is_bool_int,ev_is_bool_str,ev_is_bool_tup,ev_is_bool_lst,ev_is_bool_dic,ev_is_int_non,ev_is_int_bl,ev_is_int_int,ev_is_int_str,ev_is_int_tup,ev_is_int_lst,ev_is_int_dic,ev_is_str_non,ev_is_str_bl,ev_is_str_int,ev_is_str_str,ev_is_str_tup,ev_is_str_lst,ev_is_str_dic,ev_is_tuple_non,ev_is_tuple_bl,ev_is_tuple_int,ev_is_tuple_str,ev_is_tuple_tup,ev_is_tuple_lst,ev_is_tuple_dic,ev_is_list_non,ev_is_list_bl,ev_is_list_int,ev_is_list_str,ev_is_list_tup,ev_is_list_lst,ev_is_list_dic,ev_is_dict_non,ev_is_dict_bl,ev_is_dict_int,ev_is_dict_str,ev_is_dict_tup,ev_is_dict_lst,ev_is_dict_dic,ev_isN_non,ev_notN_non,ev_isN_bl,ev_notN_bl,ev_isN_int,ev_notN_int,ev_isN_str,ev_notN_str,ev_isN_tup,ev_notN_tup,ev_isN_lst,ev_notN_lst,ev_isN_dic,ev_notN_dic,ev_c0,ev_c1,ev_c2,ev_c3,ev_c4,ev_c5,ev_c6,ev_c7,ev_c8,ev_c9,ev_c10,ev_c11,Int.reduceLT,Int.reduceLE,Int.reduceSub,Int.reduceAdd,Int.reduceMul,Int.reduceNeg,ev_join,ev_join1,ev_pt0,ev_pt1,ev_pt2,ev_pt3,ev_pt4,ev_rep,ev_rep1,ev_rep2,Int.reduceToNat,Bool.and_self,zbz,hx,Bool.false_and]
   | true =>
    cases hy:isI y with
    | false=>simp only[zb5,ev_ok,ev_seq,ev_seq1,ev_seq2,ev_seq3,ev_seq4,ev_next,ev_set,ev_set1,ev_ret,ev_ret1,ev_retN,ev_drop,ev_drop1,ev_if,ev_if1,ev_if2,ev_own,ev_own1,ev_app,ev_ownS,ev_appL,ev_put,ev_put1,ev_putL,ev_putL1,ev_frz,ev_unp,ev_par,ev_par1,ev_b1,ev_b2,ev_b21,ev_bA,ev_nil,ev_cons,ev_cons1,ev_cons2,ev_and,ev_and1,ev_and2,ev_or,ev_or1,ev_or2,ev_not,ev_not1,ev_ifx,ev_ifx1,ev_ifx2,ev_var,ev_var1,ev_C,ev_shr0,ev_shr,ev_shr1,ev_shr2,ev_shr3,ev_run,ev_run1,ev_run2,ev_os,ev_os1,ev_on,ev_sl,ev_sl0,ev_sl1,ev_sl2,ev_for,ev_for1,ev_chain,ev_ch,ev_ch1,ev_ch2,ev_ch3,ev_iop,ev_add,ev_neg,ev_m1,ev_m2,ev_lenL,ev_lenT,ev_p60,eq_int,ne_int,List.map_cons,List.map_nil,List.length_cons,List.length_nil,List.replicate_succ,List.replicate_zero,List.nil_append,List.cons_append,List.getElem?_cons_zero,List.getElem?_cons_succ,List.set_cons_zero,List.set_cons_succ,Nat.sub_zero,Nat.reduceSub,Nat.reduceAdd,Nat.add_zero,Nat.zero_add,Bool.not_true,Bool.not_false,ev_tup,ev_lst,ev_addL,ev_app1,ev_appL1,ev_mod,ev_unpL,ev_unpT,ev_sa,ev_sa0,ev_un,ev_un1,ev_un2,ev_un3,ev_ixL0,ev_ixL1,ev_ixL2,ev_ixL3,ev_ixL4,ev_ixL5,ev_ixL6,ev_ixL7,ev_ixL8,ev_ixL9,ev_ixL10,ev_ixL11,ev_ixL12,ev_ixL13,ev_ixT0,ev_ixT1,ev_ixT2,ev_ixT3,ev_ixT4,ev_ixT5,decide_true,decide_false,Nat.reduceLeDiff,Nat.reduceBEq,Int.reduceBEq,beq_self_eq_true,dOne,mYes,ev_is_bool_non,ev_is_bool_bl,ev_is_bool_int,ev_is_bool_str,ev_is_bool_tup,ev_is_bool_lst,ev_is_bool_dic,ev_is_int_non,ev_is_int_bl,ev_is_int_int,ev_is_int_str,ev_is_int_tup,ev_is_int_lst,ev_is_int_dic,ev_is_str_non,ev_is_str_bl,ev_is_str_int,ev_is_str_str,ev_is_str_tup,ev_is_str_lst,ev_is_str_dic,ev_is_tuple_non,ev_is_tuple_bl,ev_is_tuple_int,ev_is_tuple_str,ev_is_tuple_tup,ev_is_tuple_lst,ev_is_tuple_dic,ev_is_list_non,ev_is_list_bl,ev_is_list_int,ev_is_list_str,ev_is_list_tup,ev_is_list_lst,ev_is_list_dic,ev_is_dict_non,ev_is_dict_bl,ev_is_dict_int,ev_is_dict_str,ev_is_dict_tup,ev_is_dict_lst,ev_is_dict_dic,ev_isN_non,ev_notN_non,ev_isN_bl,ev_notN_bl,ev_isN_int,ev_notN_int,ev_isN_str,ev_notN_str,ev_isN_tup,ev_notN_tup,ev_isN_lst,ev_notN_lst,ev_isN_dic,ev_notN_dic,ev_c0,ev_c1,ev_c2,ev_c3,ev_c4,ev_c5,ev_c6,ev_c7,ev_c8,ev_c9,ev_c10,ev_c11,Int.reduceLT,Int.reduceLE,Int.reduceSub,Int.reduceAdd,Int.reduceMul,Int.reduceNeg,ev_join,ev_join1,ev_pt0,ev_pt1,ev_pt2,ev_pt3,ev_pt4,ev_rep,ev_rep1,ev_rep2,Int.reduceToNat,Bool.and_self,zbz,hx,hy,Bool.false_and,Bool.true_and]
    | true =>
     cases x<;>first | (cases hx;done) | skip
     cases y<;>first | (cases hy;done) | skip
     rename_i p q
     show _=Res.ok (D.bl (decide (1<=q)&&(Int.gcd p q==1)))
     by_cases hq:1<=q
     ·simp only[zb5,ev_ok,ev_seq,ev_seq1,ev_seq2,ev_seq3,ev_seq4,ev_next,ev_set,ev_set1,ev_ret,ev_ret1,ev_retN,ev_drop,ev_drop1,ev_if,ev_if1,ev_if2,ev_own,ev_own1,ev_app,ev_ownS,ev_appL,ev_put,ev_put1,ev_putL,ev_putL1,ev_frz,ev_unp,ev_par,ev_par1,ev_b1,ev_b2,ev_b21,ev_bA,ev_nil,ev_cons,ev_cons1,ev_cons2,ev_and,ev_and1,ev_and2,ev_or,ev_or1,ev_or2,ev_not,ev_not1,ev_ifx,ev_ifx1,ev_ifx2,ev_var,ev_var1,ev_C,ev_shr0,ev_shr,ev_shr1,ev_shr2,ev_shr3,ev_run,ev_run1,ev_run2,ev_os,ev_os1,ev_on,ev_sl,ev_sl0,ev_sl1,ev_sl2,ev_for,ev_for1,ev_chain,ev_ch,ev_ch1,ev_ch2,ev_ch3,ev_iop,ev_add,ev_neg,ev_m1,ev_m2,ev_lenL,ev_lenT,ev_p60,eq_int,ne_int,List.map_cons,List.map_nil,List.length_cons,List.length_nil,List.replicate_succ,List.replicate_zero,List.nil_append,List.cons_append,List.getElem?_cons_zero,List.getElem?_cons_succ,List.set_cons_zero,List.set_cons_succ,Nat.sub_zero,Nat.reduceSub,Nat.reduceAdd,Nat.add_zero,Nat.zero_add,Bool.not_true,Bool.not_false,ev_tup,ev_lst,ev_addL,ev_app1,ev_appL1,ev_mod,ev_unpL,ev_unpT,ev_sa,ev_sa0,ev_un,ev_un1,ev_un2,ev_un3,ev_ixL0,ev_ixL1,ev_ixL2,ev_ixL3,ev_ixL4,ev_ixL5,ev_ixL6,ev_ixL7,ev_ixL8,ev_ixL9,ev_ixL10,ev_ixL11,ev_ixL12,ev_ixL13,ev_ixT0,ev_ixT1,ev_ixT2,ev_ixT3,ev_ixT4,ev_ixT5,decide_true,decide_false,Nat.reduceLeDiff,Nat.reduceBEq,Int.reduceBEq,beq_self_eq_true,dOne,mYes,ev_is_bool_non,ev_is_bool_bl,ev_is_bool_int,ev_is_bool_str,ev_is_bool_tup,ev_is_bool_lst,ev_is_bool_dic,ev_is_int_non,ev_is_int_bl,ev_is_int_int,ev_is_int_str,ev_is_int_tup,ev_is_int_lst,ev_is_int_dic,ev_is_str_non,ev_is_str_bl,ev_is_str_int,ev_is_str_str,ev_is_str_tup,ev_is_str_lst,ev_is_str_dic,ev_is_tuple_non,ev_is_tuple_bl,ev_is_tuple_int,ev_is_tuple_str,ev_is_tuple_tup,ev_is_tuple_lst,ev_is_tuple_dic,ev_is_list_non,ev_is_list_bl,ev_is_list_int,ev_is_list_str,ev_is_list_tup,ev_is_list_lst,ev_is_list_dic,ev_is_dict_non,ev_is_dict_bl,ev_is_dict_int,ev_is_dict_str,ev_is_dict_tup,ev_is_dict_lst,ev_is_dict_dic,ev_isN_non,ev_notN_non,ev_isN_bl,ev_notN_bl,ev_isN_int,ev_notN_int,ev_isN_str,ev_notN_str,ev_isN_tup,ev_notN_tup,ev_isN_lst,ev_notN_lst,ev_isN_dic,ev_notN_dic,ev_c0,ev_c1,ev_c2,ev_c3,ev_c4,ev_c5,ev_c6,ev_c7,ev_c8,ev_c9,ev_c10,ev_c11,Int.reduceLT,Int.reduceLE,Int.reduceSub,Int.reduceAdd,Int.reduceMul,Int.reduceNeg,ev_join,ev_join1,ev_pt0,ev_pt1,ev_pt2,ev_pt3,ev_pt4,ev_rep,ev_rep1,ev_rep2,Int.reduceToNat,Bool.and_self,zbz,hx,hy,zkb,Bool.true_and,decide_eq_true hq,zCQ]
     ·simp only[zb5,ev_ok,ev_seq,ev_seq1,ev_seq2,ev_seq3,ev_seq4,ev_next,ev_set,ev_set1,ev_ret,ev_ret1,ev_retN,ev_drop,ev_drop1,ev_if,ev_if1,ev_if2,ev_own,ev_own1,ev_app,ev_ownS,ev_appL,ev_put,ev_put1,ev_putL,ev_putL1,ev_frz,ev_unp,ev_par,ev_par1,ev_b1,ev_b2,ev_b21,ev_bA,ev_nil,ev_cons,ev_cons1,ev_cons2,ev_and,ev_and1,ev_and2,ev_or,ev_or1,ev_or2,ev_not,ev_not1,ev_ifx,ev_ifx1,ev_ifx2,ev_var,ev_var1,ev_C,ev_shr0,ev_shr,ev_shr1,ev_shr2,ev_shr3,ev_run,ev_run1,ev_run2,ev_os,ev_os1,ev_on,ev_sl,ev_sl0,ev_sl1,ev_sl2,ev_for,ev_for1,ev_chain,ev_ch,ev_ch1,ev_ch2,ev_ch3,ev_iop,ev_add,ev_neg,ev_m1,ev_m2,ev_lenL,ev_lenT,ev_p60,eq_int,ne_int,List.map_cons,List.map_nil,List.length_cons,List.length_nil,List.replicate_succ,List.replicate_zero,List.nil_append,List.cons_append,List.getElem?_cons_zero,List.getElem?_cons_succ,List.set_cons_zero,List.set_cons_succ,Nat.sub_zero,Nat.reduceSub,Nat.reduceAdd,Nat.add_zero,Nat.zero_add,Bool.not_true,Bool.not_false,ev_tup,ev_lst,ev_addL,ev_app1,ev_appL1,ev_mod,ev_unpL,ev_unpT,ev_sa,ev_sa0,ev_un,ev_un1,ev_un2,ev_un3,ev_ixL0,ev_ixL1,ev_ixL2,ev_ixL3,ev_ixL4,ev_ixL5,ev_ixL6,ev_ixL7,ev_ixL8,ev_ixL9,ev_ixL10,ev_ixL11,ev_ixL12,ev_ixL13,ev_ixT0,ev_ixT1,ev_ixT2,ev_ixT3,ev_ixT4,ev_ixT5,decide_true,decide_false,Nat.reduceLeDiff,Nat.reduceBEq,Int.reduceBEq,beq_self_eq_true,dOne,mYes,ev_is_bool_non,ev_is_bool_bl,ev_is_bool_int,ev_is_bool_str,ev_is_bool_tup,ev_is_bool_lst,ev_is_bool_dic,ev_is_int_non,ev_is_int_bl,ev_is_int_int,ev_is_int_str,ev_is_int_tup,ev_is_int_lst,ev_is_int_dic,ev_is_str_non,ev_is_str_bl,ev_is_str_int,ev_is_str_str,ev_is_str_tup,ev_is_str_lst,ev_is_str_dic,ev_is_tuple_non,ev_is_tuple_bl,ev_is_tuple_int,ev_is_tuple_str,ev_is_tuple_tup,ev_is_tuple_lst,ev_is_tuple_dic,ev_is_list_non,ev_is_list_bl,ev_is_list_int,ev_is_list_str,ev_is_list_tup,ev_is_list_lst,ev_is_list_dic,ev_is_dict_non,ev_is_dict_bl,ev_is_dict_int,ev_is_dict_str,ev_is_dict_tup,ev_is_dict_lst,ev_is_dict_dic,ev_isN_non,ev_notN_non,ev_isN_bl,ev_notN_bl,ev_isN_int,ev_notN_int,ev_isN_str,ev_notN_str,ev_isN_tup,ev_notN_tup,ev_isN_lst,ev_notN_lst,ev_isN_dic,ev_notN_dic,ev_c0,ev_c1,ev_c2,ev_c3,ev_c4,ev_c5,ev_c6,ev_c7,ev_c8,ev_c9,ev_c10,ev_c11,Int.reduceLT,Int.reduceLE,Int.reduceSub,Int.reduceAdd,Int.reduceMul,Int.reduceNeg,ev_join,ev_join1,ev_pt0,ev_pt1,ev_pt2,ev_pt3,ev_pt4,ev_rep,ev_rep1,ev_rep2,Int.reduceToNat,Bool.and_self,zbz,hx,hy,zkb,Bool.true_and,decide_eq_false hq,Bool.false_and]
  ·have e2:((xs.length:Int)==2)=false:=beq_eq_false_iff_ne.mpr (by omega)
   rw[zxI h]
   show zc5 1 zb5 _=_
   simp only[zb5,ev_ok,ev_seq,ev_seq1,ev_seq2,ev_seq3,ev_seq4,ev_next,ev_set,ev_set1,ev_ret,ev_ret1,ev_retN,ev_drop,ev_drop1,ev_if,ev_if1,ev_if2,ev_own,ev_own1,ev_app,ev_ownS,ev_appL,ev_put,ev_put1,ev_putL,ev_putL1,ev_frz,ev_unp,ev_par,ev_par1,ev_b1,ev_b2,ev_b21,ev_bA,ev_nil,ev_cons,ev_cons1,ev_cons2,ev_and,ev_and1,ev_and2,ev_or,ev_or1,ev_or2,ev_not,ev_not1,ev_ifx,ev_ifx1,ev_ifx2,ev_var,ev_var1,ev_C,ev_shr0,ev_shr,ev_shr1,ev_shr2,ev_shr3,ev_run,ev_run1,ev_run2,ev_os,ev_os1,ev_on,ev_sl,ev_sl0,ev_sl1,ev_sl2,ev_for,ev_for1,ev_chain,ev_ch,ev_ch1,ev_ch2,ev_ch3,ev_iop,ev_add,ev_neg,ev_m1,ev_m2,ev_lenL,ev_lenT,ev_p60,eq_int,ne_int,List.map_cons,List.map_nil,List.length_cons,List.length_nil,List.replicate_succ,List.replicate_zero,List.nil_append,List.cons_append,List.getElem?_cons_zero,List.getElem?_cons_succ,List.set_cons_zero,List.set_cons_succ,Nat.sub_zero,Nat.reduceSub,Nat.reduceAdd,Nat.add_zero,Nat.zero_add,Bool.not_true,Bool.not_false,ev_tup,ev_lst,ev_addL,ev_app1,ev_appL1,ev_mod,ev_unpL,ev_unpT,ev_sa,ev_sa0,ev_un,ev_un1,ev_un2,ev_un3,ev_ixL0,ev_ixL1,ev_ixL2,ev_ixL3,ev_ixL4,ev_ixL5,ev_ixL6,ev_ixL7,ev_ixL8,ev_ixL9,ev_ixL10,ev_ixL11,ev_ixL12,ev_ixL13,ev_ixT0,ev_ixT1,ev_ixT2,ev_ixT3,ev_ixT4,ev_ixT5,decide_true,decide_false,Nat.reduceLeDiff,Nat.reduceBEq,Int.reduceBEq,beq_self_eq_true,dOne,mYes,ev_is_bool_non,ev_is_bool_bl,ev_is_bool_int,ev_is_bool_str,ev_is_bool_tup,ev_is_bool_lst,ev_is_bool_dic,ev_is_int_non,ev_is_int_bl,ev_is_int_int,ev_is_int_str,ev_is_int_tup,ev_is_int_lst,ev_is_int_dic,ev_is_str_non,ev_is_str_bl,ev_is_str_int,ev_is_str_str,ev_is_str_tup,ev_is_str_lst,ev_is_str_dic,ev_is_tuple_non,ev_is_tuple_bl,ev_is_tuple_int,ev_is_tuple_str,ev_is_tuple_tup,ev_is_tuple_lst,ev_is_tuple_dic,ev_is_list_non,ev_is_list_bl,ev_is_list_int,ev_is_list_str,ev_is_list_tup,ev_is_list_lst,ev_is_list_dic,ev_is_dict_non,ev_is_dict_bl,ev_is_dict_int,ev_is_dict_str,ev_is_dict_tup,ev_is_dict_lst,ev_is_dict_dic,ev_isN_non,ev_notN_non,ev_isN_bl,ev_notN_bl,ev_isN_int,ev_notN_int,ev_isN_str,ev_notN_str,ev_isN_tup,ev_notN_tup,ev_isN_lst,ev_notN_lst,ev_isN_dic,ev_notN_dic,ev_c0,ev_c1,ev_c2,ev_c3,ev_c4,ev_c5,ev_c6,ev_c7,ev_c8,ev_c9,ev_c10,ev_c11,Int.reduceLT,Int.reduceLE,Int.reduceSub,Int.reduceAdd,Int.reduceMul,Int.reduceNeg,ev_join,ev_join1,ev_pt0,ev_pt1,ev_pt2,ev_pt3,ev_pt4,ev_rep,ev_rep1,ev_rep2,Int.reduceToNat,Bool.and_self,e2]
 | ob k _=>cases k<;>rfl
 | _=>rfl
theorem zDC {sz:List Int}(h:(sz.all fun s=>decide (0 < s)&&decide (s<=(N60:Int)))=true):∀ s∈sz,0 < s/\s.natAbs < B9:=fun s hs=>by
 have:=List.all_eq_true.mp h s hs
 simp only[Bool.and_eq_true,decide_eq_true_eq] at this
 refine⟨this.1,Nat.lt_of_le_of_lt (show s.natAbs<=N60 by omega) ?_⟩
 exact Nat.lt_of_lt_of_le (show N60 < 2 ^ 200 by decide) (by rw[zy8];exact Nat.pow_le_pow_right (by decide) (by decide))
theorem zrX {α:Type}{F:α->D}{xs:List α}{lo hi:Option Int}:zjJ (xs.map F) lo hi=((xs.drop (HT.sIx xs.length 0 lo)).take (HT.sIx xs.length xs.length hi-HT.sIx xs.length 0 lo)).map F:=by
 unfold zjJ
 rw[List.length_map,← List.map_drop,← List.map_take]
section
variable {α β:Type}
theorem zef {x:Exn}{f:α->Res β}:(Res.exn x:Res α).bind f=.exn x:=nrfl rfl
end
def zDo (hit:Str->Bool)(ni:Nat)(sh:Ev->Res Fl)(ρ:Ev)(r:Res Fl):Res Fl:=match r with
 | .exn x=>if hit x.cls=true then(sh (ρ.set ni (.sh (.exc x.cls)))).bind (zDY ni) else .stuck
 | r=>r
theorem zsR {g:Ev->Res Fl}{hit:Str->Bool}{ni:Nat}{sh:Ev->Res Fl}{ρ:Ev}:zBj g hit ni sh ρ=zDo hit ni sh ρ (g ρ):=nrfl rfl
theorem zA2 {hit:Str->Bool}{ni:Nat}{sh:Ev->Res Fl}{ρ:Ev}{r:Fl}:zDo hit ni sh ρ (.ok r)=.ok r:=nrfl rfl
theorem zrS {hit:Str->Bool}{ni:Nat}{sh:Ev->Res Fl}{ρ:Ev}{c:Str}(h:hit c=true):zDo hit ni sh ρ (.exn ⟨c,[]⟩)=(sh (ρ.set ni (.sh (.exc c)))).bind (zDY ni):=if_pos h
def zzh (x:Str)(ds:List D):Res Fl:=if ds.length<=line then .exn ⟨x,[]⟩ else .stuck
theorem zj5 {x:Str}{fa:Ev->Res (List D)}{ρ:Ev}:zhT x fa ρ=(fa (shr ρ)).bind (zzh x):=nrfl rfl
theorem zh8 {x:Str}{d:D}:zzh x [d]=.exn ⟨x,[]⟩:=if_pos (show 1<=line by decide)
def zCN (tg:Ev->D->Res Ev)(s:Ev->Res Fl)(ρ:Ev)(ds:List D):Res Fl:=zed tg s ds ρ
def zBS (d:D):Res (List D):=match d with
 | .lst ds=>.ok (zc0 0 ds)
 | _=>.stuck
def zz5 (d:D):Res (List D):=match d with
 | .lst ds=>.ok ds
 | _=>.stuck
def zBR (d:D):Res (List D):=match d with
 | .tup ds=>.ok ds
 | _=>.stuck
def zin (n:Nat)(fr:List Nat)(tg:Ev->D->Res Ev)(tt fe:Ev->Res D)(ρ:Ev)(ds:List D):Res D:=if ds.length<=line then match zcM (zeT n fr ρ) tg tt fe ds with
  | .ok es=>.ok (.lst es)
  | _=>.stuck
 else .stuck
def liK (fe:Ev->Res D)(ρ:Ev)(x:D):Res D:=match x with
 | .lst ds=>(fe ρ).bind (znL (.lst ds))
 | _=>.stuck
def zwM (x:D)(xs:List D):Res (List D):=.ok (x::xs)
def frK (fa:Ev->Res (List D))(ρ:Ev)(x:D):Res (List D):=match x with
 | .lst ds=>(fa ρ).bind (zwM (.lst ds))
 | _=>.stuck
theorem ev_frc {x:D}{xs:List D}:zwM x xs=.ok (x::xs):=nrfl rfl
def zwp (tg:Ev->D->Res Ev)(s:Ev->Res Fl)(ρ:Ev)(d:D):Res Fl:=match d with
 | .int j=>if -4611686018427387904<=j/\j < 4611686018427387904 then zed tg s (intsFrom 0 j.toNat) ρ else .stuck
 | _=>.stuck
section
variable {s t:Ev->Res Fl}{f g h:Ev->Res D}{src:Ev->Res (List D)}{fa:Ev->Res (List D)}{ρ r:Ev}{i j n:Nat}{d x y:D}{ds es xs:List D}{a b:Int}{tg:Ev->D->Res Ev}{tt fe:Ev->Res D}{fr:List Nat}
theorem ev_forI:zn7 src tg s ρ=(src ρ).bind (zCN tg s ρ):=nrfl rfl
theorem ev_forI1:zCN tg s ρ ds=zed tg s ds ρ:=nrfl rfl
theorem ev_srcE:zz6 f ρ=(f ρ).bind zBS:=nrfl rfl
theorem ev_srcE1:zBS (.lst ds)=.ok (zc0 0 ds):=nrfl rfl
theorem ev_srcL:zqZ f ρ=(f ρ).bind zz5:=nrfl rfl
theorem ev_srcL1:zz5 (.lst ds)=.ok ds:=nrfl rfl
theorem ev_srcT:zE7 f ρ=(f ρ).bind zBR:=nrfl rfl
theorem ev_srcT1:zBR (.tup ds)=.ok ds:=nrfl rfl
theorem ev_comp:zd6 n fr src tg tt fe ρ=(src ρ).bind (zin n fr tg tt fe ρ):=nrfl rfl
theorem ev_fld {c f:Str}{ks:List Str}:zw5 f (.ob (.ins c ks) ds)=(match zud f ks ds with | some d=>.ok d | none=>.stuck):=nrfl rfl
theorem ev_fld0 {f k:Str}{ks:List Str}:zud f (k::ks) (d::ds)=if f=k then some d else zud f ks ds:=nrfl rfl
theorem ev_fld1 {f:Str}:zud f (f::ks) (d::ds)=some d:=by unfold zud;rw[if_pos rfl]
theorem ev_fld2 {c:Str}{ks:List Str}(h:(ds.length==ks.length)=true):zDd c ks ds=.ok (.ob (.ins c ks) ds):=if_pos (eq_of_beq h)
theorem ev_lI:zoN f g ρ=(f ρ).bind (liK g ρ):=nrfl rfl
theorem ev_lI1:liK g ρ (.lst ds)=(g ρ).bind (znL (.lst ds)):=nrfl rfl
theorem ev_gU {is:List Nat}(h:(ds.length==is.length)=true):zwk is ρ (.tup ds)=.ok (zfv ρ is ds):=by
 show(match (if ds.length=is.length then some ds else none) with | some ds=>Res.ok (zfv ρ is ds) | none=>.stuck)=_
 rw[if_pos (eq_of_beq h)]
theorem ev_fr1:aFr f fa ρ=(f ρ).bind (frK fa ρ):=nrfl (by unfold aFr;cases f ρ with | ok x=>cases x<;>rfl | _=>rfl)
theorem ev_fr2:frK fa ρ (.lst ds)=(fa ρ).bind (zwM (.lst ds)):=nrfl rfl
theorem ev_ownT:zDI i j fa ρ=(fa ρ).bind (zED i j ρ):=nrfl rfl
theorem ev_clrAt:zBZ i j ρ=zA8 i j ρ ρ[i]?:=nrfl rfl
theorem ev_clrAt1:zA8 i j ρ (some (.ox j ds))=.ok (.nx (ρ.set i (.ox j (ds.set j (.lst []))))):=if_pos rfl
theorem ev_gS:zcx i ρ d=.ok (ρ.set i (.sh d)):=nrfl rfl
theorem ev_forR:zl6 f tg s ρ=(f (shr ρ)).bind (zwp tg s ρ):=nrfl rfl
theorem zlN {k:Nat}(h:k<=1000000):zwp tg s ρ (.int (k:Int))=zed tg s (intsFrom 0 k) ρ:=by
 unfold zwp
 dsimp only
 rw[if_pos ⟨by omega,by omega⟩,Int.toNat_natCast]
theorem ev_slT {l h:Option Int}(c:(HT.sIx ds.length 0 l==0&&HT.sIx ds.length ds.length h==ds.length)=false):zzd (.tup ds) l h=.ok (.tup (zjJ ds l h)):=by
 show(if _ then _ else _)=_
 rw[if_neg (fun z=>by rw[z.1,z.2] at c;simp at c)]
theorem ev_addT {x:D}(h:decide (ds.length+es.length<=1000)=true):zbx (.tup (x::ds)) (.tup es)=.ok (.tup (x::ds++es)):=by
 refine if_pos ⟨rfl,?_⟩
 have:=of_decide_eq_true h
 show ds.length+1+es.length<=line
 have:(1001:Nat)<=line:=by decide
 omega
theorem ev_addS {x y:Str}(h:decide (x.length+y.length<=1000)=true):zbx (.str x) (.str y)=.ok (.str (x++y)):=if_pos (Nat.le_trans (of_decide_eq_true h) (by decide))
theorem ev_lenS {z:Str}(h:decide (z.length<=1000)=true):zhE (.str z)=.ok (.int z.length):=if_pos (Nat.le_trans (of_decide_eq_true h) (by decide))
theorem ev_mx:zEi (.int a) (.int b)=.ok (.int (if b > a then b else a)):=nrfl rfl
theorem ev_io:zhF (.bl true)=.ok (.int 1):=nrfl rfl
theorem ev_io1:zhF (.bl false)=.ok (.int 0):=nrfl rfl
theorem ev_li:zqo (.lst ds)=.ok (.lst ds):=nrfl rfl
theorem ev_li1:zqo (.tup ds)=.ok (.lst ds):=nrfl rfl
theorem ev_p18:zni (.int 10) (.int 18)=.ok (.int 1000000000000000000):=nrfl rfl
theorem ev_p9:zni (.int 10) (.int 9)=.ok (.int 1000000000):=nrfl rfl
theorem zi4 {F:D->D}(hl:ds.length<=1000000)(h:∀ d∈ds,∃ ρ1,tg (zeT n fr ρ) d=.ok ρ1/\tt ρ1=.ok (.bl true)/\fe ρ1=.ok (F d)):zin n fr tg tt fe ρ ds=.ok (.lst (ds.map F)):=by
 unfold zin
 rw[if_pos (show ds.length<=line from hl),zqs h]
theorem zmP {B:Ev}{F:D->D}{p:D->Bool}:∀ {ds:List D},(∀ d∈ds,∃ ρ1,tg B d=.ok ρ1/\tt ρ1=.ok (.bl (p d))/\(p d=true->fe ρ1=.ok (F d)))->zcM B tg tt fe ds=.ok ((ds.filter p).map F)
 | [],_=>rfl
 | d::ds,h=>by
  obtain⟨ρ1,h1,h2,h3⟩:=h d List.mem_cons_self
  have ih:=zmP (ds:=ds) fun d hd=>h d (List.mem_cons_of_mem _ hd)
  unfold zcM
  rw[h1,bok,h2,bok]
  cases hp:p d with
  | true =>
   show(fe ρ1).bind _=_
   rw[h3 hp,bok,ih,bok,List.filter_cons_of_pos hp]
   rfl
  | false =>
   show zcM B tg tt fe ds=_
   rw[ih,List.filter_cons_of_neg (by rw[hp];decide)]
theorem zjK {F:D->D}{p:D->Bool}(hl:ds.length<=1000000)(h:∀ d∈ds,∃ ρ1,tg (zeT n fr ρ) d=.ok ρ1/\tt ρ1=.ok (.bl (p d))/\(p d=true->fe ρ1=.ok (F d))):zin n fr tg tt fe ρ ds=.ok (.lst ((ds.filter p).map F)):=by
 unfold zin
 rw[if_pos (show ds.length<=line from hl),zmP h]
end
end Com
local macro_rules | `(tactic| open_line with[$xs,*])=>`(tactic| simp only[Com.ev_ok,Com.ev_seq,Com.ev_seq1,Com.ev_seq2,Com.ev_seq3,Com.ev_seq4,Com.ev_next,Com.ev_set,Com.ev_set1,Com.ev_ret,Com.ev_ret1,Com.ev_retN,Com.ev_drop,Com.ev_drop1,Com.ev_if,Com.ev_if1,Com.ev_if2,Com.ev_own,Com.ev_own1,Com.ev_app,Com.ev_ownS,Com.ev_appL,Com.ev_put,Com.ev_put1,Com.ev_putL,Com.ev_putL1,Com.ev_frz,Com.ev_unp,Com.ev_par,Com.ev_par1,Com.ev_b1,Com.ev_b2,Com.ev_b21,Com.ev_bA,Com.ev_nil,Com.ev_cons,Com.ev_cons1,Com.ev_cons2,Com.ev_and,Com.ev_and1,Com.ev_and2,Com.ev_or,Com.ev_or1,Com.ev_or2,Com.ev_not,Com.ev_not1,Com.ev_ifx,Com.ev_ifx1,Com.ev_ifx2,Com.ev_var,Com.ev_var1,Com.ev_C,Com.ev_shr0,Com.ev_shr,Com.ev_shr1,Com.ev_shr2,Com.ev_shr3,Com.ev_shr4,Com.ev_fr1,Com.ev_fr2,Com.ev_frc,Com.ev_ownT,Com.ev_clrAt,Com.ev_clrAt1,Com.ev_run,Com.ev_run1,Com.ev_run2,Com.ev_os,Com.ev_os1,Com.ev_on,Com.ev_sl,Com.ev_sl0,Com.ev_sl1,Com.ev_sl2,Com.ev_for,Com.ev_for1,Com.ev_chain,Com.ev_ch,Com.ev_ch1,Com.ev_ch2,Com.ev_ch3,Com.ev_iop,Com.ev_add,Com.ev_neg,Com.ev_m1,Com.ev_m2,Com.ev_lenL,Com.ev_lenT,Com.ev_p60,Com.eq_int,Com.ne_int,List.map_cons,List.map_nil,List.length_cons,List.length_nil,List.replicate_succ,List.replicate_zero,List.nil_append,List.cons_append,List.getElem?_cons_zero,List.getElem?_cons_succ,List.set_cons_zero,List.set_cons_succ,Nat.sub_zero,Nat.reduceSub,Nat.reduceAdd,Nat.add_zero,Nat.zero_add,Bool.not_true,Bool.not_false,Com.ev_tup,Com.ev_lst,Com.ev_addL,Com.ev_app1,Com.ev_appL1,Com.ev_mod,Com.ev_unpL,Com.ev_unpT,Com.ev_sa,Com.ev_sa0,Com.ev_un,Com.ev_un1,Com.ev_un2,Com.ev_un3,Com.ev_ixL0,Com.ev_ixL1,Com.ev_ixL2,Com.ev_ixL3,Com.ev_ixL4,Com.ev_ixL5,Com.ev_ixL6,Com.ev_ixL7,Com.ev_ixL8,Com.ev_ixL9,Com.ev_ixL10,Com.ev_ixL11,Com.ev_ixL12,Com.ev_ixL13,Com.ev_ixT0,Com.ev_ixT1,Com.ev_ixT2,Com.ev_ixT3,Com.ev_ixT4,Com.ev_ixT5,decide_true,decide_false,Nat.reduceLeDiff,Nat.reduceBEq,Int.reduceBEq,beq_self_eq_true,DL.dOne,DL.mYes,Com.ev_is_bool_non,Com.ev_is_bool_bl,Com.ev_is_bool_int,Com.ev_is_bool_str,Com.ev_is_bool_tup,Com.ev_is_bool_lst,Com.ev_is_bool_dic,Com.ev_is_int_non,Com.ev_is_int_bl,Com.ev_is_int_int,Com.ev_is_int_str,Com.ev_is_int_tup,Com.ev_is_int_lst,Com.ev_is_int_dic,Com.ev_is_str_non,Com.ev_is_str_bl,Com.ev_is_str_int,Com.ev_is_str_str,Com.ev_is_str_tup,Com.ev_is_str_lst,Com.ev_is_str_dic,Com.ev_is_tuple_non,Com.ev_is_tuple_bl,Com.ev_is_tuple_int,Com.ev_is_tuple_str,Com.ev_is_tuple_tup,Com.ev_is_tuple_lst,Com.ev_is_tuple_dic,Com.ev_is_list_non,Com.ev_is_list_bl,Com.ev_is_list_int,Com.ev_is_list_str,Com.ev_is_list_tup,Com.ev_is_list_lst,Com.ev_is_list_dic,Com.ev_is_dict_non,Com.ev_is_dict_bl,Com.ev_is_dict_int,Com.ev_is_dict_str,Com.ev_is_dict_tup,Com.ev_is_dict_lst,Com.ev_is_dict_dic,Com.ev_isN_non,Com.ev_notN_non,Com.ev_isN_bl,Com.ev_notN_bl,Com.ev_isN_int,Com.ev_notN_int,Com.ev_isN_str,Com.ev_notN_str,Com.ev_isN_tup,Com.ev_notN_tup,Com.ev_isN_lst,Com.ev_notN_lst,Com.ev_isN_dic,Com.ev_notN_dic,Com.ev_c0,Com.ev_c1,Com.ev_c2,Com.ev_c3,Com.ev_c4,Com.ev_c5,Com.ev_c6,Com.ev_c7,Com.ev_c8,Com.ev_c9,Com.ev_c10,Com.ev_c11,Int.reduceLT,Int.reduceLE,Int.reduceSub,Int.reduceAdd,Int.reduceMul,Int.reduceNeg,Com.ev_join,Com.ev_join1,Com.ev_pt0,Com.ev_pt1,Com.ev_pt2,Com.ev_pt3,Com.ev_pt4,Com.ev_rep,Com.ev_rep1,Com.ev_rep2,Int.reduceToNat,Bool.and_self,Com.ev_forI,Com.ev_forI1,Com.ev_srcE,Com.ev_srcE1,Com.ev_srcL,Com.ev_srcL1,Com.ev_srcT,Com.ev_srcT1,Com.ev_comp,Com.ev_fld,Com.ev_fld0,Com.ev_fld1,Com.ev_fld2,Com.ev_lI,Com.ev_lI1,Com.ev_gU,Com.ev_forR,Com.ev_slT,Com.ev_addT,Com.ev_addS,Com.ev_lenS,Com.ev_mx,Com.ev_io,Com.ev_io1,Com.ev_li,Com.ev_li1,Com.ev_gS,Com.ev_p18,Com.ev_p9,$[$xs:term],*])
local macro_rules | `(tactic| open_line with[$xs,*] seeing $h)=>`(tactic| simp only[Com.ev_ok,Com.ev_seq,Com.ev_seq1,Com.ev_seq2,Com.ev_seq3,Com.ev_seq4,Com.ev_next,Com.ev_set,Com.ev_set1,Com.ev_ret,Com.ev_ret1,Com.ev_retN,Com.ev_drop,Com.ev_drop1,Com.ev_if,Com.ev_if1,Com.ev_if2,Com.ev_own,Com.ev_own1,Com.ev_app,Com.ev_ownS,Com.ev_appL,Com.ev_put,Com.ev_put1,Com.ev_putL,Com.ev_putL1,Com.ev_frz,Com.ev_unp,Com.ev_par,Com.ev_par1,Com.ev_b1,Com.ev_b2,Com.ev_b21,Com.ev_bA,Com.ev_nil,Com.ev_cons,Com.ev_cons1,Com.ev_cons2,Com.ev_and,Com.ev_and1,Com.ev_and2,Com.ev_or,Com.ev_or1,Com.ev_or2,Com.ev_not,Com.ev_not1,Com.ev_ifx,Com.ev_ifx1,Com.ev_ifx2,Com.ev_var,Com.ev_var1,Com.ev_C,Com.ev_shr0,Com.ev_shr,Com.ev_shr1,Com.ev_shr2,Com.ev_shr3,Com.ev_shr4,Com.ev_fr1,Com.ev_fr2,Com.ev_frc,Com.ev_ownT,Com.ev_clrAt,Com.ev_clrAt1,Com.ev_run,Com.ev_run1,Com.ev_run2,Com.ev_os,Com.ev_os1,Com.ev_on,Com.ev_sl,Com.ev_sl0,Com.ev_sl1,Com.ev_sl2,Com.ev_for,Com.ev_for1,Com.ev_chain,Com.ev_ch,Com.ev_ch1,Com.ev_ch2,Com.ev_ch3,Com.ev_iop,Com.ev_add,Com.ev_neg,Com.ev_m1,Com.ev_m2,Com.ev_lenL,Com.ev_lenT,Com.ev_p60,Com.eq_int,Com.ne_int,List.map_cons,List.map_nil,List.length_cons,List.length_nil,List.replicate_succ,List.replicate_zero,List.nil_append,List.cons_append,List.getElem?_cons_zero,List.getElem?_cons_succ,List.set_cons_zero,List.set_cons_succ,Nat.sub_zero,Nat.reduceSub,Nat.reduceAdd,Nat.add_zero,Nat.zero_add,Bool.not_true,Bool.not_false,Com.ev_tup,Com.ev_lst,Com.ev_addL,Com.ev_app1,Com.ev_appL1,Com.ev_mod,Com.ev_unpL,Com.ev_unpT,Com.ev_sa,Com.ev_sa0,Com.ev_un,Com.ev_un1,Com.ev_un2,Com.ev_un3,Com.ev_ixL0,Com.ev_ixL1,Com.ev_ixL2,Com.ev_ixL3,Com.ev_ixL4,Com.ev_ixL5,Com.ev_ixL6,Com.ev_ixL7,Com.ev_ixL8,Com.ev_ixL9,Com.ev_ixL10,Com.ev_ixL11,Com.ev_ixL12,Com.ev_ixL13,Com.ev_ixT0,Com.ev_ixT1,Com.ev_ixT2,Com.ev_ixT3,Com.ev_ixT4,Com.ev_ixT5,decide_true,decide_false,Nat.reduceLeDiff,Nat.reduceBEq,Int.reduceBEq,beq_self_eq_true,DL.dOne,DL.mYes,Com.ev_is_bool_non,Com.ev_is_bool_bl,Com.ev_is_bool_int,Com.ev_is_bool_str,Com.ev_is_bool_tup,Com.ev_is_bool_lst,Com.ev_is_bool_dic,Com.ev_is_int_non,Com.ev_is_int_bl,Com.ev_is_int_int,Com.ev_is_int_str,Com.ev_is_int_tup,Com.ev_is_int_lst,Com.ev_is_int_dic,Com.ev_is_str_non,Com.ev_is_str_bl,Com.ev_is_str_int,Com.ev_is_str_str,Com.ev_is_str_tup,Com.ev_is_str_lst,Com.ev_is_str_dic,Com.ev_is_tuple_non,Com.ev_is_tuple_bl,Com.ev_is_tuple_int,Com.ev_is_tuple_str,Com.ev_is_tuple_tup,Com.ev_is_tuple_lst,Com.ev_is_tuple_dic,Com.ev_is_list_non,Com.ev_is_list_bl,Com.ev_is_list_int,Com.ev_is_list_str,Com.ev_is_list_tup,Com.ev_is_list_lst,Com.ev_is_list_dic,Com.ev_is_dict_non,Com.ev_is_dict_bl,Com.ev_is_dict_int,Com.ev_is_dict_str,Com.ev_is_dict_tup,Com.ev_is_dict_lst,Com.ev_is_dict_dic,Com.ev_isN_non,Com.ev_notN_non,Com.ev_isN_bl,Com.ev_notN_bl,Com.ev_isN_int,Com.ev_notN_int,Com.ev_isN_str,Com.ev_notN_str,Com.ev_isN_tup,Com.ev_notN_tup,Com.ev_isN_lst,Com.ev_notN_lst,Com.ev_isN_dic,Com.ev_notN_dic,Com.ev_c0,Com.ev_c1,Com.ev_c2,Com.ev_c3,Com.ev_c4,Com.ev_c5,Com.ev_c6,Com.ev_c7,Com.ev_c8,Com.ev_c9,Com.ev_c10,Com.ev_c11,Int.reduceLT,Int.reduceLE,Int.reduceSub,Int.reduceAdd,Int.reduceMul,Int.reduceNeg,Com.ev_join,Com.ev_join1,Com.ev_pt0,Com.ev_pt1,Com.ev_pt2,Com.ev_pt3,Com.ev_pt4,Com.ev_rep,Com.ev_rep1,Com.ev_rep2,Int.reduceToNat,Bool.and_self,Com.ev_forI,Com.ev_forI1,Com.ev_srcE,Com.ev_srcE1,Com.ev_srcL,Com.ev_srcL1,Com.ev_srcT,Com.ev_srcT1,Com.ev_comp,Com.ev_fld,Com.ev_fld0,Com.ev_fld1,Com.ev_fld2,Com.ev_lI,Com.ev_lI1,Com.ev_gU,Com.ev_forR,Com.ev_slT,Com.ev_addT,Com.ev_addS,Com.ev_lenS,Com.ev_mx,Com.ev_io,Com.ev_io1,Com.ev_li,Com.ev_li1,Com.ev_gS,Com.ev_p18,Com.ev_p9,$[$xs:term],*] at $(⟨h⟩):ident)
namespace Com
open PySem L2 DL
def zgz:Ev->Res Fl :=
 (zap (za7 2 (dC (.str "abcdefghijklmnopqrstuvwxyz")))
 (zap (za7 3 (zan (zad (zaf 0) (zad (zab (zab (zan (zad (dC (.int 8)) (zad (dC (.int 8)) (zad (dC (.int 12)) (zad (dC (.int 26)) (zad (dC (.int 2)) zau))))) zc3) (zAe (zan (zad (dC (.int 26)) zau) zc3) (dC (.int 8))) zbx) (zAe (zan (zad (dC (.int 8)) zau) zc3) (dC (.int 8))) zbx) zau)) zaU))
 (zap (za7 4 (zab (zan (zad (dC (.int 1)) (zad (dC (.int 3)) (zad (dC (.int 5)) (zad (dC (.int 7)) (zad (dC (.int 9)) (zad (dC (.int 11)) (zad (dC (.int 15)) (zad (dC (.int 17)) (zad (dC (.int 19)) (zad (dC (.int 21)) (zad (dC (.int 23)) (zad (dC (.int 25)) zau)))))))))))) zc3) (zab (zaf 3) (dC (.int 2)) dIx) dIx))
 (zap (za7 5 (zyT (dC (.str "")) (zad (zd6 1 [2] (zqZ (zij (zaf 3) (zcb (dC (.int 5))) (zcb (dC (.int 13))))) (zcx 0) mYes (zab (zaf 1) (zaf 0) dIx)) zau)))
 (zap (zsm 6 (zan zau zc3))
 (zap (zl6 (zaf 1) (zcx 7)
 (zap (za7 8 (zab (dC (.int 1)) (zab (zaf 3) (dC (.int 0)) dIx) zbx))
 (zap (sIf (zab (zab (zaf 3) (dC (.int 4)) dIx) (dC (.int 1)) dEq)
 (zap (za7 8 (zab (dC (.int 1)) (zab (zaf 3) (zab (dC (.int 13)) (zaf 7) zbx) dIx) zbx))
 zal)
 zal)
 (zap (za7 9 (zab (zab (zaf 3) (dC (.int 1)) dIx) (zaf 8) zfw))
 (zap (za7 10 (zab (zaf 2) (zab (zab (zab (zaf 3) (dC (.int 3)) dIx) (zab (zaf 7) (zaf 4) zbB) zbx) (dC (.int 26)) zfw) dIx))
 (zap (zc8 6 (zab (zab (zij (zaf 5) zec (zcb (zaf 9))) (zaf 10) zbx) (zij (zaf 5) (zcb (zab (zaf 9) (dC (.int 1)) zbx)) (zcb (zaf 8))) zbx))
 zal))))))
 (zap (zcf (zaf 6))
 zal)))))))
def zcV:List D->Res D:=zc5 11 zgz
def zbw:Ev->Res Fl :=
 (zap (zBi [2,3,4] (zaf 0))
 (zap (sIf (zab (zaf 2) (dC (.int 3)) dLt)
 (zap (zcf (zan (zad (zab (zaf 1) (zab (zaf 3) (dC (.int 10)) zfw) zbx) (zad (dC (.int 1)) zau)) zjO))
 zal)
 zal)
 (zap (sIf (zab (zaf 2) (dC (.int 7)) dLt)
 (zap (zcf (zan (zad (zab (zaf 1) (zab (zaf 3) (dC (.int 24)) zfw) zbx) (zad (zab (dC (.int 1)) (zab (zaf 4) (dC (.int 6)) zfw) zbx) zau)) za1))
 zal)
 zal)
 (zap (zcf (zan (zad (zab (zaf 1) (zaf 3) zbx) (zad (zab (dC (.int 1)) (zaf 4) zbx) zau)) za1))
 zal))))
def zaS:List D->Res D:=zc5 5 zbw
def zhb:Ev->Res Fl :=
 (zap (za7 3 (zan (zad (dC (.int 8)) (zad (zaf 2) (zad (zaf 2) zau))) zc3))
 (zap (za7 4 (zan (zad (zaf 1) (zad (zab (zab (zan (zad (zan (zad (zaf 0) zau) (m1 zhE)) (zad (zab (zan (zad (zaf 0) zau) (m1 zhE)) (dC (.int 1)) znK) (zad (dC (.int 2)) (zad (dC (.int 5)) zau)))) zc3) (zaf 3) zbx) (zaf 3) zbx) zau)) zaU))
 (zap (za7 5 (dC (.non)))
 (zap (sIf (zab (zab (zaf 4) (dC (.int 3)) dIx) (dC (.int 0)) dGt)
 (zap (za7 5 (zan (zad (zij (zaf 4) (zcb (dC (.int 7))) (zcb (dC (.int 10)))) (zad (dC (.int 1)) zau)) zaS))
 zal)
 zal)
 (zap (za7 6 (zab (zaf 0) (zab (zaf 4) (dC (.int 0)) dIx) dIx))
 (zap (za7 7 (zab (zaf 0) (zab (zab (zab (zab (zaf 4) (dC (.int 0)) dIx) (dC (.int 1)) zbx) (zab (zaf 4) (dC (.int 1)) dIx) zbx) (zan (zad (zaf 0) zau) (m1 zhE)) zfw) dIx))
 (zap (za7 8 (zab (zan (zad (dC (.str "one")) (zad (dC (.str "both")) zau)) zc3) (zab (zaf 4) (dC (.int 2)) dIx) dIx))
 (zap (zcf (zan (zad (zaf 6) (zad (zaf 7) (zad (zaf 8) (zad (zan (zad (zij (zaf 4) (zcb (dC (.int 4))) (zcb (dC (.int 7)))) (zad (dC (.int 0)) zau)) zaS) (zad (zaf 5) zau))))) zjO))
 zal))))))))
def zdJ:List D->Res D:=zc5 9 zhb
theorem ziT {a b:Int}(ha:0<=a)(hb:0 < b):0<=(low a b).1:=Int.ediv_nonneg ha (by omega)
theorem zAI {a b:Int}(ha:0 < a)(hb:0 < b):0 < (low a b).1:=by
 have hg:0 < (Int.gcd a b:Int):=zmw (by omega)
 have hd:(Int.gcd a b:Int)∣a:=Int.gcd_dvd_left ..
 exact Int.ediv_pos_of_pos_of_dvd ha (by omega) hd
theorem zwt {a:Int}(h0:0<=a)(h1:a < (N60:Int)):zea (a,1):=⟨⟨by show(1:Int)<=1;decide,by show Int.gcd a 1=1;exact Int.gcd_one_right ..⟩,by show a.natAbs < N60;omega,by show(1:Int).natAbs < N60;decide⟩
theorem zBk {a:Int}(h0:0<=a)(h1:a < (N60:Int)):a.natAbs < B13:=Nat.lt_of_lt_of_le (show a.natAbs < N60 by omega) zBh
theorem zjE {w a b l:Int}(ha:0<=a/\a < (N60:Int)-1)(hb:0<=b/\b < (N60:Int)-1)(hl:0<=l/\l<=1):∃ x:Fra,zaS [.lst [.int w,.int a,.int b],.int l]=.ok (fr x)/\zea x/\l<=x.1:=by
 have hN:(100:Int) < (N60:Int):=by decide
 have key:∀ p q:Int,0<=p->p+l < (N60:Int)->1<=q->q < (N60:Int)->∃ x:Fra,za1 [.int (l+p),.int q]=.ok (fr x)/\zea x/\l<=x.1:=fun p q p0 p1 q0 q1=>by
  refine⟨low (l+p) q,zjY (by omega) (zBk (by omega) (by omega)) (zBk (by omega) (by omega)),zAJ (by omega) (by omega) (by omega),?_⟩
  by_cases h:l+p=0
  ·have:l=0:=by omega
   rw[this];exact ziT (by omega) (by omega)
  ·have:=zAI (a:=l+p) (b:=q) (by omega) (by omega)
   omega
 by_cases h3:w < 3
 ·have x:=zjf (a:=a) (b:=10) (by decide)
  refine⟨(l+a.fmod 10,1),?_,zwt (by omega) (by omega),by show l<=l+a.fmod 10;omega⟩
  open_line with[zaS,zbw,decide_eq_true h3]
  rfl
 ·by_cases h7:w < 7
  ·have x:=zjf (a:=a) (b:=24) (by decide)
   have y:=zjf (a:=b) (b:=6) (by decide)
   obtain⟨z,hz,r⟩:=key (a.fmod 24) (1+b.fmod 6) x.1 (by omega) (by omega) (by omega)
   refine⟨z,?_,r⟩
   open_line with[zaS,zbw,decide_eq_false h3,decide_eq_true h7,hz]
  ·obtain⟨z,hz,r⟩:=key a (1+b) ha.1 (by omega) (by omega) (by omega)
   refine⟨z,?_,r⟩
   open_line with[zaS,zbw,decide_eq_false h3,decide_eq_false h7,hz]
theorem zrR {i:Nat}{body:Ev->Res Fl}(P:Nat->Ev->Prop){n:Nat}(h:∀ k,k < n->∀ ρ,P k ρ->∃ ρ2,body (ρ.set i (.sh (.int (k:Int))))=.ok (.nx ρ2)/\P (k+1) ρ2){ρ:Ev}(h0:P 0 ρ):∃ ρ',zed (zcx i) body (intsFrom 0 n) ρ=.ok (.nx ρ')/\P n ρ':=by
 have key:∀ (m k:Nat) (ρ:Ev),k+m=n->P k ρ->∃ ρ',zed (zcx i) body ((intsFrom 0 n).drop k) ρ=.ok (.nx ρ')/\P n ρ':=by
  intro m
  induction m with
  | zero =>
   intro k ρ hk hp
   have:k=n:=by omega
   subst this
   rw[zsM]
   exact⟨ρ,rfl,hp⟩
  | succ m ih =>
   intro k ρ hk hp
   obtain⟨ρ2,h1,h2⟩:=h k (by omega) ρ hp
   rw[zqb (by omega),zjF (tg:=zcx i) rfl h1]
   exact ih (k+1) ρ2 (by omega) h2
 exact key n 0 ρ (by omega) h0
theorem zoC {tg:Ev->D->Res Ev}{body:Ev->Res Fl}{ds:List D}(P:Nat->Ev->Prop)(h:∀ k d,ds[k]?=some d->∀ ρ,P k ρ->∃ ρ1 ρ2,tg ρ d=.ok ρ1/\body ρ1=.ok (.nx ρ2)/\P (k+1) ρ2){ρ:Ev}(h0:P 0 ρ):∃ ρ',zed tg body ds ρ=.ok (.nx ρ')/\P ds.length ρ':=by
 have key:∀ (m k:Nat) (ρ:Ev),k+m=ds.length->P k ρ->∃ ρ',zed tg body (ds.drop k) ρ=.ok (.nx ρ')/\P ds.length ρ':=by
  intro m
  induction m with
  | zero =>
   intro k ρ hk hp
   have:k=ds.length:=by omega
   subst this
   rw[List.drop_length]
   exact⟨ρ,rfl,hp⟩
  | succ m ih =>
   intro k ρ hk hp
   have hlt:k < ds.length:=by omega
   obtain⟨ρ1,ρ2,h1,h2,h3⟩:=h k ds[k] (List.getElem?_eq_getElem hlt) ρ hp
   rw[List.drop_eq_getElem_cons hlt,zjF h1 h2]
   exact ih (k+1) ρ2 (by omega) h3
 exact key ds.length 0 ρ (by omega) h0
structure Drawn (sz vs:List Int):Prop where
 len:vs.length=sz.length
 bnd:∀ (i:Nat) (v s:Int),vs[i]?=some v->sz[i]?=some s->0<=v/\v < s
theorem Drawn.at {sz vs:List Int}(W:Drawn sz vs)(i:Nat){s:Int}(h:sz[i]?=some s):∃ v,vs[i]?=some v/\(0<=v/\v < s)/\dIx (.lst (vs.map D.int)) (.int (i:Int))=.ok (.int v):=by
 have hi:i < vs.length:=by rw[W.len];exact(List.getElem?_eq_some_iff.mp h).1
 refine⟨vs[i],List.getElem?_eq_getElem hi,W.bnd i _ _ (List.getElem?_eq_getElem hi) h,zh4 ?_⟩
 rw[List.getElem?_map,List.getElem?_eq_getElem hi];rfl
theorem Drawn.ix {sz vs:List Int}(W:Drawn sz vs)(k:Int)(i:Nat){s:Int}(hk:k=(i:Int))(h:sz[i]?=some s):∃ v,vs[i]?=some v/\(0<=v/\v < s)/\dIx (.lst (vs.map D.int)) (.int k)=.ok (.int v):=by
 subst hk;exact W.at i h
theorem zlQ (c:Int)(sz:List Int)(h:(sz.all fun s=>decide (0 < s)&&decide (s<=(N60:Int)))=true)(hn:sz.length<=1000):∃ vs,zaU [.int c,.lst (sz.map D.int)]=.ok (.lst (vs.map D.int))/\Drawn sz vs:=by
 obtain⟨vs,h1,h2,h3⟩:=zyJ c sz (zDC h) hn
 exact⟨vs,h3,h1,h2⟩
theorem zBe:("abcdefghijklmnopqrstuvwxyz" : Str).cps.toList=(List.range 26).map (97 + ·):=by decide +kernel
theorem zzG:∀ n,n < 26->zt2 (97+n)=true:=by decide +kernel
theorem zzF {v:Int}(h0:0<=v)(h1:v < 26):dIx (.str "abcdefghijklmnopqrstuvwxyz") (.int v)=.ok (.str ⟨#[97+v.toNat]⟩):=by
 obtain⟨n,rfl⟩:=Int.eq_ofNat_of_zero_le h0
 have hn:n < 26:=by omega
 have e:atI ("abcdefghijklmnopqrstuvwxyz" : Str).cps.toList ((n:Nat):Int)=some (97+n):=zbQ (by rw[zBe];simp [hn])
 show(if("abcdefghijklmnopqrstuvwxyz" : Str).length<=line then(match atI ("abcdefghijklmnopqrstuvwxyz" : Str).cps.toList ((n:Nat):Int) with | some c=>Res.ok (D.str ⟨#[c]⟩) | none=>.stuck) else .stuck)=_
 rw[if_pos (by decide),e]
 rfl
theorem zv9:∀ cs:List Nat,Str.join "" (cs.map fun c=>(⟨#[c]⟩:Str))=⟨cs.toArray⟩
 | []=>rfl
 | [c]=>rfl
 | c::d::cs=>by
  show(⟨#[c]⟩:Str)++""++Str.join "" ((d::cs).map fun c=>(⟨#[c]⟩:Str))=_
  rw[zv9 (d::cs)]
  apply Str.ext'
  show(#[c]++("" : Str).cps)++(d::cs).toArray=_
  have:("" : Str).cps=#[]:=rfl
  rw[this]
  simp
theorem zuT:∀ cs:List Nat,zjj (cs.map fun c=>D.str ⟨#[c]⟩)=some (cs.map fun c=>(⟨#[c]⟩:Str))
 | []=>rfl
 | c::cs=>by
  show(zjj (cs.map fun c=>D.str ⟨#[c]⟩)).map _=_
  rw[zuT cs];rfl
theorem ztX {cs:List Nat}(h:cs.length<=1000):zrI "" [.lst (cs.map fun c=>D.str ⟨#[c]⟩)]=.ok (.str ⟨cs.toArray⟩):=by
 have fit:zh3 "" (cs.map fun c=>(⟨#[c]⟩:Str))=true:=by
  unfold zh3
  have e:((cs.map fun c=>(⟨#[c]⟩:Str)).map (·.length)).sum=cs.length:=by
   clear h
   induction cs with
   | nil=>rfl
   | cons c cs ih =>
    simp only[List.map_cons,List.sum_cons,List.length_cons,ih]
    show 1+cs.length=_
    omega
  rw[e,Bool.and_eq_true]
  exact⟨by decide,decide_eq_true (by rw[List.length_map];omega)⟩
 show(match zjj (cs.map fun c=>D.str ⟨#[c]⟩) with | some ys=>if zh3 "" ys=true then Res.ok (D.str (Txt.join "" ys)) else .stuck | none=>.stuck)=_
 rw[zuT]
 show(if zh3 "" _=true then Res.ok (D.str (Txt.join "" _)) else .stuck)=_
 rw[if_pos fit]
 show Res.ok (D.str (Builtin.Str.glued "" _))=_
 rw[StrLaws.glued_eq_join,zv9]
theorem zxA {cs:List Nat}{a b:Nat}(hab:a<=b)(hb:b<=cs.length):Txt.slice ⟨cs.toArray⟩ (some (a:Int)) (some (b:Int))=⟨((cs.drop a).take (b-a)).toArray⟩ :=
 StrLaws.sliceText_nat ⟨cs.toArray⟩ hab (by show b<=cs.toArray.size;simpa using hb)
theorem zxz {cs:List Nat}{b:Nat}(hb:b<=cs.length):Txt.slice ⟨cs.toArray⟩ none (some (b:Int))=⟨(cs.take b).toArray⟩:=by
 have:=StrLaws.sliceText_to (x:=⟨cs.toArray⟩) (j:=(b:Int)) ⟨by omega,by simpa using hb⟩
 refine Eq.trans this ?_
 simp
def nsz (vs:List Int)(k:Nat):Nat:=if vs[4]?=some 1 then 1+((vs[13+k]?).getD 0).toNat else 1+((vs[0]?).getD 0).toNat
def zk1 (vs:List Int)(k:Nat):Nat:=((vs[1]?).getD 0).toNat % nsz vs k
def nsg (vs:List Int)(by_:Int)(k:Nat):Nat:=(((vs[3]?).getD 0).toNat+k*by_.toNat) % 26
def ncs (vs:List Int)(by_:Int)(B:List Nat)(k:Nat):List Nat:=B.take (zk1 vs k)++(97+nsg vs by_ k)::(B.drop (zk1 vs k+1)).take (nsz vs k-(zk1 vs k+1))
def zpP:List Int:=[8,8,12,26,2,26,26,26,26,26,26,26,26,8,8,8,8,8,8,8,8]
def nby:List Int:=[1,3,5,7,9,11,15,17,19,21,23,25]
theorem zvP:∀ b∈nby,∀ k,k < 8->∀ j,j < 8->∀ d,d < 26->(d+k*b.toNat) % 26=(d+j*b.toNat) % 26->k=j:=by
 have key:∀ b∈nby,∀ k,k < 8->∀ j,j < 8->(k*b.toNat) % 26=(j*b.toNat) % 26->k=j:=by decide +kernel
 intro b hb k hk j hj d hd h
 refine key b hb k hk j hj ?_
 omega
structure zmZ (zs:List Str):Prop where
 nd:zs.Nodup
 nm:∀ z∈zs,zoq z=true
theorem zrs {vs:List Int}{by_:Int}{B:List Nat}{k:Nat}(hB:B.length=8)(hs:nsz vs k<=8)(h1:1<=nsz vs k):(ncs vs by_ B k).length=nsz vs k:=by
 have:zk1 vs k < nsz vs k:=Nat.mod_lt _ (by omega)
 unfold ncs
 simp only[List.length_append,List.length_take,List.length_cons,List.length_drop]
 omega
theorem zzp {vs:List Int}{by_:Int}{B:List Nat}{k:Nat}(hB:B.length=8)(hs:nsz vs k<=8)(h1:1<=nsz vs k):(ncs vs by_ B k)[zk1 vs k]?=some (97+nsg vs by_ k):=by
 have:zk1 vs k < nsz vs k:=Nat.mod_lt _ (by omega)
 unfold ncs
 rw[List.getElem?_append_right (by simp;omega)]
 have e:zk1 vs k-(B.take (zk1 vs k)).length=0:=by simp;omega
 rw[e];rfl
theorem zs8 {x y:Str}(h:x.length+y.length<=1000):zbx (.str x) (.str y)=.ok (.str (x++y)):=if_pos (Nat.le_trans h (by decide))
theorem zqq (a b:List Nat):(⟨a.toArray⟩:Str)++⟨b.toArray⟩=⟨(a++b).toArray⟩:=by
 apply Str.ext'
 show a.toArray++b.toArray=_
 simp
theorem zmN (a:List Nat):(⟨a.toArray⟩:Str).length=a.length:=by show a.toArray.size=_;simp
theorem zuW {z:Str}{l h:Option Int}(hz:z.length<=1000):zzd (.str z) l h=.ok (.str (Txt.slice z l h)):=by
 show(if z.length<=line then _ else _)=_
 rw[if_pos (Nat.le_trans hz (by decide))]
set_option maxHeartbeats 1000000 in
theorem zx6 (c:Int)(n:Nat)(hn:n<=8):∃ zs:List Str,zcV [.int c,.int (n:Int)]=.ok (.lst (zs.map D.str))/\zs.length=n/\zmZ zs:=by
 obtain⟨vs,hd,W⟩:=zlQ c zpP (by decide) (by decide)
 obtain⟨d0,g0,b0,i0⟩:=W.ix 0 0 rfl rfl
 obtain⟨d1,g1,b1,i1⟩:=W.ix 1 1 rfl rfl
 obtain⟨d2,g2,b2,i2⟩:=W.ix 2 2 rfl rfl
 obtain⟨d3,g3,b3,i3⟩:=W.ix 3 3 rfl rfl
 obtain⟨d4,g4,b4,i4⟩:=W.ix 4 4 rfl rfl
 obtain⟨byD,hby1,hby2⟩:=zCL (ds:=nby.map D.int) (k:=d2) b2.1 (by simpa [nby] using b2.2)
 obtain⟨by_,hbm,rfl⟩:=List.mem_map.mp hby1
 have hby0:0<=by_/\by_<=25:=by
  have:∀ b∈nby,0<=b/\b<=25:=by decide
  exact this by_ hbm
 have hlen:vs.length=21:=W.len
 have hL:(vs.map D.int).length=21:=by rw[List.length_map,hlen]
 have hcut:zjJ (vs.map D.int) (some 5) (some 13)=((vs.drop 5).take 8).map D.int:=by
  rw[zrX,hlen];rfl
 have hdig:∀ v∈(vs.drop 5).take 8,0<=v/\v < 26:=fun v hv=>by
  obtain⟨j,hj2⟩:=List.mem_iff_getElem?.mp hv
  have hj:j < 8:=by
   have:=(List.getElem?_eq_some_iff.mp hj2).1
   simp at this;omega
  rw[List.getElem?_take_of_lt hj,List.getElem?_drop] at hj2
  have hs:zpP[5+j]?=some 26:=by
   have:∀ j,j < 8->zpP[5+j]?=some 26:=by decide
   exact this j hj
  exact W.bnd _ _ _ hj2 hs
 generalize hBd:((vs.drop 5).take 8).map (fun v=>97+v.toNat)=B
 have hB:B.length=8:=by rw[← hBd];simp;omega
 have hBin:∀ x∈B,zt2 x=true:=fun x hx=>by
  rw[← hBd] at hx
  obtain⟨v,hv,rfl⟩:=List.mem_map.mp hx
  have:=hdig v hv
  exact zzG _ (by omega)
 have hcomp:zin 1 [2] (zcx 0) mYes (zab (zaf 1) (zaf 0) dIx) [.sh (.int c),.sh (.int (n:Int)),.sh (.str "abcdefghijklmnopqrstuvwxyz"),.sh (.lst (vs.map D.int)),.sh (.int by_),.no,.no,.no,.no,.no,.no] (((vs.drop 5).take 8).map D.int)=.ok (.lst (B.map fun c=>D.str ⟨#[c]⟩)):=by
  rw[zi4 (F:=fun d=>match d with | .int v=>.str ⟨#[97+v.toNat]⟩ | d=>d) (by simp;omega)]
  ·rw[← hBd,List.map_map,List.map_map];rfl
  ·intro d hd'
   obtain⟨v,hv,rfl⟩:=List.mem_map.mp hd'
   have hv2:=hdig v hv
   exact⟨[.sh (.int v),.sh (.str "abcdefghijklmnopqrstuvwxyz")],rfl,rfl,zzF hv2.1 hv2.2⟩
 have hsz:∀ k,k < n->1<=nsz vs k/\nsz vs k<=8:=fun k hk=>by
  unfold nsz
  have h13:∀ j,j < 8->zpP[13+j]?=some 8:=by decide
  obtain⟨e,ge,be,_⟩:=W.at (13+k) (h13 k (by omega))
  rw[ge,g0]
  simp only[Option.getD_some]
  split<;>omega
 obtain⟨ρ',hloop,a1,a2,a3,a4,hρ⟩:=zrR (i:=7) (n:=n) (ρ:=[.sh (.int c),.sh (.int (n:Int)),.sh (.str "abcdefghijklmnopqrstuvwxyz"),.sh (.lst (vs.map D.int)),.sh (.int by_),.sh (.str ⟨B.toArray⟩),.ow (.lst []),.no,.no,.no,.no])
  (body:=(zap (za7 8 (zab (dC (.int 1)) (zab (zaf 3) (dC (.int 0)) dIx) zbx))
   (zap (sIf (zab (zab (zaf 3) (dC (.int 4)) dIx) (dC (.int 1)) dEq)
   (zap (za7 8 (zab (dC (.int 1)) (zab (zaf 3) (zab (dC (.int 13)) (zaf 7) zbx) dIx) zbx))
   zal)
   zal)
   (zap (za7 9 (zab (zab (zaf 3) (dC (.int 1)) dIx) (zaf 8) zfw))
   (zap (za7 10 (zab (zaf 2) (zab (zab (zab (zaf 3) (dC (.int 3)) dIx) (zab (zaf 7) (zaf 4) zbB) zbx) (dC (.int 26)) zfw) dIx))
   (zap (zc8 6 (zab (zab (zij (zaf 5) zec (zcb (zaf 9))) (zaf 10) zbx) (zij (zaf 5) (zcb (zab (zaf 9) (dC (.int 1)) zbx)) (zcb (zaf 8))) zbx))
   zal))))))
  (fun k ρ=>∃ a1 a2 a3 a4,ρ=[.sh (.int c),.sh (.int (n:Int)),.sh (.str "abcdefghijklmnopqrstuvwxyz"),.sh (.lst (vs.map D.int)),.sh (.int by_),.sh (.str ⟨B.toArray⟩),.ow (.lst ((List.range k).map fun j=>D.str ⟨(ncs vs by_ B j).toArray⟩)),a1,a2,a3,a4])
  (by
   rintro k hk ρ ⟨a1,a2,a3,a4,rfl⟩
   have h13:∀ j,j < 8->zpP[13+j]?=some 8:=by decide
   obtain⟨e,ge,be,ie⟩:=W.at (13+k) (h13 k (by omega))
   have ie':dIx (.lst (vs.map D.int)) (.int (13+(k:Int)))=.ok (.int e):=by
    have:(13+(k:Int))=((13+k:Nat):Int):=by omega
    rw[this];exact ie
   have hs:=hsz k hk
   have hat:zk1 vs k < nsz vs k:=Nat.mod_lt _ (by omega)
   have hmul:zhK (k:Int) by_=true:=zfz (by omega) (by omega)
   have hsg:nsg vs by_ k < 26:=Nat.mod_lt _ (by decide)
   have hsgI:(d3+(k:Int)*by_).fmod 26=(nsg vs by_ k:Int):=by
    unfold nsg
    rw[g3,Option.getD_some,Int.fmod_eq_emod_of_nonneg _ (by decide)]
    obtain⟨x,rfl⟩:=Int.eq_ofNat_of_zero_le b3.1
    obtain⟨y,rfl⟩:=Int.eq_ofNat_of_zero_le hby0.1
    simp only[Int.toNat_natCast]
    omega
   have hsig:=zzF (v:=(nsg vs by_ k:Int)) (by omega) (by omega)
   rw[Int.toNat_natCast] at hsig
   have hz0:((nsz vs k:Int)==0)=false:=beq_eq_false_iff_ne.mpr (by omega)
   have hatI:d1.fmod (nsz vs k:Int)=(zk1 vs k:Int):=by
    unfold zk1
    rw[g1,Option.getD_some,Int.fmod_eq_emod_of_nonneg _ (by omega)]
    obtain⟨x,rfl⟩:=Int.eq_ofNat_of_zero_le b1.1
    simp only[Int.toNat_natCast]
    omega
   have s1:zzd (.str ⟨B.toArray⟩) none (some (zk1 vs k:Int))=.ok (.str ⟨(B.take (zk1 vs k)).toArray⟩):=by
    rw[zuW (by rw[zmN];omega),zxz (by omega)]
   have s2:zzd (.str ⟨B.toArray⟩) (some ((zk1 vs k:Int)+1)) (some (nsz vs k:Int))=.ok (.str ⟨((B.drop (zk1 vs k+1)).take (nsz vs k-(zk1 vs k+1))).toArray⟩):=by
    have:((zk1 vs k:Int)+1)=((zk1 vs k+1:Nat):Int):=by omega
    rw[zuW (by rw[zmN];omega),this,zxA (by omega) (by omega)]
   have t1:zbx (.str ⟨(B.take (zk1 vs k)).toArray⟩) (.str ⟨#[97+nsg vs by_ k]⟩)=.ok (.str ⟨(B.take (zk1 vs k)++[97+nsg vs by_ k]).toArray⟩):=by
    have e1:(⟨#[97+nsg vs by_ k]⟩:Str)=⟨([97+nsg vs by_ k]:List Nat).toArray⟩:=rfl
    rw[e1,zs8 (by rw[zmN,zmN];simp;omega),zqq]
   have t2:zbx (.str ⟨(B.take (zk1 vs k)++[97+nsg vs by_ k]).toArray⟩) (.str ⟨((B.drop (zk1 vs k+1)).take (nsz vs k-(zk1 vs k+1))).toArray⟩)=.ok (.str ⟨(ncs vs by_ B k).toArray⟩):=by
    rw[zs8 (by rw[zmN,zmN];simp;omega),zqq]
    unfold ncs
    rw[List.append_assoc];rfl
   have happ:((List.range k).map fun j=>D.str ⟨(ncs vs by_ B j).toArray⟩)++[D.str ⟨(ncs vs by_ B k).toArray⟩]=(List.range (k+1)).map fun j=>D.str ⟨(ncs vs by_ B j).toArray⟩:=by
    rw[List.range_succ,List.map_append];rfl
   have hlt:decide (((List.range k).map fun j=>D.str ⟨(ncs vs by_ B j).toArray⟩).length<=999)=true:=decide_eq_true (by simp;omega)
   cases h4:(d4==1) with
   | true =>
    have hz:1+e=(nsz vs k:Int):=by unfold nsz;rw[g4,eq_of_beq h4,if_pos rfl,ge];simp only[Option.getD_some];omega
    open_line with[i0,i1,i3,i4,h4,ie',hz,hz0,hatI,zeS hmul,hsgI,hsig,s1,s2,t1,t2,ev_app1 hlt,happ]
    exact⟨_,rfl,_,_,_,_,rfl⟩
   | false =>
    have hz:1+d0=(nsz vs k:Int):=by unfold nsz;rw[g4,if_neg (by intro z;cases z;simp at h4),g0];simp only[Option.getD_some];omega
    open_line with[i0,i1,i3,i4,h4,hz,hz0,hatI,zeS hmul,hsgI,hsig,s1,s2,t1,t2,ev_app1 hlt,happ]
    exact⟨_,rfl,_,_,_,_,rfl⟩)
  ⟨.no,.no,.no,.no,rfl⟩
 subst hρ
 have hby3:dIx (.lst [.int 1,.int 3,.int 5,.int 7,.int 9,.int 11,.int 15,.int 17,.int 19,.int 21,.int 23,.int 25]) (.int d2)=.ok (.int by_):=hby2
 have hd':zaU [.int c,.lst [D.int 8,D.int 8,D.int 12,D.int 26,D.int 2,D.int 26,D.int 26,D.int 26,D.int 26,D.int 26,D.int 26,D.int 26,D.int 26,D.int 8,D.int 8,D.int 8,D.int 8,D.int 8,D.int 8,D.int 8,D.int 8]]=.ok (.lst (vs.map D.int)):=hd
 refine⟨(List.range n).map fun j=>⟨(ncs vs by_ B j).toArray⟩,?_,by simp,?_⟩
 ·rw[zcV,zgz]
  open_line with[List.length_append,List.length_replicate]
  rw[hd']
  open_line with[i2,hby3,hcut]
  rw[hcomp]
  open_line with[ztX (show B.length<=1000 by omega),zlN (show n<=1000000 by omega)]
  rw[hloop]
  open_line with[List.map_map]
  rfl
 ·refine⟨?_,fun z hz=>?_⟩
  ·rw[List.nodup_iff_pairwise_ne,List.pairwise_map]
   refine List.Pairwise.imp_of_mem ?_ List.pairwise_lt_range
   intro k j hk hj hlt heq
   rw[List.mem_range] at hk hj
   have hs:=hsz k hk
   have hs':=hsz j hj
   have e:ncs vs by_ B k=ncs vs by_ B j:=by
    have:=congrArg (fun s:Str=>s.cps.toList) heq
    simpa using this
   have el:nsz vs k=nsz vs j:=by rw[← zrs (by_:=by_) hB hs.2 hs.1,e,zrs hB hs'.2 hs'.1]
   have ea:zk1 vs k=zk1 vs j:=by unfold zk1;rw[el]
   have h1:=zzp (by_:=by_) hB hs.2 hs.1
   have h2:=zzp (by_:=by_) hB hs'.2 hs'.1
   rw[e,ea,h2] at h1
   have h3:nsg vs by_ k=nsg vs by_ j:=by have:=Option.some.inj h1;omega
   unfold nsg at h3
   have hd3:((vs[3]?).getD 0).toNat < 26:=by rw[g3,Option.getD_some];omega
   have:=zvP by_ hbm k (by omega) j (by omega) _ hd3 h3
   omega
  ·obtain⟨k,hk,rfl⟩:=List.mem_map.mp hz
   rw[List.mem_range] at hk
   have hs:=hsz k hk
   unfold zoq
   rw[zmN,zrs hB hs.2 hs.1]
   simp only[Bool.and_eq_true,decide_eq_true_eq]
   refine⟨hs.1,hs.2,List.all_eq_true.mpr fun x hx=>?_⟩
   simp only[ncs,List.mem_append,List.mem_cons] at hx
   rcases hx with hx | rfl | hx
   ·exact hBin x (List.mem_of_mem_take hx)
   ·exact zzG _ (Nat.mod_lt _ (by decide))
   ·exact hBin x (List.mem_of_mem_drop (List.mem_of_mem_take hx))
structure Tie where
 a:Str
 b:Str
 w:Str
 l:Fra
 o:Option Fra
def zby:Option Fra->D
 | none=>.non
 | some x=>fr x
def zfx (t:Tie):D:=.tup [.str t.a,.str t.b,.str t.w,fr t.l,zby t.o]
structure zw1 (zs:List Str) (t:Tie):Prop where
 a:t.a∈zs
 b:t.b∈zs
 ne:t.a≠t.b
 w:t.w="one"∨t.w="both"
 l:zea t.l
 l0:0<=t.l.1
 o:∀ x,t.o=some x->zea x/\0 < x.1
theorem zDp {α:Type}{vs:List α}{i:Nat}{a b c:α}(h0:vs[i]?=some a)(h1:vs[i+1]?=some b)(h2:vs[i+2]?=some c):(vs.drop i).take 3=[a,b,c]:=by
 apply List.ext_getElem?
 intro j
 rcases j with _ | _ | _ | j
 ·rw[List.getElem?_take_of_lt (by decide),List.getElem?_drop];simpa using h0
 ·rw[List.getElem?_take_of_lt (by decide),List.getElem?_drop];simpa using h1
 ·rw[List.getElem?_take_of_lt (by decide),List.getElem?_drop];simpa using h2
 ·rw[List.getElem?_eq_none (by simp;omega)];simp
theorem zyV {vs:List Int}{a b:Nat}{x y:Int}(hx:x=(a:Int))(hy:y=(b:Int))(h:b<=vs.length)(hab:a<=b):zjJ (vs.map D.int) (some x) (some y)=((vs.drop a).take (b-a)).map D.int:=by
 subst hx hy
 rw[zrX,HT.sIx_nat,HT.sIx_nat,Nat.min_eq_left h,Nat.min_eq_left (Nat.le_trans hab h)]
theorem zEK {vs:List Int}{i:Nat}{x y:Int}{a b c:Int}(hx:x=(i:Int))(hy:y=((i+3:Nat):Int))(h0:vs[i]?=some a)(h1:vs[i+1]?=some b)(h2:vs[i+2]?=some c):zjJ (vs.map D.int) (some x) (some y)=[.int a,.int b,.int c]:=by
 have hl:i+3<=vs.length:=by have:=(List.getElem?_eq_some_iff.mp h2).1;omega
 rw[zyV hx hy hl (by omega),show i+3-i=3 by omega,zDp h0 h1 h2]
 rfl
theorem zsj {zs:List Str}{k:Int}(h0:0<=k)(h1:k < zs.length):∃ z,zs[k.toNat]?=some z/\dIx (.lst (zs.map D.str)) (.int k)=.ok (.str z):=by
 obtain⟨n,rfl⟩:=Int.eq_ofNat_of_zero_le h0
 have hn:n < zs.length:=by omega
 refine⟨zs[n],by simp [hn],zh4 ?_⟩
 rw[List.getElem?_map,List.getElem?_eq_getElem hn];rfl
theorem zzV {k:Int}(h0:0<=k)(h1:k < 2):∃ z:Str,(z="one"∨z="both")/\dIx (.lst [.str "one",.str "both"]) (.int k)=.ok (.str z):=by
 have:k=0∨k=1:=by omega
 rcases this with rfl | rfl
 ·exact⟨_,.inl rfl,ev_ixL0⟩
 ·exact⟨_,.inr rfl,ev_ixL1⟩
theorem zqC {n d e:Int}(h2:2<=n)(d0:0<=d)(d1:d < n)(e0:0<=e)(e1:e < n-1):(0<=(d+1+e).fmod n/\(d+1+e).fmod n < n)/\(d+1+e).fmod n≠d:=by
 refine⟨zjf (by omega),?_⟩
 rw[Int.fmod_eq_emod_of_nonneg _ (by omega)]
 by_cases h:d+1+e < n
 ·rw[Int.emod_eq_of_lt (by omega) h];omega
 ·have:(d+1+e) % n=d+1+e-n:=by
   rw[← Int.sub_emod_right (d+1+e) n,Int.emod_eq_of_lt (by omega) (by omega)]
  rw[this];omega
theorem zop {α:Type}{zs:List α}(nd:zs.Nodup){i j:Nat}{x y:α}(hi:zs[i]?=some x)(hj:zs[j]?=some y)(hij:i≠j):x≠y:=by
 intro e
 subst e
 obtain⟨h1,e1⟩:=List.getElem?_eq_some_iff.mp hi
 obtain⟨h2,e2⟩:=List.getElem?_eq_some_iff.mp hj
 exact hij ((List.getElem_inj nd).mp (e1.trans e2.symm))
theorem zBB {zs:List Str}{c bd:Int}(h2:2<=zs.length)(h8:zs.length<=8)(nd:zs.Nodup)(hb:0 < bd/\bd<=(N60:Int)-1):∃ t,zdJ [.lst (zs.map D.str),.int c,.int bd]=.ok (zfx t)/\zw1 zs t:=by
 have hN:(100:Int) < (N60:Int):=by decide
 obtain⟨vs,hd,W⟩:=zlQ c [(zs.length:Int),(zs.length:Int)-1,2,5,8,bd,bd,8,bd,bd] (by
  simp only[List.all_cons,List.all_nil,Bool.and_eq_true,decide_eq_true_eq,Bool.and_true]
  refine⟨?_,?_,?_,?_,?_,?_,?_,?_,?_,?_⟩<;>constructor<;>omega) (by simp)
 obtain⟨d0,g0,b0,i0⟩:=W.ix 0 0 rfl rfl
 obtain⟨d1,g1,b1,i1⟩:=W.ix 1 1 rfl rfl
 obtain⟨d2,g2,b2,i2⟩:=W.ix 2 2 rfl rfl
 obtain⟨d3,g3,b3,i3⟩:=W.ix 3 3 rfl rfl
 obtain⟨d4,g4,b4,_⟩:=W.at 4 rfl
 obtain⟨d5,g5,b5,_⟩:=W.at 5 rfl
 obtain⟨d6,g6,b6,_⟩:=W.at 6 rfl
 obtain⟨d7,g7,b7,_⟩:=W.at 7 rfl
 obtain⟨d8,g8,b8,_⟩:=W.at 8 rfl
 obtain⟨d9,g9,b9,_⟩:=W.at 9 rfl
 have c4:=zEK (x:=4) (y:=7) (i:=4) rfl rfl g4 g5 g6
 have c7:=zEK (x:=7) (y:=10) (i:=7) rfl rfl g7 g8 g9
 obtain⟨hr,hne⟩:=zqC (n:=(zs.length:Int)) (d:=d0) (e:=d1) (by omega) b0.1 b0.2 b1.1 b1.2
 obtain⟨z1,k1,j1⟩:=zsj (zs:=zs) b0.1 b0.2
 obtain⟨z2,k2,j2⟩:=zsj (zs:=zs) hr.1 hr.2
 obtain⟨wd,hw,jw⟩:=zzV b2.1 b2.2
 obtain⟨x,hx,fx,lx⟩:=zjE (w:=d4) (a:=d5) (b:=d6) (l:=0) ⟨b5.1,by omega⟩ ⟨b6.1,by omega⟩ (by decide)
 obtain⟨y,hy,fy,ly⟩:=zjE (w:=d7) (a:=d8) (b:=d9) (l:=1) ⟨b8.1,by omega⟩ ⟨b9.1,by omega⟩ (by decide)
 have hn0:((zs.length:Int)==0)=false:=beq_eq_false_iff_ne.mpr (by omega)
 have hz12:z1≠z2:=zop nd k1 k2 (by omega)
 have hd':zaU [.int c,.lst [.int (zs.length:Int),.int ((zs.length:Int)-1),.int 2,.int 5,.int 8,.int bd,.int bd,.int 8,.int bd,.int bd]]=.ok (.lst (vs.map D.int)):=hd
 by_cases h3:0 < d3
 ·refine⟨⟨z1,z2,wd,x,some y⟩,?_,List.mem_of_getElem? k1,List.mem_of_getElem? k2,hz12,hw,fx,lx,fun v hv=>?_⟩
  ·open_line with[zdJ,zhb,List.length_map,hd',i3,decide_eq_true h3,c7,hy,i0,j1,i1,hn0,j2,i2,jw,c4,hx]
   rfl
  ·cases hv;exact⟨fy,by omega⟩
 ·refine⟨⟨z1,z2,wd,x,none⟩,?_,List.mem_of_getElem? k1,List.mem_of_getElem? k2,hz12,hw,fx,lx,fun v hv=>nomatch hv⟩
  open_line with[zdJ,zhb,List.length_map,hd',i3,decide_eq_false h3,i0,j1,i1,hn0,j2,i2,jw,c4,hx]
  rfl
def zht:Ev->Res Fl :=
 (zap (zcf (zhG (zan (zad (zaf 0) zau) zc1) (zab (zab (zaf 0) (dC (.int 0)) dIx) (dC (.int 0)) dGe)))
 zal)
def zeI:List D->Res D:=zc5 1 zht
def zi9:Ev->Res Fl :=
 (zap (zcf (dOr (zab (zaf 0) (dC (.non)) zoM) (zhG (zan (zad (zaf 0) zau) zc1) (zab (zab (zaf 0) (dC (.int 0)) dIx) (dC (.int 0)) dGt))))
 zal)
def zfO:List D->Res D:=zc5 1 zi9
def zlT:Ev->Res Fl :=
 (zap (sIf (dOr (zdN (za4 (zaf 0) (zdz "tuple"))) (zab (zan (zad (zaf 0) zau) (m1 zhE)) (dC (.int 5)) dNe))
 (zap (zcf (dC (.bl false)))
 zal)
 zal)
 (zap (sIf (dOr (zdN (zan (zad (zab (zaf 0) (dC (.int 0)) dIx) zau) zcT)) (dOr (zdN (zan (zad (zab (zaf 0) (dC (.int 1)) dIx) zau) zcT)) (zab (zab (zaf 0) (dC (.int 0)) dIx) (zab (zaf 0) (dC (.int 1)) dIx) dEq)))
 (zap (zcf (dC (.bl false)))
 zal)
 zal)
 (zap (sIf (dOr (zdN (za4 (zab (zaf 0) (dC (.int 2)) dIx) (zdz "str"))) (zab (zab (zaf 0) (dC (.int 2)) dIx) (dC (.tup [(.str "one"),(.str "both")])) zhD))
 (zap (zcf (dC (.bl false)))
 zal)
 zal)
 (zap (zcf (zhG (zan (zad (zab (zaf 0) (dC (.int 3)) dIx) zau) zeI) (zan (zad (zab (zaf 0) (dC (.int 4)) dIx) zau) zfO)))
 zal))))
def zgs:List D->Res D:=zc5 1 zlT
def zbn:Ev->Res Fl :=
 (zap (sIf (dOr (zdN (za4 (zaf 0) (zdz "list"))) (zdN (zik dLe dLe (dC (.int 2)) (zan (zad (zaf 0) zau) (m1 zhE)) (dC (.int 7)))))
 (zap zee
 zal)
 zal)
 (zap (zn7 (zz6 (zaf 0)) (zwk [1,2])
 (zap (sIf (dOr (zdN (zan (zad (zaf 2) zau) zcT)) (zab (zaf 2) (zij (zaf 0) zec (zcb (zaf 1))) dIn))
 (zap zee
 zal)
 zal)
 zal))
 zal))
def zaZ:List D->Res D:=zc5 3 zbn
def zbI:Ev->Res Fl :=
 (zap (sIf (dOr (zdN (za4 (zaf 0) (zdz "list"))) (zab (zan (zad (zaf 0) zau) (m1 zhE)) (dC (.int 14)) dGt))
 (zap zee
 zal)
 zal)
 (zap (zn7 (zz6 (zaf 0)) (zwk [2,3])
 (zap (sIf (dOr (zdN (zan (zad (zaf 3) zau) zgs)) (dOr (zab (zab (zaf 3) (dC (.int 0)) dIx) (zaf 1) zhD) (zab (zab (zaf 3) (dC (.int 1)) dIx) (zaf 1) zhD)))
 (zap zee
 zal)
 zal)
 zal))
 zal))
def zbd:List D->Res D:=zc5 4 zbI
def zha:Ev->Res Fl :=
 (zap (zcf (zhG (zan (zad (zaf 0) zau) zcT) (zab (zaf 0) (zaf 1) dIn)))
 zal)
def zc2:List D->Res D:=zc5 2 zha
def zba:Ev->Res Fl :=
 (zap (sIf (dOr (zdN (za4 (zaf 0) (zdz "tuple"))) (zab (zan (zad (zaf 0) zau) (m1 zhE)) (dC (.int 4)) dNe))
 (zap zee
 zal)
 zal)
 (zap (zg3 (zan (zad (zab (zaf 0) (dC (.int 0)) dIx) zau) zaZ))
 (zap (zg3 (zan (zad (zab (zaf 0) (dC (.int 1)) dIx) (zad (zab (zaf 0) (dC (.int 0)) dIx) zau)) zbd))
 (zap (sIf (zdN (zan (zad (zab (zaf 0) (dC (.int 2)) dIx) (zad (zab (zaf 0) (dC (.int 0)) dIx) zau)) zc2))
 (zap zee
 zal)
 zal)
 (zap (sIf (dOr (zdN (zan (zad (zab (zaf 0) (dC (.int 3)) dIx) (zad (zab (zaf 0) (dC (.int 0)) dIx) zau)) zc2)) (zab (zab (zaf 0) (dC (.int 3)) dIx) (zab (zaf 0) (dC (.int 2)) dIx) dEq))
 (zap zee
 zal)
 zal)
 zal)))))
def zaw:List D->Res D:=zc5 1 zba
def zaY:Ev->Res Fl :=
 (zap (zcf (zhG (zan (zad (zaf 1) zau) zcq) (zik dLe dLt (dC (.int 0)) (zaf 1) (zan (zad (zab (zaf 0) (dC (.int 1)) dIx) zau) (m1 zhE)))))
 zal)
def zaC:List D->Res D:=zc5 2 zaY
def zaL:Ev->Res Fl :=
 (zap (zg3 (zan (zad (zaf 0) zau) zaw))
 (zap (sIf (zdN (za4 (zaf 1) (zdz "list")))
 (zap zee
 zal)
 zal)
 (zap (za7 2 (za4 (dC (.int 1)) zo2))
 (zap (zq8 (zaf 1) (zcx 3)
 (zap (sIf (dOr (zdN (zan (zad (zaf 0) (zad (zaf 3) zau)) zaC)) (zab (zaf 3) (zaf 2) dLe))
 (zap zee
 zal)
 zal)
 (zap (sIf (zab (zab (zab (zab (zaf 0) (dC (.int 1)) dIx) (zaf 3) dIx) (dC (.int 4)) dIx) (dC (.non)) zoM)
 (zap zee
 zal)
 zal)
 (zap (za7 2 (zaf 3))
 zal))))
 zal))))
def zas:List D->Res D:=zc5 4 zaL
def zbj:Ev->Res Fl :=
 (zap (sIf (dOr (zdN (zan (zad (zaf 0) zau) zc1)) (zab (zab (zaf 0) (dC (.int 0)) dIx) (dC (.int 0)) dLt))
 (zap zee
 zal)
 zal)
 zal)
def zaz:List D->Res D:=zc5 1 zbj
structure Web where
 ps:List Str
 ts:List Tie
 fi:Str
 la:Str
def zcg (w:Web):D:=.tup [.lst (w.ps.map D.str),.lst (w.ts.map zfx),.str w.fi,.str w.la]
structure zft (w:Web):Prop where
 n2:2<=w.ps.length
 n7:w.ps.length<=7
 nm:zmZ w.ps
 t14:w.ts.length<=14
 ts:∀ t∈w.ts,zw1 w.ps t
 fi:w.fi∈w.ps
 la:w.la∈w.ps
 ne:w.fi≠w.la
theorem zjV {z:Str}(h:zoq z=true):zcT [.str z]=.ok (.bl true):=by
 have hl:z.length<=8:=by
  unfold zoq at h
  simp only[Bool.and_eq_true,decide_eq_true_eq] at h
  exact h.2.1
 rw[ztY (show fit (.str z)=true from decide_eq_true (Nat.le_trans hl (by decide)))]
 show Res.ok (D.bl (zoq z))=_
 rw[h]
theorem zkk {x:Fra}(h:Low x):zc1 [fr x]=.ok (.bl true):=by
 rw[zp9]
 show Res.ok (D.bl (zpH (.tup [.int x.1,.int x.2])))=_
 have h1:=h.q1
 have h2:=h.g1
 show Res.ok (D.bl (decide (1<=x.2)&&(Int.gcd x.1 x.2==1)))=_
 rw[decide_eq_true h1,h2];rfl
theorem zry {x:Fra}(h:Low x)(h0:0<=x.1):zeI [fr x]=.ok (.bl true):=by
 have e:fr x=.tup [.int x.1,.int x.2]:=rfl
 have h1:=zkk h
 rw[e] at h1 ⊢
 open_line with[zeI,zht,h1,decide_eq_true h0,decide_eq_true (show x.1≥0 from h0)]
theorem ztd {o:Option Fra}(h:∀ x,o=some x->Low x/\0 < x.1):zfO [zby o]=.ok (.bl true):=by
 cases o with
 | none=>rfl
 | some x =>
  obtain⟨hx,h0⟩:=h x rfl
  have e:zby (some x)=.tup [.int x.1,.int x.2]:=rfl
  have h1:=zkk hx
  rw[show fr x=.tup [.int x.1,.int x.2] from rfl] at h1
  rw[e]
  open_line with[zfO,zi9,h1,decide_eq_true h0]
theorem zoE {x y:Str}:dEq (.str x) (.str y)=.ok (.bl (x==y)):=by unfold dEq;rw[if_pos ⟨rfl,rfl⟩,eqD]
theorem zxk {zs:List Str}{t:Tie}(nm:zmZ zs)(h:zw1 zs t):zgs [zfx t]=.ok (.bl true):=by
 obtain⟨a,b,w,l,o⟩:=t
 obtain⟨ha,hb,hne,hw,hl,hl0,ho⟩:=h
 have h1:=zjV (nm.nm a ha)
 have h2:=zjV (nm.nm b hb)
 have h3:=zry hl.toLow hl0
 have h4:=ztd (o:=o) fun x hx=>⟨(ho x hx).1.toLow,(ho x hx).2⟩
 have h5:(a==b)=false:=beq_eq_false_iff_ne.mpr hne
 have h6:zhD (.str w) (.tup [.str "one",.str "both"])=.ok (.bl false):=by
  rcases hw with rfl | rfl<;>rfl
 have e:zfx ⟨a,b,w,l,o⟩=.tup [.str a,.str b,.str w,fr l,zby o]:=rfl
 rw[e]
 open_line with[zgs,zlT,h1,h2,zoE,h5,h6,h3,h4]
theorem zwV {zs:List Str}{z:Str}:(zs.map D.str).any (fun d=>eqD d (.str z))=decide (z∈zs):=by
 induction zs with
 | nil=>rfl
 | cons y zs ih =>
  rw[List.map_cons,List.any_cons,ih]
  show((y==z)||decide (z∈zs))=_
  by_cases h:y=z
  ·subst h;simp
  ·have:(y==z)=false:=beq_eq_false_iff_ne.mpr h
   rw[this,Bool.false_or]
   have:z∈y::zs↔z∈zs:=by simp [Ne.symm h]
   exact decide_eq_decide.mpr this.symm
theorem zl1 {n:Nat}{zs:List Str}:(zs.map D.str).all (zbE n)=true:=List.all_eq_true.mpr fun d hd=>by
 obtain⟨z,_,rfl⟩:=List.mem_map.mp hd
 cases n<;>rfl
theorem zwc {zs:List Str}{z:Str}:dIn (.str z) (.lst (zs.map D.str))=.ok (.bl (decide (z∈zs))):=by
 have e:inD (.str z) (.lst (zs.map D.str))=some (decide (z∈zs)):=(if_pos ⟨rfl,zl1⟩).trans (congrArg some zwV)
 unfold dIn
 rw[e]
theorem ztt {zs:List Str}{z:Str}:zhD (.str z) (.lst (zs.map D.str))=.ok (.bl (!(decide (z∈zs)))):=by
 have e:inD (.str z) (.lst (zs.map D.str))=some (decide (z∈zs)):=(if_pos ⟨rfl,zl1⟩).trans (congrArg some zwV)
 unfold zhD
 rw[e]
theorem zkl {zs:List Str}{z:Str}(h:zoq z=true)(hz:z∈zs):zc2 [.str z,.lst (zs.map D.str)]=.ok (.bl true):=by
 open_line with[zc2,zha,zjV h,zwc,decide_eq_true hz]
theorem zk0 {α:Type}{F:α->D}{xs:List α}{k:Nat}{d:D}(h:(zc0 0 (xs.map F))[k]?=some d):∃ x,xs[k]?=some x/\d=.tup [.int (k:Int),F x]:=by
 rw[zhZ,List.getElem?_map] at h
 cases e:xs[k]? with
 | none=>rw[e] at h;cases h
 | some x =>
  rw[e] at h
  cases h
  exact⟨x,rfl,by simp⟩
theorem zzB {α:Type}{F:α->D}{xs:List α}{k:Nat}(h:k<=xs.length):zjJ (xs.map F) none (some (k:Int))=(xs.take k).map F:=by
 rw[zrX,HT.sIx_none,HT.sIx_nat,Nat.min_eq_left h,List.drop_zero,Nat.sub_zero]
theorem zpJ {zs:List Str}(h2:2<=zs.length)(h7:zs.length<=7)(nm:zmZ zs):zaZ [.lst (zs.map D.str)]=.ok .non:=by
 obtain⟨ρ',hl,_⟩:=zoC (ds:=zc0 0 (zs.map D.str)) (tg:=zwk [1,2]) (ρ:=[.sh (.lst (zs.map D.str)),.no,.no])
  (body:=(zap (sIf (dOr (zdN (zan (zad (zaf 2) zau) zcT)) (zab (zaf 2) (zij (zaf 0) zec (zcb (zaf 1))) dIn)) (zap zee zal) zal) zal))
  (fun k ρ=>∃ a b,ρ=[.sh (.lst (zs.map D.str)),a,b]) (by
   rintro k d hd ρ ⟨a,b,rfl⟩
   obtain⟨z,hz,rfl⟩:=zk0 hd
   refine⟨_,[.sh (.lst (zs.map D.str)),.sh (.int (k:Int)),.sh (.str z)],ev_gU rfl,?_,_,_,rfl⟩
   have hk:k < zs.length:=(List.getElem?_eq_some_iff.mp hz).1
   have hnot:decide (z∈zs.take k)=false:=decide_eq_false fun hm=>by
    obtain⟨j,hj⟩:=List.mem_iff_getElem?.mp hm
    have hjk:j < k:=by have:=(List.getElem?_eq_some_iff.mp hj).1;simp at this;omega
    rw[List.getElem?_take_of_lt hjk] at hj
    exact zop nm.nd hj hz (by omega) rfl
   open_line with[zjV (nm.nm z (List.mem_of_getElem? hz)),zzB (Nat.le_of_lt hk),zwc,hnot]) ⟨.no,.no,rfl⟩
 have e1:decide ((2:Int)<=(zs.length:Int))=true:=decide_eq_true (by omega)
 have e2:decide ((zs.length:Int)<=7)=true:=decide_eq_true (by omega)
 open_line with[zaZ,zbn,List.length_map,e1,e2,hl]
theorem zuO {zs:List Str}{ts:List Tie}(h14:ts.length<=14)(nm:zmZ zs)(ht:∀ t∈ts,zw1 zs t):zbd [.lst (ts.map zfx),.lst (zs.map D.str)]=.ok .non:=by
 obtain⟨ρ',hl,_⟩:=zoC (ds:=zc0 0 (ts.map zfx)) (tg:=zwk [2,3]) (ρ:=[.sh (.lst (ts.map zfx)),.sh (.lst (zs.map D.str)),.no,.no])
  (body:=(zap (sIf (dOr (zdN (zan (zad (zaf 3) zau) zgs)) (dOr (zab (zab (zaf 3) (dC (.int 0)) dIx) (zaf 1) zhD) (zab (zab (zaf 3) (dC (.int 1)) dIx) (zaf 1) zhD))) (zap zee zal) zal) zal))
  (fun k ρ=>∃ a b,ρ=[.sh (.lst (ts.map zfx)),.sh (.lst (zs.map D.str)),a,b]) (by
   rintro k d hd ρ ⟨a,b,rfl⟩
   obtain⟨t,ht',rfl⟩:=zk0 hd
   refine⟨_,[.sh (.lst (ts.map zfx)),.sh (.lst (zs.map D.str)),.sh (.int (k:Int)),.sh (zfx t)],ev_gU rfl,?_,_,_,rfl⟩
   have hT:=ht t (List.mem_of_getElem? ht')
   have h1:=zxk nm hT
   rw[show zfx t=.tup [.str t.a,.str t.b,.str t.w,fr t.l,zby t.o] from rfl] at h1 ⊢
   open_line with[h1,ztt,decide_eq_true hT.a,decide_eq_true hT.b]) ⟨.no,.no,rfl⟩
 have e1:decide ((14:Int) < (ts.length:Int))=false:=decide_eq_false (by omega)
 open_line with[zbd,zbI,List.length_map,e1,decide_eq_false (show ¬ (ts.length:Int) > 14 by omega),hl]
theorem zuI {w:Web}(h:zft w):zaw [zcg w]=.ok .non:=by
 obtain⟨ps,ts,fi,la⟩:=w
 have h1:=zpJ h.n2 h.n7 h.nm
 have h2:=zuO h.t14 h.nm h.ts
 have h3:=zkl (h.nm.nm fi h.fi) h.fi
 have h4:=zkl (h.nm.nm la h.la) h.la
 have h5:(la==fi)=false:=beq_eq_false_iff_ne.mpr (Ne.symm h.ne)
 rw[show zcg ⟨ps,ts,fi,la⟩=.tup [.lst (ps.map D.str),.lst (ts.map zfx),.str fi,.str la] from rfl]
 open_line with[zaw,zba,h1,h2,h3,h4,zoE,h5]
theorem zsA {x:Fra}(h:Low x)(h0:0<=x.1):zaz [fr x]=.ok .non:=by
 have h1:=zkk h
 rw[show fr x=.tup [.int x.1,.int x.2] from rfl] at h1 ⊢
 open_line with[zaz,zbj,h1,decide_eq_false (show ¬ x.1 < 0 by omega)]
def zcG:Ev->Res Fl :=
 (zap (zg3 (zan (zad (zaf 0) (zad (zaf 1) zau)) zas))
 (zap (zcf (zan (zad (zd6 1 [0] (zqZ (zaf 1)) (zcx 0) mYes (zab (zab (zab (zaf 1) (dC (.int 1)) dIx) (zaf 0) dIx) (dC (.int 4)) dIx)) zau) zfA))
 zal))
def zbb:List D->Res D:=zc5 2 zcG
def zcc:Ev->Res Fl :=
 (zap (zg3 (zan (zad (zaf 0) (zad (zaf 1) zau)) zas))
 (zap (zg3 (zan (zad (zaf 2) zau) zaz))
 (zap (zcf (zdN (zan (zad (zaf 2) (zad (zan (zad (zaf 0) (zad (zaf 1) zau)) zbb) zau)) zf4)))
 zal)))
def zaX:List D->Res D:=zc5 3 zcc
def zd7:Ev->Res Fl :=
 (zap (za7 1 (dC (.int 1)))
 (zap (zq8 (zaf 0) (zcx 2)
 (zap (za7 1 (zab (zab (zaf 1) (zan (zad (zaf 1) (zad (zab (zaf 2) (dC (.int 1)) dIx) zau)) za8) zo3) (zab (zaf 2) (dC (.int 1)) dIx) zbB))
 zal))
 (zap (zcf (zaf 1))
 zal)))
def zcp:List D->Res D:=zc5 3 zd7
def zja:Ev->Res Fl :=
 (zap (zcf (zab (zab (zaf 0) (dC (.int 0)) dIx) (zab (zaf 1) (zab (zaf 0) (dC (.int 1)) dIx) zo3) zbB))
 zal)
def zeJ:List D->Res D:=zc5 2 zja
def zeP:Ev->Res Fl :=
 (zap (za7 1 (zan (zad (zd6 1 [] (zqZ (zaf 0)) (zcx 0) (zab (zaf 0) (dC (.non)) zhL) (zaf 0)) zau) zcp))
 (zap (zcf (zan (zad (zd6 1 [1] (zqZ (zaf 0)) (zcx 0) mYes (dIf (zab (zaf 0) (dC (.non)) zoM) (dC (.non)) (zan (zad (zaf 0) (zad (zaf 1) zau)) zeJ))) (zad (zaf 1) zau)) zjO))
 zal))
def zcE:List D->Res D:=zc5 2 zeP
def zi8:Ev->Res Fl :=
 (zap (za7 2 (zan (zad (zab (zd6 1 [] (zqZ (zab (zaf 0) (dC (.int 1)) dIx)) (zcx 0) mYes (zab (zaf 0) (dC (.int 4)) dIx)) (zan (zad (zaf 1) zau) zc3) zbx) zau) zcE))
 (zap (zcf (zan (zad (zij (zab (zaf 2) (dC (.int 0)) dIx) zec (zcb (za4 (dC (.int 1)) zo2))) (zad (zab (zab (zaf 2) (dC (.int 0)) dIx) (za4 (dC (.int 1)) zo2) dIx) (zad (zab (zaf 2) (dC (.int 1)) dIx) zau))) (zDd "Means" ["costs","left","bottom"])))
 zal))
def zeH:List D->Res D:=zc5 3 zi8
def zbe:Ev->Res Fl :=
 (zap (zg3 (zan (zad (zaf 0) zau) zaw))
 (zap (zg3 (zan (zad (zaf 1) zau) zaz))
 (zap (za7 2 (zan (zad (zaf 0) (zad (zaf 1) zau)) zeH))
 (zap (za7 3 (za4 (zaf 2) (zw5 "left")))
 (zap (za7 4 (dC (.int 0)))
 (zap (zq8 (zan (zad (zd6 1 [] (zqZ (za4 (zaf 2) (zw5 "costs"))) (zcx 0) (zab (zaf 0) (dC (.non)) zhL) (zaf 0)) zau) (m1 zqn)) (zcx 5)
 (zap (za7 3 (zab (zaf 3) (zaf 5) znK))
 (zap (sIf (zab (zaf 3) (dC (.int 0)) dLt)
 (zap (zcf (zaf 4))
 zal)
 zal)
 (zap (za7 4 (zab (zaf 4) (dC (.int 1)) zbx))
 zal))))
 (zap (zcf (zaf 4))
 zal)))))))
def zaH:List D->Res D:=zc5 6 zbe
def zb8 (ks:List Nat):D:=.lst (ks.map fun(k:Nat)=>D.int (k:Int))
structure zjg (w:Web) (ks:List Nat):Prop where
 up:ks.Pairwise (· < ·)
 wo:∀ k∈ks,∃ t x,w.ts[k]?=some t/\t.o=some x
def wth (w:Web)(k:Nat):Fra:=((w.ts[k]?).bind Tie.o).getD (0,1)
theorem zuG {w:Web}{k:Nat}{t:Tie}{x:Fra}(h:w.ts[k]?=some t)(hx:t.o=some x):wth w k=x:=by unfold wth;rw[h];show(t.o).getD _=_;rw[hx];rfl
theorem zjg.fin {w:Web}{ks:List Nat}(W:zft w)(T:zjg w ks):∀ k∈ks,zea (wth w k)/\0 < (wth w k).1:=fun k hk=>by
 obtain⟨t,x,h1,h2⟩:=T.wo k hk
 rw[zuG h1 h2]
 exact(W.ts t (List.mem_of_getElem? h1)).o x h2
theorem zjg.lt {w:Web}{ks:List Nat}(T:zjg w ks):∀ k∈ks,k < w.ts.length:=fun k hk=>by
 obtain⟨t,x,h1,h2⟩:=T.wo k hk
 exact(List.getElem?_eq_some_iff.mp h1).1
theorem zse:∀ {ks:List Nat}{n:Nat},ks.Pairwise (· < ·)->(∀ k∈ks,k < n)->ks.length<=n:=by
 intro ks n h hb
 have:∀ (ks:List Nat) (lo:Nat),ks.Pairwise (· < ·)->(∀ k∈ks,lo<=k/\k < n)->lo+ks.length<=n∨ks=[]:=by
  intro ks
  induction ks with
  | nil=>intro lo _ _;exact .inr rfl
  | cons a ks ih =>
   intro lo hp hb
   rw[List.pairwise_cons] at hp
   have ha:=hb a List.mem_cons_self
   rcases ih (a+1) hp.2 (fun k hk=>⟨hp.1 k hk,(hb k (List.mem_cons_of_mem _ hk)).2⟩) with h | h
   ·left;simp;omega
   ·left;subst h;simp;omega
 rcases this ks 0 h (fun k hk=>⟨Nat.zero_le _,hb k hk⟩) with h | h
 ·omega
 ·subst h;simp
theorem zpw {w:Web}{k:Nat}{t:Tie}(h:w.ts[k]?=some t):dIx (.lst (w.ts.map zfx)) (.int (k:Int))=.ok (zfx t):=zh4 (by rw[List.getElem?_map,h];rfl)
theorem zrq {w:Web}{k:Nat}(h:k < w.ts.length):zaC [zcg w,.int (k:Int)]=.ok (.bl true):=by
 rw[show zcg w=.tup [.lst (w.ps.map D.str),.lst (w.ts.map zfx),.str w.fi,.str w.la] from rfl]
 open_line with[zaC,zaY,zbz,isI,List.length_map,decide_eq_true (show(0:Int)<=(k:Int) by omega),decide_eq_true (show(k:Int) < (w.ts.length:Int) by omega)]
theorem zlY {w:Web}{ks:List Nat}(W:zft w)(T:zjg w ks):zas [zcg w,zb8 ks]=.ok .non:=by
 obtain⟨ρ',hl,_⟩:=zoC (ds:=ks.map fun(k:Nat)=>D.int (k:Int)) (tg:=zcx 3) (ρ:=[.sh (zcg w),.sh (zb8 ks),.sh (.int (-1)),.no])
  (body:=(zap (sIf (dOr (zdN (zan (zad (zaf 0) (zad (zaf 3) zau)) zaC)) (zab (zaf 3) (zaf 2) dLe))
   (zap zee zal) zal)
   (zap (sIf (zab (zab (zab (zab (zaf 0) (dC (.int 1)) dIx) (zaf 3) dIx) (dC (.int 4)) dIx) (dC (.non)) zoM)
   (zap zee zal) zal)
   (zap (za7 2 (zaf 3)) zal))))
  (fun j ρ=>∃ (ah:Int) (x:Sl),ρ=[.sh (zcg w),.sh (zb8 ks),.sh (.int ah),x]/\∀ v∈ks.drop j,ah < (v:Int)) (by
   rintro j d hd ρ ⟨ah,x,rfl,hah⟩
   rw[List.getElem?_map] at hd
   cases e:ks[j]? with
   | none=>rw[e] at hd;cases hd
   | some k =>
    rw[e] at hd
    cases hd
    have hj:j < ks.length:=(List.getElem?_eq_some_iff.mp e).1
    have hkm:=List.mem_of_getElem? e
    obtain⟨t,y,h1,h2⟩:=T.wo k hkm
    have hdr:ks.drop j=k::ks.drop (j+1):=by
     rw[List.drop_eq_getElem_cons hj]
     congr 1
     rw[List.getElem?_eq_getElem hj] at e
     exact Option.some.inj e
    have hk:ah < (k:Int):=hah k (by rw[hdr];exact List.mem_cons_self)
    refine⟨_,[.sh (zcg w),.sh (zb8 ks),.sh (.int (k:Int)),.sh (.int (k:Int))],rfl,?_,_,_,rfl,fun v hv=>?_⟩
    ·have hn:=zrq (T.lt k hkm)
     have hix:=zpw h1
     rw[show zcg w=.tup [.lst (w.ps.map D.str),.lst (w.ts.map zfx),.str w.fi,.str w.la] from rfl] at hn ⊢
     rw[show zfx t=.tup [.str t.a,.str t.b,.str t.w,fr t.l,zby t.o] from rfl,h2] at hix
     open_line with[hn,decide_eq_false (show ¬ (k:Int)<=ah by omega),hix,zby,fr,zwm]
    ·have hp:(k::ks.drop (j+1)).Pairwise (· < ·):=by rw[← hdr];exact T.up.sublist (List.drop_sublist _ _)
     have:=(List.pairwise_cons.mp hp).1 v hv
     omega) ⟨-1,.no,rfl,fun v _=>by omega⟩
 have hw:=zuI W
 unfold zb8 at hl ⊢
 open_line with[zas,zaL,hw,hl]
theorem zxi {xs:List Fra}{x:Fra}:tot (xs++[x])=un (tot xs) x:=by unfold tot;rw[List.foldl_append];rfl
def zfu (w:Web)(ks:List Nat):Fra:=low (tot (ks.map (wth w))).1 (tot (ks.map (wth w))).2
theorem zlX {w:Web}{ks:List Nat}(W:zft w)(T:zjg w ks):zbb [zcg w,zb8 ks]=.ok (fr (zfu w ks)):=by
 have hlen:ks.length<=14:=Nat.le_trans (zse T.up T.lt) W.t14
 have hs:=zuS (xs:=ks.map (wth w)) (by rw[List.length_map];omega) (fun x hx=>by
  obtain⟨k,hk,rfl⟩:=List.mem_map.mp hx
  exact(T.fin W k hk).1)
 have hc:zin 1 [0] (zcx 0) mYes (zab (zab (zab (zaf 1) (dC (.int 1)) dIx) (zaf 0) dIx) (dC (.int 4)) dIx) [.sh (zcg w),.sh (zb8 ks)] (ks.map fun(k:Nat)=>D.int (k:Int))=.ok (.lst ((ks.map (wth w)).map fr)):=by
  rw[zi4 (F:=fun d=>match d with | .int v=>fr (wth w v.toNat) | d=>d) (by rw[List.length_map];omega)]
  ·rw[List.map_map,List.map_map];rfl
  ·intro d hd
   obtain⟨k,hk,rfl⟩:=List.mem_map.mp hd
   obtain⟨t,x,h1,h2⟩:=T.wo k hk
   refine⟨[.sh (.int (k:Int)),.sh (zcg w)],rfl,rfl,?_⟩
   have hix:=zpw h1
   rw[show zfx t=.tup [.str t.a,.str t.b,.str t.w,fr t.l,zby t.o] from rfl,h2] at hix
   rw[show zcg w=.tup [.lst (w.ps.map D.str),.lst (w.ts.map zfx),.str w.fi,.str w.la] from rfl]
   open_line with[hix,zby,Int.toNat_natCast,zuG h1 h2]
 have ht:=zlY W T
 unfold zb8 at hc ht ⊢
 open_line with[zbb,zcG,ht,hc,hs]
 rfl
theorem znn {w:Web}{ks:List Nat}(W:zft w)(T:zjg w ks):Low (zfu w ks)/\(zfu w ks).1.natAbs < B13/\(zfu w ks).2.natAbs < B13:=by
 have hlen:ks.length<=14:=Nat.le_trans (zse T.up T.lt) W.t14
 have A:=zqW (xs:=ks.map (wth w)) (by rw[List.length_map];omega) (fun x hx=>by
  obtain⟨k,hk,rfl⟩:=List.mem_map.mp hx
  exact(T.fin W k hk).1)
 rw[List.length_map] at A
 have hb:=zmW (k:=ks.length) (by omega)
 refine⟨zkp A.pos,Nat.lt_of_le_of_lt (Nat.le_trans zrx A.b1) hb,Nat.lt_of_le_of_lt (Nat.le_trans zrw A.b2) hb⟩
theorem zrL {x y:Fra}(h1:x.1.natAbs < B60)(h2:x.2.natAbs < B60)(h3:y.1.natAbs < B60)(h4:y.2.natAbs < B60):zf4 [fr x,fr y]=.ok (.bl (flt x y)):=by
 rw[show fr x=.tup [.int x.1,.int x.2] from rfl,show fr y=.tup [.int y.1,.int y.2] from rfl]
 open_line with[zf4,zkd,zeS (zgr h1 h4),zeS (zgr h3 h2)]
 rfl
theorem zuH {w:Web}{ks:List Nat}{p:Fra}(W:zft w)(T:zjg w ks)(hp:zea p)(h0:0<=p.1):zaX [zcg w,zb8 ks,fr p]=.ok (.bl (!(flt p (zfu w ks)))):=by
 have h1:=zlY W T
 have h2:=zsA hp.toLow h0
 have h3:=zlX W T
 obtain⟨_,k1,k2⟩:=znn W T
 have h4:=zrL (x:=p) (y:=zfu w ks) (Nat.lt_of_lt_of_le hp.pN zd9) (Nat.lt_of_lt_of_le hp.qN zd9) (Nat.lt_of_lt_of_le k1 ziI) (Nat.lt_of_lt_of_le k2 ziI)
 open_line with[zaX,zcc,h1,h2,h3,h4]
def zlC (b:Int)(x:Fra):Int:=b / (Int.gcd b x.2:Int)*x.2
def bot (xs:List Fra):Int:=xs.foldl zlC 1
structure zun (k:Nat) (b:Int):Prop where
 pos:0 < b
 bd:b.natAbs<=2 ^ (200*k)
theorem zrd {k:Nat}(h:k<=60):2 ^ (200*k) < B13:=by rw[zqG];exact Nat.pow_lt_pow_right (by decide) (by omega)
theorem zsP {a b:Int}(h:b≠0):0 < (Int.gcd a b:Int):=zmw h
theorem zun.step {k:Nat}{b:Int}{x:Fra}(h:zun k b)(hx:zea x):zun (k+1) (zlC b x)/\b∣zlC b x/\x.2∣zlC b x:=by
 have q1:=hx.q1
 have hg:0 < (Int.gcd b x.2:Int):=zsP (by omega)
 have hd:(Int.gcd b x.2:Int)∣b:=Int.gcd_dvd_left ..
 have hd2:(Int.gcd b x.2:Int)∣x.2:=Int.gcd_dvd_right ..
 have hq:0 < b / (Int.gcd b x.2:Int):=Int.ediv_pos_of_pos_of_dvd h.pos (by omega) hd
 refine⟨⟨Int.mul_pos hq (by omega),?_⟩,?_,⟨b / (Int.gcd b x.2:Int),by unfold zlC;rw[Int.mul_comm]⟩⟩
 ·unfold zlC
  rw[Int.natAbs_mul,show 200*(k+1)=200*k+200 by omega,Nat.pow_add]
  refine Nat.mul_le_mul (Nat.le_trans (Int.natAbs_ediv_le_natAbs _ _) h.bd) (Nat.le_trans (Nat.le_of_lt hx.qN) zr7)
 ·obtain⟨c,hc⟩:=hd
  obtain⟨d,hd'⟩:=hd2
  refine⟨d,?_⟩
  unfold zlC
  generalize (Int.gcd b x.2:Int)=g at *
  have e1:b / g=c:=by rw[hc];exact Int.mul_ediv_cancel_left c (by omega)
  rw[e1,hd',hc,← Int.mul_assoc,Int.mul_comm c g]
theorem zC4 {xs:List Fra}(hx:∀ x∈xs,zea x):∀ (b:Int) (k:Nat),zun k b->zun (k+xs.length) (xs.foldl zlC b)/\b∣xs.foldl zlC b/\∀ x∈xs,x.2∣xs.foldl zlC b:=by
 induction xs with
 | nil=>intro b k h;exact⟨h,Int.dvd_refl b,fun x hx=>nomatch hx⟩
 | cons x xs ih =>
  intro b k h
  obtain⟨h1,h2,h3⟩:=h.step (hx x List.mem_cons_self)
  obtain⟨k1,k2,k3⟩:=ih (fun y hy=>hx y (List.mem_cons_of_mem _ hy)) _ _ h1
  refine⟨?_,Int.dvd_trans h2 k2,fun y hy=>?_⟩
  ·rw[List.length_cons,show k+(xs.length+1)=k+1+xs.length by omega];exact k1
  ·rcases List.mem_cons.mp hy with rfl | hy
   ·exact Int.dvd_trans h3 k2
   ·exact k3 y hy
theorem zy1 {L:Sl}:∀ (xs:List Fra) (k:Nat) (b:Int) (z:Sl),zun k b->k+xs.length<=60->(∀ x∈xs,zea x)->∃ z',zed (zcx 2) (zap (za7 1 (zab (zab (zaf 1) (zan (zad (zaf 1) (zad (zab (zaf 2) (dC (.int 1)) dIx) zau)) za8) zo3) (zab (zaf 2) (dC (.int 1)) dIx) zbB)) zal) (xs.map fr) [L,.sh (.int b),z] =
  .ok (.nx [L,.sh (.int (xs.foldl zlC b)),z']):=by
 intro xs
 induction xs with
 | nil=>intro k b z _ _ _;exact⟨z,rfl⟩
 | cons x xs ih =>
  intro k b z h hk hx
  have hxx:=hx x List.mem_cons_self
  have q1:=hxx.q1
  obtain⟨h1,h2,h3⟩:=h.step hxx
  simp only[List.length_cons] at hk
  obtain⟨z',hz'⟩:=ih (k+1) _ (.sh (fr x)) h1 (by omega) (fun y hy=>hx y (List.mem_cons_of_mem _ hy))
  refine⟨z',?_⟩
  have hg:0 < (Int.gcd b x.2:Int):=zsP (by omega)
  have hdiv:zj8 b (Int.gcd b x.2:Int)=true:=zqm (by omega) (Nat.lt_of_le_of_lt h.bd (zrd (by omega)))
  have hb13:(b / (Int.gcd b x.2:Int)).natAbs < B13:=Nat.lt_of_le_of_lt (Nat.le_trans (Int.natAbs_ediv_le_natAbs _ _) h.bd) (zrd (by omega))
  have hmul:zhK (b / (Int.gcd b x.2:Int)) x.2=true:=zgr (Nat.lt_of_lt_of_le hb13 ziI) (Nat.lt_of_lt_of_le hxx.qN zd9)
  rw[List.map_cons,zjF (ρ1:=[L,.sh (.int b),.sh (fr x)]) (ρ2:=[L,.sh (.int (zlC b x)),.sh (fr x)]) rfl ?_]
  ·exact hz'
  ·rw[show fr x=.tup [.int x.1,.int x.2] from rfl]
   open_line with[zkb,zwv hdiv,zi1 hg,zeS hmul]
   rfl
theorem zwT {xs:List Fra}(hl:xs.length<=60)(hx:∀ x∈xs,zea x):zcp [.lst (xs.map fr)]=.ok (.int (bot xs)):=by
 obtain⟨z',hz⟩:=zy1 (L:=.sh (.lst (xs.map fr))) xs 0 1 .no ⟨by decide,by decide⟩ (by omega) hx
 open_line with[zcp,zd7,hz]
 rfl
def wI (b:Int):Option Fra->D
 | none=>.non
 | some x=>.int (x.1*(b / x.2))
def zhQ (os:List (Option Fra)):List Fra:=os.filterMap id
theorem zvR {os:List (Option Fra)}{x:Fra}:x∈zhQ os↔some x∈os:=by unfold zhQ;simp
theorem zxg {x:Fra}{b:Int}(hx:zea x)(hb:b.natAbs < B13):zeJ [fr x,.int b]=.ok (.int (x.1*(b / x.2))):=by
 have q1:=hx.q1
 have hdiv:zj8 b x.2=true:=zyL (by omega) (Nat.lt_of_lt_of_le hx.qN zzH)
 have hmul:zhK x.1 (b / x.2)=true:=zgr (Nat.lt_of_lt_of_le hx.pN zd9) (Nat.lt_of_lt_of_le (Nat.lt_of_le_of_lt (Int.natAbs_ediv_le_natAbs _ _) hb) ziI)
 rw[show fr x=.tup [.int x.1,.int x.2] from rfl]
 open_line with[zeJ,zja,zwv hdiv,zi1 (show 0 < x.2 by omega),zeS hmul]
theorem zhP:∀ os:List (Option Fra),(os.map zby).filter (fun d=>!(zne d))=(zhQ os).map fr
 | []=>rfl
 | none::os=>by
  rw[List.map_cons,List.filter_cons_of_neg (by decide),zhP os];rfl
 | some x::os=>by
  have:zne (zby (some x))=false:=rfl
  rw[List.map_cons,List.filter_cons_of_pos (by rw[this];rfl),zhP os];rfl
theorem zxD {os:List (Option Fra)}(hl:os.length<=60)(hx:∀ x,some x∈os->zea x):zcE [.lst (os.map zby)]=.ok (.tup [.lst (os.map (wI (bot (zhQ os)))),.int (bot (zhQ os))]):=by
 have hxs:∀ x∈zhQ os,zea x:=fun x h=>hx x (zvR.mp h)
 have hls:(zhQ os).length<=60:=Nat.le_trans (List.length_filterMap_le _ _) hl
 have h1:=zwT hls hxs
 obtain⟨B,_,_⟩:=zC4 hxs 1 0 ⟨by decide,by decide⟩
 have hb:(bot (zhQ os)).natAbs < B13:=Nat.lt_of_le_of_lt B.bd (zrd (by omega))
 have c1:zin 1 [] (zcx 0) (zab (zaf 0) (dC (.non)) zhL) (zaf 0) [.sh (.lst (os.map zby)),.no] (os.map zby)=.ok (.lst ((zhQ os).map fr)):=by
  rw[zjK (F:=id) (p:=fun d=>!(zne d)) (by rw[List.length_map];omega)]
  ·rw[List.map_id,zhP]
  ·intro d hd
   exact⟨[.sh d],rfl,rfl,fun _=>rfl⟩
 have c2:zin 1 [1] (zcx 0) mYes (dIf (zab (zaf 0) (dC (.non)) zoM) (dC (.non)) (zan (zad (zaf 0) (zad (zaf 1) zau)) zeJ)) [.sh (.lst (os.map zby)),.sh (.int (bot (zhQ os)))] (os.map zby)=.ok (.lst (os.map (wI (bot (zhQ os))))):=by
  rw[zi4 (F:=fun d=>match d with | .tup [.int p,.int q]=>.int (p*(bot (zhQ os) / q)) | _=>.non) (by rw[List.length_map];omega)]
  ·congr 2
   rw[List.map_map]
   apply List.map_congr_left
   intro o _
   cases o<;>rfl
  ·intro d hd
   obtain⟨o,ho,rfl⟩:=List.mem_map.mp hd
   refine⟨[.sh (zby o),.sh (.int (bot (zhQ os)))],rfl,rfl,?_⟩
   cases o with
   | none=>rfl
   | some x =>
    have hw:=zxg (hx x ho) hb
    rw[show fr x=.tup [.int x.1,.int x.2] from rfl] at hw
    rw[show zby (some x)=.tup [.int x.1,.int x.2] from rfl]
    open_line with[hw]
 open_line with[zcE,zeP,c1,h1,c2]
def zw4 (w:Web)(p:Fra):List (Option Fra):=w.ts.map (·.o)++[some p]
theorem zx1 {w:Web}{p:Fra}(W:zft w)(hp:zea p):∀ x,some x∈zw4 w p->zea x:=fun x hx=>by
 unfold zw4 at hx
 rw[List.mem_append] at hx
 rcases hx with hx | hx
 ·obtain⟨t,ht,he⟩:=List.mem_map.mp hx
  exact((W.ts t ht).o x he).1
 ·have:x=p:=by simpa using hx
  rw[this];exact hp
def bt (w:Web)(p:Fra):Int:=bot (zhQ (zw4 w p))
def zjt (w:Web)(p:Fra):List D:=w.ts.map fun t=>wI (bt w p) t.o
def zor (w:Web)(p:Fra):Int:=p.1*(bt w p / p.2)
theorem zsX {xs:List D}{x:D}:zjJ (xs++[x]) none (some (-1))=xs:=by
 unfold zjJ
 have e:HT.sIx (xs++[x]).length (xs++[x]).length (some (-1))=xs.length:=by
  have h:=HT.clip_eq (-1) (xs++[x]).length (xs++[x]).length
  rw[if_pos (by decide)] at h
  have:(xs++[x]).length=xs.length+1:=by simp
  omega
 rw[e,HT.sIx_none,List.drop_zero,Nat.sub_zero]
 simp
theorem zAN {xs:List D}{x:D}:dIx (.lst (xs++[x])) (.int (-1))=.ok x:=by
 have e:atI (xs++[x]) (-1)=some x:=by
  unfold atI ixN
  rw[if_neg (by decide)]
  have h:(-((xs++[x]).length:Int))<=-1:=by simp;omega
  rw[if_pos h]
  have e:(-1+((xs++[x]).length:Int)).toNat=xs.length:=by simp;omega
  rw[e]
  simp
 show(match atI (xs++[x]) (-1) with | some d=>Res.ok d | none=>.stuck)=_
 rw[e]
theorem zya {w:Web}{p:Fra}(W:zft w)(hp:zea p):zeH [zcg w,fr p]=.ok (.ob (.ins "Means" ["costs","left","bottom"]) [.lst (zjt w p),.int (zor w p),.int (bt w p)]):=by
 have h14:=W.t14
 have hs:=zxD (os:=zw4 w p) (by unfold zw4;simp;omega) (zx1 W hp)
 have e1:(zw4 w p).map zby=(w.ts.map fun t=>zby t.o)++[fr p]:=by unfold zw4;rw[List.map_append,List.map_map];rfl
 have e2:(zw4 w p).map (wI (bt w p))=zjt w p++[.int (zor w p)]:=by unfold zw4 zjt;rw[List.map_append,List.map_map];rfl
 have hc:zin 1 [] (zcx 0) mYes (zab (zaf 0) (dC (.int 4)) dIx) [.sh (zcg w),.sh (fr p),.no] (w.ts.map zfx)=.ok (.lst (w.ts.map fun t=>zby t.o)):=by
  rw[zi4 (F:=fun d=>match d with | .tup [_,_,_,_,o]=>o | d=>d) (by rw[List.length_map];omega)]
  ·rw[List.map_map];rfl
  ·intro d hd
   obtain⟨t,ht,rfl⟩:=List.mem_map.mp hd
   refine⟨[.sh (zfx t)],rfl,rfl,?_⟩
   rw[show zfx t=.tup [.str t.a,.str t.b,.str t.w,fr t.l,zby t.o] from rfl]
   open_line with[]
 rw[e1,show bot (zhQ (zw4 w p))=bt w p from rfl,e2] at hs
 have hadd:zbx (.lst (w.ts.map fun t=>zby t.o)) (.lst [fr p])=.ok (.lst ((w.ts.map fun t=>zby t.o)++[fr p])):=ev_addL (decide_eq_true (by simp;omega))
 rw[show zcg w=.tup [.lst (w.ps.map D.str),.lst (w.ts.map zfx),.str w.fi,.str w.la] from rfl] at hc ⊢
 open_line with[zeH,zi8]
 rw[hc]
 open_line with[hadd,hs,zsX,zAN]
def zhC:List Int->Int->Nat
 | [],_=>0
 | c::cs,l=>if l-c < 0 then 0 else 1+zhC cs (l-c)
theorem zvQ {A B M:Sl}:∀ (s:List Int) (l:Int) (m:Nat) (x:Sl),((zed (zcx 5) (zap (za7 3 (zab (zaf 3) (zaf 5) znK)) (zap (sIf (zab (zaf 3) (dC (.int 0)) dLt) (zap (zcf (zaf 4)) zal) zal) (zap (za7 4 (zab (zaf 4) (dC (.int 1)) zbx)) zal))) (s.map D.int) [A,B,M,.sh (.int l),.sh (.int (m:Int)),x]).bind (zAa (zap (zcf (zaf 4)) zal)))=.ok (.rt (.int ((m+zhC s l:Nat):Int))):=by
 intro s
 induction s with
 | nil =>
  intro l m x
  rw[List.map_nil]
  rfl
 | cons c s ih =>
  intro l m x
  by_cases h:l-c < 0
  ·have hg:zhC (c::s) l=0:=by unfold zhC;rw[if_pos h]
   rw[List.map_cons,zAZ (tg:=zcx 5) (ρ1:=[A,B,M,.sh (.int l),.sh (.int (m:Int)),.sh (.int c)]) (v:=.int (m:Int)) rfl ?_,hg]
   ·rfl
   ·open_line with[znK,decide_eq_true h]
  ·have hg:zhC (c::s) l=1+zhC s (l-c):=by conv=>lhs;unfold zhC;rw[if_neg h]
   rw[List.map_cons,zjF (tg:=zcx 5) (ρ1:=[A,B,M,.sh (.int l),.sh (.int (m:Int)),.sh (.int c)]) (ρ2:=[A,B,M,.sh (.int (l-c)),.sh (.int ((m+1:Nat):Int)),.sh (.int c)]) rfl ?_,ih,hg,show m+1+zhC s (l-c)=m+(1+zhC s (l-c)) by omega]
   open_line with[znK,decide_eq_false h]
   rfl
theorem ztv {A B M:Sl}(s:List Int)(l:Int)(x:Sl):((zed (zcx 5) (zap (za7 3 (zab (zaf 3) (zaf 5) znK)) (zap (sIf (zab (zaf 3) (dC (.int 0)) dLt) (zap (zcf (zaf 4)) zal) zal) (zap (za7 4 (zab (zaf 4) (dC (.int 1)) zbx)) zal))) (s.map D.int) [A,B,M,.sh (.int l),.sh (.int 0),x]).bind (zAa (zap (zcf (zaf 4)) zal)))=.ok (.rt (.int ((zhC s l:Nat):Int))):=by
 have h:=zvQ (A:=A) (B:=B) (M:=M) s l 0 x
 rw[Nat.zero_add] at h
 exact h
def znj (w:Web)(p:Fra):List Int:=(zhQ (w.ts.map (·.o))).map fun x=>x.1*(bt w p / x.2)
theorem zot:∀ ns:List Int,zh5 (ns.map D.int)=some ns
 | []=>rfl
 | n::ns=>by show(zh5 (ns.map D.int)).map _=_;rw[zot ns];rfl
theorem zim (b:Int):∀ os:List (Option Fra),(os.map (wI b)).filter (fun d=>!(zne d))=((zhQ os).map fun x=>x.1*(b / x.2)).map D.int
 | []=>rfl
 | none::os=>by rw[List.map_cons,List.filter_cons_of_neg (by simp [wI,zne]),zim b os];rfl
 | some x::os=>by
  have:zne (wI b (some x))=false:=rfl
  rw[List.map_cons,List.filter_cons_of_pos (by rw[this];rfl),zim b os];rfl
theorem zAH {w:Web}{p:Fra}(W:zft w)(hp:zea p)(h0:0<=p.1):zaH [zcg w,fr p]=.ok (.int (zhC (zg0 (znj w p)) (zor w p):Nat)):=by
 have h14:=W.t14
 have h1:=zuI W
 have h2:=zsA hp.toLow h0
 have h3:=zya W hp
 have hlen:(znj w p).length<=14:=by unfold znj;rw[List.length_map];exact Nat.le_trans (List.length_filterMap_le _ _) (by simpa using h14)
 have hc:∀ ρ:Ev,zin 1 [] (zcx 0) (zab (zaf 0) (dC (.non)) zhL) (zaf 0) ρ (zjt w p)=.ok (.lst ((znj w p).map D.int)):=fun ρ=>by
  rw[zjK (F:=id) (p:=fun d=>!(zne d)) (by unfold zjt;rw[List.length_map];omega)]
  ·unfold zjt znj
   rw[List.map_id,← zim,List.map_map];rfl
  ·intro d hd
   exact⟨[.sh d],rfl,rfl,fun _=>rfl⟩
 have hsort:zqn (.lst ((znj w p).map D.int))=.ok (.lst ((zg0 (znj w p)).map D.int)):=by
  show(match zh5 ((znj w p).map D.int) with | some ns=>if ns.length < 64 then Res.ok (D.lst ((zg0 ns).map D.int)) else .stuck | none=>.stuck)=_
  rw[zot]
  exact if_pos (by omega)
 have f1:zw5 "left" (.ob (.ins "Means" ["costs","left","bottom"]) [.lst (zjt w p),.int (zor w p),.int (bt w p)])=.ok (.int (zor w p)):=rfl
 have f2:zw5 "costs" (.ob (.ins "Means" ["costs","left","bottom"]) [.lst (zjt w p),.int (zor w p),.int (bt w p)])=.ok (.lst (zjt w p)):=rfl
 have hl:=ztv (A:=.sh (zcg w)) (B:=.sh (fr p)) (M:=.sh (.ob (.ins "Means" ["costs","left","bottom"]) [.lst (zjt w p),.int (zor w p),.int (bt w p)])) (zg0 (znj w p)) (zor w p) .no
 open_line with[zaH,zbe,h1,h2,h3,f1,f2]
 rw[hc]
 open_line with[hsort]
 rw[hl]
 rfl
def zcH:Ev->Res Fl :=
 (zap (sIf (zab (zaf 1) (zan (zad (zaf 0) zau) (m1 zhE)) dLt)
 (zap (zcf (zab (zaf 0) (zaf 1) dIx))
 zal)
 zal)
 (zap (zcf (zab (zab (dC (.int 7919)) (zaf 1) zbB) (zab (dC (.int 31)) (zan (zad (zaf 0) zau) (m1 zhE)) zbB) zbx))
 zal))
def zbu:List D->Res D:=zc5 2 zcH
def zjb:Ev->Res Fl :=
 (zap (za7 2 (zan (zad (zaf 0) (zad (zaf 1) zau)) zbu))
 (zap (za7 3 (zan (zad (zaf 2) (zad (zan (zad (dC (.int 6)) (zad (dC (.int 15)) (zad (dC (.int 7)) (zad (dC (.int 6)) zau)))) zc3) zau)) zaU))
 (zap (za7 4 (zan (zad (zab (zaf 2) (dC (.int 3780)) zo3) (zad (zab (dC (.int 2)) (zab (zaf 3) (dC (.int 0)) dIx) zbx) zau)) zcV))
 (zap (zsm 5 (zan zau zc3))
 (zap (zl6 (zab (zaf 3) (dC (.int 1)) dIx) (zcx 6)
 (zap (za7 7 (zab (zan (zad (zab (zab (dC (.int 10)) (dC (.int 60)) zni) (dC (.int 1)) znK) (zad (zab (dC (.int 10)) (dC (.int 9)) zni) zau)) zc3) (zan (zad (zab (zab (zaf 6) (dC (.int 5)) zfw) (dC (.int 0)) dGt) zau) (m1 zhF)) dIx))
 (zap (zc8 5 (zan (zad (zaf 4) (zad (zan (zad (zaf 0) (zad (zab (zab (zaf 1) (dC (.int 1)) zbx) (zaf 6) zbx) zau)) zbu) (zad (zaf 7) zau))) zdJ))
 zal)))
 (zap (za7 8 (zab (zab (zaf 3) (dC (.int 2)) dIx) (zan (zad (zaf 4) zau) (m1 zhE)) zfw))
 (zap (za7 9 (zab (zab (zab (zaf 8) (dC (.int 1)) zbx) (zab (zab (zaf 3) (dC (.int 3)) dIx) (zab (zan (zad (zaf 4) zau) (m1 zhE)) (dC (.int 1)) znK) zfw) zbx) (zan (zad (zaf 4) zau) (m1 zhE)) zfw))
 (zap (zcf (zan (zad (zaf 4) (zad (zaf 5) (zad (zab (zaf 4) (zaf 8) dIx) (zad (zab (zaf 4) (zaf 9) dIx) zau)))) zjO))
 zal))))))))
def zdI:List D->Res D:=zc5 10 zjb
theorem zwP {ns:List Int}(hn:ns.length<=1000){k:Int}(h0:0<=k)(h1:k<=1000):∃ c:Int,zbu [.lst (ns.map D.int),.int k]=.ok (.int c):=by
 obtain⟨n,rfl⟩:=Int.eq_ofNat_of_zero_le h0
 by_cases h:n < ns.length
 ·refine⟨ns[n],?_⟩
  have hix:dIx (.lst (ns.map D.int)) (.int (n:Int))=.ok (.int ns[n]):=zh4 (by rw[List.getElem?_map,List.getElem?_eq_getElem h];rfl)
  open_line with[zbu,zcH,List.length_map,decide_eq_true (show(n:Int) < (ns.length:Int) by omega),hix]
 ·refine⟨7919*(n:Int)+31*(ns.length:Int),?_⟩
  open_line with[zbu,zcH,List.length_map,decide_eq_false (show ¬ (n:Int) < (ns.length:Int) by omega),zeS (zfz (i:=7919) (j:=(n:Int)) (by decide) (by omega)),zeS (zfz (i:=31) (j:=(ns.length:Int)) (by decide) (by omega))]
theorem zy0 {k:Int}:∃ bd:Int,(0 < bd/\bd<=(N60:Int)-1)/\∀ (ρ:Ev),ρ[6]?=some (.sh (.int k))->(zab (zan (zad (zab (zab (dC (.int 10)) (dC (.int 60)) zni) (dC (.int 1)) znK) (zad (zab (dC (.int 10)) (dC (.int 9)) zni) zau)) zc3) (zan (zad (zab (zab (zaf 6) (dC (.int 5)) zfw) (dC (.int 0)) dGt) zau) (m1 zhF)) dIx) ρ=.ok (.int bd):=by
 have p9:zni (.int 10) (.int 9)=.ok (.int 1000000000):=rfl
 by_cases h:0 < k.fmod 5
 ·refine⟨1000000000,⟨by decide,by decide⟩,fun ρ hρ=>?_⟩
  have e:zhF (.bl true)=.ok (.int 1):=rfl
  open_line with[hρ,p9,decide_eq_true (show k.fmod 5 > 0 from h),decide_eq_true h,e]
 ·refine⟨(N60:Int)-1,⟨by decide,by decide⟩,fun ρ hρ=>?_⟩
  have e:zhF (.bl false)=.ok (.int 0):=rfl
  open_line with[hρ,p9,decide_eq_false (show ¬ k.fmod 5 > 0 from h),decide_eq_false h,e]
theorem zuJ {ns:List Int}(hn:ns.length<=1000){at_:Int}(h0:0<=at_)(h1:at_<=900):∃ w,zdI [.lst (ns.map D.int),.int at_]=.ok (zcg w)/\zft w:=by
 obtain⟨c,hc⟩:=zwP hn (k:=at_) h0 (by omega)
 obtain⟨vs,hd,W⟩:=zlQ c [6,15,7,6] (by decide) (by decide)
 have hd':zaU [.int c,.lst [.int 6,.int 15,.int 7,.int 6]]=.ok (.lst (vs.map D.int)):=hd
 obtain⟨d0,g0,b0,i0⟩:=W.ix 0 0 rfl rfl
 obtain⟨d1,g1,b1,i1⟩:=W.ix 1 1 rfl rfl
 obtain⟨d2,g2,b2,i2⟩:=W.ix 2 2 rfl rfl
 obtain⟨d3,g3,b3,i3⟩:=W.ix 3 3 rfl rfl
 obtain⟨m,rfl⟩:=Int.eq_ofNat_of_zero_le b0.1
 obtain⟨zs,hz,hzl,nm⟩:=zx6 (c.fdiv 3780) (2+m) (by omega)
 have hz':zcV [.int (c.fdiv 3780),.int (2+(m:Int))]=.ok (.lst (zs.map D.str)):=hz
 have hdiv:zo3 (.int c) (.int 3780)=.ok (.int (c.fdiv 3780)):=zwv (zyL (by decide) (Nat.lt_of_lt_of_le (show(3780:Int).natAbs < N60 by decide) zzH))
 obtain⟨tn,rfl⟩:=Int.eq_ofNat_of_zero_le b1.1
 obtain⟨ρ',hl,ts,hts,hall,x,y,rfl⟩:=zrR (i:=6) (n:=tn)
  (ρ:=[.sh (.lst (ns.map D.int)),.sh (.int at_),.sh (.int c),.sh (.lst (vs.map D.int)),.sh (.lst (zs.map D.str)),.ow (.lst []),.no,.no,.no,.no])
  (body:=(zap (za7 7 (zab (zan (zad (zab (zab (dC (.int 10)) (dC (.int 60)) zni) (dC (.int 1)) znK) (zad (zab (dC (.int 10)) (dC (.int 9)) zni) zau)) zc3) (zan (zad (zab (zab (zaf 6) (dC (.int 5)) zfw) (dC (.int 0)) dGt) zau) (m1 zhF)) dIx))
   (zap (zc8 5 (zan (zad (zaf 4) (zad (zan (zad (zaf 0) (zad (zab (zab (zaf 1) (dC (.int 1)) zbx) (zaf 6) zbx) zau)) zbu) (zad (zaf 7) zau))) zdJ))
   zal)))
  (fun k ρ=>∃ ts:List Tie,ts.length=k/\(∀ t∈ts,zw1 zs t)/\∃ x y,ρ=[.sh (.lst (ns.map D.int)),.sh (.int at_),.sh (.int c),.sh (.lst (vs.map D.int)),.sh (.lst (zs.map D.str)),.ow (.lst (ts.map zfx)),x,y,.no,.no]) (by
   rintro k hk ρ ⟨ts,rfl,hall,x,y,rfl⟩
   obtain⟨bd,hb,hbd⟩:=zy0 (k:=((ts.length:Nat):Int))
   obtain⟨c',hc'⟩:=zwP hn (k:=at_+1+(ts.length:Int)) (by omega) (by omega)
   obtain⟨t,ht,hT⟩:=zBB (zs:=zs) (c:=c') (bd:=bd) (by omega) (by omega) nm.nd hb
   refine⟨[.sh (.lst (ns.map D.int)),.sh (.int at_),.sh (.int c),.sh (.lst (vs.map D.int)),.sh (.lst (zs.map D.str)),.ow (.lst ((ts++[t]).map zfx)),.sh (.int (ts.length:Int)),.sh (.int bd),.no,.no],?_,ts++[t],by simp,fun u hu=>?_,_,_,rfl⟩
   ·rw[ev_seq,ev_set,hbd _ rfl]
    open_line with[hc',ht,ev_app1 (ds:=ts.map zfx) (decide_eq_true (by rw[List.length_map];omega)),List.map_append]
   ·rw[List.mem_append] at hu
    rcases hu with hu | hu
    ·exact hall u hu
    ·have:u=t:=by simpa using hu
     subst this;exact hT) ⟨[],rfl,fun t ht=>(nomatch ht),_,_,rfl⟩
 have hn0:((zs.length:Int)==0)=false:=beq_eq_false_iff_ne.mpr (by omega)
 have hn1:((zs.length:Int)-1==0)=false:=beq_eq_false_iff_ne.mpr (by omega)
 have f1:=zjf (a:=d2) (b:=(zs.length:Int)) (by omega)
 have f2:=zjf (a:=d3) (b:=(zs.length:Int)-1) (by omega)
 obtain⟨hr,hne⟩:=zqC (n:=(zs.length:Int)) (d:=d2.fmod (zs.length:Int)) (e:=d3.fmod ((zs.length:Int)-1)) (by omega) f1.1 f1.2 f2.1 f2.2
 obtain⟨z1,k1,j1⟩:=zsj (zs:=zs) f1.1 f1.2
 obtain⟨z2,k2,j2⟩:=zsj (zs:=zs) hr.1 hr.2
 refine⟨⟨zs,ts,z1,z2⟩,?_,⟨by show 2<=zs.length;omega,by show zs.length<=7;omega,nm,by show ts.length<=14;omega,hall,List.mem_of_getElem? k1,List.mem_of_getElem? k2,zop nm.nd k1 k2 (by omega)⟩⟩
 open_line with[zdI,zjb,hc,hd',hdiv,i0,hz',i1,ev_forR,zlN (k:=tn) (show tn<=1000000 by omega),hl,i2,i3,List.length_map,hn0,hn1,j1,j2]
 rfl
def isW (w:Web)(k:Nat):Bool:=((w.ts[k]?).bind Tie.o).isSome
theorem zAQ {w:Web}{k:Nat}:isW w k=true↔∃ t x,w.ts[k]?=some t/\t.o=some x:=by
 unfold isW
 cases h:w.ts[k]? with
 | none=>simp
 | some t =>
  show(t.o).isSome=true↔_
  rw[Option.isSome_iff_exists]
  constructor
  ·rintro⟨x,hx⟩;exact⟨t,x,rfl,hx⟩
  ·rintro⟨t',x,h',hx⟩;cases h';exact⟨x,hx⟩
def zBX (i:Nat)(ρ:Ev)(d:D):Res Fl:=if zzu d=true then .ok (.nx (ρ.set i (.sh d))) else .stuck
theorem zEb {i:Nat}{f:Ev->Res D}{ρ:Ev}:zDF i f ρ=(f (shr ρ)).bind (zBX i ρ):=rfl
theorem zDD {i:Nat}{ρ:Ev}{x:Fra}:zBX i ρ (fr x)=.ok (.nx (ρ.set i (.sh (fr x)))):=rfl
theorem zD1 {x:Fra}:dNe (fr x) (fr x)=.ok (.bl false):=by
 unfold dNe
 rw[if_pos ⟨zuX x,zuX x⟩,zue];rfl
theorem ztg:∀ {xs:List Fra},(∀ x∈xs,0<=x.1/\1<=x.2)->0<=(tot xs).1/\0 < (tot xs).2:=by
 have key:∀ (xs:List Fra) (s:Fra),0<=s.1->0 < s.2->(∀ x∈xs,0<=x.1/\1<=x.2)->0<=(xs.foldl un s).1/\0 < (xs.foldl un s).2:=by
  intro xs
  induction xs with
  | nil=>intro s h1 h2 _;exact⟨h1,h2⟩
  | cons x xs ih =>
   intro s h1 h2 h
   have hx:=h x List.mem_cons_self
   refine ih (un s x) ?_ (Int.mul_pos h2 (by omega)) fun y hy=>h y (List.mem_cons_of_mem _ hy)
   exact Int.add_nonneg (Int.mul_nonneg h1 (by omega)) (Int.mul_nonneg hx.1 (by omega))
 exact fun {xs} h=>key xs (0,1) (by decide) (by decide) h
theorem zxB {n:Nat}{t:Tie}:zbE (n+3) (zfx t)=true:=by
 obtain⟨a,b,w,l,o⟩:=t
 cases o<;>cases n<;>rfl
end Com
namespace DL
open PySem L2
section
variable {α β:Type}
def Rf (a b:Res α):Prop:=a=.stuck∨a=b
theorem zdO {a b:Res α}{f g:α->Res β}(h:Rf a b)(k:∀ x,Rf (f x) (g x)):Rf (a.bind f) (b.bind g):=by
 rcases h with rfl | rfl
 ·exact .inl rfl
 ·cases a with
  | ok x=>exact k x
  | exn x=>exact .inr rfl
  | stuck=>exact .inl rfl
structure RfF (f g:Ev->Res α):Prop where
 o:∀ ρ,Rf (f ρ) (g ρ)
end
structure RfM (f g:List D->Res D):Prop where
 o:∀ ds,Rf (f ds) (g ds)
theorem RfM.ok {f g:List D->Res D}(h:RfM f g){ds:List D}{d:D}(e:f ds=.ok d):g ds=.ok d:=by
 rcases h.o ds with q | q
 ·rw[q] at e;cases e
 ·rw[← q];exact e
theorem rfm_refl {f:List D->Res D}:RfM f f:=⟨fun _=>.inr rfl⟩
theorem rf_refl {α:Type}{f:Ev->Res α}:RfF f f:=⟨fun _=>.inr rfl⟩
section
variable {s s' t t':Ev->Res Fl}{c c' f f':Ev->Res D}{fa fa':Ev->Res (List D)}{m m':List D->Res D}
theorem rf_stuck:RfF zee s:=⟨fun _=>.inl rfl⟩
theorem rf_seq (h1:RfF s s')(h2:RfF t t'):RfF (zap s t) (zap s' t'):=⟨fun ρ=>zdO (h1.o ρ) fun r=>by
 cases r with
 | nx ρ'=>exact h2.o ρ'
 | _=>exact .inr rfl⟩
theorem rf_if (hc:RfF c c')(h1:RfF s s')(h2:RfF t t'):RfF (sIf c s t) (sIf c' s' t'):=⟨fun ρ=>zdO (hc.o _) fun r=>by
 cases r with
 | bl b=>cases b with
  | true=>exact h1.o ρ
  | false=>exact h2.o ρ
 | _=>exact .inr rfl⟩
theorem zoa {tg:Ev->D->Res Ev}(h:RfF s s'):∀ (ds:List D) (ρ:Ev),Rf (zed tg s ds ρ) (zed tg s' ds ρ)
 | [],ρ=>.inr rfl
 | d::r,ρ=>by
  unfold zed
  refine zdO (.inr rfl) fun ρ1=>zdO (h.o ρ1) fun x=>?_
  cases x with
  | nx ρ2=>exact zoa h r ρ2
  | ct ρ2=>exact zoa h r ρ2
  | bk ρ2=>exact .inr rfl
  | rt d=>exact .inr rfl
theorem rf_for {tg:Ev->D->Res Ev}(hf:RfF f f')(h:RfF s s'):RfF (zq8 f tg s) (zq8 f' tg s'):=⟨fun ρ=>zdO (hf.o ρ) fun d=>by
 cases d with
 | lst ds=>exact zoa h ds ρ
 | _=>exact .inr rfl⟩
theorem rf_forI {tg:Ev->D->Res Ev}{src:Ev->Res (List D)}(h:RfF s s'):RfF (zn7 src tg s) (zn7 src tg s'):=⟨fun ρ=>zdO (.inr rfl) fun ds=>zoa h ds ρ⟩
theorem rf_drop (h:RfF f f'):RfF (zg3 f) (zg3 f'):=⟨fun ρ=>zdO (h.o _) fun _=>.inr rfl⟩
theorem rf_ret (h:RfF f f'):RfF (zcf f) (zcf f'):=⟨fun ρ=>zdO (h.o _) fun _=>.inr rfl⟩
theorem rf_set {i:Nat}(h:RfF f f'):RfF (za7 i f) (za7 i f'):=⟨fun ρ=>zdO (h.o _) fun _=>.inr rfl⟩
theorem rf_b1 {op:D->Res D}(h:RfF f f'):RfF (za4 f op) (za4 f' op):=⟨fun ρ=>zdO (h.o _) fun _=>.inr rfl⟩
theorem rf_not (h:RfF f f'):RfF (zdN f) (zdN f'):=rf_b1 h
theorem rf_bA (h:RfF fa fa')(hm:RfM m m'):RfF (zan fa m) (zan fa' m'):=⟨fun ρ=>zdO (h.o _) fun ds=>hm.o ds⟩
theorem rf_cons (h:RfF f f')(h2:RfF fa fa'):RfF (zad f fa) (zad f' fa'):=⟨fun ρ=>zdO (h.o _) fun _=>zdO (h2.o _) fun _=>.inr rfl⟩
theorem zhU {n:Nat}(h:RfF s s'):RfM (zc5 n s) (zc5 n s'):=⟨fun ds=>zdO (h.o _) fun r=>.inr rfl⟩
end
def zvm (x:Str)(n:Nat)(ds:List D):Res Fl:=if ds.length=n then .exn ⟨x,[]⟩ else .stuck
theorem zmB {x:Str}{n:Nat}{fa:Ev->Res (List D)}{ρ:Ev}:zgB x n fa ρ=(fa (shr ρ)).bind (zvm x n):=Com.nrfl rfl
theorem zks {x:Str}{d e:D}:zvm x 2 [d,e]=.exn ⟨x,[]⟩:=if_pos rfl
end DL
local macro_rules | `(tactic| open_line with[rf_go])=>`(tactic| repeat (first | with_reducible exact DL.rf_refl | with_reducible exact DL.rf_stuck | with_reducible assumption | with_reducible exact DL.rfm_refl | with_reducible refine DL.rf_seq ?_ ?_ | with_reducible refine DL.rf_if ?_ ?_ ?_ | with_reducible refine DL.rf_for ?_ ?_ | with_reducible refine DL.rf_forI ?_ | with_reducible refine DL.rf_drop ?_ | with_reducible refine DL.rf_ret ?_ | with_reducible refine DL.rf_set ?_ | with_reducible refine DL.rf_not ?_ | with_reducible refine DL.rf_bA ?_ ?_ | with_reducible refine DL.rf_cons ?_ ?_ | with_reducible refine DL.rf_b1 ?_ | with_reducible refine DL.rf_b2 ?_ ?_))
namespace Wex
open PySem L2 DL Com
def zbn:Ev->Res Fl :=
 (zap (sIf (dOr (zdN (za4 (zaf 0) (zdz "list"))) (zdN (zik dLe dLe (dC (.int 2)) (zan (zad (zaf 0) zau) (m1 zhE)) (dC (.int 7)))))
 (zap (zgB "NoWeb" 2 (zad (dC (.str "places")) (zad (dC (.non)) zau)))
 zal)
 zal)
 (zap (zn7 (zz6 (zaf 0)) (zwk [1,2])
 (zap (sIf (dOr (zdN (zan (zad (zaf 2) zau) zcT)) (zab (zaf 2) (zij (zaf 0) zec (zcb (zaf 1))) dIn))
 (zap (zgB "NoWeb" 2 (zad (dC (.str "places")) (zad (zaf 1) zau)))
 zal)
 zal)
 zal))
 zal))
def zaZ:List D->Res D:=zc5 3 zbn
def zbI:Ev->Res Fl :=
 (zap (sIf (dOr (zdN (za4 (zaf 0) (zdz "list"))) (zab (zan (zad (zaf 0) zau) (m1 zhE)) (dC (.int 14)) dGt))
 (zap (zgB "NoWeb" 2 (zad (dC (.str "ties")) (zad (dC (.non)) zau)))
 zal)
 zal)
 (zap (zn7 (zz6 (zaf 0)) (zwk [2,3])
 (zap (sIf (dOr (zdN (zan (zad (zaf 3) zau) zgs)) (dOr (zab (zab (zaf 3) (dC (.int 0)) dIx) (zaf 1) zhD) (zab (zab (zaf 3) (dC (.int 1)) dIx) (zaf 1) zhD)))
 (zap (zgB "NoWeb" 2 (zad (dC (.str "ties")) (zad (zaf 2) zau)))
 zal)
 zal)
 zal))
 zal))
def zbd:List D->Res D:=zc5 4 zbI
def zba:Ev->Res Fl :=
 (zap (sIf (dOr (zdN (za4 (zaf 0) (zdz "tuple"))) (zab (zan (zad (zaf 0) zau) (m1 zhE)) (dC (.int 4)) dNe))
 (zap (zgB "NoWeb" 2 (zad (dC (.str "web")) (zad (dC (.non)) zau)))
 zal)
 zal)
 (zap (zg3 (zan (zad (zab (zaf 0) (dC (.int 0)) dIx) zau) zaZ))
 (zap (zg3 (zan (zad (zab (zaf 0) (dC (.int 1)) dIx) (zad (zab (zaf 0) (dC (.int 0)) dIx) zau)) zbd))
 (zap (sIf (zdN (zan (zad (zab (zaf 0) (dC (.int 2)) dIx) (zad (zab (zaf 0) (dC (.int 0)) dIx) zau)) zc2))
 (zap (zgB "NoWeb" 2 (zad (dC (.str "first")) (zad (dC (.non)) zau)))
 zal)
 zal)
 (zap (sIf (dOr (zdN (zan (zad (zab (zaf 0) (dC (.int 3)) dIx) (zad (zab (zaf 0) (dC (.int 0)) dIx) zau)) zc2)) (zab (zab (zaf 0) (dC (.int 3)) dIx) (zab (zaf 0) (dC (.int 2)) dIx) dEq))
 (zap (zgB "NoWeb" 2 (zad (dC (.str "last")) (zad (dC (.non)) zau)))
 zal)
 zal)
 zal)))))
def zaw:List D->Res D:=zc5 1 zba
def zaL:Ev->Res Fl :=
 (zap (zg3 (zan (zad (zaf 0) zau) zaw))
 (zap (sIf (zdN (za4 (zaf 1) (zdz "list")))
 (zap (zhT "NoTaking" (zad (dC (.str "a taking is a list")) zau))
 zal)
 zal)
 (zap (za7 2 (za4 (dC (.int 1)) zo2))
 (zap (zq8 (zaf 1) (zcx 3)
 (zap (sIf (dOr (zdN (zan (zad (zaf 0) (zad (zaf 3) zau)) zaC)) (zab (zaf 3) (zaf 2) dLe))
 (zap (zhT "NoTaking" (zad (dC (.str "a taking is of rising numbers of ties")) zau))
 zal)
 zal)
 (zap (sIf (zab (zab (zab (zab (zaf 0) (dC (.int 1)) dIx) (zaf 3) dIx) (dC (.int 4)) dIx) (dC (.non)) zoM)
 (zap (zhT "NoTaking" (zad (dC (.str "a watched tie can't be taken")) zau))
 zal)
 zal)
 (zap (za7 2 (zaf 3))
 zal))))
 zal))))
def zas:List D->Res D:=zc5 4 zaL
def zgR:Ev->Res Fl :=
 (zap (sIf (dOr (zdN (zan (zad (zaf 0) zau) zcq)) (zdN (zan (zad (zaf 1) zau) zcq)))
 (zap (zhT "NoNumber" (zad (dC (.str "a fraction is made of two whole numbers")) zau))
 zal)
 zal)
 (zap (sIf (zab (zaf 1) (dC (.int 0)) dEq)
 (zap (zhT "NoNumber" (zad (dC (.str "a fraction's second number is not 0")) zau))
 zal)
 zal)
 (zap (za7 2 (zan (zad (zaf 0) (zad (zaf 1) zau)) za8))
 (zap (sIf (zab (zaf 1) (dC (.int 0)) dLt)
 (zap (za7 2 (za4 (zaf 2) zo2))
 zal)
 zal)
 (zap (zcf (zan (zad (zab (zaf 0) (zaf 2) zo3) (zad (zab (zaf 1) (zaf 2) zo3) zau)) zjO))
 zal)))))
def zgK:List D->Res D:=zc5 3 zgR
def zkc:Ev->Res Fl :=
 (zap (zcf (zan (zad (zab (zab (zab (zaf 0) (dC (.int 0)) dIx) (zab (zaf 1) (dC (.int 1)) dIx) zbB) (zab (zab (zaf 1) (dC (.int 0)) dIx) (zab (zaf 0) (dC (.int 1)) dIx) zbB) zbx) (zad (zab (zab (zaf 0) (dC (.int 1)) dIx) (zab (zaf 1) (dC (.int 1)) dIx) zbB) zau)) zgK))
 zal)
def zjn:List D->Res D:=zc5 2 zkc
def zfD:Ev->Res Fl :=
 (zap (za7 1 (dC (.tup [(.int 0),(.int 1)])))
 (zap (zq8 (zaf 0) (zcx 2)
 (zap (za7 1 (zan (zad (zaf 1) (zad (zaf 2) zau)) zjn))
 zal))
 (zap (zcf (zaf 1))
 zal)))
def zfA:List D->Res D:=zc5 3 zfD
def zcG:Ev->Res Fl :=
 (zap (zg3 (zan (zad (zaf 0) (zad (zaf 1) zau)) zas))
 (zap (zcf (zan (zad (zd6 1 [0] (zqZ (zaf 1)) (zcx 0) mYes (zab (zab (zab (zaf 1) (dC (.int 1)) dIx) (zaf 0) dIx) (dC (.int 4)) dIx)) zau) zfA))
 zal))
def zbb:List D->Res D:=zc5 2 zcG
def zbj:Ev->Res Fl :=
 (zap (sIf (dOr (zdN (zan (zad (zaf 0) zau) zc1)) (zab (zab (zaf 0) (dC (.int 0)) dIx) (dC (.int 0)) dLt))
 (zap (zhT "NoPurse" (zad (dC (.str "a purse is a fraction from 0 on")) zau))
 zal)
 zal)
 zal)
def zaz:List D->Res D:=zc5 1 zbj
def zcc:Ev->Res Fl :=
 (zap (zg3 (zan (zad (zaf 0) (zad (zaf 1) zau)) zas))
 (zap (zg3 (zan (zad (zaf 2) zau) zaz))
 (zap (zcf (zdN (zan (zad (zaf 2) (zad (zan (zad (zaf 0) (zad (zaf 1) zau)) zbb) zau)) zf4)))
 zal)))
def zaX:List D->Res D:=zc5 3 zcc
def zbe:Ev->Res Fl :=
 (zap (zg3 (zan (zad (zaf 0) zau) zaw))
 (zap (zg3 (zan (zad (zaf 1) zau) zaz))
 (zap (za7 2 (zan (zad (zaf 0) (zad (zaf 1) zau)) zeH))
 (zap (za7 3 (za4 (zaf 2) (zw5 "left")))
 (zap (za7 4 (dC (.int 0)))
 (zap (zq8 (zan (zad (zd6 1 [] (zqZ (za4 (zaf 2) (zw5 "costs"))) (zcx 0) (zab (zaf 0) (dC (.non)) zhL) (zaf 0)) zau) (m1 zqn)) (zcx 5)
 (zap (za7 3 (zab (zaf 3) (zaf 5) znK))
 (zap (sIf (zab (zaf 3) (dC (.int 0)) dLt)
 (zap (zcf (zaf 4))
 zal)
 zal)
 (zap (za7 4 (zab (zaf 4) (dC (.int 1)) zbx))
 zal))))
 (zap (zcf (zaf 4))
 zal)))))))
def zaH:List D->Res D:=zc5 6 zbe
theorem zpF:RfM Com.zaZ zaZ:=zhU (by unfold Com.zbn zbn;open_line with[rf_go])
theorem zvk:RfM Com.zbd zbd:=zhU (by unfold Com.zbI zbI;open_line with[rf_go])
theorem zvj:RfM Com.zaw zaw:=by
 have h1:=zpF;have h2:=zvk
 exact zhU (by unfold Com.zba zba;open_line with[rf_go])
theorem zl8:RfM Com.zas zas:=by
 have h1:=zvj
 exact zhU (by unfold Com.zaL zaL;open_line with[rf_go])
theorem zsp:RfM Com.zaz zaz:=zhU (by unfold Com.zbj zbj;open_line with[rf_go])
theorem zxH:RfM Com.zgK zgK:=zhU (by unfold Com.zgR zgR;open_line with[rf_go])
theorem zAc:RfM Com.zjn zjn:=by
 have h1:=zxH
 exact zhU (by unfold Com.zkc zkc;open_line with[rf_go])
theorem zB1:RfM Com.zfA zfA:=by
 have h1:=zAc
 exact zhU (by unfold Com.zfD zfD;open_line with[rf_go])
theorem zso:RfM Com.zbb zbb:=by
 have h1:=zl8;have h2:=zB1
 exact zhU (by unfold Com.zcG zcG;open_line with[rf_go])
theorem zvi:RfM Com.zaX zaX:=by
 have h1:=zl8;have h2:=zsp;have h3:=zso
 exact zhU (by unfold Com.zcc zcc;open_line with[rf_go])
theorem zAd:RfM Com.zaH zaH:=by
 have h1:=zvj;have h2:=zsp
 exact zhU (by unfold Com.zbe zbe;open_line with[rf_go])
theorem webX {w:Web}(W:zft w):zaw [zcg w]=.ok .non:=zvj.ok (zuI W)
theorem takingX {w:Web}{ks:List Nat}(W:zft w)(T:zjg w ks):zas [zcg w,zb8 ks]=.ok .non:=zl8.ok (zlY W T)
theorem worthX {w:Web}{ks:List Nat}(W:zft w)(T:zjg w ks):zbb [zcg w,zb8 ks]=.ok (fr (zfu w ks)):=zso.ok (zlX W T)
theorem withinX {w:Web}{ks:List Nat}{p:Fra}(W:zft w)(T:zjg w ks)(hp:zea p)(h0:0<=p.1):zaX [zcg w,zb8 ks,fr p]=.ok (.bl (!(flt p (zfu w ks)))):=zvi.ok (zuH W T hp h0)
theorem mostX {w:Web}{p:Fra}(W:zft w)(hp:zea p)(h0:0<=p.1):zaH [zcg w,fr p]=.ok (.int (zhC (zg0 (znj w p)) (zor w p):Nat)):=zAd.ok (zAH W hp h0)
theorem web_no_non:zaw [.non]=.exn ⟨"NoWeb",[]⟩:=by
 open_line with[zaw,zba,zef,zmB,zks]
theorem web_no_three {a b c:D}:zaw [.tup [a,b,c]]=.exn ⟨"NoWeb",[]⟩:=by
 open_line with[zaw,zba,zef,zmB,zks]
theorem web_no_last {w:Web}(W:zft w):zaw [.tup [.lst (w.ps.map D.str),.lst (w.ts.map zfx),.str w.fi,.str w.fi]]=.exn ⟨"NoWeb",[]⟩:=by
 have h1:=zpF.ok (zpJ W.n2 W.n7 W.nm)
 have h2:=zvk.ok (zuO W.t14 W.nm W.ts)
 have h3:=zkl (W.nm.nm w.fi W.fi) W.fi
 open_line with[zaw,zba,h1,h2,h3,zoE,zef,zmB,zks]
section
variable {d t p:D}{x:Exn}
theorem taking_by_web (h:zaw [d]=.exn x):zas [d,t]=.exn x:=by
 open_line with[zas,zaL,h,zef]
theorem worth_by_taking (h:zas [d,t]=.exn x):zbb [d,t]=.exn x:=by
 open_line with[zbb,zcG,h,zef]
theorem within_by_taking (h:zas [d,t]=.exn x):zaX [d,t,p]=.exn x:=by
 open_line with[zaX,zcc,h,zef]
theorem within_by_purse (h:zas [d,t]=.ok .non)(h2:zaz [p]=.exn x):zaX [d,t,p]=.exn x:=by
 open_line with[zaX,zcc,h,h2,zef]
theorem most_by_web (h:zaw [d]=.exn x):zaH [d,p]=.exn x:=by
 open_line with[zaH,zbe,h,zef]
theorem most_by_purse (h:zaw [d]=.ok .non)(h2:zaz [p]=.exn x):zaH [d,p]=.exn x:=by
 open_line with[zaH,zbe,h,h2,zef]
end
theorem nums_eq:∀ {a b:List Nat},eqDs (a.map fun(k:Nat)=>D.int (k:Int)) (b.map fun(k:Nat)=>D.int (k:Int))=true↔a=b
 | [],[]=>by simp [eqDs]
 | [],_::_=>by simp [eqDs]
 | _::_,[]=>by simp [eqDs]
 | x::a,y::b=>by
  rw[List.map_cons,List.map_cons,eqDs,Bool.and_eq_true,nums_eq]
  rw[eqD]
  simp
  intro _
  omega
theorem zl2 {n:Nat}{t:List Nat}:zbE (n+1) (zb8 t)=true:=by
 show(t.map fun(k:Nat)=>D.int (k:Int)).all (zbE n)=true
 exact List.all_eq_true.mpr fun d hd=>by
  obtain⟨z,_,rfl⟩:=List.mem_map.mp hd
  cases n<;>rfl
theorem nums_self {t:List Nat}:dEq (zb8 t) (zb8 t)=.ok (.bl true):=by
 unfold dEq
 rw[if_pos ⟨zl2,zl2⟩]
 unfold zb8
 rw[zoG,nums_eq.mpr rfl]
theorem nums_some {k:Nat}{t:List Nat}:dNe (zb8 (k::t)) (.lst [])=.ok (.bl true):=by
 unfold dNe
 rw[if_pos ⟨zl2,rfl⟩]
 unfold zb8
 rw[zoG,zlP _ _ (by simp)];rfl
def zzc (d:D):Res (List D):=match d with
 | .int j=>if -4611686018427387904<=j/\j < 4611686018427387904 then .ok (DL.intsFrom 0 j.toNat) else .stuck
 | _=>.stuck
theorem ev_srcR1 {f:Ev->Res D}{ρ:Ev}:zpz f ρ=(f ρ).bind zzc:=nrfl rfl
theorem srcR1_nat {k:Nat}(h:k<=1000000):zzc (.int (k:Int))=.ok (DL.intsFrom 0 k):=by
 show(if -4611686018427387904<=(k:Int)/\(k:Int) < 4611686018427387904 then Res.ok (DL.intsFrom 0 (k:Int).toNat) else .stuck)=_
 rw[if_pos (by omega),Int.toNat_natCast]
theorem comp_rng {m n:Nat}{fr:List Nat}{tt fe:Ev->Res D}{ρ:Ev}{q:Nat->Bool}{G:Nat->D}(hn:n<=1000000)(h:∀ k,k < n->∃ ρ1,zcx 0 (zeT m fr ρ) (.int (k:Int))=.ok ρ1/\tt ρ1=.ok (.bl (q k))/\(q k=true->fe ρ1=.ok (G k))) :
  zin m fr (zcx 0) tt fe ρ (DL.intsFrom 0 n)=.ok (.lst (((List.range n).filter q).map G)):=by
 have hi:DL.intsFrom 0 n=(List.range n).map fun(k:Nat)=>D.int (k:Int):=by
  unfold DL.intsFrom
  exact List.map_congr_left fun k _=>by rw[Int.zero_add]
 rw[hi]
 rw[zjK (F:=fun d=>match d with | .int v=>G v.toNat | d=>d) (p:=fun d=>match d with | .int v=>q v.toNat | _=>false) (by simpa using hn)]
 ·rw[List.filter_map,List.map_map]
  rfl
 ·intro d hd
  obtain⟨k,hk,rfl⟩:=List.mem_map.mp hd
  obtain⟨ρ1,h1,h2,h3⟩:=h k (List.mem_range.mp hk)
  exact⟨ρ1,h1,by simpa using h2,fun z=>by simpa using h3 (by simpa using z)⟩
theorem isW_at {w:Web}{k:Nat}(h:k < w.ts.length):∃ t,w.ts[k]?=some t/\isW w k=t.o.isSome/\dIx (.lst (w.ts.map zfx)) (.int (k:Int))=.ok (.tup [.str t.a,.str t.b,.str t.w,fr t.l,zby t.o]):=by
 have ht:w.ts[k]?=some w.ts[k]:=List.getElem?_eq_getElem h
 exact⟨_,ht,by unfold isW;rw[ht];rfl,zpw ht⟩
def plainD:D->Bool
 | .non=>true
 | .bl _=>true
 | .int _=>true
 | .str _=>true
 | .tup _=>true
 | .lst _=>true
 | _=>false
def zqX (w:Web):Int->List D->Bool
 | _,[]=>true
 | a,d::r=>match d with
  | .int n=>decide (0<=n)&&decide (n < (w.ts.length:Int))&&decide (a < n)&&isW w n.toNat&&zqX w n r
  | _=>false
theorem ztr {w:Web}{d:D}(hd:plainD d=true)(hi:∀ n,d≠.int n):zaC [zcg w,d]=.ok (.bl false):=by
 rw[show zcg w=.tup [.lst (w.ps.map D.str),.lst (w.ts.map zfx),.str w.fi,.str w.la] from rfl]
 cases d with
 | int n=>exact absurd rfl (hi n)
 | non=>open_line with[zaC,zaY,zbz,isI]
 | bl b=>open_line with[zaC,zaY,zbz,isI]
 | str b=>open_line with[zaC,zaY,zbz,isI]
 | tup b=>open_line with[zaC,zaY,zbz,isI]
 | lst b=>open_line with[zaC,zaY,zbz,isI]
 | _=>cases hd
theorem zts {w:Web}{n:Int}:zaC [zcg w,.int n]=.ok (.bl (decide (0<=n)&&decide (n < (w.ts.length:Int)))):=by
 rw[show zcg w=.tup [.lst (w.ps.map D.str),.lst (w.ts.map zfx),.str w.fi,.str w.la] from rfl]
 cases h:decide ((0:Int)<=n) with
 | false=>open_line with[zaC,zaY,zbz,isI,List.length_map,h,Bool.false_and]
 | true=>open_line with[zaC,zaY,zbz,isI,List.length_map,h,Bool.true_and]
abbrev zhO:Ev->Res Fl:=(zap (sIf (dOr (zdN (zan (zad (zaf 0) (zad (zaf 3) zau)) zaC)) (zab (zaf 3) (zaf 2) dLe))
 (zap (zhT "NoTaking" (zad (dC (.str "a taking is of rising numbers of ties")) zau))
 zal)
 zal)
 (zap (sIf (zab (zab (zab (zab (zaf 0) (dC (.int 1)) dIx) (zaf 3) dIx) (dC (.int 4)) dIx) (dC (.non)) zoM)
 (zap (zhT "NoTaking" (zad (dC (.str "a watched tie can't be taken")) zau))
 zal)
 zal)
 (zap (za7 2 (zaf 3))
 zal)))
theorem zsg {w:Web}{L:Sl}:∀ (ds:List D) (a:Int) (x:Sl),(∀ d∈ds,plainD d=true)->(zqX w a ds=true->∃ ρ',zed (zcx 3) zhO ds [.sh (zcg w),L,.sh (.int a),x]=.ok (.nx ρ'))/\(zqX w a ds=false->zed (zcx 3) zhO ds [.sh (zcg w),L,.sh (.int a),x]=.exn ⟨"NoTaking",[]⟩)
 | [],a,x,_=>⟨fun _=>⟨_,rfl⟩,fun h=>by cases h⟩
 | d::ds,a,x,hp=>by
  have ih:=fun n y=>zsg (w:=w) (L:=L) ds n y fun d hd=>hp d (List.mem_cons_of_mem _ hd)
  have hd:=hp d List.mem_cons_self
  have e0:zcx 3 [.sh (zcg w),L,.sh (.int a),x] d=.ok [.sh (zcg w),L,.sh (.int a),.sh d]:=rfl
  have red:∀ r:Res Fl,zhO [.sh (zcg w),L,.sh (.int a),.sh d]=r->zed (zcx 3) zhO (d::ds) [.sh (zcg w),L,.sh (.int a),x]=r.bind fun x=>match x with
   | .nx ρ2=>zed (zcx 3) zhO ds ρ2
   | .ct ρ2=>zed (zcx 3) zhO ds ρ2
   | .bk ρ2=>.ok (.nx ρ2)
   | .rt d=>.ok (.rt d):=fun r hr=>by rw[← hr];(conv=>lhs;unfold zed;rw[e0]);rfl
  by_cases hi:∃ n,d=.int n
  ·obtain⟨n,rfl⟩:=hi
   have hn:=zts (w:=w) (n:=n)
   have hT:zqX w a (.int n::ds)=(decide (0<=n)&&decide (n < (w.ts.length:Int))&&decide (a < n)&&isW w n.toNat&&zqX w n ds):=rfl
   rw[hT]
   cases hc:(decide (0<=n)&&decide (n < (w.ts.length:Int))) with
   | false =>
    rw[hc] at hn
    refine⟨fun h=>(by cases h),fun _=>?_⟩
    rw[red (.exn ⟨"NoTaking",[]⟩) (by open_line with[hn,zef,zj5,zh8])]
    rfl
   | true =>
    rw[hc] at hn
    cases ha:decide (a < n) with
    | false =>
     have ha':¬ a < n:=of_decide_eq_false ha
     refine⟨fun h=>(by cases h),fun _=>?_⟩
     rw[red (.exn ⟨"NoTaking",[]⟩) (by open_line with[hn,decide_eq_true (show n<=a by omega),zef,zj5,zh8])]
     rfl
    | true =>
     have ha':a < n:=of_decide_eq_true ha
     simp only[Bool.and_eq_true,decide_eq_true_eq] at hc
     have hlt:n.toNat < w.ts.length:=by omega
     have ht:w.ts[n.toNat]?=some w.ts[n.toNat]:=List.getElem?_eq_getElem hlt
     have hix:=zpw ht
     rw[show((n.toNat:Nat):Int)=n by omega] at hix
     have hW:isW w n.toNat=(w.ts[n.toNat].o).isSome:=by unfold isW;rw[ht];rfl
     rw[show zfx w.ts[n.toNat]=.tup [.str w.ts[n.toNat].a,.str w.ts[n.toNat].b,.str w.ts[n.toNat].w,fr w.ts[n.toNat].l,zby w.ts[n.toNat].o] from rfl] at hix
     rw[hW]
     rw[show zcg w=.tup [.lst (w.ps.map D.str),.lst (w.ts.map zfx),.str w.fi,.str w.la] from rfl] at hn red ih ⊢
     cases ho:w.ts[n.toNat].o with
     | none =>
      rw[ho] at hix
      refine⟨fun h=>(by cases h),fun _=>?_⟩
      rw[red (.exn ⟨"NoTaking",[]⟩) (by open_line with[hn,decide_eq_false (show ¬ n<=a by omega),hix,zby,zef,zj5,zh8])]
      rfl
     | some v =>
      rw[ho] at hix
      have hb:zhO [.sh (.tup [.lst (w.ps.map D.str),.lst (w.ts.map zfx),.str w.fi,.str w.la]),L,.sh (.int a),.sh (.int n)]=.ok (.nx [.sh (.tup [.lst (w.ps.map D.str),.lst (w.ts.map zfx),.str w.fi,.str w.la]),L,.sh (.int n),.sh (.int n)]):=by
       open_line with[hn,decide_eq_false (show ¬ n<=a by omega),hix,zby,fr,zwm]
      rw[red _ hb]
      exact ih n (.sh (.int n))
  ·have ho:=ztr (w:=w) hd fun n z=>hi ⟨n,z⟩
   have hf:zqX w a (d::ds)=false:=by
    unfold zqX
    cases d with
    | int n=>exact absurd ⟨n,rfl⟩ hi
    | _=>rfl
   refine⟨fun h=>(by rw[hf] at h;cases h),fun _=>?_⟩
   rw[red (.exn ⟨"NoTaking",[]⟩) (by open_line with[ho,zef,zj5,zh8])]
   rfl
theorem tak_all {w:Web}(W:zft w){ds:List D}(hp:∀ d∈ds,plainD d=true)(h:zqX w (-1) ds=false):zas [zcg w,.lst ds]=.exn ⟨"NoTaking",[]⟩:=by
 have hl:=(zsg (w:=w) (L:=.sh (.lst ds)) ds (-1) .no hp).2 h
 have hw:=webX W
 unfold zhO at hl
 open_line with[zas,zaL,hw,hl,zef]
theorem tak_none {w:Web}(W:zft w){d:D}(h:zdz "list" d=.ok (.bl false)):zas [zcg w,d]=.exn ⟨"NoTaking",[]⟩:=by
 have hw:=webX W
 open_line with[zas,zaL,hw,h,zef,zj5,zh8]
theorem zpx {w:Web}:∀ {ds:List D}{a:Int},zqX w a ds=true->∃ ns:List Nat,ds=ns.map (fun(k:Nat)=>D.int (k:Int))/\ns.Pairwise (· < ·)/\(∀ n∈ns,a < (n:Int)/\n < w.ts.length/\isW w n=true)
 | [],a,_=>⟨[],rfl,.nil,fun _ h=>(nomatch h)⟩
 | d::ds,a,h=>by
  unfold zqX at h
  cases d with
  | int n =>
   simp only[Bool.and_eq_true,decide_eq_true_eq] at h
   obtain⟨⟨⟨⟨h0,h1⟩,h2⟩,h3⟩,h4⟩:=h
   obtain⟨ns,rfl,hp,hn⟩:=zpx h4
   refine⟨n.toNat::ns,?_,List.pairwise_cons.mpr ⟨fun k hk=>?_,hp⟩,fun k hk=>?_⟩
   ·rw[List.map_cons,show((n.toNat:Nat):Int)=n by omega]
   ·have:=(hn k hk).1;omega
   ·rcases List.mem_cons.mp hk with rfl | hk
    ·exact⟨by omega,by omega,h3⟩
    ·have:=hn k hk;exact⟨by omega,this.2⟩
  | _=>cases h
theorem zrr {w:Web}{ds:List D}(h:∀ ns:List Nat,ds=ns.map (fun(k:Nat)=>D.int (k:Int))->ns.Pairwise (· < ·)->(∀ n∈ns,n < w.ts.length/\isW w n=true)->False):zqX w (-1) ds=false:=by
 cases e:zqX w (-1) ds with
 | false=>rfl
 | true=>obtain⟨ns,h1,h2,h3⟩:=zpx e;exact(h ns h1 h2 fun n hn=>(h3 n hn).2).elim
theorem zzq {ns:List Nat}{d:D}(h:d∈ns.map (fun(k:Nat)=>D.int (k:Int))):∃ k∈ns,d=.int (k:Int):=by
 obtain⟨k,hk,rfl⟩:=List.mem_map.mp h
 exact⟨k,hk,rfl⟩
theorem no_take_odd {w:Web}{ds:List D}{d:D}(hd:d∈ds)(h:∀ n,d≠.int n):zqX w (-1) ds=false:=zrr fun ns e _ _=>by
 subst e
 obtain⟨k,_,e⟩:=zzq hd
 exact h _ e
theorem no_take_int {w:Web}{ds:List D}{n:Int}(hd:.int n∈ds)(h:n < 0∨(w.ts.length:Int)<=n∨isW w n.toNat=false):zqX w (-1) ds=false:=zrr fun ns e _ hn=>by
 subst e
 obtain⟨k,hk,e⟩:=zzq hd
 cases e
 have:=hn k hk
 rw[Int.toNat_natCast,this.2] at h
 rcases h with h | h | h
 ·omega
 ·omega
 ·cases h
theorem no_take_twice {w:Web}{ds:List D}(h:¬ ∃ ns:List Nat,ds=ns.map (fun(k:Nat)=>D.int (k:Int))/\ns.Nodup):zqX w (-1) ds=false:=zrr fun ns e hp _=>h ⟨ns,e,hp.imp fun z=>Nat.ne_of_lt z⟩
theorem purse_no (d:D)(h:d∈[D.non,.bl true,.int 0,.int 1,.str "0",.tup [.int (-1),.int 2],.tup [.int 2,.int 4],.tup [.int 1,.int 0],.tup [.int 0,.int 2],.lst [.int 0,.int 1],.tup [.bl true,.int 1],.tup [.int 1,.int (-1)],.tup [],.tup [.int 1,.bl true]]):zaz [d]=.exn ⟨"NoPurse",[]⟩:=by
 simp only[List.mem_cons,List.not_mem_nil,or_false] at h
 rcases h with rfl | rfl | rfl | rfl | rfl | rfl | rfl | rfl | rfl | rfl | rfl | rfl | rfl | rfl<;>rfl
end Wex
namespace K08
open PySem L2 DL
def zfQ:List (Str×Bool):=[("NoNumber",true),("NoPurse",true),("NoTaking",true),("NoWeb",true)]
def zBK:Str->Option Bool:=zlo [("NoNumber",false),("NoPurse",false),("NoTaking",false),("NoWeb",false)]
def zBJ:Str->Option Bool:=zlo [("NoNumber",true),("NoPurse",false),("NoTaking",false),("NoWeb",false)]
def zBI:Str->Option Bool:=zlo [("NoNumber",false),("NoPurse",false),("NoTaking",false),("NoWeb",false)]
def zBH:Str->Option Bool:=zlo [("NoNumber",false),("NoPurse",false),("NoTaking",false),("NoWeb",false)]
def zBG:Str->Option Bool:=zlo [("NoNumber",false),("NoPurse",true),("NoTaking",false),("NoWeb",false)]
def zBF:Str->Option Bool:=zlo [("NoNumber",false),("NoPurse",false),("NoTaking",true),("NoWeb",false)]
def zBE:Str->Option Bool:=zlo [("NoNumber",false),("NoPurse",false),("NoTaking",false),("NoWeb",true)]
def zBD:Str->Option Bool:=zlo [("NoNumber",true),("NoPurse",true),("NoTaking",true),("NoWeb",true)]
abbrev zbu:List D->Res D:=Com.zbu
abbrev zaU:List D->Res D:=Com.zaU
abbrev zcV:List D->Res D:=Com.zcV
abbrev zcF:List D->Res D:=Com.zcF
abbrev za1:List D->Res D:=Com.za1
abbrev zaS:List D->Res D:=Com.zaS
abbrev zdJ:List D->Res D:=Com.zdJ
abbrev zdI:List D->Res D:=Com.zdI
def zjc:Ev->Res Fl :=
 (zap (za7 1 (dC (.int 0)))
 (zap (za7 2 (dC (.int 1)))
 (zap (zq8 (zaf 0) (zcx 3)
 (zap (za7 1 (zab (zab (zaf 1) (zab (zaf 3) (dC (.int 1)) dIx) zbB) (zab (zab (zaf 3) (dC (.int 0)) dIx) (zaf 2) zbB) zbx))
 (zap (za7 2 (zab (zaf 2) (zab (zaf 3) (dC (.int 1)) dIx) zbB))
 zal)))
 (zap (zcf (zan (zad (zaf 1) (zad (zaf 2) zau)) za1))
 zal))))
def zfP:List D->Res D:=zc5 4 zjc
def zbJ:Ev->Res Fl :=
 (zap (zBi [2,3] (zij (zaf 0) zec (zcb (dC (.int 2)))))
 (zap (sIf (zhG (zab (zan (zad (zab (zaf 1) (dC (.int 0)) dIx) zau) (m1 zBn)) (zab (dC (.int 10)) (dC (.int 58)) zni) dLt) (zhG (zab (zab (zaf 1) (dC (.int 1)) dIx) (zab (dC (.int 10)) (dC (.int 58)) zni) dLt) (zab (zaf 2) (dC (.int 5)) dLt)))
 (zap (sIf (zab (zaf 2) (dC (.int 1)) dEq)
 (zap (zcf (zan (zad (zab (zab (dC (.int 2)) (zab (zaf 1) (dC (.int 0)) dIx) zbB) (dC (.int 1)) zbx) (zad (zab (dC (.int 2)) (zab (zaf 1) (dC (.int 1)) dIx) zbB) zau)) za1))
 zal)
 zal)
 (zap (sIf (zhG (zab (zaf 2) (dC (.int 2)) dEq) (zab (zab (zaf 1) (dC (.int 0)) dIx) (dC (.int 0)) dGt))
 (zap (zcf (zan (zad (zab (zab (dC (.int 2)) (zab (zaf 1) (dC (.int 0)) dIx) zbB) (dC (.int 1)) znK) (zad (zab (dC (.int 2)) (zab (zaf 1) (dC (.int 1)) dIx) zbB) zau)) za1))
 zal)
 zal)
 (zap (sIf (zab (zaf 2) (dC (.int 5)) dLt)
 (zap (zcf (zaf 1))
 zal)
 zal)
 zal)))
 zal)
 (zap (zcf (zan (zad (zij (zaf 0) (zcb (dC (.int 2))) zec) (zad (dC (.int 0)) zau)) zaS))
 zal)))
def zbm:List D->Res D:=zc5 4 zbJ
def zdk:Ev->Res Fl :=
 (zap (zsm 3 (zan (zad (zan (zad (zaf 1) zau) (m1 zsV)) (zad (zab (zaf 1) (zan (zad (dC (.int 14)) zau) zc3) zbx) (zad (dC (.non)) (zad (zab (zan (zad (za4 (dC (.int 1)) zo2) zau) zc3) (zaf 1) zbx) (zad (zab (zaf 1) (zan (zad (dC (.bl true)) zau) zc3) zbx) (zad (dC (.str "[]")) zau)))))) zc3))
 (zap (sIf (zab (zaf 1) (zan zau zc3) dNe)
 (zap (zzg 3 (zsm 3 (zab (zaf 3) (zan (zad (zab (zij (zaf 1) zec (zcb (dC (.int 1)))) (zaf 1) zbx) (zad (zab (zaf 1) (zij (zaf 1) (zcb (za4 (dC (.int 1)) zo2)) zec) zbx) (zad (zab (zaf 1) (zij (zaf 1) zec (zcb (dC (.int 1)))) zbx) zau))) zc3) zup)))
 (zap (zzg 3 (zsm 3 (zab (zaf 3) (zan (zad (zab (zij (zaf 1) zec (zcb (za4 (dC (.int 1)) zo2))) (zan (zad (dC (.str "0")) zau) zc3) zbx) (zad (zab (zan (zad (dC (.non)) zau) zc3) (zij (zaf 1) (zcb (dC (.int 1))) zec) zbx) zau)) zc3) zup)))
 zal))
 zal)
 (zap (za7 4 (zd6 1 [0] (zpz (zan (zad (zab (zaf 0) (dC (.int 1)) dIx) zau) (m1 zhE))) (zcx 0) (zab (zab (zab (zab (zaf 1) (dC (.int 1)) dIx) (zaf 0) dIx) (dC (.int 4)) dIx) (dC (.non)) zoM) (zaf 0)))
 (zap (sIf (zab (zaf 4) (zan zau zc3) dNe)
 (zap (zc8 3 (zan (zad (zab (zaf 1) (zan (zad (zab (zaf 4) (zab (zaf 2) (zan (zad (zaf 4) zau) (m1 zhE)) zfw) dIx) zau) zc3) zbx) zau) (m1 zqn)))
 (zap (zc8 3 (zan (zad (zab (zaf 4) (dC (.int 0)) dIx) zau) zc3))
 zal))
 zal)
 (zap (zcf (zab (zaf 3) (zab (zaf 2) (zan (zad (zaf 3) zau) (m1 zhE)) zfw) dIx))
 zal)))))
def zb4:List D->Res D:=zc5 5 zdk
def zd8:Ev->Res Fl :=
 (zap (za7 1 (zan (zad (dC (.non)) (zad (dC (.bl true)) (zad (dC (.int 0)) (zad (dC (.int 1)) (zad (dC (.str "0")) (zad (zan (zad (za4 (dC (.int 1)) zo2) (zad (dC (.int 2)) zau)) zjO) (zad (zan (zad (dC (.int 2)) (zad (dC (.int 4)) zau)) zjO) (zad (zan (zad (dC (.int 1)) (zad (dC (.int 0)) zau)) zjO) (zad (zan (zad (dC (.int 0)) (zad (dC (.int 2)) zau)) zjO) (zad (zan (zad (dC (.int 0)) (zad (dC (.int 1)) zau)) zc3) (zad (zan (zad (dC (.bl true)) (zad (dC (.int 1)) zau)) zjO) (zad (zan (zad (dC (.int 1)) (zad (za4 (dC (.int 1)) zo2) zau)) zjO) zau)))))))))))) zc3))
 (zap (zcf (zab (zab (zaf 1) (zan (zad (zan zau zjO) (zad (zan (zad (dC (.int 1)) (zad (dC (.bl true)) zau)) zjO) zau)) zc3) zbx) (zab (zaf 0) (dC (.int 14)) zfw) dIx))
 zal))
def zcU:List D->Res D:=zc5 2 zd8
abbrev zcT:List D->Res D:=Com.zcT
abbrev zaZ:List D->Res D:=Wex.zaZ
abbrev zcq:List D->Res D:=Com.zcq
abbrev za8:List D->Res D:=Com.za8
abbrev zc1:List D->Res D:=Com.zc1
abbrev zeI:List D->Res D:=Com.zeI
abbrev zfO:List D->Res D:=Com.zfO
abbrev zgs:List D->Res D:=Com.zgs
abbrev zbd:List D->Res D:=Wex.zbd
abbrev zc2:List D->Res D:=Com.zc2
abbrev zaw:List D->Res D:=Wex.zaw
abbrev zaC:List D->Res D:=Com.zaC
abbrev zas:List D->Res D:=Wex.zas
abbrev zgK:List D->Res D:=Wex.zgK
abbrev zjn:List D->Res D:=Wex.zjn
abbrev zfA:List D->Res D:=Wex.zfA
abbrev zbb:List D->Res D:=Wex.zbb
abbrev zaz:List D->Res D:=Wex.zaz
abbrev zf4:List D->Res D:=Com.zf4
abbrev zaX:List D->Res D:=Wex.zaX
abbrev zcp:List D->Res D:=Com.zcp
abbrev zeJ:List D->Res D:=Com.zeJ
abbrev zcE:List D->Res D:=Com.zcE
abbrev zeH:List D->Res D:=Com.zeH
abbrev zaH:List D->Res D:=Wex.zaH
def zis:Ev->Res Fl :=
 (zap (sIf (za4 (zaf 0) (zqp zBK))
 (zap (zcf (dC (.bl true)))
 zal)
 zal)
 (zap (sIf (za4 (zaf 0) (zqp zBJ))
 (zap (zcf (dC (.bl true)))
 zal)
 zal)
 (zap (sIf (za4 (zaf 0) (zqp zBI))
 (zap (zcf (dC (.bl true)))
 zal)
 zal)
 (zap (zcf (za4 (zaf 0) (zqp zBH)))
 zal))))
def zk2:List D->Res D:=zc5 1 zis
def zcW:Ev->Res Fl :=
 (zap (za7 4 (dC (.str "")))
 (zap (za7 5 (dC (.non)))
 (zap (zBj (zq7 (zab (zaf 0) (dC (.int 0)) dEq)
 (zm9 5 (zad (zaf 1) (zad (zaf 2) zau)) zbb)
 (zq7 (zab (zaf 0) (dC (.int 1)) dEq)
 (zm9 5 (zad (zaf 1) (zad (zaf 2) (zad (zaf 3) zau))) zaX)
 (zq7 (zab (zaf 0) (dC (.int 2)) dEq)
 (zm9 5 (zad (zaf 1) (zad (zaf 2) zau)) zas)
 (zm9 5 (zad (zaf 1) (zad (zaf 3) zau)) zaH)))) (zrO zfQ) 6
 (zap (za7 7 (zan (zad (za4 (zaf 6) (zqp zBE)) (zad (za4 (zaf 6) (zqp zBF)) (zad (za4 (zaf 6) (zqp zBG)) zau))) zc3))
 (zap (za7 4 (dC (.str "another")))
 (zap (sIf (zhG (zab (zrW (zaf 7) (dC (.bl true))) (dC (.int 1)) dEq) (zhG (za4 (zaf 6) (zqp zBD)) (zdN (zan (zad (zaf 6) zau) zk2))))
 (zap (za7 4 (zab (zan (zad (dC (.str "web")) (zad (dC (.str "taking")) (zad (dC (.str "purse")) zau))) zc3) (zoN (zaf 7) (dC (.bl true))) dIx))
 zal)
 zal)
 zal))))
 (zap (zcf (zan (zad (zaf 4) (zad (zaf 5) zau)) zjO))
 zal))))
def zaN:List D->Res D:=zc5 8 zcW
abbrev zeR:List D->Res D:=Com.zeR
abbrev zbh:List D->Res D:=Com.zbh
def zgy:Ev->Res Fl :=
 (zap (za7 3 (zan (zad (zd6 1 [0] (zqZ (zaf 1)) (zcx 0) mYes (zab (zab (zab (zaf 1) (dC (.int 1)) dIx) (zaf 0) dIx) (dC (.int 4)) dIx)) zau) zfP))
 (zap (za7 4 (zan (zad (zij (zaf 2) (zcb (dC (.int 3))) zec) (zad (zaf 3) zau)) zbm))
 (zap (za7 5 (zd6 1 [] (zqZ (zij (zaf 2) zec (zcb (dC (.int 3))))) (zcx 0) mYes (zan (zad (zab (zaf 0) (dC (.int 0)) dEq) zau) (m1 zhF))))
 (zap (zsm 6 (zan (zad (zaf 0) (zad (zan (zad (zaf 1) zau) (m1 zqo)) (zad (zaf 4) zau))) zc3))
 (zap (sIf (zab (zab (zaf 5) (dC (.int 0)) dIx) (dC (.int 1)) dEq)
 (zap (zze 6 (zab (zan (zad (zij (zaf 0) zec (zcb (dC (.int 3)))) (zad (dC (.non)) (zad (zan (zad (zab (zaf 0) (dC (.int 0)) dIx) (zad (zab (zaf 0) (dC (.int 1)) dIx) (zad (zab (zaf 0) (dC (.int 2)) dIx) (zad (zab (zaf 0) (dC (.int 2)) dIx) zau)))) zjO) zau))) zc3) (zab (zab (zaf 2) (dC (.int 4)) dIx) (dC (.int 3)) zfw) dIx) (dC (.int 0)))
 zal)
 zal)
 (zap (sIf (zab (zab (zaf 5) (dC (.int 1)) dIx) (dC (.int 1)) dEq)
 (zap (zze 6 (zan (zad (zaf 0) (zad (zaf 1) (zad (zab (zaf 2) (dC (.int 4)) dIx) zau))) zb4) (dC (.int 1)))
 zal)
 zal)
 (zap (sIf (zab (zab (zaf 5) (dC (.int 2)) dIx) (dC (.int 1)) dEq)
 (zap (zze 6 (zan (zad (zab (zaf 2) (dC (.int 4)) dIx) zau) zcU) (dC (.int 2)))
 zal)
 zal)
 (zap (za7 7 (zan (zad (zan (zad (zab (zaf 5) (dC (.int 0)) dIx) (zad (zab (zaf 5) (dC (.int 1)) dIx) (zad (dC (.int 0)) zau))) zjO) (zad (zan (zad (zab (zaf 5) (dC (.int 0)) dIx) (zad (zab (zaf 5) (dC (.int 1)) dIx) (zad (zab (zaf 5) (dC (.int 2)) dIx) zau))) zjO) zau)) zc3))
 (zap (za7 7 (zab (zaf 7) (zan (zad (zan (zad (zab (zaf 5) (dC (.int 0)) dIx) (zad (zab (zaf 5) (dC (.int 1)) dIx) (zad (dC (.int 0)) zau))) zjO) (zad (zan (zad (zab (zaf 5) (dC (.int 0)) dIx) (zad (dC (.int 0)) (zad (zab (zaf 5) (dC (.int 2)) dIx) zau))) zjO) zau)) zc3) zbx))
 (zap (zl6 (dC (.int 4)) (zcx 8)
 (zap (za7 9 (dC (.str "")))
 (zap (zl6 (dC (.int 3)) (zcx 10)
 (zap (sIf (zhG (zab (zab (zab (zaf 7) (zaf 8) dIx) (zaf 10) dIx) (dC (.int 1)) dEq) (zab (zaf 9) (dC (.str "")) dEq))
 (zap (za7 9 (zab (zan (zad (dC (.str "web")) (zad (dC (.str "taking")) (zad (dC (.str "purse")) zau))) zc3) (zaf 10) dIx))
 zal)
 zal)
 zal))
 (zap (zzg 6 (zBi [11,12] (zan (zad (zaf 8) (zad (zab (zaf 6) (dC (.int 0)) dIx) (zad (zab (zaf 6) (dC (.int 1)) dIx) (zad (zab (zaf 6) (dC (.int 2)) dIx) zau)))) zaN)))
 (zap (sIf (zab (zaf 11) (zaf 9) dNe)
 (zap (zcf (dC (.bl false)))
 zal)
 zal)
 (zap (sIf (zhG (zab (zaf 11) (dC (.str "")) dEq) (zhG (zab (zaf 8) (dC (.int 0)) dEq) (dOr (zdN (zan (zad (zaf 12) zau) zbh)) (zab (zaf 12) (zaf 3) dNe))))
 (zap (zcf (dC (.bl false)))
 zal)
 zal)
 (zap (za7 13 (zab (zab (zab (zaf 3) (dC (.int 0)) dIx) (zab (zaf 4) (dC (.int 1)) dIx) zbB) (zab (zab (zaf 4) (dC (.int 0)) dIx) (zab (zaf 3) (dC (.int 1)) dIx) zbB) dLe))
 (zap (sIf (zhG (zab (zaf 11) (dC (.str "")) dEq) (zhG (zab (zaf 8) (dC (.int 2)) dEq) (zab (zaf 12) (dC (.non)) zhL)))
 (zap (zcf (dC (.bl false)))
 zal)
 zal)
 (zap (sIf (zhG (zab (zaf 11) (dC (.str "")) dEq) (zhG (zab (zaf 8) (dC (.int 1)) dEq) (dOr (zdN (za4 (zaf 12) (zdz "bool"))) (zab (zaf 12) (zaf 13) dNe))))
 (zap (zcf (dC (.bl false)))
 zal)
 zal)
 zal)))))))))
 (zap (zcf (dOr (zab (zab (zaf 5) (dC (.int 1)) dIx) (dC (.int 1)) dEq) (zab (zab (zaf 6) (dC (.int 1)) dIx) (zaf 1) dEq)))
 zal)))))))))))
def zbl:List D->Res D:=zc5 14 zgy
def zBc:Ev->Res Fl :=
 (zap (za7 1 (zan (zad (zaf 0) (zad (dC (.int 0)) zau)) zdI))
 (zap (za7 2 (zan (zad (zan (zad (zab (zaf 1) (dC (.int 0)) dIx) zau) (m1 zqo)) (zad (zan (zad (zab (zaf 1) (dC (.int 1)) dIx) zau) (m1 zqo)) (zad (zab (zaf 1) (dC (.int 2)) dIx) (zad (zab (zaf 1) (dC (.int 3)) dIx) zau)))) zjO))
 (zap (za7 3 (zd6 1 [1] (zpz (zan (zad (zab (zaf 1) (dC (.int 1)) dIx) zau) (m1 zhE))) (zcx 0) (zab (zab (zab (zab (zaf 1) (dC (.int 1)) dIx) (zaf 0) dIx) (dC (.int 4)) dIx) (dC (.non)) zhL) (zaf 0)))
 (zap (zq8 (zab (zij (zaf 0) (zcb (dC (.int 15))) (zcb (dC (.int 63)))) (zan (zad (dC (.int 15)) zau) zc3) zbx) (zcx 4)
 (zap (za7 5 (zan (zad (dC (.int 8)) (zad (zab (zab (dC (.int 10)) (dC (.int 60)) zni) (dC (.int 1)) znK) (zad (zab (zab (dC (.int 10)) (dC (.int 60)) zni) (dC (.int 1)) znK) zau))) zc3))
 (zap (za7 6 (zan (zad (zaf 4) (zad (zab (zab (zan (zad (dC (.int 4)) (zad (dC (.int 4)) (zad (dC (.int 4)) (zad (dC (.int 8)) (zad (dC (.int 156)) zau))))) zc3) (zaf 5) zbx) (zAe (zan (zad (dC (.int 2)) zau) zc3) (dC (.int 14))) zbx) zau)) zaU))
 (zap (za7 7 (zd6 1 [3,6] (zpz (zan (zad (zaf 3) zau) (m1 zhE))) (zcx 0) (zab (zab (zaf 2) (zab (dC (.int 8)) (zaf 0) zbx) dIx) (dC (.int 1)) dEq) (zab (zaf 1) (zaf 0) dIx)))
 (zap (sIf (dOr (zdN (zan (zad (zaf 1) (zad (zaf 7) (zad (zij (zaf 6) zec (zcb (dC (.int 8)))) zau))) zbl)) (zab (zaf 1) (zaf 2) dNe))
 (zap (zcf (dC (.bl false)))
 zal)
 zal)
 zal)))))
 (zap (zcf (dC (.bl true)))
 zal)))))
def zvS:List D->Res D:=zc5 8 zBc
end K08
namespace K08
open PySem L2 DL Com
theorem zEe:zaU=Com.zaU:=rfl
theorem zoH:za1=Com.za1:=rfl
theorem zku:zaS=Com.zaS:=rfl
theorem zEd:zdI=Com.zdI:=rfl
theorem zuf:zbh=Com.zbh:=rfl
theorem zBQ {xs:List Fra}(hl:xs.length<=14)(hx:∀ x∈xs,zea x):zfP [.lst (xs.map fr)]=.ok (fr (low (tot xs).1 (tot xs).2)):=by
 have acc:∀ j,Acc (xs.take j).length (tot (xs.take j)):=fun j=>zqW (by rw[List.length_take];omega) fun x h=>hx x (List.mem_of_mem_take h)
 obtain⟨ρ',hl',z,rfl⟩:=zoC (ds:=xs.map fr) (tg:=zcx 3) (ρ:=[.sh (.lst (xs.map fr)),.sh (.int 0),.sh (.int 1),.no])
  (body:=(zap (za7 1 (zab (zab (zaf 1) (zab (zaf 3) (dC (.int 1)) dIx) zbB) (zab (zab (zaf 3) (dC (.int 0)) dIx) (zaf 2) zbB) zbx))
 (zap (za7 2 (zab (zaf 2) (zab (zaf 3) (dC (.int 1)) dIx) zbB))
 zal)))
  (fun j ρ=>∃ z,ρ=[.sh (.lst (xs.map fr)),.sh (.int (tot (xs.take j)).1),.sh (.int (tot (xs.take j)).2),z]) (by
   rintro j d hd ρ ⟨z,rfl⟩
   rw[List.getElem?_map] at hd
   cases e:xs[j]? with
   | none=>rw[e] at hd;cases hd
   | some x =>
    rw[e] at hd
    cases hd
    have A:=acc j
    have hj:j < xs.length:=(List.getElem?_eq_some_iff.mp e).1
    have fx:=hx x (List.mem_of_getElem? e)
    have hb:bnd (xs.take j).length < B60:=Nat.lt_of_lt_of_le (zmW (by rw[List.length_take];omega)) ziI
    have t1:(tot (xs.take j)).1.natAbs < B60:=Nat.lt_of_le_of_lt A.b1 hb
    have t2:(tot (xs.take j)).2.natAbs < B60:=Nat.lt_of_le_of_lt A.b2 hb
    have x1:x.1.natAbs < B60:=Nat.lt_of_lt_of_le fx.pN zd9
    have x2:x.2.natAbs < B60:=Nat.lt_of_lt_of_le fx.qN zd9
    have htk:tot (xs.take (j+1))=un (tot (xs.take j)) x:=by
     rw[List.take_succ,e,← zxi];rfl
    rw[htk]
    generalize tot (xs.take j)=s at *
    refine⟨_,[.sh (.lst (xs.map fr)),.sh (.int (un s x).1),.sh (.int (un s x).2),.sh (fr x)],rfl,?_,_,rfl⟩
    rw[show fr x=.tup [.int x.1,.int x.2] from rfl]
    open_line with[zeS (zgr t1 x2),zeS (zgr x1 t2),zeS (zgr t2 x2)]
    rfl) ⟨_,rfl⟩
 rw[List.length_map,List.take_length] at hl'
 have A:=zqW (xs:=xs) (by omega) hx
 have hb:=zmW (k:=xs.length) (by omega)
 have hlow:=zjY (a:=(tot xs).1) (b:=(tot xs).2) A.pos (Nat.lt_of_le_of_lt A.b1 hb) (Nat.lt_of_le_of_lt A.b2 hb)
 open_line with[zfP,zjc,hl',zoH,hlow]
def N58:Nat:=10000000000000000000000000000000000000000000000000000000000
theorem zra {u:Fra}(hL:Low u)(h0:0<=u.1){v0 v1 v2 v3 v4:Int}(b0:0<=v0)(b3:0<=v3/\v3 < (N60:Int)-1)(b4:0<=v4/\v4 < (N60:Int)-1):∃ p:Fra,zbm [.lst [.int v0,.int v1,.int v2,.int v3,.int v4],fr u]=.ok (fr p)/\zea p/\0<=p.1:=by
 obtain⟨p,hp,fp,lp⟩:=zjE (w:=v2) (a:=v3) (b:=v4) (l:=0) b3 b4 (by decide)
 have p58:zni (.int 10) (.int 58)=.ok (.int (N58:Int)):=rfl
 have hN:(N58:Int)*10 < (N60:Int):=by decide
 have hq:=hL.q1
 have hab:zBn (.int u.1)=.ok (.int u.1):=by
  show Res.ok (D.int (if u.1 < 0 then -u.1 else u.1))=_
  rw[if_neg (by omega)]
 have f1:dIx (fr u) (.int 0)=.ok (.int u.1):=rfl
 have f2:dIx (fr u) (.int 1)=.ok (.int u.2):=rfl
 have c2:zjJ [D.int v0,.int v1,.int v2,.int v3,.int v4] none (some 2)=[.int v0,.int v1]:=rfl
 have c3:zjJ [D.int v0,.int v1,.int v2,.int v3,.int v4] (some 2) none=[.int v2,.int v3,.int v4]:=rfl
 have tail:∀ (b:Bool),b=false->((decide (u.1 < (N58:Int))&&(decide (u.2 < (N58:Int))&&decide (v0 < 5)))=b)->zbm [.lst [.int v0,.int v1,.int v2,.int v3,.int v4],fr u]=.ok (fr p):=fun b hb e=>by
  subst hb
  cases e1:decide (u.1 < (N58:Int)) with
  | false=>open_line with[zbm,zbJ,c2,c3,f1,f2,hab,p58,e1,zku,hp]
  | true =>
   cases e2:decide (u.2 < (N58:Int)) with
   | false=>open_line with[zbm,zbJ,c2,c3,f1,f2,hab,p58,e1,e2,zku,hp]
   | true =>
    cases e3:decide (v0 < 5) with
    | false=>open_line with[zbm,zbJ,c2,c3,f1,f2,hab,p58,e1,e2,e3,zku,hp]
    | true=>rw[e1,e2,e3] at e;cases e
 cases hall:(decide (u.1 < (N58:Int))&&(decide (u.2 < (N58:Int))&&decide (v0 < 5))) with
 | false=>exact⟨p,tail _ rfl hall,fp,lp⟩
 | true =>
  simp only[Bool.and_eq_true] at hall
  obtain⟨e1,e2,e3⟩:=hall
  have g1:=of_decide_eq_true e1
  have g2:=of_decide_eq_true e2
  have mm1:zhK 2 u.1=true:=zgr (Nat.lt_of_lt_of_le (show(2:Int).natAbs < N60 by decide) zd9) (Nat.lt_of_lt_of_le (show u.1.natAbs < N60 by omega) zd9)
  have mm2:zhK 2 u.2=true:=zgr (Nat.lt_of_lt_of_le (show(2:Int).natAbs < N60 by decide) zd9) (Nat.lt_of_lt_of_le (show u.2.natAbs < N60 by omega) zd9)
  cases e4:(v0==1) with
  | true =>
   have hlo:=zjY (a:=2*u.1+1) (b:=2*u.2) (by omega) (zBk (by omega) (by omega)) (zBk (by omega) (by omega))
   refine⟨low (2*u.1+1) (2*u.2),?_,zAJ (by omega) (by omega) (by omega),ziT (by omega) (by omega)⟩
   open_line with[zbm,zbJ,c2,c3,f1,f2,hab,p58,e1,e2,e3,e4,zeS mm1,zeS mm2,zoH,hlo]
  | false =>
   cases e5:(v0==2) with
   | false =>
    refine⟨u,?_,⟨hL,by omega,by omega⟩,h0⟩
    open_line with[zbm,zbJ,c2,c3,f1,f2,hab,p58,e1,e2,e3,e4,e5]
   | true =>
    cases e6:decide (u.1 > 0) with
    | false =>
     refine⟨u,?_,⟨hL,by omega,by omega⟩,h0⟩
     open_line with[zbm,zbJ,c2,c3,f1,f2,hab,p58,e1,e2,e3,e4,e5,e6]
    | true =>
     have g6:=of_decide_eq_true e6
     have hlo:=zjY (a:=2*u.1-1) (b:=2*u.2) (by omega) (zBk (by omega) (by omega)) (zBk (by omega) (by omega))
     refine⟨low (2*u.1-1) (2*u.2),?_,zAJ (by omega) (by omega) (by omega),ziT (by omega) (by omega)⟩
     open_line with[zbm,zbJ,c2,c3,f1,f2,hab,p58,e1,e2,e3,e4,e5,e6,zeS mm1,zeS mm2,znK,zoH,hlo]
theorem zx4 {k:Int}:∃ d,zcU [.int k]=.ok d/\zaz [d]=.exn ⟨"NoPurse",[]⟩:=by
 have f:=zjf (a:=k) (b:=14) (by decide)
 obtain⟨i,hi⟩:=Int.eq_ofNat_of_zero_le f.1
 have hil:i < 14:=by omega
 have hg:∃ d,([D.non,.bl true,.int 0,.int 1,.str "0",.tup [.int (-1),.int 2],.tup [.int 2,.int 4],.tup [.int 1,.int 0],.tup [.int 0,.int 2],.lst [.int 0,.int 1],.tup [.bl true,.int 1],.tup [.int 1,.int (-1)],.tup [],.tup [.int 1,.bl true]]:List D)[i]?=some d:=⟨_,List.getElem?_eq_getElem hil⟩
 obtain⟨d,hd⟩:=hg
 refine⟨d,?_,Wex.purse_no d (List.mem_of_getElem? hd)⟩
 have hix:=zh4 hd
 rw[← hi] at hix
 open_line with[zcU,zd8,hix,show zo2 (.int 1)=.ok (.int (-1)) from rfl]
section
variable {W T P d:D}{c z:Str}
def zjQ:List (Str×Str):=[("NoWeb","web"),("NoTaking","taking"),("NoPurse","purse")]
theorem zlR {way:Int}{r:Res D}(h:∀ ρ:Ev,ρ=[.sh (.int way),.sh W,.sh T,.sh P,.sh (.str ""),.sh .non,.no,.no]->(zq7 (zab (zaf 0) (dC (.int 0)) dEq)
 (zm9 5 (zad (zaf 1) (zad (zaf 2) zau)) zbb)
 (zq7 (zab (zaf 0) (dC (.int 1)) dEq)
 (zm9 5 (zad (zaf 1) (zad (zaf 2) (zad (zaf 3) zau))) zaX)
 (zq7 (zab (zaf 0) (dC (.int 2)) dEq)
 (zm9 5 (zad (zaf 1) (zad (zaf 2) zau)) zas)
 (zm9 5 (zad (zaf 1) (zad (zaf 3) zau)) zaH)))) ρ=r.bind (zDE 5 ρ)) :
  (∀ d,r=.ok d->zaN [.int way,W,T,P]=.ok (.tup [.str "",d]))/\(∀ c z,r=.exn ⟨c,[]⟩->(c,z)∈zjQ->zaN [.int way,W,T,P]=.ok (.tup [.str z,.non])):=by
 refine⟨fun d hr=>?_,fun c z hr hc=>?_⟩
 ·subst hr
  have h':=h _ rfl
  open_line with[zaN,zcW,zsR,h',zA2]
 ·subst hr
  have h':=h _ rfl
  unfold zjQ at hc
  simp only[List.mem_cons,List.not_mem_nil,or_false,Prod.mk.injEq] at hc
  rcases hc with⟨rfl,rfl⟩ | ⟨rfl,rfl⟩ | ⟨rfl,rfl⟩
  ·open_line with[zaN,zcW,zsR,h',zef,zrS (show zrO zfQ "NoWeb"=true from rfl)]
   rfl
  ·open_line with[zaN,zcW,zsR,h',zef,zrS (show zrO zfQ "NoTaking"=true from rfl)]
   rfl
  ·open_line with[zaN,zcW,zsR,h',zef,zrS (show zrO zfQ "NoPurse"=true from rfl)]
   rfl
theorem zs1:(∀ d,zbb [W,T]=.ok d->zaN [.int 0,W,T,P]=.ok (.tup [.str "",d]))/\(∀ c z,zbb [W,T]=.exn ⟨c,[]⟩->(c,z)∈zjQ->zaN [.int 0,W,T,P]=.ok (.tup [.str z,.non])):=zlR fun ρ e=>by subst e;rfl
theorem zs0:(∀ d,zaX [W,T,P]=.ok d->zaN [.int 1,W,T,P]=.ok (.tup [.str "",d]))/\(∀ c z,zaX [W,T,P]=.exn ⟨c,[]⟩->(c,z)∈zjQ->zaN [.int 1,W,T,P]=.ok (.tup [.str z,.non])):=zlR fun ρ e=>by subst e;rfl
theorem zsZ:(∀ d,zas [W,T]=.ok d->zaN [.int 2,W,T,P]=.ok (.tup [.str "",d]))/\(∀ c z,zas [W,T]=.exn ⟨c,[]⟩->(c,z)∈zjQ->zaN [.int 2,W,T,P]=.ok (.tup [.str z,.non])):=zlR fun ρ e=>by subst e;rfl
theorem zqt:(∀ d,zaH [W,P]=.ok d->zaN [.int 3,W,T,P]=.ok (.tup [.str "",d]))/\(∀ c z,zaH [W,P]=.exn ⟨c,[]⟩->(c,z)∈zjQ->zaN [.int 3,W,T,P]=.ok (.tup [.str z,.non])):=zlR fun ρ e=>by subst e;rfl
end
theorem zyU {xs:List D}{x:D}:zjJ (x::xs) (some 1) none=xs:=by
 unfold zjJ
 rw[show HT.sIx (x::xs).length 0 (some 1)=1 from by rw[show(some (1:Int))=some ((1:Nat):Int) from rfl,HT.sIx_nat];simp,HT.sIx_none]
 simp
theorem zwI {xs:List D}{x:D}:zjJ (x::xs) none (some 1)=[x]:=by
 unfold zjJ
 rw[show HT.sIx (x::xs).length (x::xs).length (some 1)=1 from by rw[show(some (1:Int))=some ((1:Nat):Int) from rfl,HT.sIx_nat];simp,HT.sIx_none]
 simp
theorem zA7 {xs:List D}{x:D}:zjJ (xs++[x]) (some (-1)) none=[x]:=by
 unfold zjJ
 have e:HT.sIx (xs++[x]).length 0 (some (-1))=xs.length:=by
  have h:=HT.clip_eq (-1) (xs++[x]).length 0
  rw[if_pos (by decide)] at h
  have:(xs++[x]).length=xs.length+1:=by simp
  omega
 rw[e,HT.sIx_none]
 simp
abbrev nI (k:Nat):D:=.int (k:Int)
theorem zdH {ks:List Nat}:∀ d∈ks.map nI,Wex.plainD d=true:=fun d hd=>by
 obtain⟨k,_,rfl⟩:=List.mem_map.mp hd;rfl
theorem zzv {ks:List Nat}{k:Nat}(hk:k∈ks):¬ ∃ ns:List Nat,ks.map nI++[nI k]=ns.map (fun(k:Nat)=>D.int (k:Int))/\ns.Nodup:=by
 rintro⟨ns,e,nd⟩
 have e':(ks++[k]).map nI=ns.map nI:=by rw[List.map_append];exact e
 have inj:∀ a b:List Nat,a.map nI=b.map nI->a=b:=fun a b h=>Wex.nums_eq.mp (by
  show eqDs (a.map nI) (b.map nI)=true
  rw[h];exact Wex.nums_eq.mpr rfl)
 rw[← inj _ _ e',List.nodup_append] at nd
 exact nd.2.2 k hk k List.mem_cons_self rfl
theorem zA4 {ks:List Nat}{k:Nat}(hk:k∈ks):¬ ∃ ns:List Nat,nI k::ks.map nI=ns.map (fun(k:Nat)=>D.int (k:Int))/\ns.Nodup:=by
 rintro⟨ns,e,nd⟩
 have e':(k::ks).map nI=ns.map nI:=by rw[List.map_cons];exact e
 have inj:∀ a b:List Nat,a.map nI=b.map nI->a=b:=fun a b h=>Wex.nums_eq.mp (by
  show eqDs (a.map nI) (b.map nI)=true
  rw[h];exact Wex.nums_eq.mpr rfl)
 rw[← inj _ _ e',List.nodup_cons] at nd
 exact nd.1 hk
def NT (w:Web)(d:D):Prop:=zas [zcg w,d]=.exn ⟨"NoTaking",[]⟩
theorem zvM {w:Web}(W:zft w){ds:List D}(d:D)(hd:d∈ds)(hp:∀ d∈ds,Wex.plainD d=true)(h:∀ n,d≠.int n):NT w (.lst ds):=Wex.tak_all W hp (Wex.no_take_odd hd h)
theorem zsH {w:Web}(W:zft w){ds:List D}(n:Int)(hd:.int n∈ds)(hp:∀ d∈ds,Wex.plainD d=true)(h:n < 0∨(w.ts.length:Int)<=n∨isW w n.toNat=false):NT w (.lst ds):=Wex.tak_all W hp (Wex.no_take_int hd h)
theorem zeQ {a b:List D}(ha:∀ d∈a,Wex.plainD d=true)(hb:∀ d∈b,Wex.plainD d=true):∀ d∈a++b,Wex.plainD d=true:=fun d hd=>(List.mem_append.mp hd).elim (ha d) (hb d)
theorem zdP {x:D}(h:Wex.plainD x=true):∀ d∈[x],Wex.plainD d=true:=fun d hd=>by
 rw[List.mem_singleton.mp hd];exact h
theorem zC3 {a b:List D}(h:a.length+b.length<=1000):zup (.lst a) (.lst b)=.ok (.lst (a++b)):=if_pos (Nat.le_trans h (by decide))
def zsJ:Ev->Res Fl:=(zap (za7 4 (zd6 1 [0] (zpz (zan (zad (zab (zaf 0) (dC (.int 1)) dIx) zau) (m1 zhE))) (zcx 0) (zab (zab (zab (zab (zaf 1) (dC (.int 1)) dIx) (zaf 0) dIx) (dC (.int 4)) dIx) (dC (.non)) zoM) (zaf 0)))
 (zap (sIf (zab (zaf 4) (zan zau zc3) dNe)
 (zap (zc8 3 (zan (zad (zab (zaf 1) (zan (zad (zab (zaf 4) (zab (zaf 2) (zan (zad (zaf 4) zau) (m1 zhE)) zfw) dIx) zau) zc3) zbx) zau) (m1 zqn)))
 (zap (zc8 3 (zan (zad (zab (zaf 4) (dC (.int 0)) dIx) zau) zc3))
 zal))
 zal)
 (zap (zcf (zab (zaf 3) (zab (zaf 2) (zan (zad (zaf 3) zau) (m1 zhE)) zfw) dIx))
 zal)))
theorem zwU:zdk=(zap (zsm 3 (zan (zad (zan (zad (zaf 1) zau) (m1 zsV)) (zad (zab (zaf 1) (zan (zad (dC (.int 14)) zau) zc3) zbx) (zad (dC (.non)) (zad (zab (zan (zad (za4 (dC (.int 1)) zo2) zau) zc3) (zaf 1) zbx) (zad (zab (zaf 1) (zan (zad (dC (.bl true)) zau) zc3) zbx) (zad (dC (.str "[]")) zau)))))) zc3))
 (zap (sIf (zab (zaf 1) (zan zau zc3) dNe)
 (zap (zzg 3 (zsm 3 (zab (zaf 3) (zan (zad (zab (zij (zaf 1) zec (zcb (dC (.int 1)))) (zaf 1) zbx) (zad (zab (zaf 1) (zij (zaf 1) (zcb (za4 (dC (.int 1)) zo2)) zec) zbx) (zad (zab (zaf 1) (zij (zaf 1) zec (zcb (dC (.int 1)))) zbx) zau))) zc3) zup)))
 (zap (zzg 3 (zsm 3 (zab (zaf 3) (zan (zad (zab (zij (zaf 1) zec (zcb (za4 (dC (.int 1)) zo2))) (zan (zad (dC (.str "0")) zau) zc3) zbx) (zad (zab (zan (zad (dC (.non)) zau) zc3) (zij (zaf 1) (zcb (dC (.int 1))) zec) zbx) zau)) zc3) zup)))
 zal))
 zal)
 zsJ)):=rfl
theorem zvN {w:Web}{ks:List Nat}(W:zft w)(T:zjg w ks)(kd:Int):∃ d,zb4 [zcg w,zb8 ks,.int kd]=.ok d/\NT w d:=by
 have h14:=W.t14
 have hlen:ks.length<=14:=Nat.le_trans (zse T.up T.lt) h14
 have a1:NT w (.tup (ks.map nI)):=Wex.tak_none W rfl
 have a2:NT w (.lst (ks.map nI++[.int 14])):=zsH W 14 (by simp) (zeQ zdH (zdP rfl)) (.inr (.inl (by omega)))
 have a3:NT w .non:=Wex.tak_none W rfl
 have a4:NT w (.lst (.int (-1)::ks.map nI)):=zsH W (-1) (by simp) (zeQ (a:=[.int (-1)]) (zdP rfl) zdH) (.inl (by decide))
 have a5:NT w (.lst (ks.map nI++[.bl true])):=zvM W (.bl true) (by simp) (zeQ zdH (zdP rfl)) (fun n z=>by cases z)
 have a6:NT w (.str "[]"):=Wex.tak_none W rfl
 have hcw:∀ A:List Sl,zin 1 [0] (zcx 0) (zab (zab (zab (zab (zaf 1) (dC (.int 1)) dIx) (zaf 0) dIx) (dC (.int 4)) dIx) (dC (.non)) zoM) (zaf 0) (.sh (zcg w)::A) (DL.intsFrom 0 w.ts.length)=.ok (.lst (((List.range w.ts.length).filter (fun k=>!(isW w k))).map nI)):=fun A =>
  Wex.comp_rng (by omega) fun k hk=>by
   obtain⟨t,_,hW,hix⟩:=Wex.isW_at hk
   refine⟨[.sh (.int (k:Int)),.sh (zcg w)],rfl,?_,fun _=>rfl⟩
   rw[show zcg w=.tup [.lst (w.ps.map D.str),.lst (w.ts.map zfx),.str w.fi,.str w.la] from rfl,hW]
   cases ho:t.o with
   | none=>rw[ho] at hix;open_line with[hix,zby];rfl
   | some v=>rw[ho] at hix;open_line with[hix,zby,fr,zwm];rfl
 have hlast:∀ (L:List D),(∀ d∈L,NT w d)->0 < L.length->L.length<=20 ->
   ∃ d,zsJ [.sh (zcg w),.sh (zb8 ks),.sh (.int kd),.ow (.lst L),.no]=.ok (.rt d)/\NT w d:=fun L hL h0 h20=>by
  have pick:∀ L:List D,0 < L.length->(∀ d∈L,NT w d)->∃ d,dIx (.lst L) (.int (kd.fmod (L.length:Int)))=.ok d/\NT w d:=fun L h0 hL=>by
   have f:=zjf (a:=kd) (b:=(L.length:Int)) (by omega)
   obtain⟨i,hi⟩:=Int.eq_ofNat_of_zero_le f.1
   have hil:i < L.length:=by omega
   exact⟨L[i],by rw[hi];exact zh4 (List.getElem?_eq_getElem hil),hL _ (List.getElem_mem hil)⟩
  have hw5:=hcw [.sh (zb8 ks),.sh (.int kd),.ow (.lst L),.no]
  have hsrc:=Wex.srcR1_nat (k:=w.ts.length) (by omega)
  have hmem:∀ k∈(List.range w.ts.length).filter (fun k=>!(isW w k)),isW w k=false:=fun k hk=>by
   have:=(List.mem_filter.mp hk).2
   simpa using this
  have hwl:((List.range w.ts.length).filter (fun k=>!(isW w k))).length<=14:=Nat.le_trans (List.length_filter_le _ _) (by simpa using h14)
  generalize (List.range w.ts.length).filter (fun k=>!(isW w k))=ws at *
  cases ws with
  | nil =>
   obtain⟨d,hd,hN⟩:=pick L h0 hL
   have hn0:((L.length:Int)==0)=false:=beq_eq_false_iff_ne.mpr (by omega)
   refine⟨d,?_,hN⟩
   rw[show zcg w=.tup [.lst (w.ps.map D.str),.lst (w.ts.map zfx),.str w.fi,.str w.la] from rfl] at hw5 ⊢
   unfold zsJ
   open_line with[List.length_map,Wex.ev_srcR1,hsrc,hw5,show dNe (.lst ([]:List D)) (.lst [])=.ok (.bl false) from rfl,hn0,hd]
  | cons a r =>
   have f:=zjf (a:=kd) (b:=(((a::r).length:Nat):Int)) (by rw[List.length_cons];omega)
   obtain⟨i,hi⟩:=Int.eq_ofNat_of_zero_le f.1
   have hil:i < (a::r).length:=by omega
   have hix1:dIx (.lst ((a::r).map nI)) (.int (kd.fmod (((a::r).length:Nat):Int)))=.ok (nI (a::r)[i]):=by
    rw[hi];exact zh4 (by rw[List.getElem?_map,List.getElem?_eq_getElem hil];rfl)
   have hx:=hmem _ (List.getElem_mem hil)
   have ha:=hmem a List.mem_cons_self
   generalize hxe:(a::r)[i]=x at hix1 hx
   have hsum:zbx (zb8 ks) (.lst [nI x])=.ok (.lst ((ks.map (fun(k:Nat)=>(k:Int))++[(x:Int)]).map D.int)):=by
    unfold zb8
    rw[ev_addL (decide_eq_true (by rw[List.length_map];simp;omega)),List.map_append,List.map_map];rfl
   have hsort:zqn (.lst ((ks.map (fun(k:Nat)=>(k:Int))++[(x:Int)]).map D.int))=.ok (.lst ((zg0 (ks.map (fun(k:Nat)=>(k:Int))++[(x:Int)])).map D.int)):=by
    show(match zh5 ((ks.map (fun(k:Nat)=>(k:Int))++[(x:Int)]).map D.int) with | some ns=>if ns.length < 64 then Res.ok (D.lst ((zg0 ns).map D.int)) else .stuck | none=>.stuck)=_
    rw[zot]
    exact if_pos (by simp;omega)
   have n1:NT w (.lst ((zg0 (ks.map (fun(k:Nat)=>(k:Int))++[(x:Int)])).map D.int)):=zsH W (x:Int) (List.mem_map.mpr ⟨_,(ziL _).mem_iff.mpr (by simp),rfl⟩) (fun d hd=>by
    obtain⟨k,_,rfl⟩:=List.mem_map.mp hd;rfl) (.inr (.inr (by rw[Int.toNat_natCast];exact hx)))
   have n2:NT w (.lst [nI a]):=zsH W (a:Int) (by simp) (zdP rfl) (.inr (.inr (by rw[Int.toNat_natCast];exact ha)))
   have hne:dNe (.lst ((a::r).map nI)) (.lst [])=.ok (.bl true):=Wex.nums_some
   have hn0:((((a::r).length:Nat):Int)==0)=false:=beq_eq_false_iff_ne.mpr (by rw[List.length_cons];omega)
   generalize hS:D.lst ((zg0 (ks.map (fun(k:Nat)=>(k:Int))++[(x:Int)])).map D.int)=S at *
   have hL2:∀ d∈(L++[S])++[.lst [nI a]],NT w d:=fun d hd=>by
    rcases List.mem_append.mp hd with h | h
    ·rcases List.mem_append.mp h with h | h
     ·exact hL d h
     ·rw[List.mem_singleton.mp h];exact n1
    ·rw[List.mem_singleton.mp h];exact n2
   obtain⟨d,hd,hN⟩:=pick _ (by simp) hL2
   have hl2:(((L++[S]++[D.lst [nI a]]).length:Int)==0)=false:=beq_eq_false_iff_ne.mpr (by rw[List.length_append,List.length_append];simp only[List.length_cons,List.length_nil];omega)
   have ap1:decide (L.length<=999)=true:=decide_eq_true (by omega)
   have ap2:decide ((L++[S]).length<=999)=true:=decide_eq_true (by simp;omega)
   have hix0:dIx (.lst ((a::r).map nI)) (.int 0)=.ok (nI a):=zh4 (k:=0) rfl
   have hlenr:(((a::r).map nI).length:Int)=(((a::r).length:Nat):Int):=by rw[List.length_map]
   refine⟨d,?_,hN⟩
   generalize hR:D.lst ((a::r).map nI)=R at *
   have hlenR:zhE R=.ok (.int (((a::r).length:Nat):Int)):=by rw[← hR];show Res.ok (D.int _)=_;rw[List.length_map]
   generalize (((a::r).length:Nat):Int)=rl at *
   generalize zb8 ks=K at *
   rw[show zcg w=.tup [.lst (w.ps.map D.str),.lst (w.ts.map zfx),.str w.fi,.str w.la] from rfl] at hw5 ⊢
   unfold zsJ
   open_line with[List.length_map,Wex.ev_srcR1,hsrc,hw5,hne,hlenR,hn0,hix1,hsum,hsort,ev_app1 ap1,hix0,ev_app1 ap2,hl2,hd]
 have len6:∀ a b c d e f:D,[a,b,c,d,e,f].length=6:=fun _ _ _ _ _ _=>rfl
 have tu:zsV (zb8 ks)=.ok (.tup (ks.map nI)):=rfl
 have d1:zbx (zb8 ks) (.lst [.int 14])=.ok (.lst (ks.map nI++[.int 14])):=ev_addL (ds:=ks.map nI) (decide_eq_true (by rw[List.length_map];simp;omega))
 have d2:zbx (.lst [.int (-1)]) (zb8 ks)=.ok (.lst (.int (-1)::ks.map nI)):=ev_addL (ds:=[.int (-1)]) (es:=ks.map nI) (decide_eq_true (by rw[List.length_map];simp;omega))
 have d3:zbx (zb8 ks) (.lst [.bl true])=.ok (.lst (ks.map nI++[.bl true])):=ev_addL (ds:=ks.map nI) (decide_eq_true (by rw[List.length_map];simp;omega))
 cases hk:ks with
 | nil =>
  subst hk
  obtain⟨d,h1,h2⟩:=hlast [.tup [],.lst [.int 14],.non,.lst [.int (-1)],.lst [.bl true],.str "[]"] (fun d hd=>by
   simp only[List.mem_cons,List.not_mem_nil,or_false] at hd
   rcases hd with rfl | rfl | rfl | rfl | rfl | rfl
   ·exact a1
   ·exact a2
   ·exact a3
   ·exact a4
   ·exact a5
   ·exact a6) (by decide) (by decide)
  refine⟨d,?_,h2⟩
  have e0:zb8 []=.lst []:=rfl
  rw[e0] at h1 tu d1 d2 d3 ⊢
  open_line with[zb4,zwU,tu,d1,d2,d3,show dNe (.lst ([]:List D)) (.lst [])=.ok (.bl false) from rfl,h1]
 | cons a r =>
  obtain⟨s,z,hz⟩:∃ s z,a::r=s++[z]:=by
   rcases List.eq_nil_or_concat (a::r) with h | ⟨s,z,h⟩
   ·cases h
   ·exact⟨s,z,by rw[h,List.concat_eq_append]⟩
  rw[hk] at hlast tu d1 d2 d3 a1 a2 a4 a5 hlen T
  have hlr:r.length<=13:=by simp at hlen;omega
  have ha:a∈a::r:=List.mem_cons_self
  have hzm:z∈a::r:=by rw[hz];simp
  have b1:NT w (.lst (nI a::(a::r).map nI)):=Wex.tak_all W (zeQ (a:=[nI a]) (zdP rfl) (zdH (ks:=a::r))) (Wex.no_take_twice (zA4 ha))
  have b2:NT w (.lst ((a::r).map nI++[nI z])):=Wex.tak_all W (zeQ zdH (zdP rfl)) (Wex.no_take_twice (zzv hzm))
  have b3:NT w (.lst ((a::r).map nI++[nI a])):=Wex.tak_all W (zeQ zdH (zdP rfl)) (Wex.no_take_twice (zzv ha))
  have b4:NT w (.lst (s.map nI++[.str "0"])):=zvM W (.str "0") (by simp) (zeQ zdH (zdP rfl)) (fun n z=>by cases z)
  have b5:NT w (.lst (.non::r.map nI)):=zvM W .non (by simp) (zeQ (a:=[.non]) (zdP rfl) zdH) (fun n z=>by cases z)
  obtain⟨d,h1,h2⟩:=hlast ([.tup ((a::r).map nI),.lst ((a::r).map nI++[.int 14]),.non,.lst (.int (-1)::(a::r).map nI),.lst ((a::r).map nI++[.bl true]),.str "[]"]++[.lst (nI a::(a::r).map nI),.lst ((a::r).map nI++[nI z]),.lst ((a::r).map nI++[nI a])]++[.lst (s.map nI++[.str "0"]),.lst (.non::r.map nI)]) (fun d hd=>by
   simp only[List.mem_append,List.mem_cons,List.not_mem_nil,or_false] at hd
   rcases hd with((rfl | rfl | rfl | rfl | rfl | rfl) | rfl | rfl | rfl) | rfl | rfl
   ·exact a1
   ·exact a2
   ·exact a3
   ·exact a4
   ·exact a5
   ·exact a6
   ·exact b1
   ·exact b2
   ·exact b3
   ·exact b4
   ·exact b5) (by simp) (by simp)
  refine⟨d,?_,h2⟩
  have ne:=Wex.nums_some (k:=a) (t:=r)
  have eK:zb8 (a::r)=.lst (nI a::r.map nI):=rfl
  have eK2:nI a::r.map nI=s.map nI++[nI z]:=by rw[← List.map_cons,hz,List.map_append];rfl
  have c1:zjJ (nI a::r.map nI) none (some 1)=[nI a]:=zwI
  have c2:zjJ (nI a::r.map nI) (some (-1)) none=[nI z]:=by rw[eK2];exact zA7
  have c3:zjJ (nI a::r.map nI) none (some (-1))=s.map nI:=by rw[eK2];exact zsX
  have c4:zjJ (nI a::r.map nI) (some 1) none=r.map nI:=zyU
  have hsl:s.length<=13:=by have:=congrArg List.length hz;simp at this hlen;omega
  have p1:zbx (.lst [nI a]) (.lst (nI a::r.map nI))=.ok (.lst (nI a::nI a::r.map nI)):=ev_addL (ds:=[nI a]) (decide_eq_true (by simp;omega))
  have p2:zbx (.lst (nI a::r.map nI)) (.lst [nI z])=.ok (.lst (nI a::r.map nI++[nI z])):=ev_addL (decide_eq_true (by simp;omega))
  have p3:zbx (.lst (nI a::r.map nI)) (.lst [nI a])=.ok (.lst (nI a::r.map nI++[nI a])):=ev_addL (decide_eq_true (by simp;omega))
  have p4:zbx (.lst (s.map nI)) (.lst [.str "0"])=.ok (.lst (s.map nI++[.str "0"])):=ev_addL (decide_eq_true (by simp;omega))
  have p5:zbx (.lst [.non]) (.lst (r.map nI))=.ok (.lst (.non::r.map nI)):=ev_addL (ds:=[.non]) (decide_eq_true (by simp;omega))
  have q1:∀ a b c d e f g h i:D,zup (.lst [a,b,c,d,e,f]) (.lst [g,h,i])=.ok (.lst ([a,b,c,d,e,f]++[g,h,i])):=fun _ _ _ _ _ _ _ _ _=>rfl
  have q2:∀ (L:List D) (g h:D),L.length<=20->zup (.lst L) (.lst [g,h])=.ok (.lst (L++[g,h])):=fun L g h hL=>zC3 (by simp;omega)
  rw[eK] at h1 tu d1 d2 d3 ne ⊢
  rw[show(a::r).map nI=nI a::r.map nI from rfl] at h1 tu d1 d2 d3
  generalize r.map nI=rn at *
  generalize s.map nI=sn at *
  have q3:=q2 ([.tup (nI a::rn),.lst (nI a::rn++[.int 14]),.non,.lst (.int (-1)::nI a::rn),.lst (nI a::rn++[.bl true]),.str "[]"]++[.lst (nI a::nI a::rn),.lst (nI a::rn++[nI z]),.lst (nI a::rn++[nI a])]) (.lst (sn++[.str "0"])) (.lst (.non::rn)) (by simp)
  simp only[List.cons_append,List.nil_append] at h1 d1 d3 p2 p3 q1 q3
  open_line with[zb4,zwU,tu,d1,d2,d3,ne,c1,c2,c3,c4,p1,p2,p3,p4,p5,q1,q3,h1]
def due (n0 n1 n2:Int)(k:Nat):Str :=
 if n0=1 then "web" else if n1=1/\k≠3 then "taking" else if n2=1/\(k=1∨k=3) then "purse" else ""
def zh9 (n0 n1 n2:Int):D:=.lst [.tup [.int n0,.int n1,.int 0],.tup [.int n0,.int n1,.int n2],.tup [.int n0,.int n1,.int 0],.tup [.int n0,.int 0,.int n2]]
def zzs:Ev->Res Fl:=(zap (sIf (zhG (zab (zab (zab (zaf 7) (zaf 8) dIx) (zaf 10) dIx) (dC (.int 1)) dEq) (zab (zaf 9) (dC (.str "")) dEq))
 (zap (za7 9 (zab (zan (zad (dC (.str "web")) (zad (dC (.str "taking")) (zad (dC (.str "purse")) zau))) zc3) (zaf 10) dIx))
 zal)
 zal)
 zal)
def zhf:Ev->Res Fl:=(zap (za7 9 (dC (.str "")))
 (zap (zl6 (dC (.int 3)) (zcx 10)
 (zap (sIf (zhG (zab (zab (zab (zaf 7) (zaf 8) dIx) (zaf 10) dIx) (dC (.int 1)) dEq) (zab (zaf 9) (dC (.str "")) dEq))
 (zap (za7 9 (zab (zan (zad (dC (.str "web")) (zad (dC (.str "taking")) (zad (dC (.str "purse")) zau))) zc3) (zaf 10) dIx))
 zal)
 zal)
 zal))
 (zap (zzg 6 (zBi [11,12] (zan (zad (zaf 8) (zad (zab (zaf 6) (dC (.int 0)) dIx) (zad (zab (zaf 6) (dC (.int 1)) dIx) (zad (zab (zaf 6) (dC (.int 2)) dIx) zau)))) zaN)))
 (zap (sIf (zab (zaf 11) (zaf 9) dNe)
 (zap (zcf (dC (.bl false)))
 zal)
 zal)
 (zap (sIf (zhG (zab (zaf 11) (dC (.str "")) dEq) (zhG (zab (zaf 8) (dC (.int 0)) dEq) (dOr (zdN (zan (zad (zaf 12) zau) zbh)) (zab (zaf 12) (zaf 3) dNe))))
 (zap (zcf (dC (.bl false)))
 zal)
 zal)
 (zap (za7 13 (zab (zab (zab (zaf 3) (dC (.int 0)) dIx) (zab (zaf 4) (dC (.int 1)) dIx) zbB) (zab (zab (zaf 4) (dC (.int 0)) dIx) (zab (zaf 3) (dC (.int 1)) dIx) zbB) dLe))
 (zap (sIf (zhG (zab (zaf 11) (dC (.str "")) dEq) (zhG (zab (zaf 8) (dC (.int 2)) dEq) (zab (zaf 12) (dC (.non)) zhL)))
 (zap (zcf (dC (.bl false)))
 zal)
 zal)
 (zap (sIf (zhG (zab (zaf 11) (dC (.str "")) dEq) (zhG (zab (zaf 8) (dC (.int 1)) dEq) (dOr (zdN (za4 (zaf 12) (zdz "bool"))) (zab (zaf 12) (zaf 13) dNe))))
 (zap (zcf (dC (.bl false)))
 zal)
 zal)
 zal))))))))
theorem zyH {n0 n1 n2:Int}(h0:n0=0∨n0=1)(h1:n1=0∨n1=1)(h2:n2=0∨n2=1){k:Nat}(hk:k < 4){A B C U P N L x10 x11 x12 x13:Sl} :
  zed (zcx 10) zzs (DL.intsFrom 0 3) [A,B,C,U,P,N,L,.sh (zh9 n0 n1 n2),.sh (.int (k:Int)),.sh (.str ""),x10,x11,x12,x13]=.ok (.nx [A,B,C,U,P,N,L,.sh (zh9 n0 n1 n2),.sh (.int (k:Int)),.sh (.str (due n0 n1 n2 k)),.sh (.int 2),x11,x12,x13]):=by
 have:k=0∨k=1∨k=2∨k=3:=by omega
 rcases h0 with rfl | rfl<;>rcases h1 with rfl | rfl<;>rcases h2 with rfl | rfl<;>rcases this with rfl | rfl | rfl | rfl<;>rfl
structure zEM (W T P:D) (n0 n1 n2:Int) (u p:Fra) (k:Nat) (fd:D):Prop where
 cl:zaN [.int (k:Int),W,T,P]=.ok (.tup [.str (due n0 n1 n2 k),fd])
 f0:due n0 n1 n2 k=""->k=0->fd=fr u
 f1:due n0 n1 n2 k=""->k=1->fd=.bl (!(flt p u))
 f2:due n0 n1 n2 k=""->k=2->fd=.non
theorem zxj {w:Web}{ks:List Nat}{p:Fra}{W' T' P':D}{n0 n1 n2:Int}(W:zft w)(T:zjg w ks)(hp:zea p)(h0:0<=p.1)(hw:(n0=0/\W'=zcg w)∨(n0=1/\zaw [W']=.exn ⟨"NoWeb",[]⟩))(ht:(n1=0/\T'=zb8 ks)∨(n1=1/\NT w T'))(hu:(n2=0/\P'=fr p)∨(n2=1/\zaz [P']=.exn ⟨"NoPurse",[]⟩)){k:Nat}(hk:k < 4) :
  ∃ fd,zEM W' T' P' n0 n1 n2 (zfu w ks) p k fd:=by
 have mw:(("NoWeb" : Str),("web" : Str))∈zjQ:=List.mem_cons_self
 have mt:(("NoTaking" : Str),("taking" : Str))∈zjQ:=List.mem_cons_of_mem _ List.mem_cons_self
 have mp:(("NoPurse" : Str),("purse" : Str))∈zjQ:=List.mem_cons_of_mem _ (List.mem_cons_of_mem _ List.mem_cons_self)
 have kk:k=0∨k=1∨k=2∨k=3:=by omega
 rcases hw with⟨rfl,rfl⟩ | ⟨rfl,hw⟩
 ·rcases ht with⟨rfl,rfl⟩ | ⟨rfl,ht⟩
  ·rcases hu with⟨rfl,rfl⟩ | ⟨rfl,hu⟩
   ·rcases kk with rfl | rfl | rfl | rfl
    ·exact⟨_,zs1.1 _ (Wex.worthX W T),fun _ _=>rfl,fun _ z=>(by cases z),fun _ z=>(by cases z)⟩
    ·exact⟨_,zs0.1 _ (Wex.withinX W T hp h0),fun _ z=>(by cases z),fun _ _=>rfl,fun _ z=>(by cases z)⟩
    ·exact⟨_,zsZ.1 _ (Wex.takingX W T),fun _ z=>(by cases z),fun _ z=>(by cases z),fun _ _=>rfl⟩
    ·exact⟨_,zqt.1 _ (Wex.mostX W hp h0),fun _ z=>(by cases z),fun _ z=>(by cases z),fun _ z=>(by cases z)⟩
   ·rcases kk with rfl | rfl | rfl | rfl
    ·exact⟨_,zs1.1 _ (Wex.worthX W T),fun _ _=>rfl,fun _ z=>(by cases z),fun _ z=>(by cases z)⟩
    ·exact⟨_,zs0.2 _ _ (Wex.within_by_purse (Wex.takingX W T) hu) mp,fun _ z=>(by cases z),fun z _=>(by cases z),fun _ z=>(by cases z)⟩
    ·exact⟨_,zsZ.1 _ (Wex.takingX W T),fun _ z=>(by cases z),fun _ z=>(by cases z),fun _ _=>rfl⟩
    ·exact⟨_,zqt.2 _ _ (Wex.most_by_purse (Wex.webX W) hu) mp,fun _ z=>(by cases z),fun _ z=>(by cases z),fun _ z=>(by cases z)⟩
  ·have two:(n2=0∨n2=1):=hu.elim (fun z=>.inl z.1) fun z=>.inr z.1
   rcases kk with rfl | rfl | rfl | rfl
   ·exact⟨_,zs1.2 _ _ (Wex.worth_by_taking ht) mt,fun z _=>(by cases z),fun _ z=>(by cases z),fun _ z=>(by cases z)⟩
   ·exact⟨_,zs0.2 _ _ (Wex.within_by_taking ht) mt,fun _ z=>(by cases z),fun z _=>(by cases z),fun _ z=>(by cases z)⟩
   ·exact⟨_,zsZ.2 _ _ ht mt,fun _ z=>(by cases z),fun _ z=>(by cases z),fun z _=>(by cases z)⟩
   ·rcases hu with⟨rfl,rfl⟩ | ⟨rfl,hu⟩
    ·exact⟨_,zqt.1 _ (Wex.mostX W hp h0),fun _ z=>(by cases z),fun _ z=>(by cases z),fun _ z=>(by cases z)⟩
    ·exact⟨_,zqt.2 _ _ (Wex.most_by_purse (Wex.webX W) hu) mp,fun _ z=>(by cases z),fun _ z=>(by cases z),fun _ z=>(by cases z)⟩
 ·rcases kk with rfl | rfl | rfl | rfl
  ·exact⟨_,zs1.2 _ _ (Wex.worth_by_taking (Wex.taking_by_web hw)) mw,fun z _=>(by cases z),fun _ z=>(by cases z),fun _ z=>(by cases z)⟩
  ·exact⟨_,zs0.2 _ _ (Wex.within_by_taking (Wex.taking_by_web hw)) mw,fun _ z=>(by cases z),fun z _=>(by cases z),fun _ z=>(by cases z)⟩
  ·exact⟨_,zsZ.2 _ _ (Wex.taking_by_web hw) mw,fun _ z=>(by cases z),fun _ z=>(by cases z),fun z _=>(by cases z)⟩
  ·exact⟨_,zqt.2 _ _ (Wex.most_by_web hw) mw,fun _ z=>(by cases z),fun _ z=>(by cases z),fun _ z=>(by cases z)⟩
theorem zmf {x:Str}:dNe (.str x) (.str x)=.ok (.bl false):=by unfold dNe;rw[if_pos ⟨rfl,rfl⟩,eqD];simp
theorem zCA {x y:Bool}(h:x=y):dNe (.bl x) (.bl y)=.ok (.bl false):=by subst h;cases x<;>rfl
theorem zBw {A B C N:Sl}{W T P:D}{L:Sl}(hL:L=.ow (.lst [W,T,P])∨L=.sh (.lst [W,T,P])){n0 n1 n2:Int}(h0:n0=0∨n0=1)(h1:n1=0∨n1=1)(h2:n2=0∨n2=1){u p:Fra}(lu:Low u)(u1:u.1.natAbs < B60)(u2:u.2.natAbs < B60)(p1:p.1.natAbs < B60)(p2:p.2.natAbs < B60){k:Nat}(hk:k < 4){fd:D}(t:zEM W T P n0 n1 n2 u p k fd){x8 x9 x10 x11 x12 x13:Sl} :
  ∃ y11 y12 y13,zhf [A,B,C,.sh (fr u),.sh (fr p),N,L,.sh (zh9 n0 n1 n2),.sh (.int (k:Int)),x9,x10,x11,x12,x13]=.ok (.nx [A,B,C,.sh (fr u),.sh (fr p),N,.sh (.lst [W,T,P]),.sh (zh9 n0 n1 n2),.sh (.int (k:Int)),.sh (.str (due n0 n1 n2 k)),.sh (.int 2),y11,y12,y13]):=by
 obtain⟨cl,g0,g1,g2⟩:=t
 have hd:=fun L=>zyH h0 h1 h2 hk (A:=A) (B:=B) (C:=C) (U:=.sh (fr u)) (P:=.sh (fr p)) (N:=N) (L:=L) (x10:=x10) (x11:=x11) (x12:=x12) (x13:=x13)
 unfold zzs at hd
 have h3:∀ (tg:Ev->D->Res Ev) (s:Ev->Res Fl) (ρ:Ev),zwp tg s ρ (.int 3)=zed tg s (DL.intsFrom 0 3) ρ:=fun tg s ρ=>zlN (k:=3) (by decide)
 have f1:dIx (fr u) (.int 0)=.ok (.int u.1):=rfl
 have f2:dIx (fr u) (.int 1)=.ok (.int u.2):=rfl
 have f3:dIx (fr p) (.int 0)=.ok (.int p.1):=rfl
 have f4:dIx (fr p) (.int 1)=.ok (.int p.2):=rfl
 have m1_:=zeS (zgr u1 p2)
 have m2_:=zeS (zgr p1 u2)
 have hflt:(!(flt p u))=decide (u.1*p.2<=p.1*u.2):=by
  unfold flt
  by_cases c:p.1*u.2 < u.1*p.2
  ·rw[decide_eq_true c,decide_eq_false (by omega)];rfl
  ·rw[decide_eq_false c,decide_eq_true (by omega)];rfl
 have hkk:k=0∨k=1∨k=2∨k=3:=by omega
 generalize hkI:(k:Int)=kI at *
 generalize hdu:due n0 n1 n2 k=du at *
 by_cases hz:du=""
 ·subst hz
  have es:dEq (.str "") (.str "")=.ok (.bl true):=rfl
  rcases hkk with rfl | rfl | rfl | rfl
  ·obtain rfl:kI=0:=by omega
   have hfd:=g0 rfl rfl
   subst hfd
   have hra:=zrJ lu
   refine⟨.sh (.str ""),.sh (fr u),.sh (.bl (decide (u.1*p.2<=p.1*u.2))),?_⟩
   unfold zhf
   rcases hL with rfl | rfl<;>open_line with[h3,hd,cl,zmf,es,zuf,hra,zD1,f1,f2,f3,f4,m1_,m2_,dLe]
  ·obtain rfl:kI=1:=by omega
   have hfd:=g1 rfl rfl
   subst hfd
   have hne:=zCA hflt
   refine⟨.sh (.str ""),.sh (.bl (!(flt p u))),.sh (.bl (decide (u.1*p.2<=p.1*u.2))),?_⟩
   unfold zhf
   rcases hL with rfl | rfl<;>open_line with[h3,hd,cl,zmf,es,hne,f1,f2,f3,f4,m1_,m2_,dLe]
  ·obtain rfl:kI=2:=by omega
   have hfd:=g2 rfl rfl
   subst hfd
   refine⟨.sh (.str ""),.sh .non,.sh (.bl (decide (u.1*p.2<=p.1*u.2))),?_⟩
   unfold zhf
   rcases hL with rfl | rfl<;>open_line with[h3,hd,cl,zmf,es,f1,f2,f3,f4,m1_,m2_,dLe]
  ·obtain rfl:kI=3:=by omega
   refine⟨.sh (.str ""),.sh fd,.sh (.bl (decide (u.1*p.2<=p.1*u.2))),?_⟩
   unfold zhf
   rcases hL with rfl | rfl<;>open_line with[h3,hd,cl,zmf,es,f1,f2,f3,f4,m1_,m2_,dLe]
 ·have es:dEq (.str du) (.str "")=.ok (.bl false):=by rw[zoE,beq_eq_false_iff_ne.mpr hz]
  refine⟨.sh (.str du),.sh fd,.sh (.bl (decide (u.1*p.2<=p.1*u.2))),?_⟩
  unfold zhf
  rcases hL with rfl | rfl<;>open_line with[h3,hd,cl,zmf,es,f1,f2,f3,f4,m1_,m2_,dLe]
def bit (v:Int):Int:=if v=0 then 1 else 0
theorem zkG {v:Int}:bit v=0∨bit v=1:=by unfold bit;split<;>simp
theorem zrM {v:Int}:zhF (.bl (v==0))=.ok (.int (bit v)):=by
 unfold bit
 by_cases h:v=0
 ·subst h;rfl
 ·rw[beq_eq_false_iff_ne.mpr h,if_neg h];rfl
theorem zBb {w:Web}(W:zft w)(v:Int):∃ d,dIx (.lst [.tup [.lst (w.ps.map D.str),.lst (w.ts.map zfx),.str w.fi],.non,.tup [.lst (w.ps.map D.str),.lst (w.ts.map zfx),.str w.fi,.str w.fi]]) (.int (v.fmod 3))=.ok d/\zaw [d]=.exn ⟨"NoWeb",[]⟩:=by
 have f:=zjf (a:=v) (b:=3) (by decide)
 have:v.fmod 3=0∨v.fmod 3=1∨v.fmod 3=2:=by omega
 rcases this with h | h | h
 ·exact⟨_,by rw[h];rfl,Wex.web_no_three⟩
 ·exact⟨_,by rw[h];rfl,Wex.web_no_non⟩
 ·exact⟨_,by rw[h];rfl,Wex.web_no_last W⟩
theorem zth {w:Web}{ks:List Nat}(T:zjg w ks)(hlen:ks.length<=14){A:List Sl}:zin 1 [0] (zcx 0) mYes (zab (zab (zab (zaf 1) (dC (.int 1)) dIx) (zaf 0) dIx) (dC (.int 4)) dIx) (.sh (zcg w)::A) (ks.map fun(k:Nat)=>D.int (k:Int))=.ok (.lst ((ks.map (wth w)).map fr)):=by
 rw[zi4 (F:=fun d=>match d with | .int v=>fr (wth w v.toNat) | d=>d) (by rw[List.length_map];omega)]
 ·rw[List.map_map,List.map_map];rfl
 ·intro d hd
  obtain⟨k,hk,rfl⟩:=List.mem_map.mp hd
  obtain⟨t,x,h1,h2⟩:=T.wo k hk
  refine⟨[.sh (.int (k:Int)),.sh (zcg w)],rfl,rfl,?_⟩
  have hix:=zpw h1
  rw[show zfx t=.tup [.str t.a,.str t.b,.str t.w,fr t.l,zby t.o] from rfl,h2] at hix
  rw[show zcg w=.tup [.lst (w.ps.map D.str),.lst (w.ts.map zfx),.str w.fi,.str w.la] from rfl]
  open_line with[hix,zby,Int.toNat_natCast,zuG h1 h2]
def zn9:Ev->Res Fl:=(zap (zl6 (dC (.int 4)) (zcx 8)
 zhf)
 (zap (zcf (dOr (zab (zab (zaf 5) (dC (.int 1)) dIx) (dC (.int 1)) dEq) (zab (zab (zaf 6) (dC (.int 1)) dIx) (zaf 1) dEq)))
 zal))
theorem zdM:zgy=  (zap (za7 3 (zan (zad (zd6 1 [0] (zqZ (zaf 1)) (zcx 0) mYes (zab (zab (zab (zaf 1) (dC (.int 1)) dIx) (zaf 0) dIx) (dC (.int 4)) dIx)) zau) zfP))
 (zap (za7 4 (zan (zad (zij (zaf 2) (zcb (dC (.int 3))) zec) (zad (zaf 3) zau)) zbm))
 (zap (za7 5 (zd6 1 [] (zqZ (zij (zaf 2) zec (zcb (dC (.int 3))))) (zcx 0) mYes (zan (zad (zab (zaf 0) (dC (.int 0)) dEq) zau) (m1 zhF))))
 (zap (zsm 6 (zan (zad (zaf 0) (zad (zan (zad (zaf 1) zau) (m1 zqo)) (zad (zaf 4) zau))) zc3))
 (zap (sIf (zab (zab (zaf 5) (dC (.int 0)) dIx) (dC (.int 1)) dEq)
 (zap (zze 6 (zab (zan (zad (zij (zaf 0) zec (zcb (dC (.int 3)))) (zad (dC (.non)) (zad (zan (zad (zab (zaf 0) (dC (.int 0)) dIx) (zad (zab (zaf 0) (dC (.int 1)) dIx) (zad (zab (zaf 0) (dC (.int 2)) dIx) (zad (zab (zaf 0) (dC (.int 2)) dIx) zau)))) zjO) zau))) zc3) (zab (zab (zaf 2) (dC (.int 4)) dIx) (dC (.int 3)) zfw) dIx) (dC (.int 0)))
 zal)
 zal)
 (zap (sIf (zab (zab (zaf 5) (dC (.int 1)) dIx) (dC (.int 1)) dEq)
 (zap (zze 6 (zan (zad (zaf 0) (zad (zaf 1) (zad (zab (zaf 2) (dC (.int 4)) dIx) zau))) zb4) (dC (.int 1)))
 zal)
 zal)
 (zap (sIf (zab (zab (zaf 5) (dC (.int 2)) dIx) (dC (.int 1)) dEq)
 (zap (zze 6 (zan (zad (zab (zaf 2) (dC (.int 4)) dIx) zau) zcU) (dC (.int 2)))
 zal)
 zal)
 (zap (za7 7 (zan (zad (zan (zad (zab (zaf 5) (dC (.int 0)) dIx) (zad (zab (zaf 5) (dC (.int 1)) dIx) (zad (dC (.int 0)) zau))) zjO) (zad (zan (zad (zab (zaf 5) (dC (.int 0)) dIx) (zad (zab (zaf 5) (dC (.int 1)) dIx) (zad (zab (zaf 5) (dC (.int 2)) dIx) zau))) zjO) zau)) zc3))
 (zap (za7 7 (zab (zaf 7) (zan (zad (zan (zad (zab (zaf 5) (dC (.int 0)) dIx) (zad (zab (zaf 5) (dC (.int 1)) dIx) (zad (dC (.int 0)) zau))) zjO) (zad (zan (zad (zab (zaf 5) (dC (.int 0)) dIx) (zad (dC (.int 0)) (zad (zab (zaf 5) (dC (.int 2)) dIx) zau))) zjO) zau)) zc3) zbx))
 zn9))))))))):=rfl
theorem zxG {w:Web}{ks:List Nat}(W:zft w)(T:zjg w ks){v0 v1 v2 v3 v4 v5 v6 v7:Int}(b3:0<=v3)(b6:0<=v6/\v6 < (N60:Int)-1)(b7:0<=v7/\v7 < (N60:Int)-1):zbl [zcg w,zb8 ks,.lst [.int v0,.int v1,.int v2,.int v3,.int v4,.int v5,.int v6,.int v7]]=.ok (.bl true):=by
 have h14:=W.t14
 have hlen:ks.length<=14:=Nat.le_trans (zse T.up T.lt) h14
 obtain⟨hL,k1,k2⟩:=znn W T
 have hsum:=zBQ (xs:=ks.map (wth w)) (by rw[List.length_map];omega) (fun x hx=>by
  obtain⟨k,hk,rfl⟩:=List.mem_map.mp hx
  exact(T.fin W k hk).1)
 have hsum:zfP [.lst ((ks.map (wth w)).map fr)]=.ok (fr (zfu w ks)):=hsum
 have hnn:=ztg (xs:=ks.map (wth w)) (fun x hx=>by
  obtain⟨k,hk,rfl⟩:=List.mem_map.mp hx
  have:=T.fin W k hk
  exact⟨by omega,this.1.q1⟩)
 have hu0:0<=(zfu w ks).1:=ziT hnn.1 hnn.2
 obtain⟨p,hp,fp,lp⟩:=zra (v0:=v3) (v1:=v4) (v2:=v5) (v3:=v6) (v4:=v7) hL hu0 b3 b6 b7
 obtain⟨wd,hwd,hwn⟩:=zBb W v4
 obtain⟨td,htd,htn⟩:=zvN W T v4
 obtain⟨pd,hpd,hpn⟩:=zx4 (k:=v4)
 have fin:∀ {W' T' P':D},((bit v0=0/\W'=zcg w)∨(bit v0=1/\zaw [W']=.exn ⟨"NoWeb",[]⟩))->((bit v1=0/\T'=zb8 ks)∨(bit v1=1/\NT w T'))->((bit v2=0/\P'=fr p)∨(bit v2=1/\zaz [P']=.exn ⟨"NoPurse",[]⟩)) ->
   ∀ A B C N x8 x9 x10 x11 x12 x13,∃ y8 y9 y10 y11 y12 y13,zed (zcx 8) zhf (DL.intsFrom 0 4) [A,B,C,.sh (fr (zfu w ks)),.sh (fr p),N,.ow (.lst [W',T',P']),.sh (zh9 (bit v0) (bit v1) (bit v2)),x8,x9,x10,x11,x12,x13]=.ok (.nx [A,B,C,.sh (fr (zfu w ks)),.sh (fr p),N,.sh (.lst [W',T',P']),.sh (zh9 (bit v0) (bit v1) (bit v2)),y8,y9,y10,y11,y12,y13]):=by
  intro W' T' P' hw ht hu A B C N x8 x9 x10 x11 x12 x13
  obtain⟨ρ',hl,L,y8,y9,y10,y11,y12,y13,hLL,hfin,rfl⟩:=zrR (i:=8) (n:=4) (body:=zhf) (ρ:=[A,B,C,.sh (fr (zfu w ks)),.sh (fr p),N,.ow (.lst [W',T',P']),.sh (zh9 (bit v0) (bit v1) (bit v2)),x8,x9,x10,x11,x12,x13])
   (fun k ρ=>∃ L y8 y9 y10 y11 y12 y13,(L=.ow (.lst [W',T',P'])∨L=.sh (.lst [W',T',P']))/\(0 < k->L=.sh (.lst [W',T',P']))/\ρ=[A,B,C,.sh (fr (zfu w ks)),.sh (fr p),N,L,.sh (zh9 (bit v0) (bit v1) (bit v2)),y8,y9,y10,y11,y12,y13]) (by
    rintro k hk ρ ⟨L,y8,y9,y10,y11,y12,y13,hLL,_,rfl⟩
    obtain⟨fd,t⟩:=zxj W T fp lp hw ht hu hk
    obtain⟨z11,z12,z13,hb⟩:=zBw (A:=A) (B:=B) (C:=C) (N:=N) hLL zkG zkG zkG hL (Nat.lt_of_lt_of_le k1 ziI) (Nat.lt_of_lt_of_le k2 ziI) (Nat.lt_of_lt_of_le fp.pN zd9) (Nat.lt_of_lt_of_le fp.qN zd9) hk t (x8:=y8) (x9:=y9) (x10:=y10) (x11:=y11) (x12:=y12) (x13:=y13)
    exact⟨_,hb,_,_,_,_,_,_,_,.inr rfl,fun _=>rfl,rfl⟩) ⟨_,_,_,_,_,_,_,.inl rfl,fun h=>absurd h (by decide),rfl⟩
  rw[hfin (by decide)] at hl
  exact⟨_,_,_,_,_,_,hl⟩
 have hcw:=zth T hlen (A:=[.sh (zb8 ks),.sh (.lst [.int v0,.int v1,.int v2,.int v3,.int v4,.int v5,.int v6,.int v7]),.no,.no,.no,.no,.no,.no,.no,.no,.no,.no,.no])
 have c3:zjJ [D.int v0,.int v1,.int v2,.int v3,.int v4,.int v5,.int v6,.int v7] (some 3) none=[.int v3,.int v4,.int v5,.int v6,.int v7]:=rfl
 have c4:zjJ [D.int v0,.int v1,.int v2,.int v3,.int v4,.int v5,.int v6,.int v7] none (some 3)=[.int v0,.int v1,.int v2]:=rfl
 have hcb:∀ ρ:Ev,zin 1 [] (zcx 0) mYes (zan (zad (zab (zaf 0) (dC (.int 0)) dEq) zau) (m1 zhF)) ρ [.int v0,.int v1,.int v2]=.ok (.lst [.int (bit v0),.int (bit v1),.int (bit v2)]):=fun ρ=>by
  rw[zi4 (F:=fun d=>match d with | .int v=>.int (bit v) | d=>d) (by simp)]
  ·rfl
  ·intro d hd
   simp only[List.mem_cons,List.not_mem_nil,or_false] at hd
   rcases hd with rfl | rfl | rfl
   ·exact⟨[.sh (.int v0)],rfl,rfl,by open_line with[zrM]⟩
   ·exact⟨[.sh (.int v1)],rfl,rfl,by open_line with[zrM]⟩
   ·exact⟨[.sh (.int v2)],rfl,rfl,by open_line with[zrM]⟩
 have h4:∀ (tg:Ev->D->Res Ev) (s:Ev->Res Fl) (ρ:Ev),zwp tg s ρ (.int 4)=zed tg s (DL.intsFrom 0 4) ρ:=fun tg s ρ=>zlN (k:=4) (by decide)
 have hself:=Wex.nums_self (t:=ks)
 have i0:dIx (zcg w) (.int 0)=.ok (.lst (w.ps.map D.str)):=rfl
 have i1:dIx (zcg w) (.int 1)=.ok (.lst (w.ts.map zfx)):=rfl
 have i2:dIx (zcg w) (.int 2)=.ok (.str w.fi):=rfl
 have sl3:zzd (zcg w) none (some 3)=.ok (.tup [.lst (w.ps.map D.str),.lst (w.ts.map zfx),.str w.fi]):=(ev_slT rfl).trans rfl
 have hli:zqo (zb8 ks)=.ok (zb8 ks):=rfl
 have hend:∀ {W' T' P':D},((bit v0=0/\W'=zcg w)∨(bit v0=1/\zaw [W']=.exn ⟨"NoWeb",[]⟩))->((bit v1=0/\T'=zb8 ks)∨(bit v1=1/\NT w T'))->((bit v2=0/\P'=fr p)∨(bit v2=1/\zaz [P']=.exn ⟨"NoPurse",[]⟩)) ->
   zn9 [.sh (zcg w),.sh (zb8 ks),.sh (.lst [.int v0,.int v1,.int v2,.int v3,.int v4,.int v5,.int v6,.int v7]),.sh (fr (zfu w ks)),.sh (fr p),.sh (.lst [.int (bit v0),.int (bit v1),.int (bit v2)]),.ow (.lst [W',T',P']),.sh (zh9 (bit v0) (bit v1) (bit v2)),.no,.no,.no,.no,.no,.no]=.ok (.rt (.bl true)):=by
  intro W' T' P' hw ht hu
  obtain⟨y8,y9,y10,y11,y12,y13,hl⟩:=fin hw ht hu (.sh (zcg w)) (.sh (zb8 ks)) (.sh (.lst [.int v0,.int v1,.int v2,.int v3,.int v4,.int v5,.int v6,.int v7])) (.sh (.lst [.int (bit v0),.int (bit v1),.int (bit v2)])) .no .no .no .no .no .no
  unfold zn9
  rcases ht with⟨e,rfl⟩ | ⟨e,_⟩
  ·have e':(bit v1==1)=false:=by rw[e];rfl
   open_line with[h4,hl,e',hself]
  ·have e':(bit v1==1)=true:=by rw[e];rfl
   open_line with[h4,hl,e']
 have hsrc:zz5 (zb8 ks)=.ok (ks.map fun(k:Nat)=>D.int (k:Int)):=rfl
 have hdues:∀ a b c d:D,zbx (.lst [a,b]) (.lst [c,d])=.ok (.lst [a,b,c,d]):=fun _ _ _ _=>rfl
 rcases zkG (v:=v0) with e0 | e0<;>rcases zkG (v:=v1) with e1 | e1<;>rcases zkG (v:=v2) with e2 | e2
 ·have H:=hend (.inl ⟨e0,rfl⟩) (.inl ⟨e1,rfl⟩) (.inl ⟨e2,rfl⟩)
  unfold zh9 at H
  have q0:(bit v0==1)=false:=by rw[e0];rfl
  have q1:(bit v1==1)=false:=by rw[e1];rfl
  have q2:(bit v2==1)=false:=by rw[e2];rfl
  open_line with[zbl,zdM,hsrc,hcw,hsum,c3,hp,c4,hcb,hli,q0,q1,q2,hdues,H]
 ·have H:=hend (.inl ⟨e0,rfl⟩) (.inl ⟨e1,rfl⟩) (.inr ⟨e2,hpn⟩)
  unfold zh9 at H
  have q0:(bit v0==1)=false:=by rw[e0];rfl
  have q1:(bit v1==1)=false:=by rw[e1];rfl
  have q2:(bit v2==1)=true:=by rw[e2];rfl
  open_line with[zbl,zdM,hsrc,hcw,hsum,c3,hp,c4,hcb,hli,q0,q1,q2,hdues,hpd,H]
 ·have H:=hend (.inl ⟨e0,rfl⟩) (.inr ⟨e1,htn⟩) (.inl ⟨e2,rfl⟩)
  unfold zh9 at H
  have q0:(bit v0==1)=false:=by rw[e0];rfl
  have q1:(bit v1==1)=true:=by rw[e1];rfl
  have q2:(bit v2==1)=false:=by rw[e2];rfl
  open_line with[zbl,zdM,hsrc,hcw,hsum,c3,hp,c4,hcb,hli,q0,q1,q2,hdues,htd,H]
 ·have H:=hend (.inl ⟨e0,rfl⟩) (.inr ⟨e1,htn⟩) (.inr ⟨e2,hpn⟩)
  unfold zh9 at H
  have q0:(bit v0==1)=false:=by rw[e0];rfl
  have q1:(bit v1==1)=true:=by rw[e1];rfl
  have q2:(bit v2==1)=true:=by rw[e2];rfl
  open_line with[zbl,zdM,hsrc,hcw,hsum,c3,hp,c4,hcb,hli,q0,q1,q2,hdues,htd,hpd,H]
 ·have H:=hend (.inr ⟨e0,hwn⟩) (.inl ⟨e1,rfl⟩) (.inl ⟨e2,rfl⟩)
  unfold zh9 at H
  have q0:(bit v0==1)=true:=by rw[e0];rfl
  have q1:(bit v1==1)=false:=by rw[e1];rfl
  have q2:(bit v2==1)=false:=by rw[e2];rfl
  open_line with[zbl,zdM,hsrc,hcw,hsum,c3,hp,c4,hcb,hli,q0,q1,q2,hdues,sl3,i0,i1,i2,show((3:Int)==0)=false from rfl,hwd,H]
 ·have H:=hend (.inr ⟨e0,hwn⟩) (.inl ⟨e1,rfl⟩) (.inr ⟨e2,hpn⟩)
  unfold zh9 at H
  have q0:(bit v0==1)=true:=by rw[e0];rfl
  have q1:(bit v1==1)=false:=by rw[e1];rfl
  have q2:(bit v2==1)=true:=by rw[e2];rfl
  open_line with[zbl,zdM,hsrc,hcw,hsum,c3,hp,c4,hcb,hli,q0,q1,q2,hdues,sl3,i0,i1,i2,show((3:Int)==0)=false from rfl,hwd,hpd,H]
 ·have H:=hend (.inr ⟨e0,hwn⟩) (.inr ⟨e1,htn⟩) (.inl ⟨e2,rfl⟩)
  unfold zh9 at H
  have q0:(bit v0==1)=true:=by rw[e0];rfl
  have q1:(bit v1==1)=true:=by rw[e1];rfl
  have q2:(bit v2==1)=false:=by rw[e2];rfl
  open_line with[zbl,zdM,hsrc,hcw,hsum,c3,hp,c4,hcb,hli,q0,q1,q2,hdues,sl3,i0,i1,i2,show((3:Int)==0)=false from rfl,hwd,htd,H]
 ·have H:=hend (.inr ⟨e0,hwn⟩) (.inr ⟨e1,htn⟩) (.inr ⟨e2,hpn⟩)
  unfold zh9 at H
  have q0:(bit v0==1)=true:=by rw[e0];rfl
  have q1:(bit v1==1)=true:=by rw[e1];rfl
  have q2:(bit v2==1)=true:=by rw[e2];rfl
  open_line with[zbl,zdM,hsrc,hcw,hsum,c3,hp,c4,hcb,hli,q0,q1,q2,hdues,sl3,i0,i1,i2,show((3:Int)==0)=false from rfl,hwd,htd,hpd,H]
def zmi:Ev->Res Fl:=(zap (za7 5 (zan (zad (dC (.int 8)) (zad (zab (zab (dC (.int 10)) (dC (.int 60)) zni) (dC (.int 1)) znK) (zad (zab (zab (dC (.int 10)) (dC (.int 60)) zni) (dC (.int 1)) znK) zau))) zc3))
 (zap (za7 6 (zan (zad (zaf 4) (zad (zab (zab (zan (zad (dC (.int 4)) (zad (dC (.int 4)) (zad (dC (.int 4)) (zad (dC (.int 8)) (zad (dC (.int 156)) zau))))) zc3) (zaf 5) zbx) (zAe (zan (zad (dC (.int 2)) zau) zc3) (dC (.int 14))) zbx) zau)) zaU))
 (zap (za7 7 (zd6 1 [3,6] (zpz (zan (zad (zaf 3) zau) (m1 zhE))) (zcx 0) (zab (zab (zaf 2) (zab (dC (.int 8)) (zaf 0) zbx) dIx) (dC (.int 1)) dEq) (zab (zaf 1) (zaf 0) dIx)))
 (zap (sIf (dOr (zdN (zan (zad (zaf 1) (zad (zaf 7) (zad (zij (zaf 6) zec (zcb (dC (.int 8)))) zau))) zbl)) (zab (zaf 1) (zaf 2) dNe))
 (zap (zcf (dC (.bl false)))
 zal)
 zal)
 zal))))
theorem zn3 {w:Web}:zbE 40 (zcg w)=true:=by
 have h1:zbE 39 (.lst (w.ps.map D.str))=true:=zl1
 have h2:zbE 39 (.lst (w.ts.map zfx))=true:=List.all_eq_true.mpr fun d hd=>by
  obtain⟨t,_,rfl⟩:=List.mem_map.mp hd
  exact zxB
 show(zbE 39 (.lst (w.ps.map D.str))&&(zbE 39 (.lst (w.ts.map zfx))&&(zbE 39 (.str w.fi)&&(zbE 39 (.str w.la)&&true))))=true
 rw[h1,h2];rfl
theorem zCz {w:Web}:dNe (zcg w) (zcg w)=.ok (.bl false):=by
 unfold dNe
 rw[if_pos ⟨zn3,zn3⟩,zj7 40 _ zn3];rfl
def fre (w:Web):List Nat:=(List.range w.ts.length).filter (isW w)
theorem zBC {w:Web}{q:Nat->Bool}:zjg w (((List.range (fre w).length).filter q).map fun k=>(fre w).getD k 0):=by
 have hs:(((List.range (fre w).length).filter q).map fun k=>(fre w).getD k 0).Sublist (fre w):=by
  have h1:=(List.filter_sublist (l:=List.range (fre w).length) (p:=q)).map (fun k=>(fre w).getD k 0)
  have h2:((List.range (fre w).length).map fun k=>(fre w).getD k 0)=fre w:=by
   apply List.ext_getElem (by simp)
   intro i h1 h2
   simp [List.getD_eq_getElem?_getD,h2]
  rw[h2] at h1
  exact h1
 refine⟨?_,fun k hk=>?_⟩
 ·refine List.Pairwise.sublist hs ?_
  unfold fre
  exact List.Pairwise.sublist List.filter_sublist List.pairwise_lt_range
 ·have hm:=hs.subset hk
  exact zAQ.mp (List.mem_filter.mp hm).2
theorem zCv {w:Web}(W:zft w){S:D}{c:Int}{x5 x6 x7:Sl}:∃ y5 y6 y7,zmi [.sh S,.sh (zcg w),.sh (zcg w),.sh (.lst ((fre w).map nI)),.sh (.int c),x5,x6,x7]=.ok (.nx [.sh S,.sh (zcg w),.sh (zcg w),.sh (.lst ((fre w).map nI)),.sh (.int c),y5,y6,y7]):=by
 have h14:=W.t14
 have hfl:(fre w).length<=14:=by unfold fre;exact Nat.le_trans (List.length_filter_le _ _) (by simpa using h14)
 obtain⟨vs,hd,V⟩:=zlQ c [4,4,4,8,156,8,(N60:Int)-1,(N60:Int)-1,2,2,2,2,2,2,2,2,2,2,2,2,2,2] (by decide) (by decide)
 obtain⟨v0,v1,v2,v3,v4,v5,v6,v7,r,rfl⟩:∃ a b c d e f g h r,vs=a::b::c::d::e::f::g::h::r:=by
  have:=V.len
  match vs,this with
  | a::b::c::d::e::f::g::h::r,_=>exact⟨a,b,c,d,e,f,g,h,r,rfl⟩
 have hlr:r.length=14:=by have:=V.len;simpa using this
 have b3:=V.bnd 3 v3 8 rfl rfl
 have b6:=V.bnd 6 v6 _ rfl rfl
 have b7:=V.bnd 7 v7 _ rfl rfl
 have hr:=zxG (v0:=v0) (v1:=v1) (v2:=v2) (v4:=v4) (v5:=v5) W (zBC (w:=w) (q:=fun k=>r.getD k 0==1)) b3.1 b6 b7
 have hlen:(((List.range (fre w).length).filter (fun k=>r.getD k 0==1)).map fun k=>(fre w).getD k 0).length<=14:=by
  rw[List.length_map];exact Nat.le_trans (List.length_filter_le _ _) (by simpa using hfl)
 have hc:∀ A:Ev,A[3]?=some (.sh (.lst ((fre w).map nI)))->A[6]?=some (.sh (.lst ((v0::v1::v2::v3::v4::v5::v6::v7::r).map D.int)))->zin 1 [3,6] (zcx 0) (zab (zab (zaf 2) (zab (dC (.int 8)) (zaf 0) zbx) dIx) (dC (.int 1)) dEq) (zab (zaf 1) (zaf 0) dIx) A (DL.intsFrom 0 (fre w).length)=.ok (zb8 (((List.range (fre w).length).filter (fun k=>r.getD k 0==1)).map fun k=>(fre w).getD k 0)):=fun A h3 h6=>by
  have hnum:zb8 (((List.range (fre w).length).filter (fun k=>r.getD k 0==1)).map fun k=>(fre w).getD k 0)=.lst (((List.range (fre w).length).filter (fun k=>r.getD k 0==1)).map fun k=>nI ((fre w).getD k 0)):=by
   unfold zb8;rw[List.map_map];rfl
  rw[hnum]
  refine Wex.comp_rng (by omega) fun k hk=>?_
  have hb:zcx 0 (zeT 1 [3,6] A) (.int (k:Int))=.ok [.sh (.int (k:Int)),.sh (.lst ((fre w).map nI)),.sh (.lst ((v0::v1::v2::v3::v4::v5::v6::v7::r).map D.int))]:=by
   unfold zeT
   simp only[List.map_cons,List.map_nil,h3,h6]
   rfl
  refine⟨_,hb,?_,fun _=>?_⟩
  ·have hk8:k < r.length:=by omega
   have hix:dIx (.lst ((v0::v1::v2::v3::v4::v5::v6::v7::r).map D.int)) (.int (8+(k:Int)))=.ok (.int (r.getD k 0)):=by
    rw[show(8+(k:Int))=((8+k:Nat):Int) by omega]
    refine zh4 ?_
    rw[List.getElem?_map,show 8+k=k+1+1+1+1+1+1+1+1 by omega]
    simp only[List.getElem?_cons_succ]
    rw[List.getElem?_eq_getElem hk8,List.getD_eq_getElem?_getD,List.getElem?_eq_getElem hk8]
    rfl
   generalize D.lst ((v0::v1::v2::v3::v4::v5::v6::v7::r).map D.int)=Q at hix ⊢
   open_line with[hix]
  ·have hix:dIx (.lst ((fre w).map nI)) (.int (k:Int))=.ok (nI ((fre w).getD k 0)):=zh4 (by
    rw[List.getElem?_map,List.getElem?_eq_getElem hk,List.getD_eq_getElem?_getD,List.getElem?_eq_getElem hk];rfl)
   open_line with[hix]
 have hcut:zjJ ((v0::v1::v2::v3::v4::v5::v6::v7::r).map D.int) none (some 8)=[.int v0,.int v1,.int v2,.int v3,.int v4,.int v5,.int v6,.int v7]:=by
  rw[show(some (8:Int))=some ((8:Nat):Int) from rfl,zzB (by simp)]
  rfl
 have hsrc:=Wex.srcR1_nat (k:=(fre w).length) (by omega)
 have hd':zaU [.int c,.lst [.int 4,.int 4,.int 4,.int 8,.int 156,.int 8,.int ((N60:Int)-1),.int ((N60:Int)-1),.int 2,.int 2,.int 2,.int 2,.int 2,.int 2,.int 2,.int 2,.int 2,.int 2,.int 2,.int 2,.int 2,.int 2]]=.ok (.lst ((v0::v1::v2::v3::v4::v5::v6::v7::r).map D.int)):=hd
 generalize hQ:(v0::v1::v2::v3::v4::v5::v6::v7::r).map D.int=Q at *
 generalize hK:zb8 (((List.range (fre w).length).filter (fun k=>r.getD k 0==1)).map fun k=>(fre w).getD k 0)=K at *
 have hc':=hc [.sh S,.sh (zcg w),.sh (zcg w),.sh (.lst ((fre w).map nI)),.sh (.int c),.sh (.lst [.int 8,.int ((N60:Int)-1),.int ((N60:Int)-1)]),.sh (.lst Q),x7] rfl rfl
 refine⟨.sh (.lst [.int 8,.int ((N60:Int)-1),.int ((N60:Int)-1)]),.sh (.lst Q),.sh K,?_⟩
 unfold zmi
 open_line with[znK,hd',List.length_map,Wex.ev_srcR1,hsrc,hc',hcut,hr,zCz]
theorem zye (ns:List Int)(hn:ns.length<=63):zvS [.lst (ns.map D.int)]=.ok (.bl true):=by
 obtain⟨w,hw,W⟩:=zuJ (ns:=ns) (by omega) (at_:=0) (by decide) (by decide)
 have h14:=W.t14
 have hsrc:∃ es:List Int,∀ x1 x2 x3 x4 x5 x6 x7:Sl,(zab (zij (zaf 0) (zcb (dC (.int 15))) (zcb (dC (.int 63)))) (zan (zad (dC (.int 15)) zau) zc3) zbx) [.sh (.lst (ns.map D.int)),x1,x2,x3,x4,x5,x6,x7]=.ok (.lst (es.map D.int)):=by
  have hl:∀ xs:List D,xs.length<=63->decide (xs.length+([D.int 15]:List D).length<=1000)=true:=fun xs h=>decide_eq_true (by simp;omega)
  refine⟨(ns.drop (HT.sIx (ns.map D.int).length 0 (some 15))).take (HT.sIx (ns.map D.int).length (ns.map D.int).length (some 63)-HT.sIx (ns.map D.int).length 0 (some 15))++[15],fun x1 x2 x3 x4 x5 x6 x7=>?_⟩
  have e:zjJ (ns.map D.int) (some 15) (some 63)=((ns.drop (HT.sIx (ns.map D.int).length 0 (some 15))).take (HT.sIx (ns.map D.int).length (ns.map D.int).length (some 63)-HT.sIx (ns.map D.int).length 0 (some 15))).map D.int:=by
   unfold zjJ;rw[List.map_take,List.map_drop]
  open_line with[e]
  rw[ev_addL (hl _ (by rw[List.length_map];exact Nat.le_trans (List.length_take_le' ..) (by rw[List.length_drop];omega))),List.map_append]
  rfl
 obtain⟨es,hes⟩:=hsrc
 obtain⟨ρ',hl,_⟩:=zwo (tg:=zcx 4) (body:=zmi) (fun ρ=>∃ x4 x5 x6 x7,ρ=[.sh (.lst (ns.map D.int)),.sh (zcg w),.sh (zcg w),.sh (.lst ((fre w).map nI)),x4,x5,x6,x7]) (ds:=es.map D.int) (fun d hd ρ ⟨x4,x5,x6,x7,hρ⟩=>by
  subst hρ
  obtain⟨c,_,rfl⟩:=List.mem_map.mp hd
  obtain⟨y5,y6,y7,h⟩:=zCv W (S:=.lst (ns.map D.int)) (c:=c) (x5:=x5) (x6:=x6) (x7:=x7)
  exact⟨_,_,rfl,h,_,_,_,_,rfl⟩) [.sh (.lst (ns.map D.int)),.sh (zcg w),.sh (zcg w),.sh (.lst ((fre w).map nI)),.no,.no,.no,.no] ⟨_,_,_,_,rfl⟩
 have hf:=(zzt (tg:=zcx 4) (s:=zmi) (hes (.sh (zcg w)) (.sh (zcg w)) (.sh (.lst ((fre w).map nI))) .no .no .no .no)).trans hl
 unfold zmi at hf
 have hcf:zin 1 [1] (zcx 0) (zab (zab (zab (zab (zaf 1) (dC (.int 1)) dIx) (zaf 0) dIx) (dC (.int 4)) dIx) (dC (.non)) zhL) (zaf 0) [.sh (.lst (ns.map D.int)),.sh (zcg w),.sh (zcg w),.no,.no,.no,.no,.no] (DL.intsFrom 0 w.ts.length)=.ok (.lst ((fre w).map nI)) :=
  Wex.comp_rng (by omega) fun k hk=>by
   obtain⟨t,_,hW,hix⟩:=Wex.isW_at hk
   refine⟨[.sh (.int (k:Int)),.sh (zcg w)],rfl,?_,fun _=>rfl⟩
   rw[show zcg w=.tup [.lst (w.ps.map D.str),.lst (w.ts.map zfx),.str w.fi,.str w.la] from rfl,hW]
   cases ho:t.o with
   | none=>rw[ho] at hix;open_line with[hix,zby];rfl
   | some v=>rw[ho] at hix;open_line with[hix,zby,fr,zwm];rfl
 have hsr:=Wex.srcR1_nat (k:=w.ts.length) (by omega)
 have i0:dIx (zcg w) (.int 0)=.ok (.lst (w.ps.map D.str)):=rfl
 have i1:dIx (zcg w) (.int 1)=.ok (.lst (w.ts.map zfx)):=rfl
 have i2:dIx (zcg w) (.int 2)=.ok (.str w.fi):=rfl
 have i3:dIx (zcg w) (.int 3)=.ok (.str w.la):=rfl
 have hco:D.tup [.lst (w.ps.map D.str),.lst (w.ts.map zfx),.str w.fi,.str w.la]=zcg w:=rfl
 open_line with[zvS,zBc,zEd,hw,i0,i1,i2,i3,hco,List.length_map,Wex.ev_srcR1,hsr,hcf]
 open_line with[] seeing hf
 rw[hf]
 open_line with[]
end K08
namespace K08
open PySem L2 DL
def top (i:Nat):Stmt:=PySem.Challenge.pw_farthestcut_k08_worths_within.main.body.getD i (.Pass ⟨0,0,0,0⟩)
abbrev zcD:Stmt:=top 73
abbrev zdF:Stmt:=top 74
abbrev zdE:Stmt:=top 79
abbrev zcC:Stmt:=top 76
abbrev zcZ:Stmt:=top 77
abbrev zcn:Stmt:=top 80
abbrev zfM:Stmt:=top 81
abbrev zfL:Stmt:=top 82
abbrev zfN:Stmt:=top 85
abbrev zdC:Stmt:=top 86
abbrev zb3:Stmt:=top 87
abbrev zcl:Stmt:=top 88
abbrev zg1:Stmt:=top 31
abbrev zb1:Stmt:=top 57
abbrev zfH:Stmt:=top 29
abbrev zb2:Stmt:=top 25
abbrev zfI:Stmt:=top 30
abbrev zej:Stmt:=top 53
abbrev zfG:Stmt:=top 54
abbrev ziQ:Stmt:=top 52
abbrev zcB:Stmt:=top 58
abbrev zfJ:Stmt:=top 59
abbrev zcY:Stmt:=top 56
abbrev zck:Stmt:=top 55
abbrev zb0:Stmt:=top 68
abbrev zkj:Stmt:=top 34
abbrev znp:Stmt:=top 35
abbrev ziP:Stmt:=top 37
abbrev zfE:Stmt:=top 69
abbrev zcj:Stmt:=top 67
abbrev zg2:Stmt:=top 36
abbrev zei:Stmt:=top 70
abbrev zci:Stmt:=top 62
abbrev zfK:Stmt:=top 63
abbrev zcz:Stmt:=top 61
abbrev zfF:Stmt:=top 66
abbrev zcA:Stmt:=top 71
abbrev zdD:Stmt:=top 83
abbrev zdG:Stmt:=top 84
abbrev zdA:Stmt:=top 75
abbrev zcm:Stmt:=top 78
abbrev zdB:Stmt:=top 89
abbrev zlt:Stmt:=top 90
theorem zl5:zaD ["_law_script","_law_k"] ["_law_script","_law_k"] (defScope zcD):=⟨rfl,rfl,rfl,by decide +kernel,rfl,by decide +kernel,by decide +kernel⟩
theorem zb6:zaD ["_law_cell","_law_sizes","_law_number","_law_left","_law_found","_law_k","_law_one"] ["_law_cell","_law_sizes"] (defScope zdF):=⟨rfl,rfl,rfl,by decide +kernel,rfl,by decide +kernel,by decide +kernel⟩
theorem zbf:zaD ["_law_cell","_law_many","_law_letters","_law_digits","_law_by","_law_base","_law_found","_law_k","_law_size","_law_at","_law_sign"] ["_law_cell","_law_many"] (defScope zdE):=⟨rfl,rfl,rfl,by decide +kernel,rfl,by decide +kernel,by decide +kernel⟩
theorem zhS:zaD ["_law_one","_law_other_here"] ["_law_one","_law_other_here"] (defScope zcC):=⟨rfl,rfl,rfl,by decide +kernel,rfl,by decide +kernel,by decide +kernel⟩
theorem zjk:zaD ["_law_top","_law_bottom","_law_share"] ["_law_top","_law_bottom"] (defScope zcZ):=⟨rfl,rfl,rfl,by decide +kernel,rfl,by decide +kernel,by decide +kernel⟩
theorem zdj:zaD ["_law_digits","_law_least","_law_way","_law_above","_law_below"] ["_law_digits","_law_least"] (defScope zcn):=⟨rfl,rfl,rfl,by decide +kernel,rfl,by decide +kernel,by decide +kernel⟩
theorem zcP:zaD ["_law_places","_law_cell","_law_bound","_law_big","_law_digits","_law_worth","_law_one","_law_other_here","_law_word"] ["_law_places","_law_cell","_law_bound"] (defScope zfM):=⟨rfl,rfl,rfl,by decide +kernel,rfl,by decide +kernel,by decide +kernel⟩
theorem zcu:zaD ["_law_script","_law_at","_law_first","_law_digits","_law_places","_law_ties","_law_k","_law_bound","_law_begin","_law_end"] ["_law_script","_law_at"] (defScope zfL):=⟨rfl,rfl,rfl,by decide +kernel,rfl,by decide +kernel,by decide +kernel⟩
theorem zeh:zaD ["_law_some","_law_top","_law_bottom","_law_one"] ["_law_some"] (defScope zfN):=⟨rfl,rfl,rfl,by decide +kernel,rfl,by decide +kernel,by decide +kernel⟩
theorem zhg:zaD ["_law_digits","_law_worth","_law_way","_law_small"] ["_law_digits","_law_worth"] (defScope zdC):=⟨rfl,rfl,rfl,by decide +kernel,rfl,by decide +kernel,by decide +kernel⟩
theorem zch:zaD ["_law_web_here","_law_taking","_law_kind","_law_some","_law_watched"] ["_law_web_here","_law_taking","_law_kind"] (defScope zb3):=⟨rfl,rfl,rfl,by decide +kernel,rfl,by decide +kernel,by decide +kernel⟩
theorem zhx:zaD ["_law_kind","_law_some"] ["_law_kind"] (defScope zcl):=⟨rfl,rfl,rfl,by decide +kernel,rfl,by decide +kernel,by decide +kernel⟩
theorem ztj:zaD ["thing"] ["thing"] (defScope zg1):=⟨rfl,rfl,rfl,by decide +kernel,rfl,by decide +kernel,by decide +kernel⟩
theorem zeg:zaD ["places","number","place"] ["places"] (defScope zb1):=⟨rfl,rfl,rfl,by decide +kernel,rfl,by decide +kernel,by decide +kernel⟩
theorem zq3:zaD ["thing"] ["thing"] (defScope zfH):=⟨rfl,rfl,rfl,by decide +kernel,rfl,by decide +kernel,by decide +kernel⟩
theorem zbK:zaD ["one","other","larger","smaller","rest"] ["one","other"] (defScope zb2):=⟨rfl,rfl,rfl,by decide +kernel,rfl,by decide +kernel,by decide +kernel⟩
theorem zq4:zaD ["thing"] ["thing"] (defScope zfI):=⟨rfl,rfl,rfl,by decide +kernel,rfl,by decide +kernel,by decide +kernel⟩
theorem zpD:zaD ["thing"] ["thing"] (defScope zej):=⟨rfl,rfl,rfl,by decide +kernel,rfl,by decide +kernel,by decide +kernel⟩
theorem zq2:zaD ["thing"] ["thing"] (defScope zfG):=⟨rfl,rfl,rfl,by decide +kernel,rfl,by decide +kernel,by decide +kernel⟩
theorem zu1:zaD ["thing"] ["thing"] (defScope ziQ):=⟨rfl,rfl,rfl,by decide +kernel,rfl,by decide +kernel,by decide +kernel⟩
theorem zfS:zaD ["ties","places","number","tie"] ["ties","places"] (defScope zcB):=⟨rfl,rfl,rfl,by decide +kernel,rfl,by decide +kernel,by decide +kernel⟩
theorem zq5:zaD ["thing","places"] ["thing","places"] (defScope zfJ):=⟨rfl,rfl,rfl,by decide +kernel,rfl,by decide +kernel,by decide +kernel⟩
theorem zm8:zaD ["thing"] ["thing"] (defScope zcY):=⟨rfl,rfl,rfl,by decide +kernel,rfl,by decide +kernel,by decide +kernel⟩
theorem zlr:zaD ["web","thing"] ["web","thing"] (defScope zck):=⟨rfl,rfl,rfl,by decide +kernel,rfl,by decide +kernel,by decide +kernel⟩
theorem zcX:zaD ["web","thing","ahead","number"] ["web","thing"] (defScope zb0):=⟨rfl,rfl,rfl,by decide +kernel,rfl,by decide +kernel,by decide +kernel⟩
theorem zn4:zaD ["top","bottom","divisor"] ["top","bottom"] (defScope zkj):=⟨rfl,rfl,rfl,by decide +kernel,rfl,by decide +kernel,by decide +kernel⟩
theorem zAb:zaD ["one","other"] ["one","other"] (defScope znp):=⟨rfl,rfl,rfl,by decide +kernel,rfl,by decide +kernel,by decide +kernel⟩
theorem zjR:zaD ["some","total","one"] ["some"] (defScope ziP):=⟨rfl,rfl,rfl,by decide +kernel,rfl,by decide +kernel,by decide +kernel⟩
theorem zq1:zaD ["web","taking"] ["web","taking"] (defScope zfE):=⟨rfl,rfl,rfl,by decide +kernel,rfl,by decide +kernel,by decide +kernel⟩
theorem zlq:zaD ["thing"] ["thing"] (defScope zcj):=⟨rfl,rfl,rfl,by decide +kernel,rfl,by decide +kernel,by decide +kernel⟩
theorem ztk:zaD ["one","other"] ["one","other"] (defScope zg2):=⟨rfl,rfl,rfl,by decide +kernel,rfl,by decide +kernel,by decide +kernel⟩
theorem zpC:zaD ["web","taking","purse"] ["web","taking","purse"] (defScope zei):=⟨rfl,rfl,rfl,by decide +kernel,rfl,by decide +kernel,by decide +kernel⟩
theorem zdi:zaD ["some","bottom","one"] ["some"] (defScope zci):=⟨rfl,rfl,rfl,by decide +kernel,rfl,by decide +kernel,by decide +kernel⟩
theorem zq6:zaD ["one","bottom"] ["one","bottom"] (defScope zfK):=⟨rfl,rfl,rfl,by decide +kernel,rfl,by decide +kernel,by decide +kernel⟩
theorem zhR:zaD ["some","bottom"] ["some"] (defScope zcz):=⟨rfl,rfl,rfl,by decide +kernel,rfl,by decide +kernel,by decide +kernel⟩
theorem zl4:zaD ["web","purse","scaled"] ["web","purse"] (defScope zfF):=⟨rfl,rfl,rfl,by decide +kernel,rfl,by decide +kernel,by decide +kernel⟩
theorem zbM:zaD ["web","purse","means","left","many","cost"] ["web","purse"] (defScope zcA):=⟨rfl,rfl,rfl,by decide +kernel,rfl,by decide +kernel,by decide +kernel⟩
theorem zn6:zaD ["_law_e"] ["_law_e"] (defScope zdD):=⟨rfl,rfl,rfl,by decide +kernel,rfl,by decide +kernel,by decide +kernel⟩
theorem zbg:zaD ["_law_way","_law_web_here","_law_taking","_law_purse_here","_law_told","_law_found","_law_e","_law_some"] ["_law_way","_law_web_here","_law_taking","_law_purse_here"] (defScope zdG):=⟨rfl,rfl,rfl,by decide +kernel,rfl,by decide +kernel,by decide +kernel⟩
theorem zn5:zaD ["_law_thing"] ["_law_thing"] (defScope zdA):=⟨rfl,rfl,rfl,by decide +kernel,rfl,by decide +kernel,by decide +kernel⟩
theorem zls:zaD ["_law_thing"] ["_law_thing"] (defScope zcm):=⟨rfl,rfl,rfl,by decide +kernel,rfl,by decide +kernel,by decide +kernel⟩
theorem zaV:zaD ["_law_web_here","_law_taking","_law_digits","_law_worth","_law_purse_here","_law_none","_law_things","_law_dues","_law_way","_law_due","_law_k","_law_told","_law_found","_law_within"] ["_law_web_here","_law_taking","_law_digits"] (defScope zdB):=⟨rfl,rfl,rfl,by decide +kernel,rfl,by decide +kernel,by decide +kernel⟩
theorem zkY:zaD ["_law_script","_law_web_here","_law_copy","_law_free","_law_cell","_law_big","_law_digits","_law_taking"] ["_law_script"] (defScope zlt):=⟨rfl,rfl,rfl,by decide +kernel,rfl,by decide +kernel,by decide +kernel⟩
abbrev ziN:Stmt:=zwd (top 65) 0
theorem zu0:zaD ["self","costs","left","bottom"] ["self","costs","left","bottom"] (defScope ziN):=⟨rfl,rfl,rfl,by decide +kernel,rfl,by decide +kernel,by decide +kernel⟩
abbrev ziM:Stmt:=zwd (top 16) 0
theorem zuZ:zaD ["self","part","number"] ["self","part","number"] (defScope ziM):=⟨rfl,rfl,rfl,by decide +kernel,rfl,by decide +kernel,by decide +kernel⟩
structure Adr where
 zeO:Addr
 zov:FuncData
 za9:Addr
 zfB:Addr
 zow:FuncData
 zaQ:Addr
 zbY:Addr
 zbs:Addr
 za6:Addr
 zbX:Addr
 zbW:Addr
 zbV:Addr
 zcL:Addr
 zbU:Addr
 zaj:Addr
 zao:Addr
 zbr:Addr
 zcK:Addr
 zbT:Addr
 za5:Addr
 zai:Addr
 zbS:Addr
 zcJ:Addr
 zbR:Addr
 zcI:Addr
 zaq:Addr
 zbq:Addr
 zaO:Addr
 zgW:Addr
 zgP:FuncData
 ziz:Addr
 zih:FuncData
 ziy:Addr
 zig:FuncData
 zgV:Addr
 zgO:FuncData
 zhv:Addr
 zhq:FuncData
 zgm:Addr
 zgf:FuncData
 zkP:Addr
 zkD:FuncData
 zkO:Addr
 zkC:FuncData
 zkQ:Addr
 zkE:FuncData
 ziw:Addr
 zie:FuncData
 zfs:Addr
 zfo:FuncData
 zgk:Addr
 zgd:FuncData
 zmX:Addr
 zmK:FuncData
 zfq:Addr
 zfm:FuncData
 zkK:Addr
 zky:FuncData
 zfr:Addr
 zfn:FuncData
 zkL:Addr
 zkz:FuncData
 zjN:Addr
 zjI:FuncData
 zkJ:Addr
 zkx:FuncData
 zo1:Addr
 zoL:FuncData
 zgU:Addr
 zgN:FuncData
 zkM:Addr
 zkA:FuncData
 zhu:Addr
 zhp:FuncData
 zgj:Addr
 zgc:FuncData
 zfp:Addr
 zfl:FuncData
 zr2:Addr
 zrV:FuncData
 zwY:Addr
 zwG:FuncData
 zo0:Addr
 zoK:FuncData
 zkH:Addr
 zkv:FuncData
 zgi:Addr
 zgb:FuncData
 zmY:Addr
 zmL:FuncData
 zjM:Addr
 zjH:FuncData
 zgh:Addr
 zga:FuncData
 zkN:Addr
 zkB:FuncData
 zgS:Addr
 zgL:FuncData
 zkI:Addr
 zkw:FuncData
 zgT:Addr
 zgM:FuncData
 zix:Addr
 zif:FuncData
 ziA:Addr
 zii:FuncData
 ziu:Addr
 zic:FuncData
 zgl:Addr
 zge:FuncData
 ziv:Addr
 zid:FuncData
 zr3:Addr
 zui:FuncData
structure Txt (K:W.Frag) (mg:Str->Option Value) (t:Adr):Prop where
 zgY:Fun K "_law_cell_at" "_law_cell_at" zcD t.zgW t.zgP
 zcH:zbk K t.zgP ["_law_script","_law_k"] []
 zjq:mg "_law_cell_at"=some (.ref t.zgW)
 zeU:Fun K "_law_draws" "_law_draws" zdF t.ziz t.zih
 zct:zbk K t.zih ["_law_cell","_law_sizes"] []
 zgv:mg "_law_draws"=some (.ref t.ziz)
 zlk:Fun K "_law_names" "_law_names" zdE t.ziy t.zig
 zgz:zbk K t.zig ["_law_cell","_law_many"] []
 zqf:mg "_law_names"=some (.ref t.ziy)
 zgX:Fun K "_law_divisor" "_law_divisor" zcC t.zgV t.zgO
 zcd:zbk K t.zgO ["_law_one","_law_other_here"] []
 zjp:mg "_law_divisor"=some (.ref t.zgV)
 zc4:Fun K "_law_lowest" "_law_lowest" zcZ t.zhv t.zhq
 zbv:zbk K t.zhq ["_law_top","_law_bottom"] []
 zd3:mg "_law_lowest"=some (.ref t.zhv)
 zeb:Fun K "_law_fraction" "_law_fraction" zcn t.zgm t.zgf
 zbw:zbk K t.zgf ["_law_digits","_law_least"] []
 zf5:mg "_law_fraction"=some (.ref t.zgm)
 znS:Fun K "_law_tie" "_law_tie" zfM t.zkP t.zkD
 zhb:zbk K t.zkD ["_law_places","_law_cell","_law_bound"] []
 zt8:mg "_law_tie"=some (.ref t.zkP)
 znR:Fun K "_law_web" "_law_web" zfL t.zkO t.zkC
 zjb:zbk K t.zkC ["_law_script","_law_at"] []
 zt7:mg "_law_web"=some (.ref t.zkO)
 znT:Fun K "_law_sum" "_law_sum" zfN t.zkQ t.zkE
 zjc:zbk K t.zkE ["_law_some"] []
 zt9:mg "_law_sum"=some (.ref t.zkQ)
 zli:Fun K "_law_purse" "_law_purse" zdC t.ziw t.zie
 zbJ:zbk K t.zie ["_law_digits","_law_worth"] []
 zqd:mg "_law_purse"=some (.ref t.ziw)
 zhJ:Fun K "_law_no_taking" "_law_no_taking" zb3 t.zfs t.zfo
 zdk:zbk K t.zfo ["_law_web_here","_law_taking","_law_kind"] []
 zlB:mg "_law_no_taking"=some (.ref t.zfs)
 ziG:Fun K "_law_no_purse" "_law_no_purse" zcl t.zgk t.zgd
 zd8:zbk K t.zgd ["_law_kind"] []
 zmz:mg "_law_no_purse"=some (.ref t.zgk)
 ziE:Fun K "is_name" "is_name" zg1 t.zmX t.zmK
 zdf:zbk K t.zmK ["thing"] []
 zj4:mg "is_name"=some (.ref t.zmX)
 zhI:Fun K "look_at_places" "look_at_places" zb1 t.zfq t.zfm
 zbn:zbk K t.zfm ["places"] []
 zlA:mg "look_at_places"=some (.ref t.zfq)
 zfR:Fun K "is_whole" "is_whole" zfH t.zkK t.zky
 zeN:zbk K t.zky ["thing"] []
 zg6:mg "is_whole"=some (.ref t.zkK)
 zdm:Fun K "common_divisor" "common_divisor" zb2 t.zfr t.zfn
 zbo:zbk K t.zfn ["one","other"] []
 zfk:mg "common_divisor"=some (.ref t.zfr)
 zje:Fun K "is_ratio" "is_ratio" zfI t.zkL t.zkz
 zb5:zbk K t.zkz ["thing"] []
 zkq:mg "is_ratio"=some (.ref t.zkL)
 zm1:Fun K "is_length" "is_length" zej t.zjN t.zjI
 zht:zbk K t.zjI ["thing"] []
 zrQ:mg "is_length"=some (.ref t.zjN)
 znP:Fun K "is_worth" "is_worth" zfG t.zkJ t.zkx
 zi9:zbk K t.zkx ["thing"] []
 zt5:mg "is_worth"=some (.ref t.zkJ)
 zta:Fun K "is_tie" "is_tie" ziQ t.zo1 t.zoL
 zlT:zbk K t.zoL ["thing"] []
 zyw:mg "is_tie"=some (.ref t.zo1)
 zjw:Fun K "look_at_ties" "look_at_ties" zcB t.zgU t.zgN
 zbI:zbk K t.zgN ["ties","places"] []
 znh:mg "look_at_ties"=some (.ref t.zgU)
 zkS:Fun K "is_place" "is_place" zfJ t.zkM t.zkA
 zha:zbk K t.zkA ["thing","places"] []
 znF:mg "is_place"=some (.ref t.zkM)
 zhw:Fun K "look_at_web" "look_at_web" zcY t.zhu t.zhp
 zba:zbk K t.zhp ["thing"] []
 zj3:mg "look_at_web"=some (.ref t.zhu)
 ziD:Fun K "is_tie_number" "is_tie_number" zck t.zgj t.zgc
 zaY:zbk K t.zgc ["web","thing"] []
 zmy:mg "is_tie_number"=some (.ref t.zgj)
 zdl:Fun K "look_at_taking" "look_at_taking" zb0 t.zfp t.zfl
 zaL:zbk K t.zfl ["web","thing"] []
 zfj:mg "look_at_taking"=some (.ref t.zfp)
 zw2:Fun K "ratio" "ratio" zkj t.zr2 t.zrV
 zgR:zbk K t.zrV ["top","bottom"] []
 zAT:mg "ratio"=some (.ref t.zr2)
 zzI:Fun K "plus" "plus" znp t.zwY t.zwG
 zkc:zbk K t.zwG ["one","other"] []
 zCM:mg "plus"=some (.ref t.zwY)
 zs9:Fun K "sum_of" "sum_of" ziP t.zo0 t.zoK
 zfD:zbk K t.zoK ["some"] []
 zyv:mg "sum_of"=some (.ref t.zo0)
 zkR:Fun K "worth_of" "worth_of" zfE t.zkH t.zkv
 zcG:zbk K t.zkv ["web","taking"] []
 znE:mg "worth_of"=some (.ref t.zkH)
 zgo:Fun K "look_at_purse" "look_at_purse" zcj t.zgi t.zgb
 zbj:zbk K t.zgb ["thing"] []
 zh6:mg "look_at_purse"=some (.ref t.zgi)
 zqF:Fun K "is_less" "is_less" zg2 t.zmY t.zmL
 zkd:zbk K t.zmL ["one","other"] []
 zwg:mg "is_less"=some (.ref t.zmY)
 zm0:Fun K "is_within" "is_within" zei t.zjM t.zjH
 zcc:zbk K t.zjH ["web","taking","purse"] []
 zrP:mg "is_within"=some (.ref t.zjM)
 ziC:Fun K "shared_bottom" "shared_bottom" zci t.zgh t.zga
 zd7:zbk K t.zga ["some"] []
 zmx:mg "shared_bottom"=some (.ref t.zgh)
 znQ:Fun K "as_whole" "as_whole" zfK t.zkN t.zkB
 zja:zbk K t.zkB ["one","bottom"] []
 zt6:mg "as_whole"=some (.ref t.zkN)
 zju:Fun K "on_one_scale" "on_one_scale" zcz t.zgS t.zgL
 zeP:zbk K t.zgL ["some"] []
 znf:mg "on_one_scale"=some (.ref t.zgS)
 znO:Fun K "means_of" "means_of" zfF t.zkI t.zkw
 zi8:zbk K t.zkw ["web","purse"] []
 zt4:mg "means_of"=some (.ref t.zkI)
 zjv:Fun K "most_at_once" "most_at_once" zcA t.zgT t.zgM
 zbe:zbk K t.zgM ["web","purse"] []
 zng:mg "most_at_once"=some (.ref t.zgT)
 zlj:Fun K "_law_other" "_law_other" zdD t.zix t.zif
 zis:zbk K t.zif ["_law_e"] []
 zqe:mg "_law_other"=some (.ref t.zix)
 zll:Fun K "_law_class" "_law_class" zdG t.ziA t.zii
 zcW:zbk K t.zii ["_law_way","_law_web_here","_law_taking","_law_purse_here"] []
 zqg:mg "_law_class"=some (.ref t.ziA)
 ziF:Fun K "_law_whole" "_law_whole" zdA t.ziu t.zic
 zgx:zbk K t.zic ["_law_thing"] []
 zlc:mg "_law_whole"=some (.ref t.ziu)
 ziH:Fun K "_law_is_ratio" "_law_is_ratio" zcm t.zgl t.zge
 zcs:zbk K t.zge ["_law_thing"] []
 zmA:mg "_law_is_ratio"=some (.ref t.zgl)
 zlh:Fun K "_law_right" "_law_right" zdB t.ziv t.zid
 zgy:zbk K t.zid ["_law_web_here","_law_taking","_law_digits"] []
 zqc:mg "_law_right"=some (.ref t.ziv)
 zEp:Fun K "law" "law" zlt t.zr3 t.zui
 zBc:zbk K t.zui ["_law_script"] []
 zD7:mg "law"=some (.ref t.zr3)
 n_ValueError:mg "ValueError"=none
 n_abs:mg "abs"=none
 n_all:mg "all"=none
 n_bool:mg "bool"=none
 n_enumerate:mg "enumerate"=none
 n_int:mg "int"=none
 n_isinstance:mg "isinstance"=none
 n_len:mg "len"=none
 n_list:mg "list"=none
 n_max:mg "max"=none
 n_range:mg "range"=none
 n_sorted:mg "sorted"=none
 n_str:mg "str"=none
 n_tuple:mg "tuple"=none
 zyu:mg "Means"=some (.ref t.za9)
 zy6:Fun K "__init__" "Means.__init__" ziN t.zfB t.zow
 zoZ:zbk K t.zow ["self","costs","left","bottom"] []
 zx9:Mk K t.za9 t.zfB
 zsn:zEN K "Means" ["costs","left","bottom"] t.za9
 znG:mg "CutError"=some (.ref t.zaQ)
 ziZ:zji K "CutError" t.zaQ
 zyE:mg "NoAdds"=some (.ref t.zbY)
 zlM:zji K "NoAdds" t.zbY
 zwj:mg "NoCases"=some (.ref t.zbs)
 zj2:zji K "NoCases" t.zbs
 zub:mg "NoChange"=some (.ref t.za6)
 ziY:zji K "NoChange" t.za6
 zyD:mg "NoDeed"=some (.ref t.zbX)
 zlL:zji K "NoDeed" t.zbX
 zyC:mg "NoFlow"=some (.ref t.zbW)
 zlK:zji K "NoFlow" t.zbW
 zyB:mg "NoJoin"=some (.ref t.zbV)
 zlJ:zji K "NoJoin" t.zbV
 zAX:mg "NoMix"=some (.ref t.zcL)
 zoA:zji K "NoMix" t.zcL
 zyA:mg "NoName"=some (.ref t.zbU)
 zlI:zji K "NoName" t.zbU
 zkr:mg "NoNumber"=some (.ref t.zaj)
 ziX:zji K "NoNumber" t.zaj
 zqi:mg "NoPurse"=some (.ref t.zao)
 zj1:zji K "NoPurse" t.zao
 zwi:mg "NoRooms"=some (.ref t.zbr)
 zmu:zji K "NoRooms" t.zbr
 zAW:mg "NoRow"=some (.ref t.zcK)
 zrN:zji K "NoRow" t.zcK
 zyz:mg "NoSide"=some (.ref t.zbT)
 zlH:zji K "NoSide" t.zbT
 zua:mg "NoSpread"=some (.ref t.za5)
 ziW:zji K "NoSpread" t.za5
 zi0:mg "NoTaking"=some (.ref t.zai)
 ziV:zji K "NoTaking" t.zai
 zyy:mg "NoText"=some (.ref t.zbS)
 zlG:zji K "NoText" t.zbS
 zAV:mg "NoTie"=some (.ref t.zcJ)
 zoz:zji K "NoTie" t.zcJ
 zyx:mg "NoTurn"=some (.ref t.zbR)
 zlF:zji K "NoTurn" t.zbR
 zAU:mg "NoWay"=some (.ref t.zcI)
 zoy:zji K "NoWay" t.zcI
 zh7:mg "NoWeb"=some (.ref t.zaq)
 zox:zji K "NoWeb" t.zaq
 zwh:mg "TooMany"=some (.ref t.zbq)
 zj0:zji K "TooMany" t.zbq
 zqh:mg "Unbalanced"=some (.ref t.zaO)
 zgu:zji K "Unbalanced" t.zaO
 zaA:zwZ K "NoNumber" t.zaj
 zaG:zwZ K "NoPurse" t.zao
 zay:zwZ K "NoTaking" t.zai
 zaR:zBf K "NoWeb" t.zaq
 zy5:Fun K "__init__" "NoWeb.__init__" ziM t.zeO t.zov
 zfC:zbk K t.zov ["self","part","number"] []
 zhd:XIn K t.zaq t.zeO
 zhc:XSt K t.zaq ["part","number"]
 zhe:W.isFn K (.ref t.zeO)=true
 zqU:zBg K t.zaQ
 zdy:W.subIn K (.ref t.zaj) (.ref t.zaQ)=some true
 zeD:W.subIn K (.ref t.zaj) (.ref t.zbY)=some false
 zd2:W.subIn K (.ref t.zaj) (.ref t.zbs)=some false
 zdx:W.subIn K (.ref t.zaj) (.ref t.za6)=some false
 zeC:W.subIn K (.ref t.zaj) (.ref t.zbX)=some false
 zeB:W.subIn K (.ref t.zaj) (.ref t.zbW)=some false
 zeA:W.subIn K (.ref t.zaj) (.ref t.zbV)=some false
 zfh:W.subIn K (.ref t.zaj) (.ref t.zcL)=some false
 zez:W.subIn K (.ref t.zaj) (.ref t.zbU)=some false
 zdw:W.subIn K (.ref t.zaj) (.ref t.zaj)=some true
 zd1:W.subIn K (.ref t.zaj) (.ref t.zao)=some false
 zgq:W.subIn K (.ref t.zaj) (.ref t.zbr)=some false
 zhz:W.subIn K (.ref t.zaj) (.ref t.zcK)=some false
 zey:W.subIn K (.ref t.zaj) (.ref t.zbT)=some false
 zdv:W.subIn K (.ref t.zaj) (.ref t.za5)=some false
 zdu:W.subIn K (.ref t.zaj) (.ref t.zai)=some false
 zex:W.subIn K (.ref t.zaj) (.ref t.zbS)=some false
 zfg:W.subIn K (.ref t.zaj) (.ref t.zcJ)=some false
 zew:W.subIn K (.ref t.zaj) (.ref t.zbR)=some false
 zff:W.subIn K (.ref t.zaj) (.ref t.zcI)=some false
 zfe:W.subIn K (.ref t.zaj) (.ref t.zaq)=some false
 zd0:W.subIn K (.ref t.zaj) (.ref t.zbq)=some false
 zcS:W.subIn K (.ref t.zaj) (.ref t.zaO)=some false
 zdZ:W.subIn K (.ref t.zao) (.ref t.zaQ)=some true
 zfd:W.subIn K (.ref t.zao) (.ref t.zbY)=some false
 zev:W.subIn K (.ref t.zao) (.ref t.zbs)=some false
 zdY:W.subIn K (.ref t.zao) (.ref t.za6)=some false
 zfc:W.subIn K (.ref t.zao) (.ref t.zbX)=some false
 zfb:W.subIn K (.ref t.zao) (.ref t.zbW)=some false
 zfa:W.subIn K (.ref t.zao) (.ref t.zbV)=some false
 zf2:W.subIn K (.ref t.zao) (.ref t.zcL)=some false
 ze9:W.subIn K (.ref t.zao) (.ref t.zbU)=some false
 zdX:W.subIn K (.ref t.zao) (.ref t.zaj)=some false
 zeu:W.subIn K (.ref t.zao) (.ref t.zao)=some true
 zet:W.subIn K (.ref t.zao) (.ref t.zbr)=some false
 zf1:W.subIn K (.ref t.zao) (.ref t.zcK)=some false
 ze8:W.subIn K (.ref t.zao) (.ref t.zbT)=some false
 zdW:W.subIn K (.ref t.zao) (.ref t.za5)=some false
 zdV:W.subIn K (.ref t.zao) (.ref t.zai)=some false
 ze7:W.subIn K (.ref t.zao) (.ref t.zbS)=some false
 zf0:W.subIn K (.ref t.zao) (.ref t.zcJ)=some false
 ze6:W.subIn K (.ref t.zao) (.ref t.zbR)=some false
 zfZ:W.subIn K (.ref t.zao) (.ref t.zcI)=some false
 zfY:W.subIn K (.ref t.zao) (.ref t.zaq)=some false
 zes:W.subIn K (.ref t.zao) (.ref t.zbq)=some false
 zc9:W.subIn K (.ref t.zao) (.ref t.zaO)=some false
 zdt:W.subIn K (.ref t.zai) (.ref t.zaQ)=some true
 zer:W.subIn K (.ref t.zai) (.ref t.zbY)=some false
 zdU:W.subIn K (.ref t.zai) (.ref t.zbs)=some false
 zds:W.subIn K (.ref t.zai) (.ref t.za6)=some false
 zeq:W.subIn K (.ref t.zai) (.ref t.zbX)=some false
 zep:W.subIn K (.ref t.zai) (.ref t.zbW)=some false
 zeo:W.subIn K (.ref t.zai) (.ref t.zbV)=some false
 ze5:W.subIn K (.ref t.zai) (.ref t.zcL)=some false
 zen:W.subIn K (.ref t.zai) (.ref t.zbU)=some false
 zdr:W.subIn K (.ref t.zai) (.ref t.zaj)=some false
 zdT:W.subIn K (.ref t.zai) (.ref t.zao)=some false
 zdS:W.subIn K (.ref t.zai) (.ref t.zbr)=some false
 ze4:W.subIn K (.ref t.zai) (.ref t.zcK)=some false
 zem:W.subIn K (.ref t.zai) (.ref t.zbT)=some false
 zdq:W.subIn K (.ref t.zai) (.ref t.za5)=some false
 zdp:W.subIn K (.ref t.zai) (.ref t.zai)=some true
 zel:W.subIn K (.ref t.zai) (.ref t.zbS)=some false
 ze3:W.subIn K (.ref t.zai) (.ref t.zcJ)=some false
 zek:W.subIn K (.ref t.zai) (.ref t.zbR)=some false
 ze2:W.subIn K (.ref t.zai) (.ref t.zcI)=some false
 ze1:W.subIn K (.ref t.zai) (.ref t.zaq)=some false
 zdR:W.subIn K (.ref t.zai) (.ref t.zbq)=some false
 zcR:W.subIn K (.ref t.zai) (.ref t.zaO)=some false
 ze0:W.subIn K (.ref t.zaq) (.ref t.zaQ)=some true
 zgJ:W.subIn K (.ref t.zaq) (.ref t.zbY)=some false
 zfX:W.subIn K (.ref t.zaq) (.ref t.zbs)=some false
 zeZ:W.subIn K (.ref t.zaq) (.ref t.za6)=some false
 zgI:W.subIn K (.ref t.zaq) (.ref t.zbX)=some false
 zgH:W.subIn K (.ref t.zaq) (.ref t.zbW)=some false
 zgG:W.subIn K (.ref t.zaq) (.ref t.zbV)=some false
 zhm:W.subIn K (.ref t.zaq) (.ref t.zcL)=some false
 zgF:W.subIn K (.ref t.zaq) (.ref t.zbU)=some false
 zeY:W.subIn K (.ref t.zaq) (.ref t.zaj)=some false
 zfW:W.subIn K (.ref t.zaq) (.ref t.zao)=some false
 zfV:W.subIn K (.ref t.zaq) (.ref t.zbr)=some false
 zhl:W.subIn K (.ref t.zaq) (.ref t.zcK)=some false
 zgE:W.subIn K (.ref t.zaq) (.ref t.zbT)=some false
 zeX:W.subIn K (.ref t.zaq) (.ref t.za5)=some false
 zeW:W.subIn K (.ref t.zaq) (.ref t.zai)=some false
 zgD:W.subIn K (.ref t.zaq) (.ref t.zbS)=some false
 zhk:W.subIn K (.ref t.zaq) (.ref t.zcJ)=some false
 zgC:W.subIn K (.ref t.zaq) (.ref t.zbR)=some false
 zhj:W.subIn K (.ref t.zaq) (.ref t.zcI)=some false
 zhi:W.subIn K (.ref t.zaq) (.ref t.zaq)=some true
 zfU:W.subIn K (.ref t.zaq) (.ref t.zbq)=some false
 zdQ:W.subIn K (.ref t.zaq) (.ref t.zaO)=some false
 zgg:Kon K mg "FEWEST_PLACES" (.int 2)
 zoX:Kon K mg "FIRST" (.int 2)
 zs5:Kon K mg "LAST" (.int 3)
 zoW:Kon K mg "LENGTH" (.int 3)
 zmU:Kon K mg "LETTERS" (.str "abcdefghijklmnopqrstuvwxyz")
 zgQ:Kon K mg "LONGEST_NAME" (.int 8)
 zhr:Kon K mg "MOST_PLACES" (.int 7)
 zjL:Kon K mg "MOST_TIES" (.int 14)
 zoV:Kon K mg "NOUGHT" (.tup [(.int 0),(.int 1)])
 zwS:Kon K mg "ONE" (.int 0)
 zmT:Kon K mg "OTHER" (.int 1)
 zi7:Kon K mg "PLACES" (.int 0)
 zmS:Kon K mg "TIES" (.int 1)
 zs4:Kon K mg "WORD" (.int 2)
 zr0:Kon K mg "WORDS" (.tup [(.str "one"),(.str "both")])
 zkF:Kon K mg "WORTH" (.int 4)
section
variable {P:Program}{w:World}{K:W.Frag}{mg:Str->Option Value}{base:Heap}{t:Adr}
theorem zmv (T:Txt K mg t):∀ x C,zrO zfQ x=true->XC K x C->W.exmOne K (.ref C) (.ref t.zaQ)=some true :=
 zyq fun q hq=>by
  unfold zfQ at hq
  simp only[List.mem_cons,List.not_mem_nil,or_false] at hq
  rcases hq with rfl | rfl | rfl | rfl
  ·exact⟨t.zaj,T.zaA.xcls.xc,T.ziZ.exm T.zdy⟩
  ·exact⟨t.zao,T.zaG.xcls.xc,T.ziZ.exm T.zdZ⟩
  ·exact⟨t.zai,T.zay.xcls.xc,T.ziZ.exm T.zdt⟩
  ·exact⟨t.zaq,T.zaR.xc,T.ziZ.exm T.ze0⟩
theorem zxt (T:Txt K mg t):znN K zBK [t.zbY,t.zbs,t.za6,t.zbX,t.zbW,t.zbV] :=
 zdb (p:=fun _ C b=>W.kitAny K (.ref C) ([t.zbY,t.zbs,t.za6,t.zbX,t.zbW,t.zbV].map Value.ref)=some b) fun q hq=>by
  simp only[List.mem_cons,List.not_mem_nil,or_false] at hq
  rcases hq with rfl | rfl | rfl | rfl
  ·exact⟨t.zaj,T.zaA.xcls.xc,(zar (T.zlM.kit T.zaA.self T.zeD) (zar (T.zj2.kit T.zaA.self T.zd2) (zar (T.ziY.kit T.zaA.self T.zdx) (zar (T.zlL.kit T.zaA.self T.zeC) (zar (T.zlK.kit T.zaA.self T.zeB) (zar (T.zlJ.kit T.zaA.self T.zeA) zbt))))))⟩
  ·exact⟨t.zao,T.zaG.xcls.xc,(zar (T.zlM.kit T.zaG.self T.zfd) (zar (T.zj2.kit T.zaG.self T.zev) (zar (T.ziY.kit T.zaG.self T.zdY) (zar (T.zlL.kit T.zaG.self T.zfc) (zar (T.zlK.kit T.zaG.self T.zfb) (zar (T.zlJ.kit T.zaG.self T.zfa) zbt))))))⟩
  ·exact⟨t.zai,T.zay.xcls.xc,(zar (T.zlM.kit T.zay.self T.zer) (zar (T.zj2.kit T.zay.self T.zdU) (zar (T.ziY.kit T.zay.self T.zds) (zar (T.zlL.kit T.zay.self T.zeq) (zar (T.zlK.kit T.zay.self T.zep) (zar (T.zlJ.kit T.zay.self T.zeo) zbt))))))⟩
  ·exact⟨t.zaq,T.zaR.xc,(zar (T.zlM.kit T.zaR.self T.zgJ) (zar (T.zj2.kit T.zaR.self T.zfX) (zar (T.ziY.kit T.zaR.self T.zeZ) (zar (T.zlL.kit T.zaR.self T.zgI) (zar (T.zlK.kit T.zaR.self T.zgH) (zar (T.zlJ.kit T.zaR.self T.zgG) zbt))))))⟩
theorem zxs (T:Txt K mg t):znN K zBJ [t.zcL,t.zbU,t.zaj,t.zbr,t.zcK] :=
 zdb (p:=fun _ C b=>W.kitAny K (.ref C) ([t.zcL,t.zbU,t.zaj,t.zbr,t.zcK].map Value.ref)=some b) fun q hq=>by
  simp only[List.mem_cons,List.not_mem_nil,or_false] at hq
  rcases hq with rfl | rfl | rfl | rfl
  ·exact⟨t.zaj,T.zaA.xcls.xc,(zar (T.zoA.kit T.zaA.self T.zfh) (zar (T.zlI.kit T.zaA.self T.zez) (zyg (T.ziX.kit T.zaA.self T.zdw))))⟩
  ·exact⟨t.zao,T.zaG.xcls.xc,(zar (T.zoA.kit T.zaG.self T.zf2) (zar (T.zlI.kit T.zaG.self T.ze9) (zar (T.ziX.kit T.zaG.self T.zdX) (zar (T.zmu.kit T.zaG.self T.zet) (zar (T.zrN.kit T.zaG.self T.zf1) zbt)))))⟩
  ·exact⟨t.zai,T.zay.xcls.xc,(zar (T.zoA.kit T.zay.self T.ze5) (zar (T.zlI.kit T.zay.self T.zen) (zar (T.ziX.kit T.zay.self T.zdr) (zar (T.zmu.kit T.zay.self T.zdS) (zar (T.zrN.kit T.zay.self T.ze4) zbt)))))⟩
  ·exact⟨t.zaq,T.zaR.xc,(zar (T.zoA.kit T.zaR.self T.zhm) (zar (T.zlI.kit T.zaR.self T.zgF) (zar (T.ziX.kit T.zaR.self T.zeY) (zar (T.zmu.kit T.zaR.self T.zfV) (zar (T.zrN.kit T.zaR.self T.zhl) zbt)))))⟩
theorem zxr (T:Txt K mg t):znN K zBI [t.zbT,t.za5,t.zbS,t.zcJ,t.zbR,t.zcI] :=
 zdb (p:=fun _ C b=>W.kitAny K (.ref C) ([t.zbT,t.za5,t.zbS,t.zcJ,t.zbR,t.zcI].map Value.ref)=some b) fun q hq=>by
  simp only[List.mem_cons,List.not_mem_nil,or_false] at hq
  rcases hq with rfl | rfl | rfl | rfl
  ·exact⟨t.zaj,T.zaA.xcls.xc,(zar (T.zlH.kit T.zaA.self T.zey) (zar (T.ziW.kit T.zaA.self T.zdv) (zar (T.zlG.kit T.zaA.self T.zex) (zar (T.zoz.kit T.zaA.self T.zfg) (zar (T.zlF.kit T.zaA.self T.zew) (zar (T.zoy.kit T.zaA.self T.zff) zbt))))))⟩
  ·exact⟨t.zao,T.zaG.xcls.xc,(zar (T.zlH.kit T.zaG.self T.ze8) (zar (T.ziW.kit T.zaG.self T.zdW) (zar (T.zlG.kit T.zaG.self T.ze7) (zar (T.zoz.kit T.zaG.self T.zf0) (zar (T.zlF.kit T.zaG.self T.ze6) (zar (T.zoy.kit T.zaG.self T.zfZ) zbt))))))⟩
  ·exact⟨t.zai,T.zay.xcls.xc,(zar (T.zlH.kit T.zay.self T.zem) (zar (T.ziW.kit T.zay.self T.zdq) (zar (T.zlG.kit T.zay.self T.zel) (zar (T.zoz.kit T.zay.self T.ze3) (zar (T.zlF.kit T.zay.self T.zek) (zar (T.zoy.kit T.zay.self T.ze2) zbt))))))⟩
  ·exact⟨t.zaq,T.zaR.xc,(zar (T.zlH.kit T.zaR.self T.zgE) (zar (T.ziW.kit T.zaR.self T.zeX) (zar (T.zlG.kit T.zaR.self T.zgD) (zar (T.zoz.kit T.zaR.self T.zhk) (zar (T.zlF.kit T.zaR.self T.zgC) (zar (T.zoy.kit T.zaR.self T.zhj) zbt))))))⟩
theorem zxq (T:Txt K mg t):znN K zBH [t.zbq,t.zaO] :=
 zdb (p:=fun _ C b=>W.kitAny K (.ref C) ([t.zbq,t.zaO].map Value.ref)=some b) fun q hq=>by
  simp only[List.mem_cons,List.not_mem_nil,or_false] at hq
  rcases hq with rfl | rfl | rfl | rfl
  ·exact⟨t.zaj,T.zaA.xcls.xc,(zar (T.zj0.kit T.zaA.self T.zd0) (zar (T.zgu.kit T.zaA.self T.zcS) zbt))⟩
  ·exact⟨t.zao,T.zaG.xcls.xc,(zar (T.zj0.kit T.zaG.self T.zes) (zar (T.zgu.kit T.zaG.self T.zc9) zbt))⟩
  ·exact⟨t.zai,T.zay.xcls.xc,(zar (T.zj0.kit T.zay.self T.zdR) (zar (T.zgu.kit T.zay.self T.zcR) zbt))⟩
  ·exact⟨t.zaq,T.zaR.xc,(zar (T.zj0.kit T.zaR.self T.zfU) (zar (T.zgu.kit T.zaR.self T.zdQ) zbt))⟩
theorem zxp (T:Txt K mg t):zqE K zBG (.ref t.zao) :=
 zdb (p:=fun _ C b=>W.kitOne K (.ref C) (.ref t.zao)=some b) fun q hq=>by
  simp only[List.mem_cons,List.not_mem_nil,or_false] at hq
  rcases hq with rfl | rfl | rfl | rfl
  ·exact⟨t.zaj,T.zaA.xcls.xc,T.zj1.kit T.zaA.self T.zd1⟩
  ·exact⟨t.zao,T.zaG.xcls.xc,T.zj1.kit T.zaG.self T.zeu⟩
  ·exact⟨t.zai,T.zay.xcls.xc,T.zj1.kit T.zay.self T.zdT⟩
  ·exact⟨t.zaq,T.zaR.xc,T.zj1.kit T.zaR.self T.zfW⟩
theorem zxo (T:Txt K mg t):zqE K zBF (.ref t.zai) :=
 zdb (p:=fun _ C b=>W.kitOne K (.ref C) (.ref t.zai)=some b) fun q hq=>by
  simp only[List.mem_cons,List.not_mem_nil,or_false] at hq
  rcases hq with rfl | rfl | rfl | rfl
  ·exact⟨t.zaj,T.zaA.xcls.xc,T.ziV.kit T.zaA.self T.zdu⟩
  ·exact⟨t.zao,T.zaG.xcls.xc,T.ziV.kit T.zaG.self T.zdV⟩
  ·exact⟨t.zai,T.zay.xcls.xc,T.ziV.kit T.zay.self T.zdp⟩
  ·exact⟨t.zaq,T.zaR.xc,T.ziV.kit T.zaR.self T.zeW⟩
theorem zxn (T:Txt K mg t):zqE K zBE (.ref t.zaq) :=
 zdb (p:=fun _ C b=>W.kitOne K (.ref C) (.ref t.zaq)=some b) fun q hq=>by
  simp only[List.mem_cons,List.not_mem_nil,or_false] at hq
  rcases hq with rfl | rfl | rfl | rfl
  ·exact⟨t.zaj,T.zaA.xcls.xc,T.zox.kit T.zaA.self T.zfe⟩
  ·exact⟨t.zao,T.zaG.xcls.xc,T.zox.kit T.zaG.self T.zfY⟩
  ·exact⟨t.zai,T.zay.xcls.xc,T.zox.kit T.zay.self T.ze1⟩
  ·exact⟨t.zaq,T.zaR.xc,T.zox.kit T.zaR.self T.zhi⟩
theorem zxm (T:Txt K mg t):zqE K zBD (.type "ValueError") :=
 zdb (p:=fun _ C b=>W.kitOne K (.ref C) (.type "ValueError")=some b) fun q hq=>by
  simp only[List.mem_cons,List.not_mem_nil,or_false] at hq
  rcases hq with rfl | rfl | rfl | rfl
  ·exact⟨t.zaj,T.zaA.xcls.xc,zmp ziU T.zaA.ve⟩
  ·exact⟨t.zao,T.zaG.xcls.xc,zmp ziU T.zaG.ve⟩
  ·exact⟨t.zai,T.zay.xcls.xc,zmp ziU T.zay.ve⟩
  ·exact⟨t.zaq,T.zaR.xc,zmp ziU T.zaR.ve⟩
theorem zt1 (T:Txt K mg t):zda P w K mg base CX0 1 t.zfB t.zow ["self","costs","left","bottom"] (zsk K ["costs","left","bottom"]) :=
 zA0 T.zy6 zu0 (by decide) rfl (by decide) fun cdv A outer s0 H E=>(zrU (i:=1) rfl rfl (Or.inl rfl) (Or.inl rfl) (zrU (i:=2) rfl rfl (Or.inl rfl) (Or.inl rfl) (zrU (i:=3) rfl rfl (Or.inl rfl) (Or.inl rfl) zCV)))
theorem zeM (T:Txt K mg t):zda P w K mg base CX0 1 t.zeO t.zov ["self","part","number"] (zDb K ["part","number"]) :=
 zEa T.zy5 zuZ rfl (by decide) fun cdv A outer s0 H E=>(zDm (i:=1) T.zqU rfl T.znG (zq9 (i:=1) rfl (Or.inl rfl) (zq9 (i:=2) rfl (Or.inl rfl) zB8)) rfl rfl (Or.inl rfl) (Or.inl rfl) (zzN (i:=2) rfl rfl (Or.inl rfl) (Or.inl rfl) zBu))
theorem zhX (T:Txt K mg t):zda P w K mg base CX0 1 t.zgW t.zgP ["_law_script","_law_k"] (spD K 2 zbu) :=
 zaI T.zgY zl5 fun cdv A outer s0 H H₀ E hr=>(
 (zac (zbL (zaJ zkm (zbF fun _ _ _ _=>rb _) (dv 1) (zaT zbp zc7 rfl T.n_len PyProof.Rows.Boot.«len» (zaa (dv 0) zam)) nm)
 (zac (zaK (zak (dv 0) (dv 1)))
 zah)
 zah)
 (zac (zaK (zaW (zcy zae (dv 1)) (zcy zae (zaT zbp zc7 rfl T.n_len PyProof.Rows.Boot.«len» (zaa (dv 0) zam)))))
 zah)))
theorem zfy (T:Txt K mg t):zda P w K mg base CX0 1 t.ziz t.zih ["_law_cell","_law_sizes"] (spD K 2 zaU) :=
 zaI T.zeU zb6 fun cdv A outer s0 H H₀ E hr=>(
 (zac (zaF (i:=2) zb6.nd rfl (Or.inl rfl) (zaT (zwR rfl) zC0 rfl T.n_max PyProof.Rows.Boot.«max» (zaa (dv 0) (zaa (zlf (zjs zae) (dv 0)) zam))))
 (zac (zaF (i:=3) zb6.nd rfl (Or.inl rfl) (dv 2))
 (zac (zmC (i:=4) zb6.nd rfl (Or.inl rfl) (zle zam))
 (zac (zmD PassesOwn.never rfl rfl T.n_range (zaT zbp zc7 rfl T.n_len PyProof.Rows.Boot.«len» (zaa (dv 1) zam)) (zbO (i:=5) zb6.nd rfl (Or.inl rfl)) zcO
 (zac (zbL (DW.dt (zg7 (zaJ zAz (zbF fun _ _ _ _=>rb _) (dv 2) (zmI zae zae) nm) (zdK (zaJ zto (zbF fun _ _ _ _=>rb _) (dv 3) zae nm))))
 (zac (zg8 (i:=4) rfl (Or.inl rfl) (zc6 (dv 3) (zak (dv 1) (dv 5))))
 (zac (zaF (i:=3) zb6.nd rfl (Or.inl rfl) (zj9 (dv 3) (zak (dv 1) (dv 5))))
 zah))
 (zac (zaF (i:=6) zb6.nd rfl (Or.inl rfl) (zc6 (zcy (zaW (zaW (zaW (zc6 (dv 2) zae) (zcy (zcy zae (dv 5)) (dv 5))) (zcy zae (dv 5))) zae) zae) zae))
 (zac (zaF (i:=6) zb6.nd rfl (Or.inl rfl) (zc6 (zcy (zaW (zc6 (zcy (dv 6) (dv 6)) zae) (dv 5)) zae) zae))
 (zac (zg8 (i:=4) rfl (Or.inl rfl) (zc6 (zj9 (dv 6) zae) (zak (dv 1) (dv 5))))
 zah))))
 zah))
 (zac (zaK (dv 4))
 zah))))))
theorem zok (T:Txt K mg t):zda P w K mg base CX0 2 t.ziy t.zig ["_law_cell","_law_many"] (spD K 2 zcV) :=
 zaI T.zlk zbf fun cdv A outer s0 H H₀ E hr=>(
 (zac (zaF (i:=2) zbf.nd rfl (Or.inr rfl) zbC)
 (zac (zaF (i:=3) zbf.nd rfl (Or.inl rfl) (zax ((zfy T).mono (by decide:1<=1)) hr rfl T.zgv T.zeU.kp T.zct zb7 (zaa (dv 0) (zaa (zaW (zaW (zbP (zaa zae (zaa zae (zaa zae (zaa zae (zaa zae zam)))))) (zwB (zle (zaa zae zam)) zae)) (zwB (zle (zaa zae zam)) zae)) zam)) rfl (fun ρ ds h=>(fun _ h=>zag (fun _ h=>zag (fun _ h=>zat h) h) h) ds h)))
 (zac (zaF (i:=4) zbf.nd rfl (Or.inl rfl) (zak (zbP (zaa zae (zaa zae (zaa zae (zaa zae (zaa zae (zaa zae (zaa zae (zaa zae (zaa zae (zaa zae (zaa zae (zaa zae zam))))))))))))) (zak (dv 3) zae)))
 (zac (zaF (i:=5) zbf.nd rfl (Or.inl rfl) (zA5 zbC (zaa (zoJ (zuo ["_law_digit","_law_letters"] 1 [2] rfl (zib (zbi (dv 3) (zbG zae) (zbG zae))) (zdh (by decide)) (fun s H C fp pn=>⟨fun He H0e=>(zbO (i:=0) (show List.Nodup (["_law_digit","_law_letters"]:List Str) from by decide) rfl (Or.inl rfl)),zjG,(zak (dv 1) (dv 0))⟩) ⟨rfl,rfl⟩ rfl rfl rfl rfl)) zam)))
 (zac (zmC (i:=6) zbf.nd rfl (Or.inl rfl) (zle zam))
 (zac (zmD PassesOwn.never rfl rfl T.n_range (dv 1) (zbO (i:=7) zbf.nd rfl (Or.inl rfl)) zcO
 (zac (zaF (i:=8) zbf.nd rfl (Or.inl rfl) (zaW zae (zak (dv 3) zae)))
 (zac (zbL (zaJ (zco hr.units) zeG (zak (dv 3) zae) zae nm)
 (zac (zaF (i:=8) zbf.nd rfl (Or.inl rfl) (zaW zae (zak (dv 3) (zaW zae (dv 7)))))
 zah)
 zah)
 (zac (zaF (i:=9) zbf.nd rfl (Or.inl rfl) (zc6 (zak (dv 3) zae) (dv 8)))
 (zac (zaF (i:=10) zbf.nd rfl (Or.inl rfl) (zak (dv 2) (zc6 (zaW (zak (dv 3) zae) (zcy (dv 7) (dv 4))) zae)))
 (zac (zg8 (i:=6) rfl (Or.inl rfl) (zaW (zaW (zbi (dv 5) zd4 (zbG (dv 9))) (dv 10)) (zbi (dv 5) (zbG (zaW (dv 9) zae)) (zbG (dv 8)))))
 zah))))))
 (zac (zaK (dv 6))
 zah))))))))
theorem zhW (T:Txt K mg t):zda P w K mg base CX0 1 t.zgV t.zgO ["_law_one","_law_other_here"] (spD K 2 zcF) :=
 zaI T.zgX zhS fun cdv A outer s0 H H₀ E hr=>(
 (zac (zsU _ PassesOwn.never (zaJ (zhA hr.units) zlz (dv 1) zae nm)
 (zac (zCS (i:=0) (j:=1) rfl zhS.nd rfl rfl (by decide) rfl rfl (zaa (dv 1) (zaa (zc6 (dv 0) (dv 1)) zam)) rfl)
 zah))
 (zac (zaK (zaT zlS zs3 rfl T.n_abs PyProof.Rows.Boot.«abs» (zaa (dv 0) zam)))
 zah)))
theorem zdd (T:Txt K mg t):zda P w K mg base CX0 2 t.zhv t.zhq ["_law_top","_law_bottom"] (spD K 2 za1) :=
 zaI T.zc4 zjk fun cdv A outer s0 H H₀ E hr=>(
 (zac (zaF (i:=2) zjk.nd rfl (Or.inl rfl) (zax ((zhW T).mono (by decide:1<=1)) hr rfl T.zjp T.zgX.kp T.zcd zb7 (zaa (dv 0) (zaa (dv 1) zam)) rfl (fun ρ ds h=>(fun _ h=>zag (fun _ h=>zag (fun _ h=>zat h) h) h) ds h)))
 (zac (zaK (zde (zaa (zj9 (dv 0) (dv 2)) (zaa (zj9 (dv 1) (dv 2)) zam))))
 zah)))
theorem zfi (T:Txt K mg t):zda P w K mg base CX0 3 t.zgm t.zgf ["_law_digits","_law_least"] (spD K 2 zaS) :=
 zaI T.zeb zdj fun cdv A outer s0 H H₀ E hr=>(
 (zac (zww rfl (dv 0) (zd5 (i:=2) zdj.nd rfl (Or.inl rfl) (zd5 (i:=3) zdj.nd rfl (Or.inl rfl) (zd5 (i:=4) zdj.nd rfl (Or.inl rfl) zmH))))
 (zac (zbL (zaJ zkm (zbF fun _ _ _ _=>rb _) (dv 2) zae nm)
 (zac (zaK (zde (zaa (zaW (dv 1) (zc6 (dv 3) zae)) (zaa zae zam))))
 zah)
 zah)
 (zac (zbL (zaJ zkm (zbF fun _ _ _ _=>rb _) (dv 2) zae nm)
 (zac (zaK (zax ((zdd T).mono (by decide:2<=2)) hr rfl T.zd3 T.zc4.kp T.zbv zb7 (zaa (zaW (dv 1) (zc6 (dv 3) zae)) (zaa (zaW zae (zc6 (dv 4) zae)) zam)) rfl (fun ρ ds h=>(fun _ h=>zag (fun _ h=>zag (fun _ h=>zat h) h) h) ds h)))
 zah)
 zah)
 (zac (zaK (zax ((zdd T).mono (by decide:2<=2)) hr rfl T.zd3 T.zc4.kp T.zbv zb7 (zaa (zaW (dv 1) (dv 3)) (zaa (zaW zae (dv 4)) zam)) rfl (fun ρ ds h=>(fun _ h=>zag (fun _ h=>zag (fun _ h=>zat h) h) h) ds h)))
 zah)))))
theorem zro (T:Txt K mg t):zda P w K mg base CX0 4 t.zkP t.zkD ["_law_places","_law_cell","_law_bound"] (spD K 3 zdJ) :=
 zaI T.znS zcP fun cdv A outer s0 H H₀ E hr=>(
 (zac (zaF (i:=3) zcP.nd rfl (Or.inl rfl) (zbP (zaa zae (zaa (dv 2) (zaa (dv 2) zam)))))
 (zac (zaF (i:=4) zcP.nd rfl (Or.inl rfl) (zax ((zfy T).mono (by decide:1<=3)) hr rfl T.zgv T.zeU.kp T.zct zb7 (zaa (dv 1) (zaa (zaW (zaW (zbP (zaa (zaT zbp zc7 rfl T.n_len PyProof.Rows.Boot.«len» (zaa (dv 0) zam)) (zaa (zlf (zaT zbp zc7 rfl T.n_len PyProof.Rows.Boot.«len» (zaa (dv 0) zam)) zae) (zaa zae (zaa zae zam))))) (dv 3)) (dv 3)) zam)) rfl (fun ρ ds h=>(fun _ h=>zag (fun _ h=>zag (fun _ h=>zat h) h) h) ds h)))
 (zac (zaF (i:=5) zcP.nd rfl (Or.inl rfl) zdL)
 (zac (zbL (zaJ zto (zbF fun _ _ _ _=>rb _) (zak (dv 4) zae) zae nm)
 (zac (zaF (i:=5) zcP.nd rfl (Or.inl rfl) (zax ((zfi T).mono (by decide:3<=3)) hr rfl T.zf5 T.zeb.kp T.zbw zb7 (zaa (zbi (dv 4) (zbG zae) (zbG zae)) (zaa zae zam)) rfl (fun ρ ds h=>(fun _ h=>zag (fun _ h=>zag (fun _ h=>zat h) h) h) ds h)))
 zah)
 zah)
 (zac (zaF (i:=6) zcP.nd rfl (Or.inl rfl) (zak (dv 0) (zak (dv 4) zae)))
 (zac (zaF (i:=7) zcP.nd rfl (Or.inl rfl) (zak (dv 0) (zc6 (zaW (zaW (zak (dv 4) zae) zae) (zak (dv 4) zae)) (zaT zbp zc7 rfl T.n_len PyProof.Rows.Boot.«len» (zaa (dv 0) zam)))))
 (zac (zaF (i:=8) zcP.nd rfl (Or.inl rfl) (zak (zbP (zaa zbC (zaa zbC zam))) (zak (dv 4) zae)))
 (zac (zaK (zde (zaa (dv 6) (zaa (dv 7) (zaa (dv 8) (zaa (zax ((zfi T).mono (by decide:3<=3)) hr rfl T.zf5 T.zeb.kp T.zbw zb7 (zaa (zbi (dv 4) (zbG zae) (zbG zae)) (zaa zae zam)) rfl (fun ρ ds h=>(fun _ h=>zag (fun _ h=>zag (fun _ h=>zat h) h) h) ds h)) (zaa (dv 5) zam)))))))
 zah)))))))))
theorem zrn (T:Txt K mg t):zda P w K mg base CX0 5 t.zkO t.zkC ["_law_script","_law_at"] (spD K 2 zdI) :=
 zaI T.znR zcu fun cdv A outer s0 H H₀ E hr=>(
 (zac (zaF (i:=2) zcu.nd rfl (Or.inl rfl) (zax ((zhX T).mono (by decide:1<=4)) hr rfl T.zjq T.zgY.kp T.zcH zb7 (zaa (dv 0) (zaa (dv 1) zam)) rfl (fun ρ ds h=>(fun _ h=>zag (fun _ h=>zag (fun _ h=>zat h) h) h) ds h)))
 (zac (zaF (i:=3) zcu.nd rfl (Or.inl rfl) (zax ((zfy T).mono (by decide:1<=4)) hr rfl T.zgv T.zeU.kp T.zct zb7 (zaa (dv 2) (zaa (zbP (zaa zae (zaa zae (zaa zae (zaa zae zam))))) zam)) rfl (fun ρ ds h=>(fun _ h=>zag (fun _ h=>zag (fun _ h=>zat h) h) h) ds h)))
 (zac (zaF (i:=4) zcu.nd rfl (Or.inl rfl) (zax ((zok T).mono (by decide:2<=4)) hr rfl T.zqf T.zlk.kp T.zgz zb7 (zaa (zj9 (dv 2) zae) (zaa (zaW zae (zak (dv 3) zae)) zam)) rfl (fun ρ ds h=>(fun _ h=>zag (fun _ h=>zag (fun _ h=>zat h) h) h) ds h)))
 (zac (zmC (i:=5) zcu.nd rfl (Or.inl rfl) (zle zam))
 (zac (zmD PassesOwn.never rfl rfl T.n_range (zak (dv 3) zae) (zbO (i:=6) zcu.nd rfl (Or.inl rfl)) zcO
 (zac (zaF (i:=7) zcu.nd rfl (Or.inl rfl) (zak (zbP (zaa (zlf (zmI zae zae) zae) (zaa (zmI zae zae) zam))) (zi3 zqw zzD rfl T.n_int PyProof.Rows.Boot.«int» (zaa (zgw zto (zbF fun _ _ _ _=>rb _) (zc6 (dv 6) zae) zae nm) zam))))
 (zac (zg8 (i:=5) rfl (Or.inl rfl) (zax ((zro T).mono (by decide:4<=4)) hr rfl T.zt8 T.znS.kp T.zhb zb7 (zaa (dv 4) (zaa (zax ((zhX T).mono (by decide:1<=4)) hr rfl T.zjq T.zgY.kp T.zcH zb7 (zaa (dv 0) (zaa (zaW (zaW (dv 1) zae) (dv 6)) zam)) rfl (fun ρ ds h=>(fun _ h=>zag (fun _ h=>zag (fun _ h=>zat h) h) h) ds h)) (zaa (dv 7) zam))) rfl (fun ρ ds h=>(fun _ h=>zag (fun _ h=>zag (fun _ h=>zag (fun _ h=>zat h) h) h) h) ds h)))
 zah)))
 (zac (zaF (i:=8) zcu.nd rfl (Or.inl rfl) (zc6 (zak (dv 3) zae) (zaT zbp zc7 rfl T.n_len PyProof.Rows.Boot.«len» (zaa (dv 4) zam))))
 (zac (zaF (i:=9) zcu.nd rfl (Or.inl rfl) (zc6 (zaW (zaW (dv 8) zae) (zc6 (zak (dv 3) zae) (zlf (zaT zbp zc7 rfl T.n_len PyProof.Rows.Boot.«len» (zaa (dv 4) zam)) zae))) (zaT zbp zc7 rfl T.n_len PyProof.Rows.Boot.«len» (zaa (dv 4) zam))))
 (zac (zaK (zde (zaa (dv 4) (zaa (dv 5) (zaa (zak (dv 4) (dv 8)) (zaa (zak (dv 4) (dv 9)) zam))))))
 zah)))))))))
theorem zrp (T:Txt K mg t):zda P w K mg base CX0 3 t.zkQ t.zkE ["_law_some"] (spD K 1 zfP) :=
 zaI T.znT zeh fun cdv A outer s0 H H₀ E hr=>(
 (zac (zaF (i:=1) zeh.nd rfl (Or.inl rfl) zae)
 (zac (zaF (i:=2) zeh.nd rfl (Or.inl rfl) zae)
 (zac (znH PassesOwn.never rfl (dv 0) (zbO (i:=3) zeh.nd rfl (Or.inl rfl)) zcO
 (zac (zaF (i:=1) zeh.nd rfl (Or.inl rfl) (zaW (zcy (dv 1) (zak (dv 3) zae)) (zcy (zak (dv 3) zae) (dv 2))))
 (zac (zaF (i:=2) zeh.nd rfl (Or.inl rfl) (zcy (dv 2) (zak (dv 3) zae)))
 zah)))
 (zac (zaK (zax ((zdd T).mono (by decide:2<=2)) hr rfl T.zd3 T.zc4.kp T.zbv zb7 (zaa (dv 1) (zaa (dv 2) zam)) rfl (fun ρ ds h=>(fun _ h=>zag (fun _ h=>zag (fun _ h=>zat h) h) h) ds h)))
 zah)))))
theorem zoi (T:Txt K mg t):zda P w K mg base CX0 4 t.ziw t.zie ["_law_digits","_law_worth"] (spD K 2 zbm) :=
 zaI T.zli zhg fun cdv A outer s0 H H₀ E hr=>(
 (zac (zww rfl (zbi (dv 0) zd4 (zbG zae)) (zd5 (i:=2) zhg.nd rfl (Or.inl rfl) (zd5 (i:=3) zhg.nd rfl (Or.inl rfl) zmH)))
 (zac (zbL (DW.dt (zg7 (zaJ zkm (zbF fun _ _ _ _=>rb _) (zaT zlS zs3 rfl T.n_abs PyProof.Rows.Boot.«abs» (zaa (zak (dv 1) zae) zam)) (zmI zae zae) nm) (zg7 (zaJ zkm (zbF fun _ _ _ _=>rb _) (zak (dv 1) zae) (zmI zae zae) nm) (zdK (zaJ zkm (zbF fun _ _ _ _=>rb _) (dv 2) zae nm)))))
 (zac (zbL (zaJ (zco hr.units) zeG (dv 2) zae nm)
 (zac (zaK (zax ((zdd T).mono (by decide:2<=3)) hr rfl T.zd3 T.zc4.kp T.zbv zb7 (zaa (zaW (zcy zae (zak (dv 1) zae)) zae) (zaa (zcy zae (zak (dv 1) zae)) zam)) rfl (fun ρ ds h=>(fun _ h=>zag (fun _ h=>zag (fun _ h=>zat h) h) h) ds h)))
 zah)
 zah)
 (zac (zbL (DW.dt (zg7 (zaJ (zco hr.units) zeG (dv 2) zae nm) (zdK (zaJ zto (zbF fun _ _ _ _=>rb _) (zak (dv 1) zae) zae nm))))
 (zac (zaK (zax ((zdd T).mono (by decide:2<=3)) hr rfl T.zd3 T.zc4.kp T.zbv zb7 (zaa (zlf (zcy zae (zak (dv 1) zae)) zae) (zaa (zcy zae (zak (dv 1) zae)) zam)) rfl (fun ρ ds h=>(fun _ h=>zag (fun _ h=>zag (fun _ h=>zat h) h) h) ds h)))
 zah)
 zah)
 (zac (zbL (zaJ zkm (zbF fun _ _ _ _=>rb _) (dv 2) zae nm)
 (zac (zaK (dv 1))
 zah)
 zah)
 zah)))
 zah)
 (zac (zaK (zax ((zfi T).mono (by decide:3<=3)) hr rfl T.zf5 T.zeb.kp T.zbw zb7 (zaa (zbi (dv 0) (zbG zae) zd4) (zaa zae zam)) rfl (fun ρ ds h=>(fun _ h=>zag (fun _ h=>zag (fun _ h=>zat h) h) h) ds h)))
 zah))))
theorem zko (T:Txt K mg t):zda P w K mg base CX0 1 t.zfs t.zfo ["_law_web_here","_law_taking","_law_kind"] (spD K 3 zb4) :=
 zaI T.zhJ zch fun cdv A outer s0 H H₀ E hr=>(
 (zac (zmC (i:=3) zch.nd rfl (Or.inl rfl) (zle (zaa (zi3 zoU zyX rfl T.n_tuple PyProof.Rows.Boot.«tuple» (zaa (dv 1) zam)) (zaa (zaW (dv 1) (zbP (zaa zae zam))) (zaa zdL (zaa (zaW (zbP (zaa (zjs zae) zam)) (dv 1)) (zaa (zaW (dv 1) (zbP (zaa zf9 zam))) (zaa zbC zam))))))))
 (zac (zbL (zaJ (zhA hr.units) zlz (dv 1) (zbP zam) nm)
 (zac (zwy 3 (zmC (i:=3) zch.nd rfl (Or.inl rfl) (zzx (dv 3) (zbP (zaa (zaW (zbi (dv 1) zd4 (zbG zae)) (dv 1)) (zaa (zaW (dv 1) (zbi (dv 1) (zbG (zjs zae)) zd4)) (zaa (zaW (dv 1) (zbi (dv 1) zd4 (zbG zae))) zam)))))))
 (zac (zwy 3 (zmC (i:=3) zch.nd rfl (Or.inl rfl) (zzx (dv 3) (zbP (zaa (zaW (zbi (dv 1) zd4 (zbG (zjs zae))) (zbP (zaa zbC zam))) (zaa (zaW (zbP (zaa zdL zam)) (zbi (dv 1) (zbG zae) zd4)) zam))))))
 zah))
 zah)
 (zac (zrT (i:=4) zch.nd rfl rfl zka (zuo ["_law_k","_law_web_here"] 1 [0] rfl (zmG rfl T.n_range (zaT zbp zc7 rfl T.n_len PyProof.Rows.Boot.«len» (zaa (zak (dv 0) zae) zam))) (zdh (by decide)) (fun s H C fp pn=>⟨fun He H0e=>(zbO (i:=0) (show List.Nodup (["_law_k","_law_web_here"]:List Str) from by decide) rfl (Or.inl rfl)),(zmF (zaJ zsD zsE (zak (zak (zak (dv 1) zae) (dv 0)) zae) zdL nm)),(dv 0)⟩) ⟨rfl,rfl⟩ rfl rfl rfl rfl))
 (zac (zbL (zaJ (zhA hr.units) zlz (dv 4) (zbP zam) nm)
 (zac (zg8 (i:=3) rfl (Or.inl rfl) (zaT znM zwQ rfl T.n_sorted PyProof.Rows.Boot.«sorted» (zaa (zaW (dv 1) (zbP (zaa (zak (dv 4) (zc6 (dv 2) (zaT zbp zc7 rfl T.n_len PyProof.Rows.Boot.«len» (zaa (dv 4) zam)))) zam))) zam)))
 (zac (zg8 (i:=3) rfl (Or.inl rfl) (zbP (zaa (zak (dv 4) zae) zam)))
 zah))
 zah)
 (zac (zaK (zak (dv 3) (zc6 (dv 2) (zaT zbp zc7 rfl T.n_len PyProof.Rows.Boot.«len» (zaa (dv 3) zam)))))
 zah))))))
theorem zlx (T:Txt K mg t):zda P w K mg base CX0 1 t.zgk t.zgd ["_law_kind"] (spD K 1 zcU) :=
 zaI T.ziG zhx fun cdv A outer s0 H H₀ E hr=>(
 (zac (zaF (i:=1) zhx.nd rfl (Or.inl rfl) (zbP (zaa zdL (zaa zf9 (zaa zae (zaa zae (zaa zbC (zaa (zde (zaa (zjs zae) (zaa zae zam))) (zaa (zde (zaa zae (zaa zae zam))) (zaa (zde (zaa zae (zaa zae zam))) (zaa (zde (zaa zae (zaa zae zam))) (zaa (zbP (zaa zae (zaa zae zam))) (zaa (zde (zaa zf9 (zaa zae zam))) (zaa (zde (zaa zae (zaa (zjs zae) zam))) zam))))))))))))))
 (zac (zaK (zak (zaW (dv 1) (zbP (zaa (zde zam) (zaa (zde (zaa zae (zaa zf9 zam))) zam)))) (zc6 (dv 0) zae)))
 zah)))
theorem ziR (T:Txt K mg t):zda P w K mg base CX0 1 t.zmX t.zmK ["thing"] (spD K 1 zcT) :=
 zaI T.ziE ztj fun cdv A outer s0 H H₀ E hr=>(
 (zac (zbL (DW.dt (zf7 (zb9 (zbN (zca znB rfl T.n_isinstance rfl T.n_str PyProof.Rows.Boot.«str» (dv 0)))) (zbc (zb9 (zsT zrj zrj (zg4 fun _ _ _ _=>rb _) (zg4 fun _ _ _ _=>rb _) zg5 zg5 zae (zaT zbp zc7 rfl T.n_len PyProof.Rows.Boot.«len» (zaa (dv 0) zam)) (zbD T.zgQ rfl))))))
 (zac (zaK zf9)
 zah)
 zah)
 (zac (zaK (zaT (zyY rfl) zC1 rfl T.n_all PyProof.Rows.Boot.«all» (zaa (zoJ (zuo ["sign"] 1 [] rfl (zCU (dv 0)) (zdh (by decide)) (fun s H C fp pn=>⟨fun He H0e=>(zbO (i:=0) (show List.Nodup (["sign"]:List Str) from by decide) rfl (Or.inl rfl)),zjG,(zgw (zAy hr.units) zAE (dv 0) (zbD T.zmU rfl) rfl)⟩) ⟨rfl,rfl⟩ rfl rfl rfl rfl)) zam)))
 zah)))
theorem zkn (T:Txt K mg t):zda P w K mg base (CXE P w) 3 t.zfq t.zfm ["places"] (spD K 1 zaZ) :=
 zcr T.zhI zeg fun cdv A outer s0 H H₀ E hr=>(
 (zac (zbL (DW.dt (zf7 (zb9 (zbN (zca zjB rfl T.n_isinstance rfl T.n_list PyProof.Rows.Boot.«list» (dv 0)))) (zbc (zb9 (zsT zrj zrj (zg4 fun _ _ _ _=>rb _) (zg4 fun _ _ _ _=>rb _) zg5 zg5 (zbD T.zgg rfl) (zaT zbp zc7 rfl T.n_len PyProof.Rows.Boot.«len» (zaa (dv 0) zam)) (zbD T.zhr rfl))))))
 (zac (zf8 T.zaR.xc T.zhd T.zhc T.zhe ((zeM T).mono (by decide:1<=1)) T.zfC (by decide) hr T.zh7 hr.hd rfl (zaa zbC (zaa zdL zam)))
 zah)
 zah)
 (zac (zwz PassesOwn.leaving rfl (zwA rfl T.n_enumerate (dv 0)) (zzw rfl (zd5 (i:=1) zeg.nd rfl (Or.inl rfl) (zd5 (i:=2) zeg.nd rfl (Or.inl rfl) zmH))) zpv
 (zac (zbL (DW.dt (zf7 (zb9 (zbN (zax ((ziR T).mono (by decide:1<=2)) hr rfl T.zj4 T.ziE.kp T.zdf zhV (zaa (dv 2) zam) rfl (fun ρ ds h=>(fun _ h=>zag (fun _ h=>zat h) h) ds h)))) (zbc (zaJ (zAy hr.units) zAE (dv 2) (zbi (dv 0) zd4 (zbG (dv 1))) rfl))))
 (zac (zf8 T.zaR.xc T.zhd T.zhc T.zhe ((zeM T).mono (by decide:1<=1)) T.zfC (by decide) hr T.zh7 hr.hd rfl (zaa zbC (zaa (dv 1) zam)))
 zah)
 zah)
 zah))
 zah)))
theorem zf3 (T:Txt K mg t):zda P w K mg base CX0 1 t.zkK t.zky ["thing"] (spD K 1 zcq) :=
 zaI T.zfR zq3 fun cdv A outer s0 H H₀ E hr=>(
 (zac (zaK (zlg (zca znC rfl T.n_isinstance rfl T.n_int PyProof.Rows.Boot.«int» (dv 0)) (zjr (zwC (zca zjC rfl T.n_isinstance rfl T.n_bool PyProof.Rows.Boot.«bool» (dv 0))))))
 zah))
theorem zeF (T:Txt K mg t):zda P w K mg base CX0 1 t.zfr t.zfn ["one","other"] (spD K 2 za8) :=
 zaI T.zdm zbK fun cdv A outer s0 H H₀ E hr=>(
 (zac (zaF (i:=2) zbK.nd rfl (Or.inl rfl) (zaT zlS zs3 rfl T.n_abs PyProof.Rows.Boot.«abs» (zaa (dv 0) zam)))
 (zac (zaF (i:=3) zbK.nd rfl (Or.inl rfl) (zaT zlS zs3 rfl T.n_abs PyProof.Rows.Boot.«abs» (zaa (dv 1) zam)))
 (zac (zsU _ PassesOwn.never (zaJ (zhA hr.units) zlz (dv 3) zae nm)
 (zac (zaF (i:=4) zbK.nd rfl (Or.inl rfl) (zc6 (dv 2) (dv 3)))
 (zac (zaF (i:=2) zbK.nd rfl (Or.inl rfl) (dv 3))
 (zac (zaF (i:=3) zbK.nd rfl (Or.inl rfl) (dv 4))
 zah))))
 (zac (zaK (dv 2))
 zah)))))
theorem zjy (T:Txt K mg t):zda P w K mg base CX0 2 t.zkL t.zkz ["thing"] (spD K 1 zc1) :=
 zaI T.zje zq4 fun cdv A outer s0 H H₀ E hr=>(
 (zac (zbL (DW.dt (zf7 (zb9 (zbN (zca zgt rfl T.n_isinstance rfl T.n_tuple PyProof.Rows.Boot.«tuple» (dv 0)))) (zbc (zaJ (zhA hr.units) zlz (zaT zbp zc7 rfl T.n_len PyProof.Rows.Boot.«len» (zaa (dv 0) zam)) zae nm))))
 (zac (zaK zf9)
 zah)
 zah)
 (zac (zbL (DW.dt (zf7 (zb9 (zbN (zax ((zf3 T).mono (by decide:1<=1)) hr rfl T.zg6 T.zfR.kp T.zeN zb7 (zaa (zak (dv 0) zae) zam) rfl (fun ρ ds h=>(fun _ h=>zag (fun _ h=>zat h) h) ds h)))) (zbc (zb9 (zbN (zax ((zf3 T).mono (by decide:1<=1)) hr rfl T.zg6 T.zfR.kp T.zeN zb7 (zaa (zak (dv 0) zae) zam) rfl (fun ρ ds h=>(fun _ h=>zag (fun _ h=>zat h) h) ds h)))))))
 (zac (zaK zf9)
 zah)
 zah)
 (zac (zaK (zlg (zgw zAz (zbF fun _ _ _ _=>rb _) (zak (dv 0) zae) zae nm) (zjr (zgw (zco hr.units) zeG (zax ((zeF T).mono (by decide:1<=1)) hr rfl T.zfk T.zdm.kp T.zbo zb7 (zaa (zak (dv 0) zae) (zaa (zak (dv 0) zae) zam)) rfl (fun ρ ds h=>(fun _ h=>zag (fun _ h=>zag (fun _ h=>zat h) h) h) ds h)) zae nm))))
 zah))))
theorem zpO (T:Txt K mg t):zda P w K mg base CX0 3 t.zjN t.zjI ["thing"] (spD K 1 zeI) :=
 zaI T.zm1 zpD fun cdv A outer s0 H H₀ E hr=>(
 (zac (zaK (zlg (zax ((zjy T).mono (by decide:2<=2)) hr rfl T.zkq T.zje.kp T.zb5 zb7 (zaa (dv 0) zam) rfl (fun ρ ds h=>(fun _ h=>zag (fun _ h=>zat h) h) ds h)) (zjr (zgw zAz (zbF fun _ _ _ _=>rb _) (zak (dv 0) zae) zae nm))))
 zah))
theorem zrl (T:Txt K mg t):zda P w K mg base CX0 3 t.zkJ t.zkx ["thing"] (spD K 1 zfO) :=
 zaI T.znP zq2 fun cdv A outer s0 H H₀ E hr=>(
 (zac (zaK (zCX (zgw zsD zsE (dv 0) zdL nm) (zjr (zlg (zax ((zjy T).mono (by decide:2<=2)) hr rfl T.zkq T.zje.kp T.zb5 zb7 (zaa (dv 0) zam) rfl (fun ρ ds h=>(fun _ h=>zag (fun _ h=>zat h) h) ds h)) (zjr (zgw zto (zbF fun _ _ _ _=>rb _) (zak (dv 0) zae) zae nm))))))
 zah))
theorem zvE (T:Txt K mg t):zda P w K mg base CX0 4 t.zo1 t.zoL ["thing"] (spD K 1 zgs) :=
 zaI T.zta zu1 fun cdv A outer s0 H H₀ E hr=>(
 (zac (zbL (DW.dt (zf7 (zb9 (zbN (zca zgt rfl T.n_isinstance rfl T.n_tuple PyProof.Rows.Boot.«tuple» (dv 0)))) (zbc (zaJ (zhA hr.units) zlz (zaT zbp zc7 rfl T.n_len PyProof.Rows.Boot.«len» (zaa (dv 0) zam)) zae nm))))
 (zac (zaK zf9)
 zah)
 zah)
 (zac (zbL (DW.dt (zf7 (zb9 (zbN (zax ((ziR T).mono (by decide:1<=3)) hr rfl T.zj4 T.ziE.kp T.zdf zb7 (zaa (zak (dv 0) (zbD T.zwS rfl)) zam) rfl (fun ρ ds h=>(fun _ h=>zag (fun _ h=>zat h) h) ds h)))) (zf7 (zb9 (zbN (zax ((ziR T).mono (by decide:1<=3)) hr rfl T.zj4 T.ziE.kp T.zdf zb7 (zaa (zak (dv 0) (zbD T.zmT rfl)) zam) rfl (fun ρ ds h=>(fun _ h=>zag (fun _ h=>zat h) h) ds h)))) (zbc (zaJ (zco hr.units) zeG (zak (dv 0) (zbD T.zwS rfl)) (zak (dv 0) (zbD T.zmT rfl)) nm)))))
 (zac (zaK zf9)
 zah)
 zah)
 (zac (zbL (DW.dt (zf7 (zb9 (zbN (zca znB rfl T.n_isinstance rfl T.n_str PyProof.Rows.Boot.«str» (zak (dv 0) (zbD T.zs4 rfl))))) (zbc (zaJ (zog hr.units) zon (zak (dv 0) (zbD T.zs4 rfl)) (zbD T.zr0 rfl) rfl))))
 (zac (zaK zf9)
 zah)
 zah)
 (zac (zaK (zlg (zax ((zpO T).mono (by decide:3<=3)) hr rfl T.zrQ T.zm1.kp T.zht zb7 (zaa (zak (dv 0) (zbD T.zoW rfl)) zam) rfl (fun ρ ds h=>(fun _ h=>zag (fun _ h=>zat h) h) ds h)) (zjr (zax ((zrl T).mono (by decide:3<=3)) hr rfl T.zt5 T.znP.kp T.zi9 zb7 (zaa (zak (dv 0) (zbD T.zkF rfl)) zam) rfl (fun ρ ds h=>(fun _ h=>zag (fun _ h=>zat h) h) ds h)))))
 zah)))))
theorem zmd (T:Txt K mg t):zda P w K mg base (CXE P w) 5 t.zgU t.zgN ["ties","places"] (spD K 2 zbd) :=
 zcr T.zjw zfS fun cdv A outer s0 H H₀ E hr=>(
 (zac (zbL (DW.dt (zf7 (zb9 (zbN (zca zjB rfl T.n_isinstance rfl T.n_list PyProof.Rows.Boot.«list» (dv 0)))) (zbc (zaJ zto (zbF fun _ _ _ _=>rb _) (zaT zbp zc7 rfl T.n_len PyProof.Rows.Boot.«len» (zaa (dv 0) zam)) (zbD T.zjL rfl) nm))))
 (zac (zf8 T.zaR.xc T.zhd T.zhc T.zhe ((zeM T).mono (by decide:1<=3)) T.zfC (by decide) hr T.zh7 hr.hd rfl (zaa zbC (zaa zdL zam)))
 zah)
 zah)
 (zac (zwz PassesOwn.leaving rfl (zwA rfl T.n_enumerate (dv 0)) (zzw rfl (zd5 (i:=2) zfS.nd rfl (Or.inl rfl) (zd5 (i:=3) zfS.nd rfl (Or.inl rfl) zmH))) zpv
 (zac (zbL (DW.dt (zf7 (zb9 (zbN (zax ((zvE T).mono (by decide:4<=4)) hr rfl T.zyw T.zta.kp T.zlT zhV (zaa (dv 3) zam) rfl (fun ρ ds h=>(fun _ h=>zag (fun _ h=>zat h) h) ds h)))) (zf7 (zaJ (zog hr.units) zon (zak (dv 3) (zbD T.zwS rfl)) (dv 1) rfl) (zbc (zaJ (zog hr.units) zon (zak (dv 3) (zbD T.zmT rfl)) (dv 1) rfl)))))
 (zac (zf8 T.zaR.xc T.zhd T.zhc T.zhe ((zeM T).mono (by decide:1<=3)) T.zfC (by decide) hr T.zh7 hr.hd rfl (zaa zbC (zaa (dv 2) zam)))
 zah)
 zah)
 zah))
 zah)))
theorem zme (T:Txt K mg t):zda P w K mg base CX0 2 t.zkM t.zkA ["thing","places"] (spD K 2 zc2) :=
 zaI T.zkS zq5 fun cdv A outer s0 H H₀ E hr=>(
 (zac (zaK (zlg (zax ((ziR T).mono (by decide:1<=1)) hr rfl T.zj4 T.ziE.kp T.zdf zb7 (zaa (dv 0) zam) rfl (fun ρ ds h=>(fun _ h=>zag (fun _ h=>zat h) h) ds h)) (zjr (zgw (zAy hr.units) zAE (dv 0) (dv 1) rfl))))
 zah))
theorem zjm (T:Txt K mg t):zda P w K mg base (CXE P w) 6 t.zhu t.zhp ["thing"] (spD K 1 zaw) :=
 zcr T.zhw zm8 fun cdv A outer s0 H H₀ E hr=>(
 (zac (zbL (DW.dt (zf7 (zb9 (zbN (zca zgt rfl T.n_isinstance rfl T.n_tuple PyProof.Rows.Boot.«tuple» (dv 0)))) (zbc (zaJ (zhA hr.units) zlz (zaT zbp zc7 rfl T.n_len PyProof.Rows.Boot.«len» (zaa (dv 0) zam)) zae nm))))
 (zac (zf8 T.zaR.xc T.zhd T.zhc T.zhe ((zeM T).mono (by decide:1<=4)) T.zfC (by decide) hr T.zh7 hr.hd rfl (zaa zbC (zaa zdL zam)))
 zah)
 zah)
 (zac (zia (zax ((zkn T).mono (by decide:3<=5)) hr rfl T.zlA T.zhI.kp T.zbn zeV (zaa (zak (dv 0) (zbD T.zi7 rfl)) zam) rfl (fun ρ ds h=>(fun _ h=>zag (fun _ h=>zat h) h) ds h)))
 (zac (zia (zax ((zmd T).mono (by decide:5<=5)) hr rfl T.znh T.zjw.kp T.zbI zeV (zaa (zak (dv 0) (zbD T.zmS rfl)) (zaa (zak (dv 0) (zbD T.zi7 rfl)) zam)) rfl (fun ρ ds h=>(fun _ h=>zag (fun _ h=>zag (fun _ h=>zat h) h) h) ds h)))
 (zac (zbL (zb9 (zbN (zax ((zme T).mono (by decide:2<=5)) hr rfl T.znF T.zkS.kp T.zha zhV (zaa (zak (dv 0) (zbD T.zoX rfl)) (zaa (zak (dv 0) (zbD T.zi7 rfl)) zam)) rfl (fun ρ ds h=>(fun _ h=>zag (fun _ h=>zag (fun _ h=>zat h) h) h) ds h))))
 (zac (zf8 T.zaR.xc T.zhd T.zhc T.zhe ((zeM T).mono (by decide:1<=4)) T.zfC (by decide) hr T.zh7 hr.hd rfl (zaa zbC (zaa zdL zam)))
 zah)
 zah)
 (zac (zbL (DW.dt (zf7 (zb9 (zbN (zax ((zme T).mono (by decide:2<=5)) hr rfl T.znF T.zkS.kp T.zha zhV (zaa (zak (dv 0) (zbD T.zs5 rfl)) (zaa (zak (dv 0) (zbD T.zi7 rfl)) zam)) rfl (fun ρ ds h=>(fun _ h=>zag (fun _ h=>zag (fun _ h=>zat h) h) h) ds h)))) (zbc (zaJ (zco hr.units) zeG (zak (dv 0) (zbD T.zs5 rfl)) (zak (dv 0) (zbD T.zoX rfl)) nm))))
 (zac (zf8 T.zaR.xc T.zhd T.zhc T.zhe ((zeM T).mono (by decide:1<=4)) T.zfC (by decide) hr T.zh7 hr.hd rfl (zaa zbC (zaa zdL zam)))
 zah)
 zah)
 zah))))))
theorem zlw (T:Txt K mg t):zda P w K mg base CX0 2 t.zgj t.zgc ["web","thing"] (spD K 2 zaC) :=
 zaI T.ziD zlr fun cdv A outer s0 H H₀ E hr=>(
 (zac (zaK (zlg (zax ((zf3 T).mono (by decide:1<=1)) hr rfl T.zg6 T.zfR.kp T.zeN zb7 (zaa (dv 1) zam) rfl (fun ρ ds h=>(fun _ h=>zag (fun _ h=>zat h) h) ds h)) (zjr (zyQ zrj zkm (zg4 fun _ _ _ _=>rb _) (zg4 fun _ _ _ _=>rb _) zg5 zg5 zae (dv 1) (zaT zbp zc7 rfl T.n_len PyProof.Rows.Boot.«len» (zaa (zak (dv 0) (zbD T.zmS rfl)) zam))))))
 zah))
theorem zeE (T:Txt K mg t):zda P w K mg base (CXE P w) 7 t.zfp t.zfl ["web","thing"] (spD K 2 zas) :=
 zcr T.zdl zcX fun cdv A outer s0 H H₀ E hr=>(
 (zac (zia (zax ((zjm T).mono (by decide:6<=6)) hr rfl T.zj3 T.zhw.kp T.zba zeV (zaa (dv 0) zam) rfl (fun ρ ds h=>(fun _ h=>zag (fun _ h=>zat h) h) ds h)))
 (zac (zbL (zb9 (zbN (zca zjB rfl T.n_isinstance rfl T.n_list PyProof.Rows.Boot.«list» (dv 1))))
 (zac (zi2 T.zay.xcls T.zi0 hr.hd rfl (zaa zbC zam))
 zah)
 zah)
 (zac (zaF (i:=2) zcX.nd rfl (Or.inl rfl) (zjs zae))
 (zac (znH PassesOwn.leaving rfl (dv 1) (zbO (i:=3) zcX.nd rfl (Or.inl rfl)) zcO
 (zac (zbL (DW.dt (zf7 (zb9 (zbN (zax ((zlw T).mono (by decide:2<=6)) hr rfl T.zmy T.ziD.kp T.zaY zhV (zaa (dv 0) (zaa (dv 3) zam)) rfl (fun ρ ds h=>(fun _ h=>zag (fun _ h=>zag (fun _ h=>zat h) h) h) ds h)))) (zbc (zaJ zrj (zbF fun _ _ _ _=>rb _) (dv 3) (dv 2) nm))))
 (zac (zi2 T.zay.xcls T.zi0 hr.hd rfl (zaa zbC zam))
 zah)
 zah)
 (zac (zbL (zaJ zsD zsE (zak (zak (zak (dv 0) (zbD T.zmS rfl)) (dv 3)) (zbD T.zkF rfl)) zdL nm)
 (zac (zi2 T.zay.xcls T.zi0 hr.hd rfl (zaa zbC zam))
 zah)
 zah)
 (zac (zaF (i:=2) zcX.nd rfl (Or.inl rfl) (dv 3))
 zah))))
 zah)))))
theorem zx2 (T:Txt K mg t):zda P w K mg base (CXE P w) 2 t.zr2 t.zrV ["top","bottom"] (spD K 2 zgK) :=
 zcr T.zw2 zn4 fun cdv A outer s0 H H₀ E hr=>(
 (zac (zbL (DW.dt (zf7 (zb9 (zbN (zax ((zf3 T).mono (by decide:1<=1)) hr rfl T.zg6 T.zfR.kp T.zeN zhV (zaa (dv 0) zam) rfl (fun ρ ds h=>(fun _ h=>zag (fun _ h=>zat h) h) ds h)))) (zbc (zb9 (zbN (zax ((zf3 T).mono (by decide:1<=1)) hr rfl T.zg6 T.zfR.kp T.zeN zhV (zaa (dv 1) zam) rfl (fun ρ ds h=>(fun _ h=>zag (fun _ h=>zat h) h) ds h)))))))
 (zac (zi2 T.zaA.xcls T.zkr hr.hd rfl (zaa zbC zam))
 zah)
 zah)
 (zac (zbL (zaJ (zco hr.units) zeG (dv 1) zae nm)
 (zac (zi2 T.zaA.xcls T.zkr hr.hd rfl (zaa zbC zam))
 zah)
 zah)
 (zac (zaF (i:=2) zn4.nd rfl (Or.inl rfl) (zax ((zeF T).mono (by decide:1<=1)) hr rfl T.zfk T.zdm.kp T.zbo zhV (zaa (dv 0) (zaa (dv 1) zam)) rfl (fun ρ ds h=>(fun _ h=>zag (fun _ h=>zag (fun _ h=>zat h) h) h) ds h)))
 (zac (zbL (zaJ zkm (zbF fun _ _ _ _=>rb _) (dv 1) zae nm)
 (zac (zaF (i:=2) zn4.nd rfl (Or.inl rfl) (zjs (dv 2)))
 zah)
 zah)
 (zac (zaK (zde (zaa (zj9 (dv 0) (dv 2)) (zaa (zj9 (dv 1) (dv 2)) zam))))
 zah))))))
theorem zAC (T:Txt K mg t):zda P w K mg base (CXE P w) 3 t.zwY t.zwG ["one","other"] (spD K 2 zjn) :=
 zcr T.zzI zAb fun cdv A outer s0 H H₀ E hr=>(
 (zac (zaK (zax ((zx2 T).mono (by decide:2<=2)) hr rfl T.zAT T.zw2.kp T.zgR zeV (zaa (zaW (zcy (zak (dv 0) zae) (zak (dv 1) zae)) (zcy (zak (dv 1) zae) (zak (dv 0) zae))) (zaa (zcy (zak (dv 0) zae) (zak (dv 1) zae)) zam)) rfl (fun ρ ds h=>(fun _ h=>zag (fun _ h=>zag (fun _ h=>zat h) h) h) ds h)))
 zah))
theorem zvD (T:Txt K mg t):zda P w K mg base (CXE P w) 4 t.zo0 t.zoK ["some"] (spD K 1 zfA) :=
 zcr T.zs9 zjR fun cdv A outer s0 H H₀ E hr=>(
 (zac (zaF (i:=1) zjR.nd rfl (Or.inl rfl) (zbD T.zoV rfl))
 (zac (znH PassesOwn.leaving rfl (dv 0) (zbO (i:=2) zjR.nd rfl (Or.inl rfl)) zcO
 (zac (zaF (i:=1) zjR.nd rfl (Or.inl rfl) (zax ((zAC T).mono (by decide:3<=3)) hr rfl T.zCM T.zzI.kp T.zkc zeV (zaa (dv 1) (zaa (dv 2) zam)) rfl (fun ρ ds h=>(fun _ h=>zag (fun _ h=>zag (fun _ h=>zat h) h) h) ds h)))
 zah))
 (zac (zaK (dv 1))
 zah))))
theorem zma (T:Txt K mg t):zda P w K mg base (CXE P w) 8 t.zkH t.zkv ["web","taking"] (spD K 2 zbb) :=
 zcr T.zkR zq1 fun cdv A outer s0 H H₀ E hr=>(
 (zac (zia (zax ((zeE T).mono (by decide:7<=7)) hr rfl T.zfj T.zdl.kp T.zaL zeV (zaa (dv 0) (zaa (dv 1) zam)) rfl (fun ρ ds h=>(fun _ h=>zag (fun _ h=>zag (fun _ h=>zat h) h) h) ds h)))
 (zac (zaK (zax ((zvD T).mono (by decide:4<=7)) hr rfl T.zyv T.zs9.kp T.zfD zeV (zaa (zoJ (zuo ["number","web"] 1 [0] rfl (zib (dv 1)) (zdh (by decide)) (fun s H C fp pn=>⟨fun He H0e=>(zbO (i:=0) (show List.Nodup (["number","web"]:List Str) from by decide) rfl (Or.inl rfl)),zjG,(zak (zak (zak (dv 1) (zbD T.zmS rfl)) (dv 0)) (zbD T.zkF rfl))⟩) ⟨rfl,rfl⟩ rfl rfl rfl rfl)) zam) rfl (fun ρ ds h=>(fun _ h=>zag (fun _ h=>zat h) h) ds h)))
 zah)))
theorem zhB (T:Txt K mg t):zda P w K mg base (CXE P w) 3 t.zgi t.zgb ["thing"] (spD K 1 zaz) :=
 zcr T.zgo zlq fun cdv A outer s0 H H₀ E hr=>(
 (zac (zbL (DW.dt (zf7 (zb9 (zbN (zax ((zjy T).mono (by decide:2<=2)) hr rfl T.zkq T.zje.kp T.zb5 zhV (zaa (dv 0) zam) rfl (fun ρ ds h=>(fun _ h=>zag (fun _ h=>zat h) h) ds h)))) (zbc (zaJ zkm (zbF fun _ _ _ _=>rb _) (zak (dv 0) zae) zae nm))))
 (zac (zi2 T.zaG.xcls T.zqi hr.hd rfl (zaa zbC zam))
 zah)
 zah)
 zah))
theorem ztq (T:Txt K mg t):zda P w K mg base CX0 1 t.zmY t.zmL ["one","other"] (spD K 2 zf4) :=
 zaI T.zqF ztk fun cdv A outer s0 H H₀ E hr=>(
 (zac (zaK (zgw zkm (zbF fun _ _ _ _=>rb _) (zcy (zak (dv 0) zae) (zak (dv 1) zae)) (zcy (zak (dv 1) zae) (zak (dv 0) zae)) nm))
 zah))
theorem zpN (T:Txt K mg t):zda P w K mg base (CXE P w) 9 t.zjM t.zjH ["web","taking","purse"] (spD K 3 zaX) :=
 zcr T.zm0 zpC fun cdv A outer s0 H H₀ E hr=>(
 (zac (zia (zax ((zeE T).mono (by decide:7<=8)) hr rfl T.zfj T.zdl.kp T.zaL zeV (zaa (dv 0) (zaa (dv 1) zam)) rfl (fun ρ ds h=>(fun _ h=>zag (fun _ h=>zag (fun _ h=>zat h) h) h) ds h)))
 (zac (zia (zax ((zhB T).mono (by decide:3<=8)) hr rfl T.zh6 T.zgo.kp T.zbj zeV (zaa (dv 2) zam) rfl (fun ρ ds h=>(fun _ h=>zag (fun _ h=>zat h) h) ds h)))
 (zac (zaK (zwC (zax ((ztq T).mono (by decide:1<=8)) hr rfl T.zwg T.zqF.kp T.zkd zhV (zaa (dv 2) (zaa (zax ((zma T).mono (by decide:8<=8)) hr rfl T.znE T.zkR.kp T.zcG zeV (zaa (dv 0) (zaa (dv 1) zam)) rfl (fun ρ ds h=>(fun _ h=>zag (fun _ h=>zag (fun _ h=>zat h) h) h) ds h)) zam)) rfl (fun ρ ds h=>(fun _ h=>zag (fun _ h=>zag (fun _ h=>zat h) h) h) ds h))))
 zah))))
theorem zlv (T:Txt K mg t):zda P w K mg base CX0 2 t.zgh t.zga ["some"] (spD K 1 zcp) :=
 zaI T.ziC zdi fun cdv A outer s0 H H₀ E hr=>(
 (zac (zaF (i:=1) zdi.nd rfl (Or.inl rfl) zae)
 (zac (znH PassesOwn.never rfl (dv 0) (zbO (i:=2) zdi.nd rfl (Or.inl rfl)) zcO
 (zac (zaF (i:=1) zdi.nd rfl (Or.inl rfl) (zcy (zj9 (dv 1) (zax ((zeF T).mono (by decide:1<=1)) hr rfl T.zfk T.zdm.kp T.zbo zb7 (zaa (dv 1) (zaa (zak (dv 2) zae) zam)) rfl (fun ρ ds h=>(fun _ h=>zag (fun _ h=>zag (fun _ h=>zat h) h) h) ds h))) (zak (dv 2) zae)))
 zah))
 (zac (zaK (dv 1))
 zah))))
theorem zrm (T:Txt K mg t):zda P w K mg base CX0 1 t.zkN t.zkB ["one","bottom"] (spD K 2 zeJ) :=
 zaI T.znQ zq6 fun cdv A outer s0 H H₀ E hr=>(
 (zac (zaK (zcy (zak (dv 0) zae) (zj9 (dv 1) (zak (dv 0) zae))))
 zah))
theorem zmb (T:Txt K mg t):zda P w K mg base CX0 3 t.zgS t.zgL ["some"] (spD K 1 zcE) :=
 zaI T.zju zhR fun cdv A outer s0 H H₀ E hr=>(
 (zac (zaF (i:=1) zhR.nd rfl (Or.inr rfl) (zax ((zlv T).mono (by decide:2<=2)) hr rfl T.zmx T.ziC.kp T.zd7 zb7 (zaa (zoJ (zuo ["one"] 1 [] rfl (zib (dv 0)) (zdh (by decide)) (fun s H C fp pn=>⟨fun He H0e=>(zbO (i:=0) (show List.Nodup (["one"]:List Str) from by decide) rfl (Or.inl rfl)),(zmF (zaJ zof zom (dv 0) zdL nm)),(dv 0)⟩) ⟨rfl,rfl⟩ rfl rfl rfl rfl)) zam) rfl (fun ρ ds h=>(fun _ h=>zag (fun _ h=>zat h) h) ds h)))
 (zac (zaK (zde (zaa (zoJ (zuo ["one","bottom"] 1 [1] rfl (zib (dv 0)) (zdh (by decide)) (fun s H C fp pn=>⟨fun He H0e=>(zbO (i:=0) (show List.Nodup (["one","bottom"]:List Str) from by decide) rfl (Or.inl rfl)),zjG,(zyO (zaJ zsD zsE (dv 0) zdL nm) zdL (zax ((zrm T).mono (by decide:1<=2)) hr rfl T.zt6 T.znQ.kp T.zja zb7 (zaa (dv 0) (zaa (dv 1) zam)) rfl (fun ρ ds h=>(fun _ h=>zag (fun _ h=>zag (fun _ h=>zat h) h) h) ds h)))⟩) ⟨rfl,rfl⟩ rfl rfl rfl rfl)) (zaa (dv 1) zam))))
 zah)))
theorem zrk (T:Txt K mg t):zda P w K mg base CX0 4 t.zkI t.zkw ["web","purse"] (spD K 2 zeH) :=
 zaI T.znO zl4 fun cdv A outer s0 H H₀ E hr=>(
 (zac (zaF (i:=2) zl4.nd rfl (Or.inl rfl) (zax ((zmb T).mono (by decide:3<=3)) hr rfl T.znf T.zju.kp T.zeP zb7 (zaa (zaW (zoJ (zuo ["tie"] 1 [] rfl (zib (zak (dv 0) (zbD T.zmS rfl))) (zdh (by decide)) (fun s H C fp pn=>⟨fun He H0e=>(zbO (i:=0) (show List.Nodup (["tie"]:List Str) from by decide) rfl (Or.inl rfl)),zjG,(zak (dv 0) (zbD T.zkF rfl))⟩) ⟨rfl,rfl⟩ rfl rfl rfl rfl)) (zbP (zaa (dv 1) zam))) zam) rfl (fun ρ ds h=>(fun _ h=>zag (fun _ h=>zat h) h) ds h)))
 (zac (zaK (zCY T.zx9 ((zt1 T).mono (by decide:1<=2)) hr rfl T.zyu T.zsn.ns T.zoZ T.zsn.recC zb7 (zaa (zbi (zak (dv 2) zae) zd4 (zbG (zjs zae))) (zaa (zak (zak (dv 2) zae) (zjs zae)) (zaa (zak (dv 2) zae) zam)))))
 zah)))
theorem zmc (T:Txt K mg t):zda P w K mg base (CXE P w) 7 t.zgT t.zgM ["web","purse"] (spD K 2 zaH) :=
 zcr T.zjv zbM fun cdv A outer s0 H H₀ E hr=>(
 (zac (zia (zax ((zjm T).mono (by decide:6<=6)) hr rfl T.zj3 T.zhw.kp T.zba zeV (zaa (dv 0) zam) rfl (fun ρ ds h=>(fun _ h=>zag (fun _ h=>zat h) h) ds h)))
 (zac (zia (zax ((zhB T).mono (by decide:3<=6)) hr rfl T.zh6 T.zgo.kp T.zbj zeV (zaa (dv 1) zam) rfl (fun ρ ds h=>(fun _ h=>zag (fun _ h=>zat h) h) ds h)))
 (zac (zaF (i:=2) zbM.nd rfl (Or.inl rfl) (zax ((zrk T).mono (by decide:4<=6)) hr rfl T.zt4 T.znO.kp T.zi8 zhV (zaa (dv 0) (zaa (dv 1) zam)) rfl (fun ρ ds h=>(fun _ h=>zag (fun _ h=>zag (fun _ h=>zat h) h) h) ds h)))
 (zac (zaF (i:=3) zbM.nd rfl (Or.inl rfl) (zzz (dv 2)))
 (zac (zaF (i:=4) zbM.nd rfl (Or.inl rfl) zae)
 (zac (znH PassesOwn.leaving rfl (zaT znM zwQ rfl T.n_sorted PyProof.Rows.Boot.«sorted» (zaa (zoJ (zuo ["one"] 1 [] rfl (zib (zzz (dv 2))) (zdh (by decide)) (fun s H C fp pn=>⟨fun He H0e=>(zbO (i:=0) (show List.Nodup (["one"]:List Str) from by decide) rfl (Or.inl rfl)),(zmF (zaJ zof zom (dv 0) zdL nm)),(dv 0)⟩) ⟨rfl,rfl⟩ rfl rfl rfl rfl)) zam)) (zbO (i:=5) zbM.nd rfl (Or.inl rfl)) zcO
 (zac (zaF (i:=3) zbM.nd rfl (Or.inl rfl) (zlf (dv 3) (dv 5)))
 (zac (zbL (zaJ zkm (zbF fun _ _ _ _=>rb _) (dv 3) zae nm)
 (zac (zaK (dv 4))
 zah)
 zah)
 (zac (zaF (i:=4) zbM.nd rfl (Or.inl rfl) (zaW (dv 4) zae))
 zah))))
 (zac (zaK (dv 4))
 zah))))))))
theorem zoj (T:Txt K mg t):FnH P w K mg base 1 t.zix t.zif ["_law_e"] (spD K 1 zk2) :=
 zuc T.zlj zn6 fun cdv A outer s0 H H₀ E hr=>(
 (zac (zbL (zbN (zoI (zxt T) (zcw rfl T.zyE (zcw rfl T.zwj (zcw rfl T.zub (zcw rfl T.zyD (zcw rfl T.zyC (zcw rfl T.zyB zsY)))))) (by simp) rfl T.n_isinstance (dv 0)))
 (zac (zaK zf9)
 zah)
 zah)
 (zac (zbL (zbN (zoI (zxs T) (zcw rfl T.zAX (zcw rfl T.zyA (zcw rfl T.zkr (zcw rfl T.zwi (zcw rfl T.zAW zsY))))) (by simp) rfl T.n_isinstance (dv 0)))
 (zac (zaK zf9)
 zah)
 zah)
 (zac (zbL (zbN (zoI (zxr T) (zcw rfl T.zyz (zcw rfl T.zua (zcw rfl T.zyy (zcw rfl T.zAV (zcw rfl T.zyx (zcw rfl T.zAU zsY)))))) (by simp) rfl T.n_isinstance (dv 0)))
 (zac (zaK zf9)
 zah)
 zah)
 (zac (zaK (zoI (zxq T) (zcw rfl T.zwh (zcw rfl T.zqh zsY)) (by simp) rfl T.n_isinstance (dv 0)))
 zah)))))
theorem zol (T:Txt K mg t):zda P w K mg base CX0 10 t.ziA t.zii ["_law_way","_law_web_here","_law_taking","_law_purse_here"] (spD K 4 zaN) :=
 zaI T.zll zbg fun cdv A outer s0 H H₀ E hr=>(
 (zac (zaF (i:=4) zbg.nd rfl (Or.inl rfl) zbC)
 (zac (zaF (i:=5) zbg.nd rfl (Or.inl rfl) zdL)
 (zac (zCR ⟨rfl,rfl⟩ (zz0 (zaJ (zco hr.units) zeG (dv 0) zae nm) (zsf (i:=5) zbg.nd rfl (Or.inl rfl) ((zma T).mono (by decide:8<=9)) hr rfl T.znE T.zkR.kp T.zcG (zaa (dv 1) (zaa (dv 2) zam)) rfl (fun ρ ds h=>(fun _ h=>zag (fun _ h=>zag (fun _ h=>zat h) h) h) ds h)) (zz0 (zaJ (zco hr.units) zeG (dv 0) zae nm) (zsf (i:=5) zbg.nd rfl (Or.inl rfl) ((zpN T).mono (by decide:9<=9)) hr rfl T.zrP T.zm0.kp T.zcc (zaa (dv 1) (zaa (dv 2) (zaa (dv 3) zam))) rfl (fun ρ ds h=>(fun _ h=>zag (fun _ h=>zag (fun _ h=>zag (fun _ h=>zat h) h) h) h) ds h)) (zz0 (zaJ (zco hr.units) zeG (dv 0) zae nm) (zsf (i:=5) zbg.nd rfl (Or.inl rfl) ((zeE T).mono (by decide:7<=9)) hr rfl T.zfj T.zdl.kp T.zaL (zaa (dv 1) (zaa (dv 2) zam)) rfl (fun ρ ds h=>(fun _ h=>zag (fun _ h=>zag (fun _ h=>zat h) h) h) ds h)) (zsf (i:=5) zbg.nd rfl (Or.inl rfl) ((zmc T).mono (by decide:7<=9)) hr rfl T.zng T.zjv.kp T.zbe (zaa (dv 1) (zaa (dv 3) zam)) rfl (fun ρ ds h=>(fun _ h=>zag (fun _ h=>zag (fun _ h=>zat h) h) h) ds h))))) rfl T.znG (zmv T) zbg.nd rfl rfl (fun ea=>(zac (zaF (i:=7) zbg.nd rfl (Or.inl rfl) (zbP (zaa (zmJ rfl T.zh7 (zxn T) rfl T.n_isinstance (dv 6)) (zaa (zmJ rfl T.zi0 (zxo T) rfl T.n_isinstance (dv 6)) (zaa (zmJ rfl T.zqi (zxp T) rfl T.n_isinstance (dv 6)) zam)))))
 (zac (zaF (i:=4) zbg.nd rfl (Or.inl rfl) zbC)
 (zac (zbL (DW.dt (zg7 (zaJ (zco hr.units) zeG (zyP hr.units (dv 7) zf9) zae nm) (zg7 (zbN (zwD rfl T.n_ValueError PyProof.Rows.Boot.«ValueError» (zxm T) rfl T.n_isinstance (dv 6))) (zdK (zb9 (zbN (zyR ((zoj T).mono (by decide:1<=9)) (zkf.hand hr) rfl T.zqe T.zlj.kp T.zis (zaa (dv 6) zam) rfl (fun ρ ds h=>(fun _ h=>zag (fun _ h=>zat h) h) ds h))))))))
 (zac (zaF (i:=4) zbg.nd rfl (Or.inl rfl) (zak (zbP (zaa zbC (zaa zbC (zaa zbC zam)))) (zyN hr.units (dv 7) zf9)))
 zah)
 zah)
 zah)))))
 (zac (zaK (zde (zaa (dv 4) (zaa (dv 5) zam))))
 zah)))))
theorem zjT (T:Txt K mg t):zda P w K mg base CX0 1 t.ziu t.zic ["_law_thing"] (spD K 1 zeR) :=
 zaI T.ziF zn5 fun cdv A outer s0 H H₀ E hr=>(
 (zac (zaK (zlg (zca znC rfl T.n_isinstance rfl T.n_int PyProof.Rows.Boot.«int» (dv 0)) (zjr (zwC (zca zjC rfl T.n_isinstance rfl T.n_bool PyProof.Rows.Boot.«bool» (dv 0))))))
 zah))
theorem zly (T:Txt K mg t):zda P w K mg base CX0 2 t.zgl t.zge ["_law_thing"] (spD K 1 zbh) :=
 zaI T.ziH zls fun cdv A outer s0 H H₀ E hr=>(
 (zac (zbL (DW.dt (zf7 (zb9 (zbN (zca zgt rfl T.n_isinstance rfl T.n_tuple PyProof.Rows.Boot.«tuple» (dv 0)))) (zbc (zaJ (zhA hr.units) zlz (zaT zbp zc7 rfl T.n_len PyProof.Rows.Boot.«len» (zaa (dv 0) zam)) zae nm))))
 (zac (zaK zf9)
 zah)
 zah)
 (zac (zbL (DW.dt (zf7 (zb9 (zbN (zax ((zjT T).mono (by decide:1<=1)) hr rfl T.zlc T.ziF.kp T.zgx zb7 (zaa (zak (dv 0) zae) zam) rfl (fun ρ ds h=>(fun _ h=>zag (fun _ h=>zat h) h) ds h)))) (zf7 (zb9 (zbN (zax ((zjT T).mono (by decide:1<=1)) hr rfl T.zlc T.ziF.kp T.zgx zb7 (zaa (zak (dv 0) zae) zam) rfl (fun ρ ds h=>(fun _ h=>zag (fun _ h=>zat h) h) ds h)))) (zbc (zaJ zkm (zbF fun _ _ _ _=>rb _) (zak (dv 0) zae) zae nm)))))
 (zac (zaK zf9)
 zah)
 zah)
 (zac (zaK (zgw (zco hr.units) zeG (zax ((zhW T).mono (by decide:1<=1)) hr rfl T.zjp T.zgX.kp T.zcd zb7 (zaa (zak (dv 0) zae) (zaa (zak (dv 0) zae) zam)) rfl (fun ρ ds h=>(fun _ h=>zag (fun _ h=>zag (fun _ h=>zat h) h) h) ds h)) zae nm))
 zah))))
theorem zoh (T:Txt K mg t):zda P w K mg base CX0 11 t.ziv t.zid ["_law_web_here","_law_taking","_law_digits"] (spD K 3 zbl) :=
 zaI T.zlh zaV fun cdv A outer s0 H H₀ E hr=>(
 (zac (zaF (i:=3) zaV.nd rfl (Or.inl rfl) (zax ((zrp T).mono (by decide:3<=10)) hr rfl T.zt9 T.znT.kp T.zjc zb7 (zaa (zoJ (zuo ["_law_k","_law_web_here"] 1 [0] rfl (zib (dv 1)) (zdh (by decide)) (fun s H C fp pn=>⟨fun He H0e=>(zbO (i:=0) (show List.Nodup (["_law_k","_law_web_here"]:List Str) from by decide) rfl (Or.inl rfl)),zjG,(zak (zak (zak (dv 1) zae) (dv 0)) zae)⟩) ⟨rfl,rfl⟩ rfl rfl rfl rfl)) zam) rfl (fun ρ ds h=>(fun _ h=>zag (fun _ h=>zat h) h) ds h)))
 (zac (zaF (i:=4) zaV.nd rfl (Or.inl rfl) (zax ((zoi T).mono (by decide:4<=10)) hr rfl T.zqd T.zli.kp T.zbJ zb7 (zaa (zbi (dv 2) (zbG zae) zd4) (zaa (dv 3) zam)) rfl (fun ρ ds h=>(fun _ h=>zag (fun _ h=>zag (fun _ h=>zat h) h) h) ds h)))
 (zac (zrT (i:=5) zaV.nd rfl rfl zka (zuo ["_law_digit"] 1 [] rfl (zib (zbi (dv 2) zd4 (zbG zae))) (zdh (by decide)) (fun s H C fp pn=>⟨fun He H0e=>(zbO (i:=0) (show List.Nodup (["_law_digit"]:List Str) from by decide) rfl (Or.inl rfl)),zjG,(zi3 zqw zzD rfl T.n_int PyProof.Rows.Boot.«int» (zaa (zgw (zco hr.units) zeG (dv 0) zae nm) zam))⟩) ⟨rfl,rfl⟩ rfl rfl rfl rfl))
 (zac (zmC (i:=6) zaV.nd rfl (Or.inl rfl) (zle (zaa (dv 0) (zaa (zi3 ziq zrY rfl T.n_list PyProof.Rows.Boot.«list» (zaa (dv 1) zam)) (zaa (dv 4) zam)))))
 (zac (zbL (zaJ (zco hr.units) zeG (zak (dv 5) zae) zae nm)
 (zac (zwx (i:=6) rfl (Or.inl rfl) (zak (zbP (zaa (zbi (dv 0) zd4 (zbG zae)) (zaa zdL (zaa (zde (zaa (zak (dv 0) zae) (zaa (zak (dv 0) zae) (zaa (zak (dv 0) zae) (zaa (zak (dv 0) zae) zam))))) zam)))) (zc6 (zak (dv 2) zae) zae)) zae)
 zah)
 zah)
 (zac (zbL (zaJ (zco hr.units) zeG (zak (dv 5) zae) zae nm)
 (zac (zwx (i:=6) rfl (Or.inl rfl) (zax ((zko T).mono (by decide:1<=10)) hr rfl T.zlB T.zhJ.kp T.zdk zb7 (zaa (dv 0) (zaa (dv 1) (zaa (zak (dv 2) zae) zam))) rfl (fun ρ ds h=>(fun _ h=>zag (fun _ h=>zag (fun _ h=>zag (fun _ h=>zat h) h) h) h) ds h)) zae)
 zah)
 zah)
 (zac (zbL (zaJ (zco hr.units) zeG (zak (dv 5) zae) zae nm)
 (zac (zwx (i:=6) rfl (Or.inl rfl) (zax ((zlx T).mono (by decide:1<=10)) hr rfl T.zmz T.ziG.kp T.zd8 zb7 (zaa (zak (dv 2) zae) zam) rfl (fun ρ ds h=>(fun _ h=>zag (fun _ h=>zat h) h) ds h)) zae)
 zah)
 zah)
 (zac (zaF (i:=7) zaV.nd rfl (Or.inl rfl) (zbP (zaa (zde (zaa (zak (dv 5) zae) (zaa (zak (dv 5) zae) (zaa zae zam)))) (zaa (zde (zaa (zak (dv 5) zae) (zaa (zak (dv 5) zae) (zaa (zak (dv 5) zae) zam)))) zam))))
 (zac (zaF (i:=7) zaV.nd rfl (Or.inl rfl) (zaW (dv 7) (zbP (zaa (zde (zaa (zak (dv 5) zae) (zaa (zak (dv 5) zae) (zaa zae zam)))) (zaa (zde (zaa (zak (dv 5) zae) (zaa zae (zaa (zak (dv 5) zae) zam)))) zam)))))
 (zac (zmD PassesOwn.never rfl rfl T.n_range zae (zbO (i:=8) zaV.nd rfl (Or.inl rfl)) zcO
 (zac (zaF (i:=9) zaV.nd rfl (Or.inl rfl) zbC)
 (zac (zmD PassesOwn.never rfl rfl T.n_range zae (zbO (i:=10) zaV.nd rfl (Or.inl rfl)) zcO
 (zac (zbL (DW.dt (zg7 (zaJ (zco hr.units) zeG (zak (zak (dv 7) (dv 8)) (dv 10)) zae nm) (zdK (zaJ (zco hr.units) zeG (dv 9) zbC nm))))
 (zac (zaF (i:=9) zaV.nd rfl (Or.inl rfl) (zak (zbP (zaa zbC (zaa zbC (zaa zbC zam)))) (dv 10)))
 zah)
 zah)
 zah))
 (zac (zwy 6 (zww rfl (zax ((zol T).mono (by decide:10<=10)) hr rfl T.zqg T.zll.kp T.zcW zb7 (zaa (dv 8) (zaa (zak (dv 6) zae) (zaa (zak (dv 6) zae) (zaa (zak (dv 6) zae) zam)))) rfl (fun ρ ds h=>(fun _ h=>zag (fun _ h=>zag (fun _ h=>zag (fun _ h=>zag (fun _ h=>zat h) h) h) h) h) ds h)) (zd5 (i:=11) zaV.nd rfl (Or.inl rfl) (zd5 (i:=12) zaV.nd rfl (Or.inl rfl) zmH))))
 (zac (zbL (zaJ (zhA hr.units) zlz (dv 11) (dv 9) nm)
 (zac (zaK zf9)
 zah)
 zah)
 (zac (zbL (DW.dt (zg7 (zaJ (zco hr.units) zeG (dv 11) zbC nm) (zg7 (zaJ (zco hr.units) zeG (dv 8) zae nm) (zdK (DW.dt (zf7 (zb9 (zbN (zax ((zly T).mono (by decide:2<=10)) hr rfl T.zmA T.ziH.kp T.zcs zb7 (zaa (dv 12) zam) rfl (fun ρ ds h=>(fun _ h=>zag (fun _ h=>zat h) h) ds h)))) (zbc (zaJ (zhA hr.units) zlz (dv 12) (dv 3) nm))))))))
 (zac (zaK zf9)
 zah)
 zah)
 (zac (zaF (i:=13) zaV.nd rfl (Or.inl rfl) (zgw zrj (zbF fun _ _ _ _=>rb _) (zcy (zak (dv 3) zae) (zak (dv 4) zae)) (zcy (zak (dv 4) zae) (zak (dv 3) zae)) nm))
 (zac (zbL (DW.dt (zg7 (zaJ (zco hr.units) zeG (dv 11) zbC nm) (zg7 (zaJ (zco hr.units) zeG (dv 8) zae nm) (zdK (zaJ zof zom (dv 12) zdL nm)))))
 (zac (zaK zf9)
 zah)
 zah)
 (zac (zbL (DW.dt (zg7 (zaJ (zco hr.units) zeG (dv 11) zbC nm) (zg7 (zaJ (zco hr.units) zeG (dv 8) zae nm) (zdK (DW.dt (zf7 (zb9 (zbN (zca zjC rfl T.n_isinstance rfl T.n_bool PyProof.Rows.Boot.«bool» (dv 12)))) (zbc (zaJ (zhA hr.units) zlz (dv 12) (dv 13) nm))))))))
 (zac (zaK zf9)
 zah)
 zah)
 zah)))))))))
 (zac (zaK (zCX (zgw (zco hr.units) zeG (zak (dv 5) zae) zae nm) (zjr (zgw (zco hr.units) zeG (zak (dv 6) zae) (dv 1) nm))))
 zah))))))))))))
theorem zCw (T:Txt K mg t):zda P w K mg base CX0 12 t.zr3 t.zui ["_law_script"] (spD K 1 zvS) :=
 zaI T.zEp zkY fun cdv A outer s0 H H₀ E hr=>(
 (zac (zaF (i:=1) zkY.nd rfl (Or.inr rfl) (zax ((zrn T).mono (by decide:5<=11)) hr rfl T.zt7 T.znR.kp T.zjb zb7 (zaa (dv 0) (zaa zae zam)) rfl (fun ρ ds h=>(fun _ h=>zag (fun _ h=>zag (fun _ h=>zat h) h) h) ds h)))
 (zac (zaF (i:=2) zkY.nd rfl (Or.inl rfl) (zde (zaa (zi3 ziq zrY rfl T.n_list PyProof.Rows.Boot.«list» (zaa (zak (dv 1) zae) zam)) (zaa (zi3 ziq zrY rfl T.n_list PyProof.Rows.Boot.«list» (zaa (zak (dv 1) zae) zam)) (zaa (zak (dv 1) zae) (zaa (zak (dv 1) zae) zam))))))
 (zac (zaF (i:=3) zkY.nd rfl (Or.inr rfl) (zoJ (zuo ["_law_k","_law_web_here"] 1 [1] rfl (zmG rfl T.n_range (zaT zbp zc7 rfl T.n_len PyProof.Rows.Boot.«len» (zaa (zak (dv 1) zae) zam))) (zdh (by decide)) (fun s H C fp pn=>⟨fun He H0e=>(zbO (i:=0) (show List.Nodup (["_law_k","_law_web_here"]:List Str) from by decide) rfl (Or.inl rfl)),(zmF (zaJ zof zom (zak (zak (zak (dv 1) zae) (dv 0)) zae) zdL nm)),(dv 0)⟩) ⟨rfl,rfl⟩ rfl rfl rfl rfl)))
 (zac (znH PassesOwn.never rfl (zaW (zbi (dv 0) (zbG zae) (zbG zae)) (zbP (zaa zae zam))) (zbO (i:=4) zkY.nd rfl (Or.inl rfl)) zcO
 (zac (zaF (i:=5) zkY.nd rfl (Or.inl rfl) (zbP (zaa zae (zaa (zlf (zmI zae zae) zae) (zaa (zlf (zmI zae zae) zae) zam)))))
 (zac (zaF (i:=6) zkY.nd rfl (Or.inr rfl) (zax ((zfy T).mono (by decide:1<=11)) hr rfl T.zgv T.zeU.kp T.zct zb7 (zaa (dv 4) (zaa (zaW (zaW (zbP (zaa zae (zaa zae (zaa zae (zaa zae (zaa zae zam)))))) (dv 5)) (zwB (zle (zaa zae zam)) zae)) zam)) rfl (fun ρ ds h=>(fun _ h=>zag (fun _ h=>zag (fun _ h=>zat h) h) h) ds h)))
 (zac (zrT (i:=7) zkY.nd rfl rfl zka (zuo ["_law_k","_law_free","_law_digits"] 1 [3,6] rfl (zmG rfl T.n_range (zaT zbp zc7 rfl T.n_len PyProof.Rows.Boot.«len» (zaa (dv 3) zam))) (zdh (by decide)) (fun s H C fp pn=>⟨fun He H0e=>(zbO (i:=0) (show List.Nodup (["_law_k","_law_free","_law_digits"]:List Str) from by decide) rfl (Or.inl rfl)),(zmF (zaJ (zco hr.units) zeG (zak (dv 2) (zaW zae (dv 0))) zae nm)),(zak (dv 1) (dv 0))⟩) ⟨rfl,rfl⟩ rfl rfl rfl rfl))
 (zac (zbL (DW.dt (zf7 (zb9 (zbN (zax ((zoh T).mono (by decide:11<=11)) hr rfl T.zqc T.zlh.kp T.zgy zb7 (zaa (dv 1) (zaa (dv 7) (zaa (zbi (dv 6) zd4 (zbG zae)) zam))) rfl (fun ρ ds h=>(fun _ h=>zag (fun _ h=>zag (fun _ h=>zag (fun _ h=>zat h) h) h) h) ds h)))) (zbc (zaJ (zhA hr.units) zlz (dv 1) (dv 2) nm))))
 (zac (zaK zf9)
 zah)
 zah)
 zah)))))
 (zac (zaK zf9)
 zah))))))
end
theorem txt_mk {K:W.Frag}{h:Heap}{mg:Str->Option Value}(X:K.In h)(G:h.Ns mainGlobals mg){za9 zfB:Addr}{zeO:Addr}{zaQ:Addr}{zbY:Addr}{zbs:Addr}{za6:Addr}{zbX:Addr}{zbW:Addr}{zbV:Addr}{zcL:Addr}{zbU:Addr}{zaj:Addr}{zao:Addr}{zbr:Addr}{zcK:Addr}{zbT:Addr}{za5:Addr}{zai:Addr}{zbS:Addr}{zcJ:Addr}{zbR:Addr}{zcI:Addr}{zaq:Addr}{zbq:Addr}{zaO:Addr}{a_0:Addr}{a_1:Addr}{a_2:Addr}{a_3:Addr}{a_4:Addr}{a_5:Addr}{a_6:Addr}{a_7:Addr}{a_8:Addr}{a_9:Addr}{a_10:Addr}{a_11:Addr}{a_12:Addr}{a_13:Addr}{a_14:Addr}{a_15:Addr}{a_16:Addr}{a_17:Addr}{a_18:Addr}{a_19:Addr}{a_20:Addr}{a_21:Addr}{a_22:Addr}{a_23:Addr}{a_24:Addr}{a_25:Addr}{a_26:Addr}{a_27:Addr}{a_28:Addr}{a_29:Addr}{a_30:Addr}{a_31:Addr}{a_32:Addr}{a_33:Addr}{a_34:Addr}{a_35:Addr}{a_36:Addr}{a_37:Addr}{a_38:Addr}{a_39:Addr}{a_40:Addr}{a_41:Addr}{a_42:Addr}
  {oc_0 kV_0 dc_0 pm_0 cd_0 ct_0:Value}{od_0 an_0:Option Addr}{sl_0:Array (Option Value)}
  (e1_0:W.nsIn K mainGlobals "_law_cell_at"=some (some (.ref a_0))) (e2_0:K.lookup a_0=some ⟨oc_0,od_0,.func (W.fnOf "_law_cell_at" "_law_cell_at" (defArgs zcD) (defBody zcD) (defScope zcD) .none kV_0 dc_0 pm_0 an_0 cd_0 ct_0),sl_0⟩) (e3_0:W.codeIn K cd_0 "_law_cell_at"=true) (e4_0:W.keepIn K (.ref a_0)=true)
  {oc_1 kV_1 dc_1 pm_1 cd_1 ct_1:Value}{od_1 an_1:Option Addr}{sl_1:Array (Option Value)}
  (e1_1:W.nsIn K mainGlobals "_law_draws"=some (some (.ref a_1))) (e2_1:K.lookup a_1=some ⟨oc_1,od_1,.func (W.fnOf "_law_draws" "_law_draws" (defArgs zdF) (defBody zdF) (defScope zdF) .none kV_1 dc_1 pm_1 an_1 cd_1 ct_1),sl_1⟩) (e3_1:W.codeIn K cd_1 "_law_draws"=true) (e4_1:W.keepIn K (.ref a_1)=true)
  {oc_2 kV_2 dc_2 pm_2 cd_2 ct_2:Value}{od_2 an_2:Option Addr}{sl_2:Array (Option Value)}
  (e1_2:W.nsIn K mainGlobals "_law_names"=some (some (.ref a_2))) (e2_2:K.lookup a_2=some ⟨oc_2,od_2,.func (W.fnOf "_law_names" "_law_names" (defArgs zdE) (defBody zdE) (defScope zdE) .none kV_2 dc_2 pm_2 an_2 cd_2 ct_2),sl_2⟩) (e3_2:W.codeIn K cd_2 "_law_names"=true) (e4_2:W.keepIn K (.ref a_2)=true)
  {oc_3 kV_3 dc_3 pm_3 cd_3 ct_3:Value}{od_3 an_3:Option Addr}{sl_3:Array (Option Value)}
  (e1_3:W.nsIn K mainGlobals "_law_divisor"=some (some (.ref a_3))) (e2_3:K.lookup a_3=some ⟨oc_3,od_3,.func (W.fnOf "_law_divisor" "_law_divisor" (defArgs zcC) (defBody zcC) (defScope zcC) .none kV_3 dc_3 pm_3 an_3 cd_3 ct_3),sl_3⟩) (e3_3:W.codeIn K cd_3 "_law_divisor"=true) (e4_3:W.keepIn K (.ref a_3)=true)
  {oc_4 kV_4 dc_4 pm_4 cd_4 ct_4:Value}{od_4 an_4:Option Addr}{sl_4:Array (Option Value)}
  (e1_4:W.nsIn K mainGlobals "_law_lowest"=some (some (.ref a_4))) (e2_4:K.lookup a_4=some ⟨oc_4,od_4,.func (W.fnOf "_law_lowest" "_law_lowest" (defArgs zcZ) (defBody zcZ) (defScope zcZ) .none kV_4 dc_4 pm_4 an_4 cd_4 ct_4),sl_4⟩) (e3_4:W.codeIn K cd_4 "_law_lowest"=true) (e4_4:W.keepIn K (.ref a_4)=true)
  {oc_5 kV_5 dc_5 pm_5 cd_5 ct_5:Value}{od_5 an_5:Option Addr}{sl_5:Array (Option Value)}
  (e1_5:W.nsIn K mainGlobals "_law_fraction"=some (some (.ref a_5))) (e2_5:K.lookup a_5=some ⟨oc_5,od_5,.func (W.fnOf "_law_fraction" "_law_fraction" (defArgs zcn) (defBody zcn) (defScope zcn) .none kV_5 dc_5 pm_5 an_5 cd_5 ct_5),sl_5⟩) (e3_5:W.codeIn K cd_5 "_law_fraction"=true) (e4_5:W.keepIn K (.ref a_5)=true)
  {oc_6 kV_6 dc_6 pm_6 cd_6 ct_6:Value}{od_6 an_6:Option Addr}{sl_6:Array (Option Value)}
  (e1_6:W.nsIn K mainGlobals "_law_tie"=some (some (.ref a_6))) (e2_6:K.lookup a_6=some ⟨oc_6,od_6,.func (W.fnOf "_law_tie" "_law_tie" (defArgs zfM) (defBody zfM) (defScope zfM) .none kV_6 dc_6 pm_6 an_6 cd_6 ct_6),sl_6⟩) (e3_6:W.codeIn K cd_6 "_law_tie"=true) (e4_6:W.keepIn K (.ref a_6)=true)
  {oc_7 kV_7 dc_7 pm_7 cd_7 ct_7:Value}{od_7 an_7:Option Addr}{sl_7:Array (Option Value)}
  (e1_7:W.nsIn K mainGlobals "_law_web"=some (some (.ref a_7))) (e2_7:K.lookup a_7=some ⟨oc_7,od_7,.func (W.fnOf "_law_web" "_law_web" (defArgs zfL) (defBody zfL) (defScope zfL) .none kV_7 dc_7 pm_7 an_7 cd_7 ct_7),sl_7⟩) (e3_7:W.codeIn K cd_7 "_law_web"=true) (e4_7:W.keepIn K (.ref a_7)=true)
  {oc_8 kV_8 dc_8 pm_8 cd_8 ct_8:Value}{od_8 an_8:Option Addr}{sl_8:Array (Option Value)}
  (e1_8:W.nsIn K mainGlobals "_law_sum"=some (some (.ref a_8))) (e2_8:K.lookup a_8=some ⟨oc_8,od_8,.func (W.fnOf "_law_sum" "_law_sum" (defArgs zfN) (defBody zfN) (defScope zfN) .none kV_8 dc_8 pm_8 an_8 cd_8 ct_8),sl_8⟩) (e3_8:W.codeIn K cd_8 "_law_sum"=true) (e4_8:W.keepIn K (.ref a_8)=true)
  {oc_9 kV_9 dc_9 pm_9 cd_9 ct_9:Value}{od_9 an_9:Option Addr}{sl_9:Array (Option Value)}
  (e1_9:W.nsIn K mainGlobals "_law_purse"=some (some (.ref a_9))) (e2_9:K.lookup a_9=some ⟨oc_9,od_9,.func (W.fnOf "_law_purse" "_law_purse" (defArgs zdC) (defBody zdC) (defScope zdC) .none kV_9 dc_9 pm_9 an_9 cd_9 ct_9),sl_9⟩) (e3_9:W.codeIn K cd_9 "_law_purse"=true) (e4_9:W.keepIn K (.ref a_9)=true)
  {oc_10 kV_10 dc_10 pm_10 cd_10 ct_10:Value}{od_10 an_10:Option Addr}{sl_10:Array (Option Value)}
  (e1_10:W.nsIn K mainGlobals "_law_no_taking"=some (some (.ref a_10))) (e2_10:K.lookup a_10=some ⟨oc_10,od_10,.func (W.fnOf "_law_no_taking" "_law_no_taking" (defArgs zb3) (defBody zb3) (defScope zb3) .none kV_10 dc_10 pm_10 an_10 cd_10 ct_10),sl_10⟩) (e3_10:W.codeIn K cd_10 "_law_no_taking"=true) (e4_10:W.keepIn K (.ref a_10)=true)
  {oc_11 kV_11 dc_11 pm_11 cd_11 ct_11:Value}{od_11 an_11:Option Addr}{sl_11:Array (Option Value)}
  (e1_11:W.nsIn K mainGlobals "_law_no_purse"=some (some (.ref a_11))) (e2_11:K.lookup a_11=some ⟨oc_11,od_11,.func (W.fnOf "_law_no_purse" "_law_no_purse" (defArgs zcl) (defBody zcl) (defScope zcl) .none kV_11 dc_11 pm_11 an_11 cd_11 ct_11),sl_11⟩) (e3_11:W.codeIn K cd_11 "_law_no_purse"=true) (e4_11:W.keepIn K (.ref a_11)=true)
  {oc_12 kV_12 dc_12 pm_12 cd_12 ct_12:Value}{od_12 an_12:Option Addr}{sl_12:Array (Option Value)}
  (e1_12:W.nsIn K mainGlobals "is_name"=some (some (.ref a_12))) (e2_12:K.lookup a_12=some ⟨oc_12,od_12,.func (W.fnOf "is_name" "is_name" (defArgs zg1) (defBody zg1) (defScope zg1) .none kV_12 dc_12 pm_12 an_12 cd_12 ct_12),sl_12⟩) (e3_12:W.codeIn K cd_12 "is_name"=true) (e4_12:W.keepIn K (.ref a_12)=true)
  {oc_13 kV_13 dc_13 pm_13 cd_13 ct_13:Value}{od_13 an_13:Option Addr}{sl_13:Array (Option Value)}
  (e1_13:W.nsIn K mainGlobals "look_at_places"=some (some (.ref a_13))) (e2_13:K.lookup a_13=some ⟨oc_13,od_13,.func (W.fnOf "look_at_places" "look_at_places" (defArgs zb1) (defBody zb1) (defScope zb1) .none kV_13 dc_13 pm_13 an_13 cd_13 ct_13),sl_13⟩) (e3_13:W.codeIn K cd_13 "look_at_places"=true) (e4_13:W.keepIn K (.ref a_13)=true)
  {oc_14 kV_14 dc_14 pm_14 cd_14 ct_14:Value}{od_14 an_14:Option Addr}{sl_14:Array (Option Value)}
  (e1_14:W.nsIn K mainGlobals "is_whole"=some (some (.ref a_14))) (e2_14:K.lookup a_14=some ⟨oc_14,od_14,.func (W.fnOf "is_whole" "is_whole" (defArgs zfH) (defBody zfH) (defScope zfH) .none kV_14 dc_14 pm_14 an_14 cd_14 ct_14),sl_14⟩) (e3_14:W.codeIn K cd_14 "is_whole"=true) (e4_14:W.keepIn K (.ref a_14)=true)
  {oc_15 kV_15 dc_15 pm_15 cd_15 ct_15:Value}{od_15 an_15:Option Addr}{sl_15:Array (Option Value)}
  (e1_15:W.nsIn K mainGlobals "common_divisor"=some (some (.ref a_15))) (e2_15:K.lookup a_15=some ⟨oc_15,od_15,.func (W.fnOf "common_divisor" "common_divisor" (defArgs zb2) (defBody zb2) (defScope zb2) .none kV_15 dc_15 pm_15 an_15 cd_15 ct_15),sl_15⟩) (e3_15:W.codeIn K cd_15 "common_divisor"=true) (e4_15:W.keepIn K (.ref a_15)=true)
  {oc_16 kV_16 dc_16 pm_16 cd_16 ct_16:Value}{od_16 an_16:Option Addr}{sl_16:Array (Option Value)}
  (e1_16:W.nsIn K mainGlobals "is_ratio"=some (some (.ref a_16))) (e2_16:K.lookup a_16=some ⟨oc_16,od_16,.func (W.fnOf "is_ratio" "is_ratio" (defArgs zfI) (defBody zfI) (defScope zfI) .none kV_16 dc_16 pm_16 an_16 cd_16 ct_16),sl_16⟩) (e3_16:W.codeIn K cd_16 "is_ratio"=true) (e4_16:W.keepIn K (.ref a_16)=true)
  {oc_17 kV_17 dc_17 pm_17 cd_17 ct_17:Value}{od_17 an_17:Option Addr}{sl_17:Array (Option Value)}
  (e1_17:W.nsIn K mainGlobals "is_length"=some (some (.ref a_17))) (e2_17:K.lookup a_17=some ⟨oc_17,od_17,.func (W.fnOf "is_length" "is_length" (defArgs zej) (defBody zej) (defScope zej) .none kV_17 dc_17 pm_17 an_17 cd_17 ct_17),sl_17⟩) (e3_17:W.codeIn K cd_17 "is_length"=true) (e4_17:W.keepIn K (.ref a_17)=true)
  {oc_18 kV_18 dc_18 pm_18 cd_18 ct_18:Value}{od_18 an_18:Option Addr}{sl_18:Array (Option Value)}
  (e1_18:W.nsIn K mainGlobals "is_worth"=some (some (.ref a_18))) (e2_18:K.lookup a_18=some ⟨oc_18,od_18,.func (W.fnOf "is_worth" "is_worth" (defArgs zfG) (defBody zfG) (defScope zfG) .none kV_18 dc_18 pm_18 an_18 cd_18 ct_18),sl_18⟩) (e3_18:W.codeIn K cd_18 "is_worth"=true) (e4_18:W.keepIn K (.ref a_18)=true)
  {oc_19 kV_19 dc_19 pm_19 cd_19 ct_19:Value}{od_19 an_19:Option Addr}{sl_19:Array (Option Value)}
  (e1_19:W.nsIn K mainGlobals "is_tie"=some (some (.ref a_19))) (e2_19:K.lookup a_19=some ⟨oc_19,od_19,.func (W.fnOf "is_tie" "is_tie" (defArgs ziQ) (defBody ziQ) (defScope ziQ) .none kV_19 dc_19 pm_19 an_19 cd_19 ct_19),sl_19⟩) (e3_19:W.codeIn K cd_19 "is_tie"=true) (e4_19:W.keepIn K (.ref a_19)=true)
  {oc_20 kV_20 dc_20 pm_20 cd_20 ct_20:Value}{od_20 an_20:Option Addr}{sl_20:Array (Option Value)}
  (e1_20:W.nsIn K mainGlobals "look_at_ties"=some (some (.ref a_20))) (e2_20:K.lookup a_20=some ⟨oc_20,od_20,.func (W.fnOf "look_at_ties" "look_at_ties" (defArgs zcB) (defBody zcB) (defScope zcB) .none kV_20 dc_20 pm_20 an_20 cd_20 ct_20),sl_20⟩) (e3_20:W.codeIn K cd_20 "look_at_ties"=true) (e4_20:W.keepIn K (.ref a_20)=true)
  {oc_21 kV_21 dc_21 pm_21 cd_21 ct_21:Value}{od_21 an_21:Option Addr}{sl_21:Array (Option Value)}
  (e1_21:W.nsIn K mainGlobals "is_place"=some (some (.ref a_21))) (e2_21:K.lookup a_21=some ⟨oc_21,od_21,.func (W.fnOf "is_place" "is_place" (defArgs zfJ) (defBody zfJ) (defScope zfJ) .none kV_21 dc_21 pm_21 an_21 cd_21 ct_21),sl_21⟩) (e3_21:W.codeIn K cd_21 "is_place"=true) (e4_21:W.keepIn K (.ref a_21)=true)
  {oc_22 kV_22 dc_22 pm_22 cd_22 ct_22:Value}{od_22 an_22:Option Addr}{sl_22:Array (Option Value)}
  (e1_22:W.nsIn K mainGlobals "look_at_web"=some (some (.ref a_22))) (e2_22:K.lookup a_22=some ⟨oc_22,od_22,.func (W.fnOf "look_at_web" "look_at_web" (defArgs zcY) (defBody zcY) (defScope zcY) .none kV_22 dc_22 pm_22 an_22 cd_22 ct_22),sl_22⟩) (e3_22:W.codeIn K cd_22 "look_at_web"=true) (e4_22:W.keepIn K (.ref a_22)=true)
  {oc_23 kV_23 dc_23 pm_23 cd_23 ct_23:Value}{od_23 an_23:Option Addr}{sl_23:Array (Option Value)}
  (e1_23:W.nsIn K mainGlobals "is_tie_number"=some (some (.ref a_23))) (e2_23:K.lookup a_23=some ⟨oc_23,od_23,.func (W.fnOf "is_tie_number" "is_tie_number" (defArgs zck) (defBody zck) (defScope zck) .none kV_23 dc_23 pm_23 an_23 cd_23 ct_23),sl_23⟩) (e3_23:W.codeIn K cd_23 "is_tie_number"=true) (e4_23:W.keepIn K (.ref a_23)=true)
  {oc_24 kV_24 dc_24 pm_24 cd_24 ct_24:Value}{od_24 an_24:Option Addr}{sl_24:Array (Option Value)}
  (e1_24:W.nsIn K mainGlobals "look_at_taking"=some (some (.ref a_24))) (e2_24:K.lookup a_24=some ⟨oc_24,od_24,.func (W.fnOf "look_at_taking" "look_at_taking" (defArgs zb0) (defBody zb0) (defScope zb0) .none kV_24 dc_24 pm_24 an_24 cd_24 ct_24),sl_24⟩) (e3_24:W.codeIn K cd_24 "look_at_taking"=true) (e4_24:W.keepIn K (.ref a_24)=true)
  {oc_25 kV_25 dc_25 pm_25 cd_25 ct_25:Value}{od_25 an_25:Option Addr}{sl_25:Array (Option Value)}
  (e1_25:W.nsIn K mainGlobals "ratio"=some (some (.ref a_25))) (e2_25:K.lookup a_25=some ⟨oc_25,od_25,.func (W.fnOf "ratio" "ratio" (defArgs zkj) (defBody zkj) (defScope zkj) .none kV_25 dc_25 pm_25 an_25 cd_25 ct_25),sl_25⟩) (e3_25:W.codeIn K cd_25 "ratio"=true) (e4_25:W.keepIn K (.ref a_25)=true)
  {oc_26 kV_26 dc_26 pm_26 cd_26 ct_26:Value}{od_26 an_26:Option Addr}{sl_26:Array (Option Value)}
  (e1_26:W.nsIn K mainGlobals "plus"=some (some (.ref a_26))) (e2_26:K.lookup a_26=some ⟨oc_26,od_26,.func (W.fnOf "plus" "plus" (defArgs znp) (defBody znp) (defScope znp) .none kV_26 dc_26 pm_26 an_26 cd_26 ct_26),sl_26⟩) (e3_26:W.codeIn K cd_26 "plus"=true) (e4_26:W.keepIn K (.ref a_26)=true)
  {oc_27 kV_27 dc_27 pm_27 cd_27 ct_27:Value}{od_27 an_27:Option Addr}{sl_27:Array (Option Value)}
  (e1_27:W.nsIn K mainGlobals "sum_of"=some (some (.ref a_27))) (e2_27:K.lookup a_27=some ⟨oc_27,od_27,.func (W.fnOf "sum_of" "sum_of" (defArgs ziP) (defBody ziP) (defScope ziP) .none kV_27 dc_27 pm_27 an_27 cd_27 ct_27),sl_27⟩) (e3_27:W.codeIn K cd_27 "sum_of"=true) (e4_27:W.keepIn K (.ref a_27)=true)
  {oc_28 kV_28 dc_28 pm_28 cd_28 ct_28:Value}{od_28 an_28:Option Addr}{sl_28:Array (Option Value)}
  (e1_28:W.nsIn K mainGlobals "worth_of"=some (some (.ref a_28))) (e2_28:K.lookup a_28=some ⟨oc_28,od_28,.func (W.fnOf "worth_of" "worth_of" (defArgs zfE) (defBody zfE) (defScope zfE) .none kV_28 dc_28 pm_28 an_28 cd_28 ct_28),sl_28⟩) (e3_28:W.codeIn K cd_28 "worth_of"=true) (e4_28:W.keepIn K (.ref a_28)=true)
  {oc_29 kV_29 dc_29 pm_29 cd_29 ct_29:Value}{od_29 an_29:Option Addr}{sl_29:Array (Option Value)}
  (e1_29:W.nsIn K mainGlobals "look_at_purse"=some (some (.ref a_29))) (e2_29:K.lookup a_29=some ⟨oc_29,od_29,.func (W.fnOf "look_at_purse" "look_at_purse" (defArgs zcj) (defBody zcj) (defScope zcj) .none kV_29 dc_29 pm_29 an_29 cd_29 ct_29),sl_29⟩) (e3_29:W.codeIn K cd_29 "look_at_purse"=true) (e4_29:W.keepIn K (.ref a_29)=true)
  {oc_30 kV_30 dc_30 pm_30 cd_30 ct_30:Value}{od_30 an_30:Option Addr}{sl_30:Array (Option Value)}
  (e1_30:W.nsIn K mainGlobals "is_less"=some (some (.ref a_30))) (e2_30:K.lookup a_30=some ⟨oc_30,od_30,.func (W.fnOf "is_less" "is_less" (defArgs zg2) (defBody zg2) (defScope zg2) .none kV_30 dc_30 pm_30 an_30 cd_30 ct_30),sl_30⟩) (e3_30:W.codeIn K cd_30 "is_less"=true) (e4_30:W.keepIn K (.ref a_30)=true)
  {oc_31 kV_31 dc_31 pm_31 cd_31 ct_31:Value}{od_31 an_31:Option Addr}{sl_31:Array (Option Value)}
  (e1_31:W.nsIn K mainGlobals "is_within"=some (some (.ref a_31))) (e2_31:K.lookup a_31=some ⟨oc_31,od_31,.func (W.fnOf "is_within" "is_within" (defArgs zei) (defBody zei) (defScope zei) .none kV_31 dc_31 pm_31 an_31 cd_31 ct_31),sl_31⟩) (e3_31:W.codeIn K cd_31 "is_within"=true) (e4_31:W.keepIn K (.ref a_31)=true)
  {oc_32 kV_32 dc_32 pm_32 cd_32 ct_32:Value}{od_32 an_32:Option Addr}{sl_32:Array (Option Value)}
  (e1_32:W.nsIn K mainGlobals "shared_bottom"=some (some (.ref a_32))) (e2_32:K.lookup a_32=some ⟨oc_32,od_32,.func (W.fnOf "shared_bottom" "shared_bottom" (defArgs zci) (defBody zci) (defScope zci) .none kV_32 dc_32 pm_32 an_32 cd_32 ct_32),sl_32⟩) (e3_32:W.codeIn K cd_32 "shared_bottom"=true) (e4_32:W.keepIn K (.ref a_32)=true)
  {oc_33 kV_33 dc_33 pm_33 cd_33 ct_33:Value}{od_33 an_33:Option Addr}{sl_33:Array (Option Value)}
  (e1_33:W.nsIn K mainGlobals "as_whole"=some (some (.ref a_33))) (e2_33:K.lookup a_33=some ⟨oc_33,od_33,.func (W.fnOf "as_whole" "as_whole" (defArgs zfK) (defBody zfK) (defScope zfK) .none kV_33 dc_33 pm_33 an_33 cd_33 ct_33),sl_33⟩) (e3_33:W.codeIn K cd_33 "as_whole"=true) (e4_33:W.keepIn K (.ref a_33)=true)
  {oc_34 kV_34 dc_34 pm_34 cd_34 ct_34:Value}{od_34 an_34:Option Addr}{sl_34:Array (Option Value)}
  (e1_34:W.nsIn K mainGlobals "on_one_scale"=some (some (.ref a_34))) (e2_34:K.lookup a_34=some ⟨oc_34,od_34,.func (W.fnOf "on_one_scale" "on_one_scale" (defArgs zcz) (defBody zcz) (defScope zcz) .none kV_34 dc_34 pm_34 an_34 cd_34 ct_34),sl_34⟩) (e3_34:W.codeIn K cd_34 "on_one_scale"=true) (e4_34:W.keepIn K (.ref a_34)=true)
  {oc_35 kV_35 dc_35 pm_35 cd_35 ct_35:Value}{od_35 an_35:Option Addr}{sl_35:Array (Option Value)}
  (e1_35:W.nsIn K mainGlobals "means_of"=some (some (.ref a_35))) (e2_35:K.lookup a_35=some ⟨oc_35,od_35,.func (W.fnOf "means_of" "means_of" (defArgs zfF) (defBody zfF) (defScope zfF) .none kV_35 dc_35 pm_35 an_35 cd_35 ct_35),sl_35⟩) (e3_35:W.codeIn K cd_35 "means_of"=true) (e4_35:W.keepIn K (.ref a_35)=true)
  {oc_36 kV_36 dc_36 pm_36 cd_36 ct_36:Value}{od_36 an_36:Option Addr}{sl_36:Array (Option Value)}
  (e1_36:W.nsIn K mainGlobals "most_at_once"=some (some (.ref a_36))) (e2_36:K.lookup a_36=some ⟨oc_36,od_36,.func (W.fnOf "most_at_once" "most_at_once" (defArgs zcA) (defBody zcA) (defScope zcA) .none kV_36 dc_36 pm_36 an_36 cd_36 ct_36),sl_36⟩) (e3_36:W.codeIn K cd_36 "most_at_once"=true) (e4_36:W.keepIn K (.ref a_36)=true)
  {oc_37 kV_37 dc_37 pm_37 cd_37 ct_37:Value}{od_37 an_37:Option Addr}{sl_37:Array (Option Value)}
  (e1_37:W.nsIn K mainGlobals "_law_other"=some (some (.ref a_37))) (e2_37:K.lookup a_37=some ⟨oc_37,od_37,.func (W.fnOf "_law_other" "_law_other" (defArgs zdD) (defBody zdD) (defScope zdD) .none kV_37 dc_37 pm_37 an_37 cd_37 ct_37),sl_37⟩) (e3_37:W.codeIn K cd_37 "_law_other"=true) (e4_37:W.keepIn K (.ref a_37)=true)
  {oc_38 kV_38 dc_38 pm_38 cd_38 ct_38:Value}{od_38 an_38:Option Addr}{sl_38:Array (Option Value)}
  (e1_38:W.nsIn K mainGlobals "_law_class"=some (some (.ref a_38))) (e2_38:K.lookup a_38=some ⟨oc_38,od_38,.func (W.fnOf "_law_class" "_law_class" (defArgs zdG) (defBody zdG) (defScope zdG) .none kV_38 dc_38 pm_38 an_38 cd_38 ct_38),sl_38⟩) (e3_38:W.codeIn K cd_38 "_law_class"=true) (e4_38:W.keepIn K (.ref a_38)=true)
  {oc_39 kV_39 dc_39 pm_39 cd_39 ct_39:Value}{od_39 an_39:Option Addr}{sl_39:Array (Option Value)}
  (e1_39:W.nsIn K mainGlobals "_law_whole"=some (some (.ref a_39))) (e2_39:K.lookup a_39=some ⟨oc_39,od_39,.func (W.fnOf "_law_whole" "_law_whole" (defArgs zdA) (defBody zdA) (defScope zdA) .none kV_39 dc_39 pm_39 an_39 cd_39 ct_39),sl_39⟩) (e3_39:W.codeIn K cd_39 "_law_whole"=true) (e4_39:W.keepIn K (.ref a_39)=true)
  {oc_40 kV_40 dc_40 pm_40 cd_40 ct_40:Value}{od_40 an_40:Option Addr}{sl_40:Array (Option Value)}
  (e1_40:W.nsIn K mainGlobals "_law_is_ratio"=some (some (.ref a_40))) (e2_40:K.lookup a_40=some ⟨oc_40,od_40,.func (W.fnOf "_law_is_ratio" "_law_is_ratio" (defArgs zcm) (defBody zcm) (defScope zcm) .none kV_40 dc_40 pm_40 an_40 cd_40 ct_40),sl_40⟩) (e3_40:W.codeIn K cd_40 "_law_is_ratio"=true) (e4_40:W.keepIn K (.ref a_40)=true)
  {oc_41 kV_41 dc_41 pm_41 cd_41 ct_41:Value}{od_41 an_41:Option Addr}{sl_41:Array (Option Value)}
  (e1_41:W.nsIn K mainGlobals "_law_right"=some (some (.ref a_41))) (e2_41:K.lookup a_41=some ⟨oc_41,od_41,.func (W.fnOf "_law_right" "_law_right" (defArgs zdB) (defBody zdB) (defScope zdB) .none kV_41 dc_41 pm_41 an_41 cd_41 ct_41),sl_41⟩) (e3_41:W.codeIn K cd_41 "_law_right"=true) (e4_41:W.keepIn K (.ref a_41)=true)
  {oc_42 kV_42 dc_42 pm_42 cd_42 ct_42:Value}{od_42 an_42:Option Addr}{sl_42:Array (Option Value)}
  (e1_42:W.nsIn K mainGlobals "law"=some (some (.ref a_42))) (e2_42:K.lookup a_42=some ⟨oc_42,od_42,.func (W.fnOf "law" "law" (defArgs zlt) (defBody zlt) (defScope zlt) .none kV_42 dc_42 pm_42 an_42 cd_42 ct_42),sl_42⟩) (e3_42:W.codeIn K cd_42 "law"=true) (e4_42:W.keepIn K (.ref a_42)=true)
  {zvK zv8 zwF zvu zqv zwK:Value}{zvH zwX:Option Addr}{zuV:Array (Option Value)}
  (zsx:W.nsIn K mainGlobals "Means"=some (some (.ref za9))) (zxQ:W.findIn K (.ref za9) "__init__"=some (some (.ref zfB))) (zxP:W.isFn K (.ref zfB)=true) (zsw:K.lookup zfB=some ⟨zvK,zvH,.func (W.fnOf "__init__" "Means.__init__" (defArgs ziN) (defBody ziN) (defScope ziN) .none zv8 zwF zvu zwX zqv zwK),zuV⟩) (zsu:W.codeIn K zqv "Means.__init__"=true) (zss:W.keepIn K (.ref zfB)=true) (zxN:W.makesIn K za9=true) (zxM:W.keepIn K (.ref za9)=true) (zvd:W.plainGet K za9 Str.empty=true) (zvf:W.hasDictIn K za9=true) (zvc:W.plainOver K za9=true) (zvb:W.findIn K (.ref za9) "__setattr__"=some (some (.builtin "object.__setattr__"))) (zvh:W.findIn K (.ref za9) "__class__"=some (some (.builtin "object.__class__"))) (zvg:W.specialIn K (.builtin "object.__class__") "__get__"=some (some (.builtin "getset_descriptor.__get__"))) (zu3:W.takesIn K (.builtin "object.__class__")=some true) (zve:W.mroIn K za9 (.type "object")=some true) (zva:W.subIn K (.ref za9) (.type "NoneType")=some false) (zu9:W.subIn K (.ref za9) (.type "bool")=some false) (zu8:W.subIn K (.ref za9) (.type "int")=some false) (zu7:W.subIn K (.ref za9) (.type "str")=some false) (zu6:W.subIn K (.ref za9) (.type "tuple")=some false) (zu5:W.subIn K (.ref za9) (.type "list")=some false) (zu4:W.subIn K (.ref za9) (.type "dict")=some false) (zna:W.findIn K (.ref za9) "costs"=some none) (zn8:W.findIn K (.ref za9) "left"=some none) (zl7:W.findIn K (.ref za9) "bottom"=some none)
  (z_ValueError:W.nsIn K mainGlobals "ValueError"=some none)
  (z_abs:W.nsIn K mainGlobals "abs"=some none)
  (z_all:W.nsIn K mainGlobals "all"=some none)
  (z_bool:W.nsIn K mainGlobals "bool"=some none)
  (z_enumerate:W.nsIn K mainGlobals "enumerate"=some none)
  (z_int:W.nsIn K mainGlobals "int"=some none)
  (z_isinstance:W.nsIn K mainGlobals "isinstance"=some none)
  (z_len:W.nsIn K mainGlobals "len"=some none)
  (z_list:W.nsIn K mainGlobals "list"=some none)
  (z_max:W.nsIn K mainGlobals "max"=some none)
  (z_range:W.nsIn K mainGlobals "range"=some none)
  (z_sorted:W.nsIn K mainGlobals "sorted"=some none)
  (z_str:W.nsIn K mainGlobals "str"=some none)
  (z_tuple:W.nsIn K mainGlobals "tuple"=some none)
  (zk9:W.nsIn K mainGlobals "CutError"=some (some (.ref zaQ))) (zpW:W.typeIn K (.ref zaQ)=some (.type "type")) (zp0:W.mroIn K zaQ (.type "object")=some true) (zp8:W.subIn K (.ref zaQ) (.type "BaseException")=some true)
  (znA:W.nsIn K mainGlobals "NoAdds"=some (some (.ref zbY))) (ztG:W.typeIn K (.ref zbY)=some (.type "type")) (ztO:W.mroIn K zbY (.type "object")=some true) (ztW:W.subIn K (.ref zbY) (.type "BaseException")=some true)
  (zmo:W.nsIn K mainGlobals "NoCases"=some (some (.ref zbs))) (zrB:W.typeIn K (.ref zbs)=some (.type "type")) (zrE:W.mroIn K zbs (.type "object")=some true) (zrH:W.subIn K (.ref zbs) (.type "BaseException")=some true)
  (zk8:W.nsIn K mainGlobals "NoChange"=some (some (.ref za6))) (zpV:W.typeIn K (.ref za6)=some (.type "type")) (zpZ:W.mroIn K za6 (.type "object")=some true) (zp7:W.subIn K (.ref za6) (.type "BaseException")=some true)
  (znz:W.nsIn K mainGlobals "NoDeed"=some (some (.ref zbX))) (ztF:W.typeIn K (.ref zbX)=some (.type "type")) (ztN:W.mroIn K zbX (.type "object")=some true) (ztV:W.subIn K (.ref zbX) (.type "BaseException")=some true)
  (zny:W.nsIn K mainGlobals "NoFlow"=some (some (.ref zbW))) (ztE:W.typeIn K (.ref zbW)=some (.type "type")) (ztM:W.mroIn K zbW (.type "object")=some true) (ztU:W.subIn K (.ref zbW) (.type "BaseException")=some true)
  (znx:W.nsIn K mainGlobals "NoJoin"=some (some (.ref zbV))) (ztD:W.typeIn K (.ref zbV)=some (.type "type")) (ztL:W.mroIn K zbV (.type "object")=some true) (ztT:W.subIn K (.ref zbV) (.type "BaseException")=some true)
  (zp4:W.nsIn K mainGlobals "NoMix"=some (some (.ref zcL))) (zvX:W.typeIn K (.ref zcL)=some (.type "type")) (zv2:W.mroIn K zcL (.type "object")=some true) (zv6:W.subIn K (.ref zcL) (.type "BaseException")=some true)
  (znw:W.nsIn K mainGlobals "NoName"=some (some (.ref zbU))) (ztC:W.typeIn K (.ref zbU)=some (.type "type")) (ztK:W.mroIn K zbU (.type "object")=some true) (ztS:W.subIn K (.ref zbU) (.type "BaseException")=some true)
  (zh1:W.nsIn K mainGlobals "NoNumber"=some (some (.ref zaj))) (zk4:W.typeIn K (.ref zaj)=some (.type "type")) (zk6:W.mroIn K zaj (.type "object")=some true) (zlb:W.subIn K (.ref zaj) (.type "BaseException")=some true)
  (zjA:W.nsIn K mainGlobals "NoPurse"=some (some (.ref zao))) (zmj:W.typeIn K (.ref zao)=some (.type "type")) (zmk:W.mroIn K zao (.type "object")=some true) (zmq:W.subIn K (.ref zao) (.type "BaseException")=some true)
  (zmn:W.nsIn K mainGlobals "NoRooms"=some (some (.ref zbr))) (zrA:W.typeIn K (.ref zbr)=some (.type "type")) (zrD:W.mroIn K zbr (.type "object")=some true) (zrG:W.subIn K (.ref zbr) (.type "BaseException")=some true)
  (zp3:W.nsIn K mainGlobals "NoRow"=some (some (.ref zcK))) (zvW:W.typeIn K (.ref zcK)=some (.type "type")) (zv1:W.mroIn K zcK (.type "object")=some true) (zv5:W.subIn K (.ref zcK) (.type "BaseException")=some true)
  (znv:W.nsIn K mainGlobals "NoSide"=some (some (.ref zbT))) (ztB:W.typeIn K (.ref zbT)=some (.type "type")) (ztJ:W.mroIn K zbT (.type "object")=some true) (ztR:W.subIn K (.ref zbT) (.type "BaseException")=some true)
  (zk7:W.nsIn K mainGlobals "NoSpread"=some (some (.ref za5))) (zpU:W.typeIn K (.ref za5)=some (.type "type")) (zpY:W.mroIn K za5 (.type "object")=some true) (zp6:W.subIn K (.ref za5) (.type "BaseException")=some true)
  (zh0:W.nsIn K mainGlobals "NoTaking"=some (some (.ref zai))) (zk3:W.typeIn K (.ref zai)=some (.type "type")) (zk5:W.mroIn K zai (.type "object")=some true) (zla:W.subIn K (.ref zai) (.type "BaseException")=some true)
  (znu:W.nsIn K mainGlobals "NoText"=some (some (.ref zbS))) (ztA:W.typeIn K (.ref zbS)=some (.type "type")) (ztI:W.mroIn K zbS (.type "object")=some true) (ztQ:W.subIn K (.ref zbS) (.type "BaseException")=some true)
  (zp2:W.nsIn K mainGlobals "NoTie"=some (some (.ref zcJ))) (zvV:W.typeIn K (.ref zcJ)=some (.type "type")) (zv0:W.mroIn K zcJ (.type "object")=some true) (zv4:W.subIn K (.ref zcJ) (.type "BaseException")=some true)
  (znt:W.nsIn K mainGlobals "NoTurn"=some (some (.ref zbR))) (ztz:W.typeIn K (.ref zbR)=some (.type "type")) (ztH:W.mroIn K zbR (.type "object")=some true) (ztP:W.subIn K (.ref zbR) (.type "BaseException")=some true)
  (zp1:W.nsIn K mainGlobals "NoWay"=some (some (.ref zcI))) (zvU:W.typeIn K (.ref zcI)=some (.type "type")) (zvZ:W.mroIn K zcI (.type "object")=some true) (zv3:W.subIn K (.ref zcI) (.type "BaseException")=some true)
  (zmm:W.nsIn K mainGlobals "NoWeb"=some (some (.ref zaq))) (zpT:W.typeIn K (.ref zaq)=some (.type "type")) (zpX:W.mroIn K zaq (.type "object")=some true) (zp5:W.subIn K (.ref zaq) (.type "BaseException")=some true)
  (zml:W.nsIn K mainGlobals "TooMany"=some (some (.ref zbq))) (zrz:W.typeIn K (.ref zbq)=some (.type "type")) (zrC:W.mroIn K zbq (.type "object")=some true) (zrF:W.subIn K (.ref zbq) (.type "BaseException")=some true)
  (zjo:W.nsIn K mainGlobals "Unbalanced"=some (some (.ref zaO))) (znb:W.typeIn K (.ref zaO)=some (.type "type")) (znc:W.mroIn K zaO (.type "object")=some true) (znd:W.subIn K (.ref zaO) (.type "BaseException")=some true)
  (znY:W.findIn K (.ref zaj) "__class__"=some (some (.builtin "object.__class__"))) (zpp:W.findIn K (.ref zaj) "__getattribute__"=some (some (.builtin "BaseException.__getattribute__"))) (zpn:W.findIn K (.ref zaj) "__getattr__"=some none) (zpj:W.subIn K (.ref zaj) (.type "NoneType")=some false) (zph:W.subIn K (.ref zaj) (.type "bool")=some false) (zpf:W.subIn K (.ref zaj) (.type "int")=some false) (zpd:W.subIn K (.ref zaj) (.type "str")=some false) (zpb:W.subIn K (.ref zaj) (.type "tuple")=some false) (zo9:W.subIn K (.ref zaj) (.type "list")=some false) (zo7:W.subIn K (.ref zaj) (.type "dict")=some false) (zo5:W.subIn K (.ref zaj) (.type "ValueError")=some true) (zm5:W.subIn K (.ref zaj) (.ref zaj)=some true) (zps:W.excIn K zaj [.type "ValueError",.type "Exception",.type "BaseException",.type "object"] "ValueError.__new__"=true)
  (zpt:W.findIn K (.ref zao) "__class__"=some (some (.builtin "object.__class__"))) (zqS:W.findIn K (.ref zao) "__getattribute__"=some (some (.builtin "BaseException.__getattribute__"))) (zqR:W.findIn K (.ref zao) "__getattr__"=some none) (zqP:W.subIn K (.ref zao) (.type "NoneType")=some false) (zqO:W.subIn K (.ref zao) (.type "bool")=some false) (zqN:W.subIn K (.ref zao) (.type "int")=some false) (zqM:W.subIn K (.ref zao) (.type "str")=some false) (zqL:W.subIn K (.ref zao) (.type "tuple")=some false) (zqK:W.subIn K (.ref zao) (.type "list")=some false) (zqJ:W.subIn K (.ref zao) (.type "dict")=some false) (zqI:W.subIn K (.ref zao) (.type "ValueError")=some true) (znV:W.subIn K (.ref zao) (.ref zao)=some true) (zqT:W.excIn K zao [.type "ValueError",.type "Exception",.type "BaseException",.type "object"] "ValueError.__new__"=true)
  (znX:W.findIn K (.ref zai) "__class__"=some (some (.builtin "object.__class__"))) (zpo:W.findIn K (.ref zai) "__getattribute__"=some (some (.builtin "BaseException.__getattribute__"))) (zpm:W.findIn K (.ref zai) "__getattr__"=some none) (zpi:W.subIn K (.ref zai) (.type "NoneType")=some false) (zpg:W.subIn K (.ref zai) (.type "bool")=some false) (zpe:W.subIn K (.ref zai) (.type "int")=some false) (zpc:W.subIn K (.ref zai) (.type "str")=some false) (zpa:W.subIn K (.ref zai) (.type "tuple")=some false) (zo8:W.subIn K (.ref zai) (.type "list")=some false) (zo6:W.subIn K (.ref zai) (.type "dict")=some false) (zo4:W.subIn K (.ref zai) (.type "ValueError")=some true) (zm4:W.subIn K (.ref zai) (.ref zai)=some true) (zpr:W.excIn K zai [.type "ValueError",.type "Exception",.type "BaseException",.type "object"] "ValueError.__new__"=true)
  (ztc:W.findIn K (.ref zaq) "__class__"=some (some (.builtin "object.__class__"))) (zuF:W.findIn K (.ref zaq) "__getattribute__"=some (some (.builtin "BaseException.__getattribute__"))) (zuE:W.findIn K (.ref zaq) "__getattr__"=some none) (zuz:W.subIn K (.ref zaq) (.type "NoneType")=some false) (zuy:W.subIn K (.ref zaq) (.type "bool")=some false) (zux:W.subIn K (.ref zaq) (.type "int")=some false) (zuw:W.subIn K (.ref zaq) (.type "str")=some false) (zuv:W.subIn K (.ref zaq) (.type "tuple")=some false) (zuu:W.subIn K (.ref zaq) (.type "list")=some false) (zut:W.subIn K (.ref zaq) (.type "dict")=some false) (zus:W.subIn K (.ref zaq) (.type "ValueError")=some true) (zqQ:W.subIn K (.ref zaq) (.ref zaq)=some true)
  {zvJ zv7 zwE zvt zqu zwJ:Value}{zvG zwW:Option Addr}{zuU:Array (Option Value)}
  {zx5 zxR:Str}{zrt:Addr}{zyZ zxw:List Value}{zyo zy3:Bool}{zxy:List Str}{zwO:Option Bool}{zyS zyK:Option Addr}{zyl zyk zyj zyi zyh:Option Value}{zyW:Value}{zsS:Array DictEntry}{zyG:Nat}{zxx:Array (Option Value)}
  (zsb:K.lookup zaq=some (excClassObj zx5 zxR zaq zrt zyZ [.ref zaQ,.type "ValueError",.type "Exception",.type "BaseException",.type "object"] zyo zxy zxw zy3 zwO zyS zyl zyk zyj zyi zyh "ValueError.__new__")) (zsa:K.lookup zrt=some ⟨zyW,zyK,.dict zsS zyG,zxx⟩) (zsc:zsS.toList.all zCx=true) (zr9:W.nsIn K zrt "__init__"=some (some (.ref zeO)))
  (zxO:W.isFn K (.ref zeO)=true) (zsv:K.lookup zeO=some ⟨zvJ,zvG,.func (W.fnOf "__init__" "NoWeb.__init__" (defArgs ziM) (defBody ziM) (defScope ziM) .none zv7 zwE zvt zwW zqu zwJ),zuU⟩) (zst:W.codeIn K zqu "NoWeb.__init__"=true) (zsr:W.keepIn K (.ref zeO)=true)
  (zuA:W.findIn K (.ref zaq) "__setattr__"=some (some (.builtin "object.__setattr__"))) (zuD:W.hasDictIn K zaq=true) (zm6:W.findIn K (.ref zaq) "part"=some none) (zlm:W.findIn K (.ref zaq) "number"=some none)
  (zkT:W.excIn K zaQ [.type "ValueError",.type "Exception",.type "BaseException",.type "object"] "ValueError.__new__"=true) (zpl:W.readsIn K zaQ (.type "type")=true) (zpq:W.findCls K (.ref zaQ) (.type "type") "__init__"=some (.val (.builtin "ValueError.__init__"))) (zpk:W.specialIn K (.ref zaQ) "__getattribute__"=some (some (.builtin "type.__getattribute__")))
  (zdy:W.subIn K (.ref zaj) (.ref zaQ)=some true)
  (zeD:W.subIn K (.ref zaj) (.ref zbY)=some false)
  (zd2:W.subIn K (.ref zaj) (.ref zbs)=some false)
  (zdx:W.subIn K (.ref zaj) (.ref za6)=some false)
  (zeC:W.subIn K (.ref zaj) (.ref zbX)=some false)
  (zeB:W.subIn K (.ref zaj) (.ref zbW)=some false)
  (zeA:W.subIn K (.ref zaj) (.ref zbV)=some false)
  (zfh:W.subIn K (.ref zaj) (.ref zcL)=some false)
  (zez:W.subIn K (.ref zaj) (.ref zbU)=some false)
  (zdw:W.subIn K (.ref zaj) (.ref zaj)=some true)
  (zd1:W.subIn K (.ref zaj) (.ref zao)=some false)
  (zgq:W.subIn K (.ref zaj) (.ref zbr)=some false)
  (zhz:W.subIn K (.ref zaj) (.ref zcK)=some false)
  (zey:W.subIn K (.ref zaj) (.ref zbT)=some false)
  (zdv:W.subIn K (.ref zaj) (.ref za5)=some false)
  (zdu:W.subIn K (.ref zaj) (.ref zai)=some false)
  (zex:W.subIn K (.ref zaj) (.ref zbS)=some false)
  (zfg:W.subIn K (.ref zaj) (.ref zcJ)=some false)
  (zew:W.subIn K (.ref zaj) (.ref zbR)=some false)
  (zff:W.subIn K (.ref zaj) (.ref zcI)=some false)
  (zfe:W.subIn K (.ref zaj) (.ref zaq)=some false)
  (zd0:W.subIn K (.ref zaj) (.ref zbq)=some false)
  (zcS:W.subIn K (.ref zaj) (.ref zaO)=some false)
  (zdZ:W.subIn K (.ref zao) (.ref zaQ)=some true)
  (zfd:W.subIn K (.ref zao) (.ref zbY)=some false)
  (zev:W.subIn K (.ref zao) (.ref zbs)=some false)
  (zdY:W.subIn K (.ref zao) (.ref za6)=some false)
  (zfc:W.subIn K (.ref zao) (.ref zbX)=some false)
  (zfb:W.subIn K (.ref zao) (.ref zbW)=some false)
  (zfa:W.subIn K (.ref zao) (.ref zbV)=some false)
  (zf2:W.subIn K (.ref zao) (.ref zcL)=some false)
  (ze9:W.subIn K (.ref zao) (.ref zbU)=some false)
  (zdX:W.subIn K (.ref zao) (.ref zaj)=some false)
  (zeu:W.subIn K (.ref zao) (.ref zao)=some true)
  (zet:W.subIn K (.ref zao) (.ref zbr)=some false)
  (zf1:W.subIn K (.ref zao) (.ref zcK)=some false)
  (ze8:W.subIn K (.ref zao) (.ref zbT)=some false)
  (zdW:W.subIn K (.ref zao) (.ref za5)=some false)
  (zdV:W.subIn K (.ref zao) (.ref zai)=some false)
  (ze7:W.subIn K (.ref zao) (.ref zbS)=some false)
  (zf0:W.subIn K (.ref zao) (.ref zcJ)=some false)
  (ze6:W.subIn K (.ref zao) (.ref zbR)=some false)
  (zfZ:W.subIn K (.ref zao) (.ref zcI)=some false)
  (zfY:W.subIn K (.ref zao) (.ref zaq)=some false)
  (zes:W.subIn K (.ref zao) (.ref zbq)=some false)
  (zc9:W.subIn K (.ref zao) (.ref zaO)=some false)
  (zdt:W.subIn K (.ref zai) (.ref zaQ)=some true)
  (zer:W.subIn K (.ref zai) (.ref zbY)=some false)
  (zdU:W.subIn K (.ref zai) (.ref zbs)=some false)
  (zds:W.subIn K (.ref zai) (.ref za6)=some false)
  (zeq:W.subIn K (.ref zai) (.ref zbX)=some false)
  (zep:W.subIn K (.ref zai) (.ref zbW)=some false)
  (zeo:W.subIn K (.ref zai) (.ref zbV)=some false)
  (ze5:W.subIn K (.ref zai) (.ref zcL)=some false)
  (zen:W.subIn K (.ref zai) (.ref zbU)=some false)
  (zdr:W.subIn K (.ref zai) (.ref zaj)=some false)
  (zdT:W.subIn K (.ref zai) (.ref zao)=some false)
  (zdS:W.subIn K (.ref zai) (.ref zbr)=some false)
  (ze4:W.subIn K (.ref zai) (.ref zcK)=some false)
  (zem:W.subIn K (.ref zai) (.ref zbT)=some false)
  (zdq:W.subIn K (.ref zai) (.ref za5)=some false)
  (zdp:W.subIn K (.ref zai) (.ref zai)=some true)
  (zel:W.subIn K (.ref zai) (.ref zbS)=some false)
  (ze3:W.subIn K (.ref zai) (.ref zcJ)=some false)
  (zek:W.subIn K (.ref zai) (.ref zbR)=some false)
  (ze2:W.subIn K (.ref zai) (.ref zcI)=some false)
  (ze1:W.subIn K (.ref zai) (.ref zaq)=some false)
  (zdR:W.subIn K (.ref zai) (.ref zbq)=some false)
  (zcR:W.subIn K (.ref zai) (.ref zaO)=some false)
  (ze0:W.subIn K (.ref zaq) (.ref zaQ)=some true)
  (zgJ:W.subIn K (.ref zaq) (.ref zbY)=some false)
  (zfX:W.subIn K (.ref zaq) (.ref zbs)=some false)
  (zeZ:W.subIn K (.ref zaq) (.ref za6)=some false)
  (zgI:W.subIn K (.ref zaq) (.ref zbX)=some false)
  (zgH:W.subIn K (.ref zaq) (.ref zbW)=some false)
  (zgG:W.subIn K (.ref zaq) (.ref zbV)=some false)
  (zhm:W.subIn K (.ref zaq) (.ref zcL)=some false)
  (zgF:W.subIn K (.ref zaq) (.ref zbU)=some false)
  (zeY:W.subIn K (.ref zaq) (.ref zaj)=some false)
  (zfW:W.subIn K (.ref zaq) (.ref zao)=some false)
  (zfV:W.subIn K (.ref zaq) (.ref zbr)=some false)
  (zhl:W.subIn K (.ref zaq) (.ref zcK)=some false)
  (zgE:W.subIn K (.ref zaq) (.ref zbT)=some false)
  (zeX:W.subIn K (.ref zaq) (.ref za5)=some false)
  (zeW:W.subIn K (.ref zaq) (.ref zai)=some false)
  (zgD:W.subIn K (.ref zaq) (.ref zbS)=some false)
  (zhk:W.subIn K (.ref zaq) (.ref zcJ)=some false)
  (zgC:W.subIn K (.ref zaq) (.ref zbR)=some false)
  (zhj:W.subIn K (.ref zaq) (.ref zcI)=some false)
  (zhi:W.subIn K (.ref zaq) (.ref zaq)=some true)
  (zfU:W.subIn K (.ref zaq) (.ref zbq)=some false)
  (zdQ:W.subIn K (.ref zaq) (.ref zaO)=some false)
  {zlZ:Tok}(zlV:W.nsIn K mainGlobals "FEWEST_PLACES"=some (some (.int 2 zlZ)))
  {zz3:Tok}(zzM:W.nsIn K mainGlobals "FIRST"=some (some (.int 2 zz3)))
  {zBN:Tok}(zBs:W.nsIn K mainGlobals "LAST"=some (some (.int 3 zBN)))
  {zxv:Tok}(zxa:W.nsIn K mainGlobals "LENGTH"=some (some (.int 3 zxv)))
  {zuP:Tok}(zur:W.nsIn K mainGlobals "LETTERS"=some (some (.str "abcdefghijklmnopqrstuvwxyz" zuP)))
  {zm7:Tok}(zm3:W.nsIn K mainGlobals "LONGEST_NAME"=some (some (.int 8 zm7)))
  {zn0:Tok}(znU:W.nsIn K mainGlobals "MOST_PLACES"=some (some (.int 7 zn0)))
  {zqY:Tok}(zqH:W.nsIn K mainGlobals "MOST_TIES"=some (some (.int 14 zqY)))
  {zsy:Addr}{zsG:Obj}(zw9:W.nsIn K mainGlobals "NOUGHT"=some (some (.ref zsy))) (zxf:K.lookup zsy=some zsG) (zxh:∃ od its n sl vs,zsG=⟨.type "tuple",od,.seq its n,sl⟩/\zce vs its.toList/\its.size<=sizeLine/\∀ H,Reps K H [.int 0,.int 1] vs)
  {zDq:Tok}(zDk:W.nsIn K mainGlobals "ONE"=some (some (.int 0 zDq)))
  {zz2:Tok}(zzL:W.nsIn K mainGlobals "OTHER"=some (some (.int 1 zz2)))
  {zxu:Tok}(zw8:W.nsIn K mainGlobals "PLACES"=some (some (.int 0 zxu)))
  {zBM:Tok}(zBr:W.nsIn K mainGlobals "TIES"=some (some (.int 1 zBM)))
  {zBL:Tok}(zBq:W.nsIn K mainGlobals "WORD"=some (some (.int 2 zBL)))
  {zvn:Addr}{zvL:Obj}(zzK:W.nsIn K mainGlobals "WORDS"=some (some (.ref zvn))) (zzU:K.lookup zvn=some zvL) (zzX:∃ od its n sl vs,zvL=⟨.type "tuple",od,.seq its n,sl⟩/\zce vs its.toList/\its.size<=sizeLine/\∀ H,Reps K H [.str "one",.str "both"] vs)
  {zz1:Tok}(zzJ:W.nsIn K mainGlobals "WORTH"=some (some (.int 4 zz1))) :
  ∃ t:Adr,Txt K mg t/\t.zr3=a_42/\∃ kV doc pm an cdv ct,t.zui=W.fnOf "law" "law" (defArgs zlt) (defBody zlt) (defScope zlt) .none kV doc pm an cdv ct:=by
 refine⟨⟨zeO,_,za9,zfB,_,zaQ,zbY,zbs,za6,zbX,zbW,zbV,zcL,zbU,zaj,zao,zbr,zcK,zbT,za5,zai,zbS,zcJ,zbR,zcI,zaq,zbq,zaO,a_0,_,a_1,_,a_2,_,a_3,_,a_4,_,a_5,_,a_6,_,a_7,_,a_8,_,a_9,_,a_10,_,a_11,_,a_12,_,a_13,_,a_14,_,a_15,_,a_16,_,a_17,_,a_18,_,a_19,_,a_20,_,a_21,_,a_22,_,a_23,_,a_24,_,a_25,_,a_26,_,a_27,_,a_28,_,a_29,_,a_30,_,a_31,_,a_32,_,a_33,_,a_34,_,a_35,_,a_36,_,a_37,_,a_38,_,a_39,_,a_40,_,a_41,_,a_42,_⟩,⟨zav e2_0 e3_0 e4_0,?b_0,W.mg_of X G e1_0,zav e2_1 e3_1 e4_1,?b_1,W.mg_of X G e1_1,zav e2_2 e3_2 e4_2,?b_2,W.mg_of X G e1_2,zav e2_3 e3_3 e4_3,?b_3,W.mg_of X G e1_3,zav e2_4 e3_4 e4_4,?b_4,W.mg_of X G e1_4,zav e2_5 e3_5 e4_5,?b_5,W.mg_of X G e1_5,zav e2_6 e3_6 e4_6,?b_6,W.mg_of X G e1_6,zav e2_7 e3_7 e4_7,?b_7,W.mg_of X G e1_7,zav e2_8 e3_8 e4_8,?b_8,W.mg_of X G e1_8,zav e2_9 e3_9 e4_9,?b_9,W.mg_of X G e1_9,zav e2_10 e3_10 e4_10,?b_10,W.mg_of X G e1_10,zav e2_11 e3_11 e4_11,?b_11,W.mg_of X G e1_11,zav e2_12 e3_12 e4_12,?b_12,W.mg_of X G e1_12,zav e2_13 e3_13 e4_13,?b_13,W.mg_of X G e1_13,zav e2_14 e3_14 e4_14,?b_14,W.mg_of X G e1_14,zav e2_15 e3_15 e4_15,?b_15,W.mg_of X G e1_15,zav e2_16 e3_16 e4_16,?b_16,W.mg_of X G e1_16,zav e2_17 e3_17 e4_17,?b_17,W.mg_of X G e1_17,zav e2_18 e3_18 e4_18,?b_18,W.mg_of X G e1_18,zav e2_19 e3_19 e4_19,?b_19,W.mg_of X G e1_19,zav e2_20 e3_20 e4_20,?b_20,W.mg_of X G e1_20,zav e2_21 e3_21 e4_21,?b_21,W.mg_of X G e1_21,zav e2_22 e3_22 e4_22,?b_22,W.mg_of X G e1_22,zav e2_23 e3_23 e4_23,?b_23,W.mg_of X G e1_23,zav e2_24 e3_24 e4_24,?b_24,W.mg_of X G e1_24,zav e2_25 e3_25 e4_25,?b_25,W.mg_of X G e1_25,zav e2_26 e3_26 e4_26,?b_26,W.mg_of X G e1_26,zav e2_27 e3_27 e4_27,?b_27,W.mg_of X G e1_27,zav e2_28 e3_28 e4_28,?b_28,W.mg_of X G e1_28,zav e2_29 e3_29 e4_29,?b_29,W.mg_of X G e1_29,zav e2_30 e3_30 e4_30,?b_30,W.mg_of X G e1_30,zav e2_31 e3_31 e4_31,?b_31,W.mg_of X G e1_31,zav e2_32 e3_32 e4_32,?b_32,W.mg_of X G e1_32,zav e2_33 e3_33 e4_33,?b_33,W.mg_of X G e1_33,zav e2_34 e3_34 e4_34,?b_34,W.mg_of X G e1_34,zav e2_35 e3_35 e4_35,?b_35,W.mg_of X G e1_35,zav e2_36 e3_36 e4_36,?b_36,W.mg_of X G e1_36,zav e2_37 e3_37 e4_37,?b_37,W.mg_of X G e1_37,zav e2_38 e3_38 e4_38,?b_38,W.mg_of X G e1_38,zav e2_39 e3_39 e4_39,?b_39,W.mg_of X G e1_39,zav e2_40 e3_40 e4_40,?b_40,W.mg_of X G e1_40,zav e2_41 e3_41 e4_41,?b_41,W.mg_of X G e1_41,zav e2_42 e3_42 e4_42,?b_42,W.mg_of X G e1_42,W.mg_none_of X G z_ValueError,W.mg_none_of X G z_abs,W.mg_none_of X G z_all,W.mg_none_of X G z_bool,W.mg_none_of X G z_enumerate,W.mg_none_of X G z_int,W.mg_none_of X G z_isinstance,W.mg_none_of X G z_len,W.mg_none_of X G z_list,W.mg_none_of X G z_max,W.mg_none_of X G z_range,W.mg_none_of X G z_sorted,W.mg_none_of X G z_str,W.mg_none_of X G z_tuple,W.mg_of X G zsx,zav zsw zsu zss,?zoZ,⟨zxN,zxQ,zxP,zxM⟩,zAf zsx zvd zvf zvc zvb zvh zvg zu3 zve zva zu9 zu8 zu7 zu6 zu5 zu4 (zjU zna ( zjU zn8 ( zjU zl7 (zvO)))),W.mg_of X G zk9,⟨zk9,zpW,zp0,zp8⟩,W.mg_of X G znA,⟨znA,ztG,ztO,ztW⟩,W.mg_of X G zmo,⟨zmo,zrB,zrE,zrH⟩,W.mg_of X G zk8,⟨zk8,zpV,zpZ,zp7⟩,W.mg_of X G znz,⟨znz,ztF,ztN,ztV⟩,W.mg_of X G zny,⟨zny,ztE,ztM,ztU⟩,W.mg_of X G znx,⟨znx,ztD,ztL,ztT⟩,W.mg_of X G zp4,⟨zp4,zvX,zv2,zv6⟩,W.mg_of X G znw,⟨znw,ztC,ztK,ztS⟩,W.mg_of X G zh1,⟨zh1,zk4,zk6,zlb⟩,W.mg_of X G zjA,⟨zjA,zmj,zmk,zmq⟩,W.mg_of X G zmn,⟨zmn,zrA,zrD,zrG⟩,W.mg_of X G zp3,⟨zp3,zvW,zv1,zv5⟩,W.mg_of X G znv,⟨znv,ztB,ztJ,ztR⟩,W.mg_of X G zk7,⟨zk7,zpU,zpY,zp6⟩,W.mg_of X G zh0,⟨zh0,zk3,zk5,zla⟩,W.mg_of X G znu,⟨znu,ztA,ztI,ztQ⟩,W.mg_of X G zp2,⟨zp2,zvV,zv0,zv4⟩,W.mg_of X G znt,⟨znt,ztz,ztH,ztP⟩,W.mg_of X G zp1,⟨zp1,zvU,zvZ,zv3⟩,W.mg_of X G zmm,⟨zmm,zpT,zpX,zp5⟩,W.mg_of X G zml,⟨zml,zrz,zrC,zrF⟩,W.mg_of X G zjo,⟨zjo,znb,znc,znd⟩,⟨⟨zh1,zk4,zk6,zlb⟩,znY,zpp,zpn,zpj,zph,zpf,zpd,zpb,zo9,zo7,zo5,zm5,zps⟩,⟨⟨zjA,zmj,zmk,zmq⟩,zpt,zqS,zqR,zqP,zqO,zqN,zqM,zqL,zqK,zqJ,zqI,znV,zqT⟩,⟨⟨zh0,zk3,zk5,zla⟩,znX,zpo,zpm,zpi,zpg,zpe,zpc,zpa,zo8,zo6,zo4,zm4,zpr⟩,⟨⟨zmm,zpT,zpX,zp5⟩,ztc,zuF,zuE,zuz,zuy,zux,zuw,zuv,zuu,zut,zus,zqQ⟩,zav zsv zst zsr,?zfC,zy9 zsb zsa zsc zr9 zkT,zBt (zy9 zsb zsa zsc zr9 zkT) zuA zuD (zjU zm6 ( zjU zlm (zvO))),zxO,⟨zpl,zpq,zpk⟩,zdy,zeD,zd2,zdx,zeC,zeB,zeA,zfh,zez,zdw,zd1,zgq,zhz,zey,zdv,zdu,zex,zfg,zew,zff,zfe,zd0,zcS,zdZ,zfd,zev,zdY,zfc,zfb,zfa,zf2,ze9,zdX,zeu,zet,zf1,ze8,zdW,zdV,ze7,zf0,ze6,zfZ,zfY,zes,zc9,zdt,zer,zdU,zds,zeq,zep,zeo,ze5,zen,zdr,zdT,zdS,ze4,zem,zdq,zdp,zel,ze3,zek,ze2,ze1,zdR,zcR,ze0,zgJ,zfX,zeZ,zgI,zgH,zgG,zhm,zgF,zeY,zfW,zfV,zhl,zgE,zeX,zeW,zgD,zhk,zgC,zhj,zhi,zfU,zdQ,?zgg,?zoX,?zs5,?zoW,?zmU,?zgQ,?zhr,?zjL,?zoV,?zwS,?zmT,?zi7,?zmS,?zs4,?zr0,?zkF⟩,rfl,_,_,_,_,_,_,rfl⟩
 case zoZ=>exact(zav (st:=ziN) zsw zsu zss).binds fun _ _ _ _ _ _ us hl=>match us,hl with | [_,_,_,_],_=>rfl
 case zfC=>exact(zav (st:=ziM) zsv zst zsr).binds fun _ _ _ _ _ _ us hl=>match us,hl with | [_,_,_],_=>rfl
 case b_0=>exact(zav (st:=zcD) e2_0 e3_0 e4_0).binds fun _ _ _ _ _ _ us hl=>match us,hl with | [_,_],_=>rfl
 case b_1=>exact(zav (st:=zdF) e2_1 e3_1 e4_1).binds fun _ _ _ _ _ _ us hl=>match us,hl with | [_,_],_=>rfl
 case b_2=>exact(zav (st:=zdE) e2_2 e3_2 e4_2).binds fun _ _ _ _ _ _ us hl=>match us,hl with | [_,_],_=>rfl
 case b_3=>exact(zav (st:=zcC) e2_3 e3_3 e4_3).binds fun _ _ _ _ _ _ us hl=>match us,hl with | [_,_],_=>rfl
 case b_4=>exact(zav (st:=zcZ) e2_4 e3_4 e4_4).binds fun _ _ _ _ _ _ us hl=>match us,hl with | [_,_],_=>rfl
 case b_5=>exact(zav (st:=zcn) e2_5 e3_5 e4_5).binds fun _ _ _ _ _ _ us hl=>match us,hl with | [_,_],_=>rfl
 case b_6=>exact(zav (st:=zfM) e2_6 e3_6 e4_6).binds fun _ _ _ _ _ _ us hl=>match us,hl with | [_,_,_],_=>rfl
 case b_7=>exact(zav (st:=zfL) e2_7 e3_7 e4_7).binds fun _ _ _ _ _ _ us hl=>match us,hl with | [_,_],_=>rfl
 case b_8=>exact(zav (st:=zfN) e2_8 e3_8 e4_8).binds fun _ _ _ _ _ _ us hl=>match us,hl with | [_],_=>rfl
 case b_9=>exact(zav (st:=zdC) e2_9 e3_9 e4_9).binds fun _ _ _ _ _ _ us hl=>match us,hl with | [_,_],_=>rfl
 case b_10=>exact(zav (st:=zb3) e2_10 e3_10 e4_10).binds fun _ _ _ _ _ _ us hl=>match us,hl with | [_,_,_],_=>rfl
 case b_11=>exact(zav (st:=zcl) e2_11 e3_11 e4_11).binds fun _ _ _ _ _ _ us hl=>match us,hl with | [_],_=>rfl
 case b_12=>exact(zav (st:=zg1) e2_12 e3_12 e4_12).binds fun _ _ _ _ _ _ us hl=>match us,hl with | [_],_=>rfl
 case b_13=>exact(zav (st:=zb1) e2_13 e3_13 e4_13).binds fun _ _ _ _ _ _ us hl=>match us,hl with | [_],_=>rfl
 case b_14=>exact(zav (st:=zfH) e2_14 e3_14 e4_14).binds fun _ _ _ _ _ _ us hl=>match us,hl with | [_],_=>rfl
 case b_15=>exact(zav (st:=zb2) e2_15 e3_15 e4_15).binds fun _ _ _ _ _ _ us hl=>match us,hl with | [_,_],_=>rfl
 case b_16=>exact(zav (st:=zfI) e2_16 e3_16 e4_16).binds fun _ _ _ _ _ _ us hl=>match us,hl with | [_],_=>rfl
 case b_17=>exact(zav (st:=zej) e2_17 e3_17 e4_17).binds fun _ _ _ _ _ _ us hl=>match us,hl with | [_],_=>rfl
 case b_18=>exact(zav (st:=zfG) e2_18 e3_18 e4_18).binds fun _ _ _ _ _ _ us hl=>match us,hl with | [_],_=>rfl
 case b_19=>exact(zav (st:=ziQ) e2_19 e3_19 e4_19).binds fun _ _ _ _ _ _ us hl=>match us,hl with | [_],_=>rfl
 case b_20=>exact(zav (st:=zcB) e2_20 e3_20 e4_20).binds fun _ _ _ _ _ _ us hl=>match us,hl with | [_,_],_=>rfl
 case b_21=>exact(zav (st:=zfJ) e2_21 e3_21 e4_21).binds fun _ _ _ _ _ _ us hl=>match us,hl with | [_,_],_=>rfl
 case b_22=>exact(zav (st:=zcY) e2_22 e3_22 e4_22).binds fun _ _ _ _ _ _ us hl=>match us,hl with | [_],_=>rfl
 case b_23=>exact(zav (st:=zck) e2_23 e3_23 e4_23).binds fun _ _ _ _ _ _ us hl=>match us,hl with | [_,_],_=>rfl
 case b_24=>exact(zav (st:=zb0) e2_24 e3_24 e4_24).binds fun _ _ _ _ _ _ us hl=>match us,hl with | [_,_],_=>rfl
 case b_25=>exact(zav (st:=zkj) e2_25 e3_25 e4_25).binds fun _ _ _ _ _ _ us hl=>match us,hl with | [_,_],_=>rfl
 case b_26=>exact(zav (st:=znp) e2_26 e3_26 e4_26).binds fun _ _ _ _ _ _ us hl=>match us,hl with | [_,_],_=>rfl
 case b_27=>exact(zav (st:=ziP) e2_27 e3_27 e4_27).binds fun _ _ _ _ _ _ us hl=>match us,hl with | [_],_=>rfl
 case b_28=>exact(zav (st:=zfE) e2_28 e3_28 e4_28).binds fun _ _ _ _ _ _ us hl=>match us,hl with | [_,_],_=>rfl
 case b_29=>exact(zav (st:=zcj) e2_29 e3_29 e4_29).binds fun _ _ _ _ _ _ us hl=>match us,hl with | [_],_=>rfl
 case b_30=>exact(zav (st:=zg2) e2_30 e3_30 e4_30).binds fun _ _ _ _ _ _ us hl=>match us,hl with | [_,_],_=>rfl
 case b_31=>exact(zav (st:=zei) e2_31 e3_31 e4_31).binds fun _ _ _ _ _ _ us hl=>match us,hl with | [_,_,_],_=>rfl
 case b_32=>exact(zav (st:=zci) e2_32 e3_32 e4_32).binds fun _ _ _ _ _ _ us hl=>match us,hl with | [_],_=>rfl
 case b_33=>exact(zav (st:=zfK) e2_33 e3_33 e4_33).binds fun _ _ _ _ _ _ us hl=>match us,hl with | [_,_],_=>rfl
 case b_34=>exact(zav (st:=zcz) e2_34 e3_34 e4_34).binds fun _ _ _ _ _ _ us hl=>match us,hl with | [_],_=>rfl
 case b_35=>exact(zav (st:=zfF) e2_35 e3_35 e4_35).binds fun _ _ _ _ _ _ us hl=>match us,hl with | [_,_],_=>rfl
 case b_36=>exact(zav (st:=zcA) e2_36 e3_36 e4_36).binds fun _ _ _ _ _ _ us hl=>match us,hl with | [_,_],_=>rfl
 case b_37=>exact(zav (st:=zdD) e2_37 e3_37 e4_37).binds fun _ _ _ _ _ _ us hl=>match us,hl with | [_],_=>rfl
 case b_38=>exact(zav (st:=zdG) e2_38 e3_38 e4_38).binds fun _ _ _ _ _ _ us hl=>match us,hl with | [_,_,_,_],_=>rfl
 case b_39=>exact(zav (st:=zdA) e2_39 e3_39 e4_39).binds fun _ _ _ _ _ _ us hl=>match us,hl with | [_],_=>rfl
 case b_40=>exact(zav (st:=zcm) e2_40 e3_40 e4_40).binds fun _ _ _ _ _ _ us hl=>match us,hl with | [_],_=>rfl
 case b_41=>exact(zav (st:=zdB) e2_41 e3_41 e4_41).binds fun _ _ _ _ _ _ us hl=>match us,hl with | [_,_,_],_=>rfl
 case b_42=>exact(zav (st:=zlt) e2_42 e3_42 e4_42).binds fun _ _ _ _ _ _ us hl=>match us,hl with | [_],_=>rfl
 case zgg=>exact zeL (W.mg_of X G zlV)
 case zoX=>exact zeL (W.mg_of X G zzM)
 case zs5=>exact zeL (W.mg_of X G zBs)
 case zoW=>exact zeL (W.mg_of X G zxa)
 case zmU=>exact zAL (W.mg_of X G zur)
 case zgQ=>exact zeL (W.mg_of X G zm3)
 case zhr=>exact zeL (W.mg_of X G znU)
 case zjL=>exact zeL (W.mg_of X G zqH)
 case zoV =>
  obtain⟨od,its,n,sl,vs,rfl,h1,h2,h3⟩:=zxh
  exact zvY (W.mg_of X G zw9) zxf h1 h2 h3
 case zwS=>exact zeL (W.mg_of X G zDk)
 case zmT=>exact zeL (W.mg_of X G zzL)
 case zi7=>exact zeL (W.mg_of X G zw8)
 case zmS=>exact zeL (W.mg_of X G zBr)
 case zs4=>exact zeL (W.mg_of X G zBq)
 case zr0 =>
  obtain⟨od,its,n,sl,vs,rfl,h1,h2,h3⟩:=zzX
  exact zvY (W.mg_of X G zzK) zzU h1 h2 h3
 case zkF=>exact zeL (W.mg_of X G zzJ)
theorem txt_wr {K:W.Frag}{mg:Str->Option Value}{a:Addr}{R:Adr->Prop}(h:∃ t:Adr,Txt K mg t/\t.zr3=a/\R t):∃ t:Adr,Txt K mg t/\mg "law"=some (.ref t.zr3)/\R t:=h.elim fun t ⟨T,_,r⟩=>⟨t,T,T.zD7,r⟩
theorem zBT (K:W.Frag)(H:Hp)(a:Addr)(ns:List Int)(hl:ns.length<=63)(hS:SqL K H a (ns.map V.int)):spD K 1 zvS [.ref a] H (fun v _=>v=.bl true) fun _ _ _=>False:=by
 refine⟨rfl,H,[.lst (ns.map D.int)],za2.refl _,Reps.cons (Rep.lst_iff.mpr ⟨a,_,rfl,hS,Reps.ints ns⟩) Reps.nil,?_⟩
 rw[zye ns hl]
 exact fun v H' H₀' _ r=>Rep.bl_iff.mp r
end K08
namespace PySem.W.Fast
def tw10212036590575314574:=0
def tw10364274453645261339:=0
def tw10773781241089493320:=0
def tw10858208258050003704:=0
def tw108911502001904124:=0
def tw11017993047694139215:=0
def tw11073648263224761415:=0
def tw11319445350986641220:=0
def tw11374606014570781340:=0
def tw12053835747073583076:=0
def tw1268295288801703677:=0
def tw12767077689484085950:=0
def tw12813673046171192171:=0
def tw13439247148595290502:=0
def tw13697295041387169392:=0
def tw14028294141960645349:=0
def tw14081052317205560442:=0
def tw14295217966402340104:=0
def tw14719560895241739057:=0
def tw14813755791664114596:=0
def tw15286688906348785752:=0
def tw15390319370260618377:=0
def tw15461440442571220229:=0
def tw15557597311620549650:=0
def tw15801874015897557779:=0
def tw1595780614191625952:=0
def tw16290245566988379538:=0
def tw16376073430822150033:=0
def tw16402055708945323157:=0
def tw16413104016215793999:=0
def tw16559096683769520642:=0
def tw16820338124467625483:=0
def tw16883024034043106760:=0
def tw17116280680094280953:=0
def tw17267795056665734206:=0
def tw18080672912668361804:=0
def tw18227408606261988073:=0
def tw18349111000177049316:=0
def tw2164268181518603311:=0
def tw2268687655187089365:=0
def tw2306032867448547288:=0
def tw2373619957019598370:=0
def tw2438345339522701749:=0
def tw2881721560112927343:=0
def tw3039454203137763990:=0
def tw3216254970434624576:=0
def tw3371068676917039946:=0
def tw3388413717949684814:=0
def tw3652414350215811481:=0
def tw387600631838801932:=0
def tw416759744076790713:=0
def tw4197339669487630835:=0
def tw4774749872210057896:=0
def tw4963972677242185146:=0
def tw4998363692122068678:=0
def tw5011237106332283128:=0
def tw5087945842383823636:=0
def tw5183483318592929377:=0
def tw5532548318682011708:=0
def tw5572653456086010351:=0
def tw5594598042573346769:=0
def tw5802128663548901284:=0
def tw5921937152242936219:=0
def tw6065806782252901914:=0
def tw6140448266672395341:=0
def tw6144729292876682446:=0
def tw6248138913335386826:=0
def tw6395662966153294686:=0
def tw6777432479556966165:=0
def tw6928198053433849726:=0
def tw7050485330188859496:=0
def tw708116325564148447:=0
def tw7107253854491512355:=0
def tw738717262197912399:=0
def tw7677838217866485231:=0
def tw8161753275358479485:=0
def tw816502437340350306:=0
def tw8538982980416903792:=0
def tw8616323807439138579:=0
def tw8693369623345436768:=0
def tw8869318788235020835:=0
def tw9229810176196688285:=0
def tw9499077252315157691:=0
def tw9531073202481896087:=0
def tw9704141453993457806:=0
def tw9753387250137825295:=0
end PySem.W.Fast
open PySem PySem.W PyProof.Rows
set_option maxRecDepth 100000 in
set_option maxHeartbeats 0 in
theorem PySem.Challenge.cw_farthestcut_k08_worths_within_holds : PySem.Challenge.rw_farthestcut_k08_worths_within.Holds := by
 w_on;o_law;k_head;(case hw=>w_witness2)
 k_fill
 refine L2.walk_ofK (l:=PySem.Challenge.rw_farthestcut_k08_worths_within) (n:=63) (k:=12) (x:="_law_script") (CX:=L2.CX0) (sp:=fun K=>DL.spD K 1 K08.zvS) rfl (by decide) rfl ⟨rfl,by decide,by decide⟩ (fun w h Y=>W.kIn_of Y) ?F ?S ?C
 case S=>exact fun K H a ns hl _ hS=>K08.zBT K H a ns hl hS
 case C=>exact fun _ _ _ _ h=>h
 case F =>
  intro w mg fa h KX G hmg
  have T:∃ t:K08.Adr,K08.Txt (L2.KOf KX) mg t/\mg "law"=some (.ref t.zr3)/\∃ kV doc pm an cdv ct,t.zui=W.fnOf "law" "law" (L2.defArgs K08.zlt) (L2.defBody K08.zlt) (L2.defScope K08.zlt) .none kV doc pm an cdv ct:=by
   dsimp only[L2.KOf]
   refine' K08.txt_wr (K08.txt_mk KX G ?_ ?_ ?_ ?_ ?_ ?_ ?_ ?_ ?_ ?_ ?_ ?_ ?_ ?_ ?_ ?_ ?_ ?_ ?_ ?_ ?_ ?_ ?_ ?_ ?_ ?_ ?_ ?_ ?_ ?_ ?_ ?_ ?_ ?_ ?_ ?_ ?_ ?_ ?_ ?_ ?_ ?_ ?_ ?_ ?_ ?_ ?_ ?_ ?_ ?_ ?_ ?_ ?_ ?_ ?_ ?_ ?_ ?_ ?_ ?_ ?_ ?_ ?_ ?_ ?_ ?_ ?_ ?_ ?_ ?_ ?_ ?_ ?_ ?_ ?_ ?_ ?_ ?_ ?_ ?_ ?_ ?_ ?_ ?_ ?_ ?_ ?_ ?_ ?_ ?_ ?_ ?_ ?_ ?_ ?_ ?_ ?_ ?_ ?_ ?_ ?_ ?_ ?_ ?_ ?_ ?_ ?_ ?_ ?_ ?_ ?_ ?_ ?_ ?_ ?_ ?_ ?_ ?_ ?_ ?_ ?_ ?_ ?_ ?_ ?_ ?_ ?_ ?_ ?_ ?_ ?_ ?_ ?_ ?_ ?_ ?_ ?_ ?_ ?_ ?_ ?_ ?_ ?_ ?_ ?_ ?_ ?_ ?_ ?_ ?_ ?_ ?_ ?_ ?_ ?_ ?_ ?_ ?_ ?_ ?_ ?_ ?_ ?_ ?_ ?_ ?_ ?_ ?_ ?_ ?_ ?_ ?_ ?_ ?_ ?_ ?_ ?_ ?_ ?_ ?_ ?_ ?_ ?_ ?_ ?_ ?_ ?_ ?_ ?_ ?_ ?_ ?_ ?_ ?_ ?_ ?_ ?_ ?_ ?_ ?_ ?_ ?_ ?_ ?_ ?_ ?_ ?_ ?_ ?_ ?_ ?_ ?_ ?_ ?_ ?_ ?_ ?_ ?_ ?_ ?_ ?_ ?_ ?_ ?_ ?_ ?_ ?_ ?_ ?_ ?_ ?_ ?_ ?_ ?_ ?_ ?_ ?_ ?_ ?_ ?_ ?_ ?_ ?_ ?_ ?_ ?_ ?_ ?_ ?_ ?_ ?_ ?_ ?_ ?_ ?_ ?_ ?_ ?_ ?_ ?_ ?_ ?_ ?_ ?_ ?_ ?_ ?_ ?_ ?_ ?_ ?_ ?_ ?_ ?_ ?_ ?_ ?_ ?_ ?_ ?_ ?_ ?_ ?_ ?_ ?_ ?_ ?_ ?_ ?_ ?_ ?_ ?_ ?_ ?_ ?_ ?_ ?_ ?_ ?_ ?_ ?_ ?_ ?_ ?_ ?_ ?_ ?_ ?_ ?_ ?_ ?_ ?_ ?_ ?_ ?_ ?_ ?_ ?_ ?_ ?_ ?_ ?_ ?_ ?_ ?_ ?_ ?_ ?_ ?_ ?_ ?_ ?_ ?_ ?_ ?_ ?_ ?_ ?_ ?_ ?_ ?_ ?_ ?_ ?_ ?_ ?_ ?_ ?_ ?_ ?_ ?_ ?_ ?_ ?_ ?_ ?_ ?_ ?_ ?_ ?_ ?_ ?_ ?_ ?_ ?_ ?_ ?_ ?_ ?_ ?_ ?_ ?_ ?_ ?_ ?_ ?_ ?_ ?_ ?_ ?_ ?_ ?_ ?_ ?_ ?_ ?_ ?_ ?_ ?_ ?_ ?_ ?_ ?_ ?_ ?_ ?_ ?_ ?_ ?_ ?_ ?_ ?_ ?_ ?_ ?_ ?_ ?_ ?_ ?_ ?_ ?_ ?_ ?_ ?_ ?_ ?_ ?_ ?_ ?_ ?_ ?_ ?_ ?_ ?_ ?_ ?_ ?_ ?_ ?_ ?_ ?_ ?_ ?_ ?_ ?_ ?_ ?_ ?_ ?_ ?_ ?_ ?_ ?_ ?_ ?_ ?_ ?_ ?_ ?_ ?_ ?_ ?_ ?_ ?_ ?_ ?_ ?_ ?_ ?_ ?_ ?_ ?_ ?_ ?_ ?_ ?_ ?_ ?_ ?_ ?_ ?_ ?_ ?_ ?_ ?_ ?_ ?_ ?_ ?_ ?_ ?_ ?_ ?_)
   all_goals try first | k_is | k_exc | rfl
   exact⟨_,_,_,_,[.int 0,.int 1],rfl,.cons ⟨_,rfl⟩ (.cons ⟨_,rfl⟩ (.nil)),by decide,fun H=>DL.Reps.cons (DL.ri _) (DL.Reps.cons (DL.ri _) (DL.Reps.nil))⟩
   exact⟨_,_,_,_,[.str "one",.str "both"],rfl,.cons ⟨_,rfl⟩ (.cons ⟨_,rfl⟩ (.nil)),by decide,fun H=>DL.Reps.cons (DL.Rep.str_iff.mpr rfl) (DL.Reps.cons (DL.Rep.str_iff.mpr rfl) (DL.Reps.nil))⟩
  obtain⟨t,T,e0,kV,doc,pm,an,cdv,ct,ed⟩:=T
  have e1:=hmg.symm.trans e0
  cases e1
  refine⟨t.zui,fun s u=>?_,fun base kb nb=>K08.zCw T⟩
  rw[ed]
  exact .of_eq rfl
