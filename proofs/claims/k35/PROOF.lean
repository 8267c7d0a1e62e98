import PyProof.Rows.All
import Wide.All
import OpenK.AllK
import Wide.FinOn
import PyProof.EqAt
import PyProof.EqKinds
import PyProof.NeKinds
import PyProof.TupleCall
import PySem.Challenge.RW_farthestcut_k35_rooms_of_sides
set_option Elab.async false
set_option linter.all false
set_option maxRecDepth 100000
set_option maxHeartbeats 4000000
namespace L2
open PySem PySem.Spec PyProof.Rows
abbrev Key:=Sum Int Str
def zxW:Key->Value->Bool
 | .inl k,v=>Value.isInt k v
 | .inr x,v=>Value.isStrOf x v
def zAu (w:World):Key->Int
 | .inl k=>hashInt k
 | .inr x=>hashStr w x
theorem zbQ:∀ {k:Key}{v:Value},zxW k v=true->(∃ i t,k=Sum.inl i/\v=Value.int i t)∨(∃ x t,k=Sum.inr x/\v=Value.str x t)
 | .inl i,v,h=>by
  obtain⟨t,e⟩:=Value.isInt_shape (k:=i) (v:=v) h
  exact .inl ⟨i,t,rfl,e⟩
 | .inr x,v,h=>by
  obtain⟨t,e⟩:=Value.isStrOf_shape (x:=x) (v:=v) h
  exact .inr ⟨x,t,rfl,e⟩
theorem zxV (a b:Int):decide ((Sum.inl a:Key)=Sum.inl b)=(a==b):=by
 by_cases e:a=b
 ·subst e;simp
 ·have h:¬ (Sum.inl a:Key)=Sum.inl b:=fun q=>e (Sum.inl.inj q)
  rw[decide_eq_false h]
  exact(beq_eq_false_iff_ne.mpr e).symm
theorem zxS (a b:Str):decide ((Sum.inr a:Key)=Sum.inr b)=decide (a=b):=by
 by_cases e:a=b
 ·subst e;simp
 ·have h:¬ (Sum.inr a:Key)=Sum.inr b:=fun q=>e (Sum.inr.inj q)
  rw[decide_eq_false h,decide_eq_false e]
theorem zxU (a:Int)(b:Str):decide ((Sum.inl a:Key)=Sum.inr b)=false:=decide_eq_false (fun q=>nomatch q)
theorem zxT (a:Str)(b:Int):decide ((Sum.inr a:Key)=Sum.inl b)=false:=decide_eq_false (fun q=>nomatch q)
def zn7 (prog:Program)(w:World):PySem.KeyKind prog w Key where
 is:=zxW
 hash:=zAu w
 inj:=fun v a b ha hb=>by
  rcases zbQ ha with⟨i,t,rfl,rfl⟩ | ⟨x,t,rfl,rfl⟩
  ·rcases zbQ hb with⟨j,u,rfl,e⟩ | ⟨y,u,rfl,e⟩
   ·injection e with e1 _;rw[e1]
   ·exact nomatch e
  ·rcases zbQ hb with⟨j,u,rfl,e⟩ | ⟨y,u,rfl,e⟩
   ·exact nomatch e
   ·injection e with e1 _;rw[e1]
 byValue:=fun k v h=>by
  rcases zbQ h with⟨i,t,rfl,rfl⟩ | ⟨x,t,rfl,rfl⟩<;>rfl
 pyHash:=fun hv h=>by
  rcases zbQ hv with⟨i,t,rfl,rfl⟩ | ⟨x,t,rfl,rfl⟩
  ·exact wpAny_pyHash_int h
  ·exact wpAny_pyHash_str h
 eqBool:=fun hu hv h=>by
  rcases zbQ hu with⟨i,t,rfl,rfl⟩ | ⟨x,t,rfl,rfl⟩
  ·rcases zbQ hv with⟨j,u,rfl,rfl⟩ | ⟨y,u,rfl,rfl⟩
   ·rw[zxV] at h;exact wpAny_eqBool_int h
   ·rw[zxU] at h;exact SeqAt.EqAt.int_str i t y u _ _ _ _ h
  ·rcases zbQ hv with⟨j,u,rfl,rfl⟩ | ⟨y,u,rfl,rfl⟩
   ·rw[zxT] at h;exact SeqAt.EqAt.str_int x t j u _ _ _ _ h
   ·rw[zxS] at h;exact wpAny_eqBool_str h
 «strs»:=fun k x t v h=>by
  rcases zbQ h with⟨i,u,rfl,e⟩ | ⟨y,u,rfl,e⟩
  ·exact nomatch e
  ·injection e with e1 _
   subst e1
   cases v<;>rfl
inductive V where
 | non | bl (b:Bool) | int (i:Int) | str (x:Str) | byt (b:Array UInt8) | flt (b:UInt64) | ref (a:Addr) | ty (n:String)
 deriving DecidableEq
def zct:V->Value->Prop
 | .non,u=>u=Value.none
 | .bl b,u=>u=Value.bool b
 | .int i,u=>∃ t,u=Value.int i t
 | .str x,u=>∃ t,u=Value.str x t
 | .byt b,u=>∃ t,u=Value.bytes b t
 | .flt b,u=>∃ t,u=Value.float b t
 | .ref a,u=>u=Value.ref a
 | .ty n,u=>u=Value.type n
abbrev zbT:List V->List Value->Prop:=Paired zct
theorem zbT.length {xs:List V}{us:List Value}(r:zbT xs us):xs.length=us.length:=Paired.length r
theorem zbT.get:∀ {xs:List V}{us:List Value}{i:Nat}{x:V},zbT xs us->xs[i]?=some x->∃ u,us[i]?=some u/\zct x u
 | _,_,_,_,.nil,e=>by simp at e
 | _,_,0,_,.cons r _,e=>by simp at e;subst e;exact⟨_,rfl,r⟩
 | _,_,i+1,x,.cons _ t,e=>by
  obtain⟨u,h1,h2⟩:=zbT.get (i:=i) (x:=x) t (by simpa using e)
  exact⟨u,by simpa using h1,h2⟩
theorem zbT.append:∀ {xs ys:List V}{us ws:List Value},zbT xs us->zbT ys ws->zbT (xs++ys) (us++ws)
 | _,_,_,_,.nil,s=>s
 | _,_,_,_,.cons r t,s=>.cons r (zbT.append t s)
theorem zbT.take:∀ {xs:List V}{us:List Value}(n:Nat),zbT xs us->zbT (xs.take n) (us.take n)
 | _,_,0,_=>.nil
 | _,_,_+1,.nil=>.nil
 | _,_,n+1,.cons r t=>.cons r (zbT.take n t)
theorem zbT.drop:∀ {xs:List V}{us:List Value}(n:Nat),zbT xs us->zbT (xs.drop n) (us.drop n)
 | _,_,0,r=>r
 | _,_,_+1,.nil=>.nil
 | _,_,n+1,.cons _ t=>zbT.drop n t
def zys:Option V->Option Value->Prop
 | some v,some u=>zct v u
 | none,none=>True
 | _,_=>False
def KV {κ:Type}:List (κ×V)->List (κ×Value)->Prop:=Paired fun(p:κ×V) (q:κ×Value)=>p.1=q.1/\zct p.2 q.2
def kV:Key->V
 | .inl i=>.int i
 | .inr x=>.str x
inductive HO where
 | lst (xs:List V)
 | tup (xs:List V)
 | dK (kvs:List (Key×V)) | dT (kvs:List (List Key×V))
 | set (S:Int->Bool) (n:Nat)
 | ins (C dx:Addr) (fs:List (Str×V))
 | own (x:Addr)
 | xd (fs:List (Str×V))
 | met (f x:Addr)
 | rng (lo hi:Int)
 | frz (o:Obj) (u:HO)
 | tbl (ps:Array Value)
 | ext (φ:Heap->Prop)
abbrev Hp:=Addr->Option HO
def upd (H:Hp)(a:Addr)(o:HO):Hp:=fun b=>if b=a then some o else H b
theorem zav {H:Hp}{a:Addr}{o:HO}:upd H a o a=some o:=by unfold upd;rw[if_pos rfl]
theorem zaw {H:Hp}{a b:Addr}{o:HO}(h:b≠a):upd H a o b=H b:=by unfold upd;rw[if_neg h]
theorem zaL {H:Hp}{a b:Addr}{o:HO}(h:H a=some o)(h':H b=none):a≠b:=by
 intro e;subst e;rw[h] at h';cases h'
section
variable (P:Program) (w:World)
def zb8 (H:Hp)(h:Heap)(a:Addr):HO->Prop
 | .lst xs=>xs.length<=sizeLine/\∃ (its:List Value) (n:Nat),zbT xs its/\h.get? a=some { cls:=.type "list",data:=.seq its.toArray n }
 | .tup xs=>xs.length<=sizeLine/\∃ its:List Value,zbT xs its/\IsTup h a its.toArray
 | .dK kvs=>kvs.length<=sizeLine/\(a==sysModules)=false/\∃ vs,KV kvs vs/\h.DictOf (zn7 P w) a vs
 | .dT kvs=>kvs.length<=sizeLine/\(a==sysModules)=false/\∃ xs:List (List Key×Addr×Value),
   Paired (fun(p:List Key×V) (q:List Key×Addr×Value)=>p.1=q.1/\H q.2.1=some (.tup (p.1.map kV))/\zct p.2 q.2.2) kvs xs /\
   ∃ o es ep,h.get? a=some o/\o.ExactDict/\o.data=.dict es ep/\es.toList=xs.map (entryOfKey (tupleKind (zn7 P w)))/\(xs.map (·.1)).Nodup
 | .set S n=>h.SetOf (intKind P w) a S n
 | .ins C dx fs=>H dx=some (.own a)/\fs.length<=1000/\dx≠a/\h.get? a=some (W.instObj C dx) /\
   ∃ mA,h.Ns1 dx mA/\(∀ f,zys (fs.lookup f) (mA f))/\PySem.Within mA (fs.map (·.1))
 | .own _=>∃ o,h.get? a=some o
 | .xd fs=>∃ mA,h.Ns1 a mA/\∀ f,zys (fs.lookup f) (mA f)
 | .rng lo hi=>∃ t u v,h.get? a=some { cls:=.type "range",data:=.fields #[.int lo t,.int hi u,.int 1 v] }
 | .frz o u=>h.get? a=some o/\zb8 H h a u
 | .tbl ps=>h.get? a=some { cls:=.none,data:=.fields ps }
 | .met f x=>h.get? a=some (W.methodObj (.ref f) (.ref x))
 | .ext φ=>φ h/\(∃ o,h.get? a=some o)/\∀ h1 h2:Heap,φ h1->(∀ o,h1.get? a=some o->h2.get? a=some o)->φ h2
def HOk (H:Hp)(h:Heap):Prop:=∀ a o,H a=some o->zb8 P w H h a o
end
section
variable {P:Program}{w:World}{H H':Hp}{h h':Heap}{a:Addr}{o:HO}
theorem zb8.lt (x:zb8 P w H h a o):a < h.objs.size:=by
 cases o with
 | lst xs=>obtain⟨_,_,_,_,e⟩:=x;exact Heap.lt_size e
 | tup xs=>obtain⟨_,_,_,p⟩:=x;exact p.lt
 | dK kvs=>obtain⟨_,_,_,_,o,_,_,e,_⟩:=x;exact Heap.lt_size e
 | dT kvs=>obtain⟨_,_,_,_,o,_,_,e,_⟩:=x;exact Heap.lt_size e
 | set S n=>obtain⟨o,_,_,_,e,_⟩:=x;exact Heap.lt_size e
 | ins C dx fs=>obtain⟨_,_,_,e,_⟩:=x;exact Heap.lt_size e
 | own y=>obtain⟨_,e⟩:=x;exact Heap.lt_size e
 | xd fs=>obtain⟨_,⟨_,_,_,e,_⟩,_⟩:=x;exact Heap.lt_size e
 | rng lo hi=>obtain⟨_,_,_,e⟩:=x;exact Heap.lt_size e
 | frz ob u=>obtain⟨e,_⟩:=x;exact Heap.lt_size e
 | tbl ps=>exact Heap.lt_size (show h.get? a=some _ from x)
 | met f y=>exact Heap.lt_size (show h.get? a=some _ from x)
 | ext φ=>obtain⟨_,⟨_,e⟩,_⟩:=x;exact Heap.lt_size e
theorem Paired.mapP {α β:Type}{F G:α->β->Prop}:∀ {l₁:List α}{l₂:List β},Paired F l₁ l₂->(∀ a b,F a b->G a b)->Paired G l₁ l₂
 | _,_,.nil,_=>.nil
 | _,_,.cons r t,f=>.cons (f _ _ r) (Paired.mapP t f)
theorem zb8.stay (x:zb8 P w H h a o)(k:∀ b u,(b=a∨H b=some (.own a))->h.get? b=some u->h'.get? b=some u)
  (ho:∀ b,H b=some (.own a)->H' b=some (.own a))(ht:∀ b xs,H b=some (.tup xs)->H' b=some (.tup xs)):zb8 P w H' h' a o:=by
 induction o with
 | lst xs=>obtain⟨z,its,n,r,e⟩:=x;exact⟨z,its,n,r,k _ _ (.inl rfl) e⟩
 | tup xs=>obtain⟨z,its,r,ob,e,c⟩:=x;exact⟨z,its,r,ob,k _ _ (.inl rfl) e,c⟩
 | dK kvs=>obtain⟨z,y,vs,r,ob,es,ep,e,c⟩:=x;exact⟨z,y,vs,r,ob,es,ep,k _ _ (.inl rfl) e,c⟩
 | dT kvs =>
  obtain⟨z,y,xs,r,ob,es,ep,e,c⟩:=x
  exact⟨z,y,xs,Paired.mapP r fun p q z=>⟨z.1,ht _ _ z.2.1,z.2.2⟩,ob,es,ep,k _ _ (.inl rfl) e,c⟩
 | set S n=>obtain⟨ob,es,ep,t,e,c⟩:=x;exact⟨ob,es,ep,t,k _ _ (.inl rfl) e,c⟩
 | ins C dx fs =>
  obtain⟨d,z,ne,e,mA,⟨od,es,ep,e2,c⟩,r⟩:=x
  exact⟨ho _ d,z,ne,k _ _ (.inl rfl) e,mA,⟨od,es,ep,k _ _ (.inr d) e2,c⟩,r⟩
 | own y=>obtain⟨ob,e⟩:=x;exact⟨ob,k _ _ (.inl rfl) e⟩
 | xd fs=>obtain⟨mA,⟨od,es,ep,e,c⟩,r⟩:=x;exact⟨mA,⟨od,es,ep,k _ _ (.inl rfl) e,c⟩,r⟩
 | rng lo hi=>obtain⟨t,u,v,e⟩:=x;exact⟨t,u,v,k _ _ (.inl rfl) e⟩
 | frz ob u ih=>obtain⟨e,q⟩:=x;exact⟨k _ _ (.inl rfl) e,ih q⟩
 | tbl ps =>
  have e:h.get? a=some { cls:=.none,data:=.fields ps }:=x
  show h'.get? a=some { cls:=.none,data:=.fields ps }
  exact k a _ (.inl rfl) e
 | met f y =>
  have e:h.get? a=some (W.methodObj (.ref f) (.ref y)):=x
  show h'.get? a=some (W.methodObj (.ref f) (.ref y))
  exact k a _ (.inl rfl) e
 | ext φ=>obtain⟨p,⟨o,e⟩,st⟩:=x;exact⟨st _ _ p fun o q=>k _ _ (.inl rfl) q,⟨o,k _ _ (.inl rfl) e⟩,st⟩
theorem HOk.lt (x:HOk P w H h)(e:H a=some o):a < h.objs.size:=(x a o e).lt
theorem HOk.fresh (x:HOk P w H h)(e:h.objs.size<=a):H a=none:=by
 cases q:H a with
 | none=>rfl
 | some u=>exact absurd (Nat.lt_of_lt_of_le (x.lt q) e) (Nat.lt_irrefl _)
theorem HOk.kept (x:HOk P w H h)(k:∀ b u,h.get? b=some u->h'.get? b=some u):HOk P w H h':=fun a o e =>
 (x a o e).stay (fun b u _ q=>k b u q) (fun _ q=>q) fun _ _ q=>q
theorem HOk.laid (x:HOk P w H h)(k:∀ b u,h.get? b=some u->h'.get? b=some u)(hp:h.objs.size<=a)(new:zb8 P w (upd H a o) h' a o):HOk P w (upd H a o) h':=fun b u e=>by
 have hn:=x.fresh hp
 by_cases hb:b=a
 ·subst hb;rw[zav] at e;cases e;exact new
 ·rw[zaw hb] at e
  exact(x b u e).stay (fun c v _ q=>k c v q) (fun c q=>by rw[zaw (zaL q hn)];exact q) fun c xs q=>by rw[zaw (zaL q hn)];exact q
end
def Rd (H:Hp)(a:Addr)(u:HO):Prop:=H a=some u∨∃ o,H a=some (.frz o u)
theorem Rd.ok {P:Program}{w:World}{H:Hp}{h:Heap}{a:Addr}{u:HO}(r:Rd H a u)(x:HOk P w H h):zb8 P w H h a u:=by
 rcases r with r | ⟨o,r⟩
 ·exact x a u r
 ·obtain⟨_,q⟩:=x a _ r
  exact q
def Mut:Option HO->Prop
 | some (.lst _)=>True
 | some (.dK _)=>True
 | some (.dT _)=>True
 | some (.set _ _)=>True
 | some (.ins _ _ _)=>True
 | some (.ext _)=>True
 | _=>False
section
variable {P:Program}{w:World}{H:Hp}{h h':Heap}{x e:Addr}{o':HO}
theorem HOk.write (ok:HOk P w H h)(mu:Mut (H x))(he:e=x∨H e=some (.own x))(k:∀ b u,b≠e->h.get? b=some u->h'.get? b=some u)(heo:∃ u,h'.get? e=some u)
  (new:zb8 P w (upd H x o') h' x o'):HOk P w (upd H x o') h':=fun b u q=>by
 have nown:∀ c y,H c=some (.own y)->c≠x:=fun c y r z=>by subst z;rw[r] at mu;exact mu
 have ntup:∀ c xs,H c=some (.tup xs)->c≠x:=fun c xs r z=>by subst z;rw[r] at mu;exact mu
 by_cases hb:b=x
 ·subst hb;rw[zav] at q;cases q;exact new
 ·rw[zaw hb] at q
  by_cases hbe:b=e
  ·have q':H b=some (.own x):=by
    rcases he with z | z
    ·exact absurd (hbe.trans z) hb
    ·rw[hbe];exact z
   rw[q] at q';cases q'
   obtain⟨v,hv⟩:=heo
   exact⟨v,by rw[hbe];exact hv⟩
  ·refine(ok b u q).stay (fun c v hc r=>k c v ?_ r) (fun c r=>by rw[zaw (nown c b r)];exact r) fun c xs r=>by rw[zaw (ntup c xs r)];exact r
   rcases hc with rfl | hc
   ·exact hbe
   ·rintro rfl
    rcases he with z | z
    ·exact nown c b hc z
    ·rw[hc] at z;cases z;exact hb rfl
end
structure Un (fs ex:List Addr) (H H':Hp) (h h':Heap):Prop where
 keep:∀ b o,h.get? b=some o->H b=none->b∉fs->b∉ex->h'.get? b=some o
 slot:∀ b o,h.get? b=some o->H b=none->b∈fs->b∉ex->∃ sl,h'.get? b=some { o with slots:=sl }
 free:∀ b o,h.get? b=some o->H b=none->b∉ex->H' b=none
 there:∀ b o,h.get? b=some o->b∉ex->∃ o',h'.get? b=some o'
 tups:∀ b xs,H b=some (.tup xs)->H' b=some (.tup xs)
 frzs:∀ b o u,H b=some (.frz o u)->H' b=some (.frz o u)
 tbls:∀ b ps,H b=some (.tbl ps)->∃ more,H' b=some (.tbl (ps++more))
section
variable {fs fs' ex ex':List Addr}{H H1 H2:Hp}{h h1 h2 h':Heap}{a x e:Addr}{o:HO}
theorem Un.any (u:Un fs ex H H1 h h1){b:Addr}{ob:Obj}(q:h.get? b=some ob)(n:H b=none)(hx:b∉ex):∃ sl,h1.get? b=some { ob with slots:=sl }:=by
 by_cases hb:b∈fs
 ·exact u.slot b ob q n hb hx
 ·exact⟨ob.slots,u.keep b ob q n hb hx⟩
theorem Un.trans (a:Un fs ex H H1 h h1)(b:Un fs ex H1 H2 h1 h2):Un fs ex H H2 h h2 where
 keep:=fun c ob q n hc hx=>b.keep c ob (a.keep c ob q n hc hx) (a.free c ob q n hx) hc hx
 slot:=fun c ob q n hc hx=>by
  obtain⟨sl,e1⟩:=a.slot c ob q n hc hx
  obtain⟨sl',e2⟩:=b.slot c _ e1 (a.free c ob q n hx) hc hx
  exact⟨sl',e2⟩
 free:=fun c ob q n hx=>by
  obtain⟨o',e1⟩:=a.there c ob q hx
  exact b.free c o' e1 (a.free c ob q n hx) hx
 there:=fun c ob q hx=>by
  obtain⟨o',e1⟩:=a.there c ob q hx
  exact b.there c o' e1 hx
 tups:=fun c xs q=>b.tups c xs (a.tups c xs q)
 frzs:=fun c ob xs q=>b.frzs c ob xs (a.frzs c ob xs q)
 tbls:=fun c ps q=>by
  obtain⟨m1,e1⟩:=a.tbls c ps q
  obtain⟨m2,e2⟩:=b.tbls c _ e1
  exact⟨m1++m2,by rw[e2,Array.append_assoc]⟩
theorem Un.kept (k:∀ b u,h.get? b=some u->h'.get? b=some u):Un fs ex H H h h' :=
 ⟨fun b ob q _ _ _=>k b ob q,fun b ob q _ _ _=>⟨ob.slots,k b ob q⟩,fun _ _ _ n _=>n,fun b ob q _=>⟨ob,k b ob q⟩,fun _ _ q=>q,fun _ _ _ q=>q,fun _ ps q=>⟨#[],by rw[q];simp⟩⟩
theorem Un.refl:Un fs ex H H h h:=Un.kept fun _ _ q=>q
theorem Un.laid (k:∀ b u,h.get? b=some u->h'.get? b=some u)(hp:h.objs.size<=a)(hn:H a=none):Un fs ex H (upd H a o) h h' where
 keep:=fun b u q _ _ _=>k b u q
 slot:=fun b u q _ _ _=>⟨u.slots,k b u q⟩
 free:=fun b u q n _=>by rw[zaw (Nat.ne_of_lt (Nat.lt_of_lt_of_le (Heap.lt_size q) hp))];exact n
 there:=fun b u q _=>⟨u,k b u q⟩
 tups:=fun b xs q=>by rw[zaw (zaL q hn)];exact q
 frzs:=fun b u xs q=>by rw[zaw (zaL q hn)];exact q
 tbls:=fun b ps q=>⟨#[],by rw[zaw (zaL q hn),q];simp⟩
theorem Un.write (mu:Mut (H x))(he:e=x∨H e=some (.own x))(k:∀ b u,b≠e->h.get? b=some u->h'.get? b=some u)(heo:∃ u,h'.get? e=some u):Un fs ex H (upd H x o) h h':=by
 have hx:∀ b,H b=none->b≠x:=fun b n z=>by subst z;rw[n] at mu;exact mu
 have hb:∀ b,H b=none->b≠e:=fun b n z=>by
  subst z
  rcases he with r | r
  ·exact hx b n r
  ·rw[n] at r;cases r
 have hm:∀ b u,H b=some u->¬ Mut (some u)->b≠x:=fun b u q nm z=>by subst z;rw[q] at mu;exact nm mu
 refine⟨fun b u q n _ _=>k b u (hb b n) q,fun b u q n _ _=>⟨u.slots,k b u (hb b n) q⟩,fun b u q n _=>by rw[zaw (hx b n)];exact n,fun b u q _=>?_,
  fun b xs q=>by rw[zaw (hm b _ q fun z=>z)];exact q,fun b u xs q=>by rw[zaw (hm b _ q fun z=>z)];exact q,fun b ps q=>⟨#[],by rw[zaw (hm b _ q fun z=>z),q];simp⟩⟩
 by_cases hbe:b=e
 ·subst hbe;exact heo
 ·exact⟨u,k b u hbe q⟩
end
def trk (h:Heap)(H:Hp):List Addr:=(List.range h.objs.size).filter fun a=>(H a).isSome
def ztT (h:Heap)(H:Hp):Heap:=W.hideAll h (trk h H)
theorem zrP (h:Heap)(H:Hp):(ztT h H).objs.size=h.objs.size:=W.hideAll_size _ _
theorem ztS {h:Heap}{H:Hp}{b:Addr}{o:Obj}(e:h.get? b=some o)(n:H b=none):(ztT h H).get? b=some o :=
 W.hideAll_get _ e fun hm=>by
  have q:(H b).isSome=true:=(List.mem_filter.mp hm).2
  rw[n] at q;simp at q
theorem zvK {h:Heap}{H:Hp}{b:Addr}{o:Obj}(e:(ztT h H).get? b=some o):h.get? b=some o/\H b=none:=by
 have e':h.get? b=some o:=W.of_hideAll (trk h H) e
 refine⟨e',?_⟩
 cases q:H b with
 | none=>rfl
 | some x =>
  have hm:b∈trk h H:=List.mem_filter.mpr ⟨List.mem_range.mpr (Heap.lt_size e'),by simp [q]⟩
  have z:(ztT h H).get? b=none:=W.hideAll_none (trk h H) hm
  rw[z] at e;cases e
structure Mod (K:W.Frag) (mg:Str->Option Value) (base:Heap):Prop where
 kin:K.In base
 glob:base.Ns mainGlobals mg
 blt:∃ mb,base.Ns builtinsNs mb/\∀ x:Str,x≠"__name__"->mb x=bootBuiltins x
 nolimit:base.NoLimit
structure Cx where
 prog:Program
 w:World
 K:W.Frag
 mg:Str->Option Value
 base:Heap
 A:Around
 N:List Str
 s₀:Shared
 H₀:Hp
 env:Env
 outer:List Env
 stack:List Env
 ex:List Addr
 fn:Str->Bool
 calm:Bool
 pn:List (Addr×Obj)
 xe:Value->Shared->Prop
def frs (l:List Env):List Addr:=l.filterMap (·.frame)
abbrev Cx.fs (X:Cx):List Addr:=frs X.outer
def Vis (sc:Scope)(x:Str):Prop:=sc.names.lookup x=some .local ∨ sc.names.lookup x=some .cell∨sc.names.lookup x=some .free
def Loc (sc:Scope)(x:Str):Prop:=sc.names.lookup x=some .local ∨ sc.names.lookup x=some .cell
def zz2 (env:Env)(h:Heap)(m:Str->Option Value)(x:Str)(u:Value):Prop :=
 (env.kindOf x=some .local /\ m x=some u)∨((env.kindOf x=some .cell∨env.kindOf x=some .free)/\∃ c,env.cells.lookup x=some c/\h.IsCell c (some u))
structure Cx.Ok (X:Cx):Prop where
 mod:Mod X.K X.mg X.base
 kind:X.env.scope.kind=.function
 glob:X.env.globals=mainGlobals
 blt:X.env.builtins=builtinsNs
 above:X.s₀.heap.objs.size<=X.env.locals
 inj:∀ x y c,X.env.cells.lookup x=some c->X.env.cells.lookup y=some c->x=y
 has:∀ x,(X.env.kindOf x=some .cell∨X.env.kindOf x=some .free)->∃ c,X.env.cells.lookup x=some c
 cab:∀ x c,X.fn x=true->X.env.cells.lookup x=some c->X.s₀.heap.objs.size<=c
 hd:X.calm=true->X.A.handled=none
 frames:X.A.frames=some X.stack
 stk:X.stack=X.outer∨(X.stack=X.env::X.outer/\X.env.frame=some X.env.locals)
 exf:∀ b∈X.ex,b≠X.env.locals/\∀ x c,X.env.cells.lookup x=some c->c≠b
 bs:∀ b o,X.base.get? b=some o->X.s₀.heap.get? b=some o/\X.H₀ b=none
 bsz:X.base.objs.size<=X.s₀.heap.objs.size
 noex:∀ b o,X.base.get? b=some o->b∉X.ex
 exfs:∀ b∈X.ex,b∉X.fs
 funs:X.s₀.heap.FunFrames X.base X.outer
 frf:∀ b∈X.fs,X.H₀ b=none
structure Inv (X:Cx) (pins:List (Addr×Obj)) (σ:List (Option V)) (H:Hp) (s:Shared):Prop where
 ok:X.Ok
 os:s.os=X.s₀.os
 bare:AllBare s.gens
 base:Un X.fs X.ex X.H₀ H X.s₀.heap s.heap
 loc:∃ m,s.heap.Ns X.env.locals m/\∀ (i:Nat) (x:Str) (v:V),X.N[i]?=some x->σ[i]?=some (some v)->Vis X.env.scope x->∃ u,zct v u/\zz2 X.env s.heap m x u
 cell:∀ x c,X.env.cells.lookup x=some c->∃ v,s.heap.IsCell c v
 free:H X.env.locals=none
 freeC:∀ x c,X.env.cells.lookup x=some c->H c=none
 pin:∀ p∈X.pn++pins,s.heap.get? p.1=some p.2/\H p.1=none/\p.1≠X.env.locals/\p.1∉X.fs/\∀ v,p.2.data≠.cell v
 hok:HOk X.prog X.w H s.heap
 len:σ.length=X.N.length
section
variable {X:Cx}{pins:List (Addr×Obj)}{σ:List (Option V)}{H H':Hp}{s:Shared}{h':Heap}
theorem Cx.Ok.nofr (ok:X.Ok){b:Addr}{o:Obj}(e:X.base.get? b=some o):b∉X.fs:=fun hb=>by
 have:=(ok.funs.mem hb).1
 rw[e] at this;cases this
theorem Inv.bs (I:Inv X pins σ H s):∀ b o,X.base.get? b=some o->s.heap.get? b=some o/\H b=none:=fun b o e =>
 ⟨I.base.keep b o (I.ok.bs b o e).1 (I.ok.bs b o e).2 (I.ok.nofr e) (I.ok.noex b o e),I.base.free b o (I.ok.bs b o e).1 (I.ok.bs b o e).2 (I.ok.noex b o e)⟩
theorem Inv.bk (I:Inv X pins σ H s):∀ b o,X.base.get? b=some o->s.heap.get? b=some o:=fun b o e=>(I.bs b o e).1
theorem Inv.mod (I:Inv X pins σ H s):Mod X.K X.mg X.base:=I.ok.mod
theorem Inv.kIn (I:Inv X pins σ H s):X.K.In s.heap:=I.ok.mod.kin.keeps I.bk
theorem Inv.lt (I:Inv X pins σ H s):X.env.locals < s.heap.objs.size:=let ⟨_,hn,_⟩:=I.loc;hn.lt
theorem Inv.sz (I:Inv X pins σ H s):X.s₀.heap.objs.size<=s.heap.objs.size:=Nat.le_trans I.ok.above (Nat.le_of_lt I.lt)
theorem Inv.nofs (I:Inv X pins σ H s){a:Addr}(h:s.heap.objs.size<=a):a∉X.fs:=fun hb=>by
 obtain⟨_,o,ho,_⟩:=I.ok.funs.mem hb
 exact absurd (Nat.lt_of_lt_of_le (Heap.lt_size ho) (Nat.le_trans I.sz h)) (Nat.lt_irrefl _)
theorem Inv.cne (I:Inv X pins σ H s):∀ x c,X.env.cells.lookup x=some c->c≠X.env.locals:=fun x c e z=>by
 obtain⟨v,o,ho,hd⟩:=I.cell x c e
 obtain⟨m,⟨o',es,ep,ho',hd',_⟩,_⟩:=I.loc
 rw[z,ho'] at ho;cases ho;rw[hd'] at hd;cases hd
theorem Inv.funs (I:Inv X pins σ H s):s.heap.FunFrames X.base X.outer:=by
 have all:∀ (l:List Env),(∀ b∈frs l,b∈X.fs)->X.s₀.heap.FunFrames X.base l->s.heap.FunFrames X.base l:=by
  intro l
  induction l with
  | nil=>intro _ _;trivial
  | cons env r ih =>
   intro hs hl
   obtain⟨hk,⟨L,o,hf,hn,ho,hd⟩,hr⟩:=hl
   have hL:L∈X.fs:=hs L (by unfold frs;rw[List.filterMap_cons,hf];exact List.mem_cons_self)
   obtain⟨sl,e⟩:=I.base.slot L o ho (I.ok.frf L hL) hL fun z=>I.ok.exfs L z hL
   exact⟨hk,⟨L,_,hf,hn,e,hd⟩,ih (fun b hb=>hs b (by unfold frs;rw[List.filterMap_cons,hf];exact List.mem_cons_of_mem _ hb)) hr⟩
 exact all X.outer (fun _ hb=>hb) I.ok.funs
theorem Inv.stack (I:Inv X pins σ H s):s.heap.FunFrames X.base X.stack:=by
 rcases I.ok.stk with e | ⟨e,hf⟩
 ·rw[e];exact I.funs
 ·rw[e]
  obtain⟨m,hn,_⟩:=I.loc
  refine .cons (by rw[I.ok.kind];decide) hf hn ?_ I.funs
  exact Heap.get?_none_of_le (Nat.le_trans I.ok.bsz I.ok.above)
theorem Inv.stkSub (I:Inv X pins σ H s):∀ b∈frs X.stack,b∈X.env.locals::X.fs:=fun b hb=>by
 rcases I.ok.stk with e | ⟨e,hf⟩
 ·rw[e] at hb;exact List.mem_cons_of_mem _ hb
 ·rw[e] at hb
  unfold frs at hb
  rw[List.filterMap_cons,hf] at hb
  exact hb
theorem Inv.stkFree (I:Inv X pins σ H s):∀ b∈frs X.stack,H b=none:=fun b hb=>by
 rcases List.mem_cons.mp (I.stkSub b hb) with e | hb
 ·rw[e];exact I.free
 ·obtain⟨_,o,ho,_⟩:=I.ok.funs.mem hb
  exact I.base.free b o ho (I.ok.frf b hb) fun z=>I.ok.exfs b z hb
theorem Inv.step {g':Array GenState}{t':Nat}{d':Drawn}{ch:List Addr}(I:Inv X pins σ H s)
  (hch:∀ b∈ch,(b∈X.ex∨X.s₀.heap.objs.size<=b)/\b≠X.env.locals/\(∀ x c,X.env.cells.lookup x=some c->c≠b)/\∀ p∈X.pn++pins,p.1≠b)
  (keep:∀ b o,b≠X.env.locals->b∉X.fs->b∉ch->s.heap.get? b=some o->H b=none->h'.get? b=some o)
  (slot:∀ b o,b≠X.env.locals->b∈X.fs->b∉ch->s.heap.get? b=some o->H b=none->∃ sl,h'.get? b=some { o with slots:=sl })(free:∀ b o,b∉ch->s.heap.get? b=some o->H b=none->H' b=none)
  (there:∀ b o,b∉ch->s.heap.get? b=some o->∃ o',h'.get? b=some o')
  (tups:∀ b xs,H b=some (.tup xs)->H' b=some (.tup xs))(frzs:∀ b o u,H b=some (.frz o u)->H' b=some (.frz o u))(tbls:∀ b ps,H b=some (.tbl ps)->∃ more,H' b=some (.tbl (ps++more)))
  (ns:∀ m,s.heap.Ns X.env.locals m->h'.Ns X.env.locals m)(hok:HOk X.prog X.w H' h')(hg:AllBare g') :
  Inv X pins σ H' { s with heap:=h',gens:=g',drawn:=d',toks:=t' }:=by
 have neL:∀ b o,X.s₀.heap.get? b=some o->b≠X.env.locals:=fun b o e=>Nat.ne_of_lt (Nat.lt_of_lt_of_le (Heap.lt_size e) I.ok.above)
 have neC:∀ b o,X.s₀.heap.get? b=some o->b∉X.ex->b∉ch:=fun b o e hx hb=>by
  rcases(hch b hb).1 with z | z
  ·exact hx z
  ·exact absurd (Nat.lt_of_lt_of_le (Heap.lt_size e) z) (Nat.lt_irrefl _)
 have cellK:∀ x c,X.env.cells.lookup x=some c->∀ v,s.heap.IsCell c v->h'.IsCell c v:=fun x c e v ⟨o,ho,hd⟩=>by
  have nch:c∉ch:=fun z=>(hch c z).2.2.1 x c e rfl
  by_cases hc:c∈X.fs
  ·obtain⟨sl,q⟩:=slot c o (I.cne x c e) hc nch ho (I.freeC x c e)
   exact⟨_,q,hd⟩
  ·exact⟨o,keep c o (I.cne x c e) hc nch ho (I.freeC x c e),hd⟩
 refine⟨I.ok,I.os,hg,⟨fun b o e n hb hx=>?_,fun b o e n hb hx=>?_,fun b o e n hx=>?_,fun b o e hx=>?_,fun b xs e=>tups b xs (I.base.tups b xs e),fun b o xs e=>frzs b o xs (I.base.frzs b o xs e),fun b ps e=>?_⟩,?_,fun x c e=>?_,?_,fun x c e=>?_,fun p hp=>?_,hok,I.len⟩
 ·exact keep b o (neL b o e) hb (neC b o e hx) (I.base.keep b o e n hb hx) (I.base.free b o e n hx)
 ·obtain⟨sl,e1⟩:=I.base.slot b o e n hb hx
  obtain⟨sl',e2⟩:=slot b _ (neL b o e) hb (neC b o e hx) e1 (I.base.free b o e n hx)
  exact⟨sl',e2⟩
 ·obtain⟨o',e1⟩:=I.base.there b o e hx
  exact free b o' (neC b o e hx) e1 (I.base.free b o e n hx)
 ·obtain⟨o',e1⟩:=I.base.there b o e hx
  exact there b o' (neC b o e hx) e1
 ·obtain⟨m1,e1⟩:=I.base.tbls b ps e
  obtain⟨m2,e2⟩:=tbls b _ e1
  exact⟨m1++m2,by rw[e2,Array.append_assoc]⟩
 ·obtain⟨m,hn,hl⟩:=I.loc
  refine⟨m,ns m hn,fun i x v e1 e2 e3=>?_⟩
  obtain⟨u,r,l⟩:=hl i x v e1 e2 e3
  refine⟨u,r,?_⟩
  rcases l with l | ⟨k,c,e,z⟩
  ·exact .inl l
  ·exact .inr ⟨k,c,e,cellK x c e _ z⟩
 ·obtain⟨v,z⟩:=I.cell x c e
  exact⟨v,cellK x c e v z⟩
 ·obtain⟨m,⟨o,_,_,ho,_⟩,_⟩:=I.loc
  exact free _ o (fun z=>(hch _ z).2.1 rfl) ho I.free
 ·obtain⟨v,o,ho,hd⟩:=I.cell x c e
  exact free c o (fun z=>(hch c z).2.2.1 x c e rfl) ho (I.freeC x c e)
 ·obtain⟨e,n,ne,nf,d⟩:=I.pin p hp
  have nch:p.1∉ch:=fun z=>(hch p.1 z).2.2.2 p hp rfl
  exact⟨keep p.1 p.2 ne nf nch e n,free p.1 p.2 nch e n,ne,nf,d⟩
theorem Inv.un {t':Nat}(I:Inv X pins σ H s)(u:Un X.fs [] H H' s.heap h')(hok:HOk X.prog X.w H' h'):Inv X pins σ H' { s with heap:=h',toks:=t' }:=by
 obtain⟨m,⟨o,es,ep,ho,r⟩,_⟩:=id I.loc
 obtain⟨sl,hL⟩:=u.any ho I.free (by simp)
 exact I.step (g':=s.gens) (d':=s.drawn) (ch:=[]) (fun _ z=>nomatch z) (fun b o _ hb _ e n=>u.keep b o e n hb (by simp)) (fun b o _ hb _ e n=>u.slot b o e n hb (by simp)) (fun b o _ e n=>u.free b o e n (by simp)) (fun b o _ e=>u.there b o e (by simp)) u.tups u.frzs u.tbls (fun m' hm=>by
  obtain⟨o',es',ep',ho',r'⟩:=hm
  rw[ho] at ho';cases ho'
  exact⟨_,es',ep',hL,r'⟩) hok I.bare
theorem Inv.call {g':Array GenState}{t':Nat}{d':Drawn}{ch:List Addr}(I:Inv X pins σ H s)(u:Un (frs X.stack) ch H H' s.heap h')(hok:HOk X.prog X.w H' h')(hg:AllBare g')
  (hch:∀ b∈ch,(b∈X.ex∨X.s₀.heap.objs.size<=b)/\b≠X.env.locals/\(∀ x c,X.env.cells.lookup x=some c->c≠b)/\∀ p∈X.pn++pins,p.1≠b) :
  Inv X pins σ H' { s with heap:=h',gens:=g',drawn:=d',toks:=t' }:=by
 obtain⟨m,⟨o,es,ep,ho,r⟩,_⟩:=id I.loc
 obtain⟨sl,hL⟩:=u.any ho I.free fun z=>(hch _ z).2.1 rfl
 exact I.step (ch:=ch) hch (fun b o hL hb hc e n=>u.keep b o e n (fun z=>(List.mem_cons.mp (I.stkSub b z)).elim hL hb) hc) (fun b o _ _ hc e n=>u.any e n hc) (fun b o hc e n=>u.free b o e n hc) (fun b o hc e=>u.there b o e hc) u.tups u.frzs u.tbls (fun m' hm=>by
  obtain⟨o',es',ep',ho',r'⟩:=hm
  rw[ho] at ho';cases ho'
  exact⟨_,es',ep',hL,r'⟩) hok hg
theorem Inv.turned {t':Nat}{it:Addr}(I:Inv X pins σ H s)(k:∀ b o,b≠it->s.heap.get? b=some o->h'.get? b=some o)(hn:H it=none)(hL:it≠X.env.locals)
  (h1:it∈X.ex∨X.s₀.heap.objs.size<=it)(h2:∀ x c,X.env.cells.lookup x=some c->c≠it)(h3:∀ p∈X.pn++pins,p.1≠it):Inv X pins σ H { s with heap:=h',toks:=t' }:=by
 have nit:∀ b u,H b=some u->b≠it:=fun b u e z=>by rw[z,hn] at e;cases e
 refine I.step (g':=s.gens) (d':=s.drawn) (ch:=[it]) (fun b hb=>?_) (fun b o _ _ hc e _=>k b o (fun z=>hc (by simp [z])) e) (fun b o _ _ hc e _=>⟨o.slots,k b o (fun z=>hc (by simp [z])) e⟩) (fun _ _ _ _ n=>n)
  (fun b o hc e=>⟨o,k b o (fun z=>hc (by simp [z])) e⟩) (fun _ _ e=>e) (fun _ _ _ e=>e) (fun b ps e=>⟨#[],by rw[e];simp⟩) (fun m hm=>?_) (fun b u e=>?_) I.bare
 ·have e:b=it:=by simpa using hb
  subst e
  exact⟨h1,hL,h2,h3⟩
 ·obtain⟨o,es,ep,ho,r⟩:=hm
  exact⟨o,es,ep,k _ o (Ne.symm hL) ho,r⟩
 ·refine(I.hok b u e).stay (fun c v hc q=>k c v ?_ q) (fun _ q=>q) fun _ _ q=>q
  rcases hc with z | z
  ·rw[z];exact nit b u e
  ·exact nit c _ z
theorem Inv.tok (I:Inv X pins σ H s)(t:Nat):Inv X pins σ H { s with toks:=t }:=I.un (h':=s.heap) (t':=t) Un.refl I.hok
theorem Inv.kept {t':Nat}(I:Inv X pins σ H s)(k:∀ b u,s.heap.get? b=some u->h'.get? b=some u):Inv X pins σ H { s with heap:=h',toks:=t' }:=I.un (Un.kept k) (I.hok.kept k)
theorem Inv.laid {a:Addr}{o:HO}{t':Nat}(I:Inv X pins σ H s)(k:∀ b u,s.heap.get? b=some u->h'.get? b=some u)(hp:s.heap.objs.size<=a)(new:zb8 X.prog X.w (upd H a o) h' a o) :
  Inv X pins σ (upd H a o) { s with heap:=h',toks:=t' }:=I.un (Un.laid k hp (I.hok.fresh hp)) (I.hok.laid k hp new)
theorem Inv.write {x e:Addr}{o:HO}{t':Nat}(I:Inv X pins σ H s)(mu:Mut (H x))(he:e=x∨H e=some (.own x))(k:∀ b u,b≠e->s.heap.get? b=some u->h'.get? b=some u)(heo:∃ u,h'.get? e=some u)
  (new:zb8 X.prog X.w (upd H x o) h' x o):Inv X pins σ (upd H x o) { s with heap:=h',toks:=t' }:=I.un (Un.write mu he k heo) (I.hok.write mu he k heo new)
theorem Inv.pins_of {pins':List (Addr×Obj)}(I:Inv X pins σ H s)(h:∀ p∈pins',s.heap.get? p.1=some p.2/\H p.1=none/\p.1≠X.env.locals/\p.1∉X.fs/\∀ v,p.2.data≠.cell v):Inv X pins' σ H s :=
 ⟨I.ok,I.os,I.bare,I.base,I.loc,I.cell,I.free,I.freeC,fun p hp=>(List.mem_append.mp hp).elim (fun z=>I.pin p (List.mem_append_left _ z)) (h p),I.hok,I.len⟩
theorem zlr {N:List Str}(hN:N.Nodup){i j:Nat}{x:Str}(a:N[i]?=some x)(b:N[j]?=some x):i=j:=by
 obtain⟨h1,e1⟩:=List.getElem?_eq_some_iff.mp a
 obtain⟨h2,e2⟩:=List.getElem?_eq_some_iff.mp b
 exact(List.getElem_inj hN).mp (e1.trans e2.symm)
theorem zmu {M:Model}{A:Around}{E:Value->Shared->Prop}{i:Nat}{x:Str}{v:V}{u:Value}{Q:Unit->Shared->Prop}(I:Inv X pins σ H s)(hN:X.N.Nodup)(hi:X.N[i]?=some x)(hx:Loc X.env.scope x)(r:zct v u)
  (h:∀ s',Inv X pins (σ.set i (some v)) H s'->(∃ a,Heap.SameBut a s.heap s'.heap/\(a=X.env.locals∨X.env.cells.lookup x=some a))->Q () s')(hf:X.fn x=true∨X.env.scope.names.lookup x=some .local := by first | exact .inl rfl | exact .inr rfl | assumption):wpAny M A (storeName X.env x u) Q E s:=by
 obtain⟨m,hn,hl⟩:=id I.loc
 have hcls:(X.env.scope.kind==.class||(X.env.scope.kind==.module&&X.env.locals != X.env.globals))=false:=by rw[I.ok.kind];rfl
 have hiσ:i < σ.length:=by rw[I.len];exact(List.getElem?_eq_some_iff.mp hi).1
 have cne:=I.cne
 have tracked:∀ {a:Addr}{h':Heap},(∃ o,s.heap.get? a=some o/\H a=none)->Heap.SameBut a s.heap h'->HOk X.prog X.w H h':=fun {a h'} ha hs b ob e=>by
  obtain⟨_,_,hfree⟩:=ha
  refine(I.hok b ob e).stay (fun c w' hc q=>(hs.2 c ?_).trans q) (fun _ q=>q) fun _ _ q=>q
  rintro rfl
  rcases hc with rfl | hc
  ·rw[hfree] at e;cases e
  ·rw[hfree] at hc;cases hc
 rcases hx with hk | hk
 ·refine wpAny_storeName_local hk hn (fun h' hn' hs=>?_) hcls
  obtain⟨oL,_,_,hoL,_⟩:=id hn
  refine h _ ⟨I.ok,I.os,I.bare,⟨fun b o e n hb hx=>?_,fun b o e n hb hx=>?_,I.base.free,fun b o e hx=>?_,I.base.tups,I.base.frzs,I.base.tbls⟩,⟨_,hn',fun j y v' e1 e2 e3=>?_⟩,fun y c e=>?_,I.free,I.freeC,fun p hp=>?_,tracked ⟨oL,hoL,I.free⟩ hs,by simpa using I.len⟩ ⟨_,hs,.inl rfl⟩
  ·exact(hs.2 b (Nat.ne_of_lt (Nat.lt_of_lt_of_le (Heap.lt_size e) I.ok.above))).trans (I.base.keep b o e n hb hx)
  ·obtain⟨sl,e1⟩:=I.base.slot b o e n hb hx
   exact⟨sl,(hs.2 b (Nat.ne_of_lt (Nat.lt_of_lt_of_le (Heap.lt_size e) I.ok.above))).trans e1⟩
  ·obtain⟨o',e1⟩:=I.base.there b o e hx
   exact⟨o',(hs.2 b (Nat.ne_of_lt (Nat.lt_of_lt_of_le (Heap.lt_size e) I.ok.above))).trans e1⟩
  ·by_cases hj:j=i
   ·subst hj
    rw[hi] at e1;cases e1
    rw[List.getElem?_set_self hiσ] at e2
    cases e2
    exact⟨u,r,.inl ⟨hk,by simp⟩⟩
   ·rw[List.getElem?_set_ne (Ne.symm hj)] at e2
    obtain⟨u',r',q⟩:=hl j y v' e1 e2 e3
    refine⟨u',r',?_⟩
    rcases q with⟨k,e⟩ | ⟨k,c,e,z⟩
    ·refine .inl ⟨k,?_⟩
     have:y≠x:=fun e=>hj (zlr hN e1 (e▸hi))
     simp [this,e]
    ·exact .inr ⟨k,c,e,z.sameBut hs (cne y c e)⟩
  ·obtain⟨w',z⟩:=I.cell y c e
   exact⟨w',z.sameBut hs (cne y c e)⟩
  ·obtain⟨e,n,ne,nf,d⟩:=I.pin p hp
   exact⟨(hs.2 p.1 ne).trans e,n,ne,nf,d⟩
 ·have hfn:X.fn x=true:=by
   rcases hf with z | z
   ·exact z
   ·rw[z] at hk;cases hk
  obtain⟨c,hc⟩:=I.ok.has x (.inl hk)
  obtain⟨w',z⟩:=I.cell x c hc
  refine wpAny_storeName_cell I.ok.kind hk hc z (fun h' hc' hs=>?_)
  obtain⟨oc,hoc,hocd⟩:=id z
  refine h { s with heap:=h' } ⟨I.ok,I.os,I.bare,⟨fun b o e n hb hx=>?_,fun b o e n hb hx=>?_,I.base.free,fun b o e hx=>?_,I.base.tups,I.base.frzs,I.base.tbls⟩,⟨m,hn.sameBut hs (Ne.symm (cne x c hc)),fun j y v' e1 e2 e3=>?_⟩,fun y c' e=>?_,I.free,I.freeC,fun p hp=>?_,tracked ⟨oc,hoc,I.freeC x c hc⟩ hs,by simpa using I.len⟩ ⟨c,hs,.inr hc⟩
  ·exact(hs.2 b (Nat.ne_of_lt (Nat.lt_of_lt_of_le (Heap.lt_size e) (I.ok.cab x c hfn hc)))).trans (I.base.keep b o e n hb hx)
  ·obtain⟨sl,e1⟩:=I.base.slot b o e n hb hx
   exact⟨sl,(hs.2 b (Nat.ne_of_lt (Nat.lt_of_lt_of_le (Heap.lt_size e) (I.ok.cab x c hfn hc)))).trans e1⟩
  ·obtain⟨o',e1⟩:=I.base.there b o e hx
   exact⟨o',(hs.2 b (Nat.ne_of_lt (Nat.lt_of_lt_of_le (Heap.lt_size e) (I.ok.cab x c hfn hc)))).trans e1⟩
  ·by_cases hj:j=i
   ·subst hj
    rw[hi] at e1;cases e1
    rw[List.getElem?_set_self hiσ] at e2
    cases e2
    exact⟨u,r,.inr ⟨.inl hk,c,hc,hc'⟩⟩
   ·rw[List.getElem?_set_ne (Ne.symm hj)] at e2
    obtain⟨u',r',q⟩:=hl j y v' e1 e2 e3
    refine⟨u',r',?_⟩
    rcases q with q | ⟨k,c',e,z'⟩
    ·exact .inl q
    ·refine .inr ⟨k,c',e,z'.sameBut hs ?_⟩
     rintro rfl
     exact hj (zlr hN e1 (I.ok.inj _ _ _ e hc▸hi))
  ·by_cases hcc:c'=c
   ·subst hcc;exact⟨_,hc'⟩
   ·obtain⟨w2,z2⟩:=I.cell y c' e
    exact⟨w2,z2.sameBut hs hcc⟩
  ·obtain⟨e,n,ne,nf,d⟩:=I.pin p hp
   refine⟨(hs.2 p.1 ?_).trans e,n,ne,nf,d⟩
   intro q
   rw[q,hoc] at e
   have q':oc=p.2:=Option.some.inj e
   exact d w' (by rw[← q'];exact hocd)
theorem zgz {M:Model}{A:Around}{E:Value->Shared->Prop}{i:Nat}{x:Str}{v:V}{u:Value}{Q:Unit->Shared->Prop}(I:Inv X pins σ H s)(hN:X.N.Nodup)(hi:X.N[i]?=some x)(hx:Loc X.env.scope x)(r:zct v u)
  (h:∀ s',Inv X pins (σ.set i (some v)) H s'->Q () s')(hf:X.fn x=true∨X.env.scope.names.lookup x=some .local := by first | exact .inl rfl | exact .inr rfl | assumption):wpAny M A (storeName X.env x u) Q E s :=
 zmu I hN hi hx r (fun s' I' _=>h s' I') hf
theorem Inv.call' {s':Shared}{ch:List Addr}(I:Inv X pins σ H s)(ho:s'.os=s.os)(u:Un (frs X.stack) ch H H' s.heap s'.heap)(hok:HOk X.prog X.w H' s'.heap)(hg:AllBare s'.gens)
  (hch:∀ b∈ch,(b∈X.ex∨X.s₀.heap.objs.size<=b)/\b≠X.env.locals/\(∀ x c,X.env.cells.lookup x=some c->c≠b)/\∀ p∈X.pn++pins,p.1≠b):Inv X pins σ H' s':=by
 obtain⟨h',g',d',t',o'⟩:=s'
 have e:o'=s.os:=ho
 subst e
 exact I.call (g':=g') (t':=t') (d':=d') u hok hg hch
end
abbrev XK:=Value->Option Addr->Hp->Prop
abbrev St:=List (Option V)
abbrev VK:=V->Hp->Prop
abbrev TE:=St->Hp->VK->Prop
abbrev TT:=St->Hp->(Bool->Hp->Prop)->Prop
abbrev TA:=St->Hp->(List V->Hp->Prop)->Prop
structure zk3 where
 nx:St->Hp->Prop
 rt:VK
 bk:St->Hp->Prop:=fun _ _=>False
 ct:St->Hp->Prop:=fun _ _=>False
abbrev TS:=zk3->St->Hp->Prop
def EP (X:Cx)(pins:List (Addr×Obj))(σ:St)(Q:VK)(u:Value)(s':Shared):Prop:=∃ v H',Inv X pins σ H' s'/\zct v u/\Q v H'
def TP (X:Cx)(pins:List (Addr×Obj))(σ:St)(Q:Bool->Hp->Prop)(b:Bool)(s':Shared):Prop:=∃ H',Inv X pins σ H' s'/\Q b H'
def AP (X:Cx)(pins:List (Addr×Obj))(σ:St)(Q:List V->Hp->Prop)(us:List Value)(s':Shared):Prop:=∃ vs H',Inv X pins σ H' s'/\zbT vs us/\Q vs H'
def SP (X:Cx)(pins:List (Addr×Obj))(D:zk3)(f:Flow)(s':Shared):Prop :=
 match f with
 | .next=>∃ σ' H',Inv X pins σ' H' s'/\D.nx σ' H'
 | .brk=>∃ σ' H',Inv X pins σ' H' s'/\D.bk σ' H'
 | .cont=>∃ σ' H',Inv X pins σ' H' s'/\D.ct σ' H'
 | .ret u=>∃ v σ' H',Inv X pins σ' H' s'/\zct v u/\D.rt v H'
def PE (X:Cx)(e:Expr)(t:TE):Prop :=
 ∀ (pins:List (Addr×Obj)) (s:Shared) (σ:St) (H:Hp) (Q:VK),Inv X pins σ H s->t σ H Q->wpAny (model X.prog X.w) X.A (eval e X.env) (EP X pins σ Q) X.xe s
def PT (X:Cx)(e:Expr)(t:TT):Prop :=
 ∀ (pins:List (Addr×Obj)) (s:Shared) (σ:St) (H:Hp) (Q:Bool->Hp->Prop),Inv X pins σ H s->t σ H Q->wpAny (model X.prog X.w) X.A (isTrue e X.env (eval e X.env)) (TP X pins σ Q) X.xe s
def PW (X:Cx)(e:Expr)(t:TT):Prop :=
 ∀ (whole:Sem Value) (pins:List (Addr×Obj)) (s:Shared) (σ:St) (H:Hp) (Q:Bool->Hp->Prop),Inv X pins σ H s->t σ H Q->wpAny (model X.prog X.w) X.A (isTrue e X.env whole) (TP X pins σ Q) X.xe s
theorem PW.pt {X:Cx}{e:Expr}{t:TT}(h:PW X e t):PT X e t:=h _
def PA (X:Cx)(es:List Expr)(t:TA):Prop :=
 ∀ (pos:Pos) (pins:List (Addr×Obj)) (s:Shared) (σ:St) (H:Hp) (Q:List V->Hp->Prop),Inv X pins σ H s->t σ H Q->wpAny (model X.prog X.w) X.A (spliced (backTo pos (starEach es X.env))) (AP X pins σ Q) X.xe s
def PS (X:Cx)(st:Stmt)(t:TS):Prop :=
 ∀ (pins:List (Addr×Obj)) (s:Shared) (σ:St) (H:Hp) (D:zk3),Inv X pins σ H s->t D σ H->wpAny (model X.prog X.w) X.A (exec st X.env) (SP X pins D) X.xe s
def PSs (X:Cx)(st:List Stmt)(t:TS):Prop :=
 ∀ (pins:List (Addr×Obj)) (s:Shared) (σ:St) (H:Hp) (D:zk3),Inv X pins σ H s->t D σ H->wpAny (model X.prog X.w) X.A (execs st X.env) (SP X pins D) X.xe s
theorem thn {α:Type}{t:Sem α}{Q Q':α->Shared->Prop}{M:Model}{A:Around}{E:Value->Shared->Prop}{s:Shared}(h:wpAny M A t Q E s)(hQ:∀ a s,Q a s->Q' a s):wpAny M A t Q' E s:=wpAny_mono h hQ fun _ _ x=>x
section
variable {X:Cx}
theorem bin {a b:Expr}{ta tb:TE}(ha:PE X a ta)(hb:PE X b tb){pins:List (Addr×Obj)}{s:Shared}{σ:St}{H:Hp}{R:V->V->Hp->Prop}(I:Inv X pins σ H s)(h:ta σ H fun x H1=>tb σ H1 fun y H2=>R x y H2)
  {α:Type}{Q:α->Shared->Prop}{f:Value->Value->Sem α}
  (hf:∀ v u s2 x y H2,Inv X pins σ H2 s2->zct x v->zct y u->R x y H2->wpAny (model X.prog X.w) X.A (f v u) Q X.xe s2) :
  wpAny (model X.prog X.w) X.A (eval a X.env) (fun v s₁=>wpAny (model X.prog X.w) X.A (eval b X.env) (fun u s₂=>wpAny (model X.prog X.w) X.A (f v u) Q X.xe s₂) X.xe s₁) X.xe s:=by
 refine thn (ha pins s σ H _ I h) fun v s1 ⟨x,H1,I1,r1,q1⟩=>?_
 refine thn (hb pins s1 σ H1 _ I1 q1) fun u s2 ⟨y,H2,I2,r2,q2⟩=>?_
 exact hf v u s2 x y H2 I2 r1 r2 q2
def zz7 (i:Nat):TE:=fun σ H Q=>∃ v,σ[i]?=some (some v)/\Q v H
def tC (v:V):TE:=fun _ H Q=>Q v H
theorem zjl {i:Nat}{x:Str}{pos:Pos}(hN:X.N[i]?=some x)(hv:Vis X.env.scope x)(hd:(x==("__debug__" : Str))=false:=by decide)(hcd:(x==("__classdict__" : Str))=false:=by decide):PE X (.Name x pos) (zz7 i):=by
 intro pins s σ H Q I h
 obtain⟨v,e,h⟩:=h
 obtain⟨m,hn,hl⟩:=I.loc
 obtain⟨u,r,l⟩:=hl i x v hN e hv
 have fin:EP X pins σ Q u s:=⟨v,H,I,r,h⟩
 rcases l with⟨hk,hm⟩ | ⟨hk,c,hc,hcell⟩
 ·exact wpAny_Name (wpAny_loadName_local I.ok.kind hk hn hm fin) hd
 ·rcases hk with hk | hk
  ·exact wpAny_Name (wpAny_loadName_cell I.ok.kind hk hc hcell fin) hd
  ·exact wpAny_Name (wpAny_loadName_free I.ok.kind hk hc hcell fin hcd) hd
theorem zuv {i j pos}:PE X (.Constant (.int i) j pos) (tC (.int i)):=fun _ _ _ H _ I h=>wpAny_Constant_int ⟨.int i,H,I.tok _,⟨_,rfl⟩,h⟩
theorem zzb {b j pos}:PE X (.Constant (.bool b) j pos) (tC (.bl b)):=fun _ _ _ H _ I h=>Constant_bool ⟨.bl b,H,I,rfl,h⟩
theorem zxy {j pos}:PE X (.Constant .none j pos) (tC .non):=fun _ _ _ H _ I h=>Constant_none ⟨.non,H,I,rfl,h⟩
theorem zxu {x j pos}:PE X (.Constant (.str x) j pos) (tC (.str x)):=fun _ _ _ H _ I h=>Calls.Constant_str ⟨.str x,H,I.tok _,⟨_,rfl⟩,h⟩
def Gl (X:Cx)(x:Str):Prop:=X.env.kindOf x=some .globalImplicit
theorem zg6 {E:Value->Shared->Prop}{pins:List (Addr×Obj)}{s:Shared}{σ:St}{H:Hp}{x:Str}{u:Value}{pos:Pos}{Q:Value->Shared->Prop}(I:Inv X pins σ H s)(hg:Gl X x)(hm:X.mg x=some u)(h:Q u s)
  (hd:(x==("__debug__" : Str))=false:=by decide):wpAny (model X.prog X.w) X.A (eval (.Name x pos) X.env) Q E s :=
 Calls.Name_function_global I.ok.kind hg (Calls.loadGlobal_global (by rw[I.ok.glob];exact I.mod.glob.keeps I.bk) hm h) hd
theorem zmU {E:Value->Shared->Prop}{pins:List (Addr×Obj)}{s:Shared}{σ:St}{H:Hp}{x:Str}{u:Value}{pos:Pos}{Q:Value->Shared->Prop}(I:Inv X pins σ H s)(hg:Gl X x)(hm:X.mg x=none)(hv:bootBuiltins x=some u)(h:Q u s)
  (hn:x≠"__name__":=by decide)(hd:(x==("__debug__" : Str))=false:=by decide):wpAny (model X.prog X.w) X.A (eval (.Name x pos) X.env) Q E s:=by
 obtain⟨mb,h1,h2⟩:=I.mod.blt
 exact Calls.Name_function_global I.ok.kind hg (Calls.loadGlobal_builtin (by rw[I.ok.glob];exact I.mod.glob.keeps I.bk) hm (by rw[I.ok.blt];exact h1.keeps I.bk) ((h2 x hn).trans hv) h) hd
theorem zrk {x:Str}{v:V}{u:Value}{pos:Pos}(hg:Gl X x)(hm:X.mg x=some u)(r:zct v u)(hd:(x==("__debug__" : Str))=false:=by decide):PE X (.Name x pos) (tC v) :=
 fun _ _ _ H _ I h=>zg6 I hg hm ⟨v,H,I,r,h⟩ hd
theorem zrm {x:Str}{v:V}{u:Value}{pos:Pos}(hg:Gl X x)(hm:X.mg x=none)(hv:bootBuiltins x=some u)(r:zct v u)(hn:x≠"__name__":=by decide)(hd:(x==("__debug__" : Str))=false:=by decide):PE X (.Name x pos) (tC v) :=
 fun _ _ _ H _ I h=>zmU I hg hm hv ⟨v,H,I,r,h⟩ hn hd
variable {a b:Expr}{ta tb:TE}{pos:Pos}
def PC (X:Cx)(op:CmpOp)(a b:Expr)(t:TE):Prop :=
 ∀ (pins:List (Addr×Obj)) (s:Shared) (σ:St) (H:Hp) (Q:VK),Inv X pins σ H s->t σ H Q ->
  wpAny (model X.prog X.w) X.A (eval a X.env) (fun v s₁=>wpAny (model X.prog X.w) X.A (eval b X.env) (fun u s₂=>wpAny (model X.prog X.w) X.A (compareOp op v u) (EP X pins σ Q) X.xe s₂) X.xe s₁) X.xe s
theorem zoS (b:Expr){op:CmpOp}(h:op≠.In)(h2:op≠.NotIn):behindInMarks op b=false:=by
 have e1:(op==CmpOp.In)=false:=by cases op<;>first | rfl | exact absurd rfl h
 have e2:(op==CmpOp.NotIn)=false:=by cases op<;>first | rfl | exact absurd rfl h2
 cases b<;>simp [behindInMarks,e1,e2]
def tB (t:TE):TT:=fun σ H Q=>t σ H fun x H1=>∃ c,x=.bl c/\Q c H1
theorem zzS {op:CmpOp}{t:TE}(h:PC X op a b t)(h1:behindInMarks op b=false:=by first | exact zoS _ (by decide) (by decide) | rfl):PT X (.Compare a [op] [b] pos) (tB t):=by
 intro pins s σ H Q I hw
 refine wpAny_isTrue_Compare1 (thn (h pins s σ H _ I hw) fun v s1 h1=>thn h1 fun u s2 h2=>thn h2 fun c s3 ⟨x,H1,I1,r1,q1⟩=>?_) h1
 obtain⟨d,rfl,q⟩:=q1
 cases r1
 exact wpAny_truthy_bool ⟨H1,I1,q⟩
theorem zxl {e:Expr}{t:TE}(h:PE X e t)(he:∀ whole,isTrue e X.env whole=(do let v ← whole;standAt e.pos;holding [v] (truthy v)):=by intro _;rfl):PT X e (tB t):=by
 intro pins s σ H Q I hw
 refine isTrue_plain (thn (h pins s σ H _ I hw) fun v s1 ⟨x,H1,I1,r1,q1⟩=>?_) (he _)
 obtain⟨d,rfl,q⟩:=q1
 cases r1
 exact wpAny_truthy_bool ⟨H1,I1,q⟩
variable {tA tB':TT}{rest:List Expr}
def zAk (t u:TT):TT:=fun σ H Q=>t σ H fun c H1=>if c=true then u σ H1 Q else Q false H1
def tOr (t u:TT):TT:=fun σ H Q=>t σ H fun c H1=>if c=true then Q true H1 else u σ H1 Q
def zAe (t:TT):TT:=fun σ H Q=>t σ H fun c H1=>Q (!c) H1
theorem zvo (ha:PT X a tA):PW X (.BoolOp .And [a] pos) tA:=by
 intro wh pins s σ H Q I h
 refine isTrue_and (thn (ha pins s σ H Q I h) fun c s1 e=>?_)
 cases c with
 | true=>exact isTrue_and_nil e
 | false=>exact e
theorem zxh (ha:PT X a tA):PW X (.BoolOp .Or [a] pos) tA:=by
 intro wh pins s σ H Q I h
 refine isTrue_or (thn (ha pins s σ H Q I h) fun c s1 e=>?_)
 cases c with
 | false=>exact isTrue_or_nil e
 | true=>exact e
theorem zxi (ha:PT X a tA)(hb:PW X (.BoolOp .And (b::rest) pos) tB'):PW X (.BoolOp .And (a::b::rest) pos) (zAk tA tB'):=by
 intro wh pins s σ H Q I h
 refine isTrue_and (thn (ha pins s σ H _ I h) fun c s1 ⟨H1,I1,q1⟩=>?_)
 cases c with
 | true=>exact hb wh pins s1 σ H1 Q I1 q1
 | false=>exact⟨H1,I1,q1⟩
theorem zy2 (ha:PT X a tA)(hb:PW X (.BoolOp .Or (b::rest) pos) tB'):PW X (.BoolOp .Or (a::b::rest) pos) (tOr tA tB'):=by
 intro wh pins s σ H Q I h
 refine isTrue_or (thn (ha pins s σ H _ I h) fun c s1 ⟨H1,I1,q1⟩=>?_)
 cases c with
 | true=>exact⟨H1,I1,q1⟩
 | false=>exact hb wh pins s1 σ H1 Q I1 q1
theorem zxm (ha:PT X a tA):PT X (.UnaryOp .Not a pos) (zAe tA):=by
 intro pins s σ H Q I h
 exact isTrue_not (ha pins s σ H (fun c H1=>Q (!c) H1) I h)
def zyS (ta tb:TE):TE:=fun σ H Q=>ta σ H fun x H1=>∃ c,x=.bl c/\if c=true then tb σ H1 Q else Q (.bl false) H1
def zAd (ta tb:TE):TE:=fun σ H Q=>ta σ H fun x H1=>∃ c,x=.bl c/\if c=true then Q (.bl true) H1 else tb σ H1 Q
def zyN (ta:TE):TE:=fun σ H Q=>ta σ H fun x H1=>∃ c,x=.bl c/\Q (.bl (!c)) H1
theorem zxw {op}{t:TE}(h:PE X a t):PE X (.BoolOp op [a] pos) t:=fun pins s σ H Q I hw=>BoolOp_one (h pins s σ H Q I hw)
theorem zxB (ha:PE X a ta)(hb:PE X (.BoolOp .And (b::rest) pos) tb):PE X (.BoolOp .And (a::b::rest) pos) (zyS ta tb):=by
 intro pins s σ H Q I h
 refine BoolOp_and (thn (ha pins s σ H _ I h) fun v s1 ⟨x,H1,I1,r1,q1⟩=>?_)
 obtain⟨c,rfl,q1⟩:=q1
 cases r1
 refine wpAny_truthy_bool ?_
 cases c with
 | true=>exact hb pins s1 σ H1 Q I1 q1
 | false=>exact⟨.bl false,H1,I1,rfl,q1⟩
theorem zy9 (ha:PE X a ta)(hb:PE X (.BoolOp .Or (b::rest) pos) tb):PE X (.BoolOp .Or (a::b::rest) pos) (zAd ta tb):=by
 intro pins s σ H Q I h
 refine BoolOp_or (thn (ha pins s σ H _ I h) fun v s1 ⟨x,H1,I1,r1,q1⟩=>?_)
 obtain⟨c,rfl,q1⟩:=q1
 cases r1
 refine wpAny_truthy_bool ?_
 cases c with
 | false=>exact hb pins s1 σ H1 Q I1 q1
 | true=>exact⟨.bl true,H1,I1,rfl,q1⟩
theorem zxx (ha:PE X a ta):PE X (.UnaryOp .Not a pos) (zyN ta):=by
 intro pins s σ H Q I h
 refine UnaryOp_ (thn (ha pins s σ H _ I h) fun v s1 ⟨x,H1,I1,r1,q1⟩=>?_)
 obtain⟨c,rfl,q1⟩:=q1
 cases r1
 exact not_of (wpAny_truthy_bool ⟨.bl (!c),H1,I1,rfl,q1⟩)
end
def SqL (K:W.Frag)(H:Hp)(a:Addr)(xs:List V):Prop :=
 Rd H a (.lst xs) ∨
  ∃ (o:Obj) (its:Array Value) (n:Nat),K.lookup a=some o/\o.cls=.type "list"/\o.dict=none/\o.data=.seq its n/\its.size<=sizeLine/\zbT xs its.toList
def SqT (K:W.Frag)(H:Hp)(a:Addr)(xs:List V):Prop :=
 Rd H a (.tup xs) ∨
  ∃ (o:Obj) (its:Array Value) (n:Nat),K.lookup a=some o/\o.cls=.type "tuple"/\o.data=.seq its n/\its.size<=sizeLine/\zbT xs its.toList
def zAC:Value->Option V
 | .none=>some .non
 | .bool b=>some (.bl b)
 | .int i _=>some (.int i)
 | .str x _=>some (.str x)
 | .bytes b _=>some (.byt b)
 | .float b _=>some (.flt b)
 | .ref a=>some (.ref a)
 | .type n=>some (.ty n)
 | _=>none
theorem zct.abs {x:V}{u:Value}(r:zct x u):zAC u=some x:=by
 cases x with
 | non=>cases r;rfl
 | bl _=>cases r;rfl
 | int _=>obtain⟨t,rfl⟩:=r;rfl
 | str _=>obtain⟨t,rfl⟩:=r;rfl
 | byt _=>obtain⟨t,rfl⟩:=r;rfl
 | flt _=>obtain⟨t,rfl⟩:=r;rfl
 | ref _=>cases r;rfl
 | ty _=>cases r;rfl
theorem zct.inj {x y:V}{u:Value}(r:zct x u)(q:zct y u):x=y:=Option.some.inj (r.abs.symm.trans q.abs)
theorem zbT.inj:∀ {xs ys:List V}{us:List Value},zbT xs us->zbT ys us->xs=ys
 | _,_,_,.nil,.nil=>rfl
 | _,_,_,.cons r t,.cons r' t'=>by rw[r.inj r',zbT.inj t t']
section
variable {X:Cx}{pins:List (Addr×Obj)}{σ:St}{H:Hp}{s:Shared}{a:Addr}{xs ys:List V}
theorem SqL.of {K:W.Frag}(h:H a=some (.lst xs)):SqL K H a xs:=.inl (.inl h)
theorem SqT.of {K:W.Frag}(h:H a=some (.tup xs)):SqT K H a xs:=.inl (.inl h)
theorem Inv.list (I:Inv X pins σ H s)(h:SqL X.K H a xs):∃ its:List Value,zbT xs its/\PlainL s.heap a its.toArray/\xs.length<=sizeLine:=by
 rcases h with h | ⟨o,its,n,hk,hc,hd,hs,hz,r⟩
 ·obtain⟨z,its,n,r,e⟩:=h.ok I.hok
  exact⟨its,r,⟨_,n,e,rfl,rfl,rfl⟩,z⟩
 ·refine⟨its.toList,r,⟨o,n,I.kIn a o hk,hc,hd,by simpa using hs⟩,?_⟩
  have e:=r.length
  simp only[Array.length_toList] at e
  omega
theorem Inv.tuple (I:Inv X pins σ H s)(h:SqT X.K H a xs):∃ its:List Value,zbT xs its/\IsTup s.heap a its.toArray/\xs.length<=sizeLine:=by
 rcases h with h | ⟨o,its,n,hk,hc,hs,hz,r⟩
 ·obtain⟨z,its,r,p⟩:=h.ok I.hok
  exact⟨its,r,p,z⟩
 ·refine⟨its.toList,r,⟨o,I.kIn a o hk,hc,n,by simpa using hs⟩,?_⟩
  have e:=r.length
  simp only[Array.length_toList] at e
  omega
theorem Inv.list_inj (I:Inv X pins σ H s)(h:SqL X.K H a xs)(h':SqL X.K H a ys):xs=ys:=by
 obtain⟨its,r,⟨o,n,e,_,_,d⟩,_⟩:=I.list h
 obtain⟨its',r',⟨o',n',e',_,_,d'⟩,_⟩:=I.list h'
 rw[e] at e';cases e'
 rw[d] at d'
 injection d' with d1 _
 have:its=its':=by simpa using congrArg Array.toList d1
 subst this
 exact r.inj r'
theorem Inv.tuple_inj (I:Inv X pins σ H s)(h:SqT X.K H a xs)(h':SqT X.K H a ys):xs=ys:=by
 obtain⟨its,r,⟨o,e,_,n,d⟩,_⟩:=I.tuple h
 obtain⟨its',r',⟨o',e',_,n',d'⟩,_⟩:=I.tuple h'
 rw[e] at e';cases e'
 rw[d] at d'
 injection d' with d1 _
 have:its=its':=by simpa using congrArg Array.toList d1
 subst this
 exact r.inj r'
end
abbrev Cx.wish (X:Cx)(E:Value->Shared->Prop):Cx:={ X with xe:=E }
abbrev Cx.nox (X:Cx):Cx:=X.wish fun _ _=>False
theorem Cx.Ok.wish {X:Cx}(ok:X.Ok)(E:Value->Shared->Prop):(X.wish E).Ok :=
 ⟨ok.mod,ok.kind,ok.glob,ok.blt,ok.above,ok.inj,ok.has,ok.cab,ok.hd,ok.frames,ok.stk,ok.exf,ok.bs,ok.bsz,ok.noex,ok.exfs,ok.funs,ok.frf⟩
theorem Cx.Ok.unwish {X:Cx}{E:Value->Shared->Prop}(ok:(X.wish E).Ok):X.Ok :=
 ⟨ok.mod,ok.kind,ok.glob,ok.blt,ok.above,ok.inj,ok.has,ok.cab,ok.hd,ok.frames,ok.stk,ok.exf,ok.bs,ok.bsz,ok.noex,ok.exfs,ok.funs,ok.frf⟩
section
variable {X:Cx}{pins:List (Addr×Obj)}{σ:St}{H:Hp}{s:Shared}{E:Value->Shared->Prop}
theorem Inv.wish (I:Inv X pins σ H s)(E:Value->Shared->Prop):Inv (X.wish E) pins σ H s:=⟨I.ok.wish E,I.os,I.bare,I.base,I.loc,I.cell,I.free,I.freeC,I.pin,I.hok,I.len⟩
theorem Inv.unwish (I:Inv (X.wish E) pins σ H s):Inv X pins σ H s:=⟨I.ok.unwish,I.os,I.bare,I.base,I.loc,I.cell,I.free,I.freeC,I.pin,I.hok,I.len⟩
theorem SP.unwish {D:zk3}{f:Flow}{s':Shared}(h:SP (X.wish E) pins D f s'):SP X pins D f s':=by
 cases f with
 | next=>obtain⟨σ',H',I,q⟩:=h;exact⟨σ',H',I.unwish,q⟩
 | brk=>obtain⟨σ',H',I,q⟩:=h;exact⟨σ',H',I.unwish,q⟩
 | cont=>obtain⟨σ',H',I,q⟩:=h;exact⟨σ',H',I.unwish,q⟩
 | ret u=>obtain⟨v,σ',H',I,r,q⟩:=h;exact⟨v,σ',H',I.unwish,r,q⟩
theorem PSs.nox {st:List Stmt}{t:TS}(h:PSs X.nox st t):PSs X st t:=fun pins s σ H D I hw =>
 wpAny_mono (h pins s σ H D (I.wish _) hw) (fun _ _ q=>q.unwish) fun _ _ z=>False.elim z
end
section
variable {X:Cx}{st:Stmt}{rest:List Stmt}{t u:TS}{e:Expr}{te:TE}{pos:Pos}
def zyO:TS:=fun D σ H=>D.nx σ H
def zz9 (t u:TS):TS:=fun D σ H=>t { D with nx:=u D } σ H
theorem zrb:PSs X [] zyO:=fun _ _ σ H _ I h=>wpAny_execs_nil ⟨σ,H,I,h⟩
theorem zi8 (h1:PS X st t)(h2:PSs X rest u):PSs X (st::rest) (zz9 t u):=by
 intro pins s σ H D I h
 refine wpAny_execs_cons (thn (h1 pins s σ H { D with nx:=u D } I h) fun f s1 q=>?_)
 cases f with
 | next =>
  obtain⟨σ',H',I',q⟩:=q
  exact h2 pins s1 σ' H' D I' q
 | ret v=>exact q
 | brk=>exact q
 | cont=>exact q
theorem Inv.quiet {pins:List (Addr×Obj)}{σ:St}{H:Hp}{s:Shared}(I:Inv X pins σ H s):interactive X.env=false:=by simp [interactive,I.ok.kind]
def zyP (te:TE):TS:=fun D σ H=>te σ H fun _ H1=>D.nx σ H1
theorem znY (he:PE X e te)(hs:swapsWith e none pos.line X.env=pure false:=by rfl):PS X (.Expr e pos) (zyP te):=by
 intro pins s σ H D I h
 exact wpAny_Expr_any (thn (he pins s σ H _ I h) fun v s1 ⟨x,H1,I1,r1,q1⟩=>⟨σ,H1,I1,q1⟩) I.quiet hs
def zAb (te:TE):TS:=fun D σ H=>te σ H D.rt
theorem zxn (he:PE X e te):PS X (.Return (some e) pos) (zAb te):=by
 intro pins s σ H D I h
 exact wpAny_Return_some (thn (he pins s σ H _ I h) fun v s1 ⟨x,H1,I1,r1,q1⟩=>⟨x,σ,H1,I1,r1,q1⟩)
def zAh (c:TT)(t u:TS):TS:=fun D σ H=>c σ H fun b H1=>if b=true then t D σ H1 else u D σ H1
theorem zy6 {c:Expr}{a b:List Stmt}{tc:TT}(hc:PT X c tc)(ha:PSs X a t)(hb:PSs X b u):PS X (.If c a b pos) (zAh tc t u):=by
 intro pins s σ H D I h
 refine wpAny_If (thn (hc pins s σ H _ I h) fun d s1 ⟨H1,I1,q1⟩=>?_)
 cases d with
 | true=>exact ha pins s1 σ H1 D I1 q1
 | false=>exact hb pins s1 σ H1 D I1 q1
end
abbrev TG:=V->St->Hp->(St->Hp->Prop)->Prop
abbrev TGs:=List V->St->Hp->(St->Hp->Prop)->Prop
def PG (X:Cx)(target:Expr)(t:TG):Prop :=
 ∀ (pins:List (Addr×Obj)) (s:Shared) (σ:St) (H:Hp) (v:V) (u:Value) (Q:St->Hp->Prop),Inv X pins σ H s->zct v u->t v σ H Q ->
  wpAny (model X.prog X.w) X.A (assign target X.env u) (fun _ s'=>∃ σ' H',Inv X pins σ' H' s'/\Q σ' H') X.xe s
def PGs (X:Cx)(ts:List Expr)(t:TGs):Prop :=
 ∀ (pins:List (Addr×Obj)) (s:Shared) (σ:St) (H:Hp) (vs:List V) (us:List Value) (Q:St->Hp->Prop),Inv X pins σ H s->zbT vs us->t vs σ H Q ->
  wpAny (model X.prog X.w) X.A (assignInOrder ((assignEach ts X.env).map (·.2)) us) (fun _ s'=>∃ σ' H',Inv X pins σ' H' s'/\Q σ' H') X.xe s
section
variable {X:Cx}{pos:Pos}
def zv5 (i:Nat):TG:=fun v σ H Q=>Q (σ.set i (some v)) H
theorem zrj {i:Nat}{x:Str}(hN:X.N.Nodup)(hi:X.N[i]?=some x)(hx:Loc X.env.scope x)(hf:X.fn x=true∨X.env.scope.names.lookup x=some .local := by first | exact .inl rfl | exact .inr rfl | assumption):PG X (.Name x pos) (zv5 i):=by
 intro pins s σ H v u Q I r h
 exact wpAny_assign_Name (zgz I hN hi hx r (fun s' I'=>⟨_,H,I',h⟩) hf)
def zAz:TGs:=fun vs σ H Q=>vs=[]/\Q σ H
def zzo (t:TG)(u:TGs):TGs:=fun vs σ H Q=>∃ v r,vs=v::r/\t v σ H fun σ' H'=>u r σ' H' Q
theorem zvx:PGs X [] zAz:=by
 intro pins s σ H vs us Q I r h
 obtain⟨e,h⟩:=h
 subst e
 cases r
 exact assignInOrder_nil ⟨σ,H,I,h⟩
theorem ztq {e:Expr}{es:List Expr}{t:TG}{u:TGs}(h1:PG X e t)(h2:PGs X es u)
  (hs:(assignEach (e::es) X.env).map (·.2)=assign e X.env::(assignEach es X.env).map (·.2):=by rfl):PGs X (e::es) (zzo t u):=by
 intro pins s σ H vs us Q I r h
 obtain⟨v,vr,e1,h⟩:=h
 subst e1
 cases r with
 | cons r rr =>
  rw[hs]
  refine assignInOrder_cons (thn (h1 pins s σ H _ _ _ I r h) fun _ s1 ⟨σ1,H1,I1,q1⟩=>?_)
  exact h2 pins s1 σ1 H1 _ _ Q I1 rr q1
def zAy (K:W.Frag)(n:Nat)(t:TGs):TG:=fun v σ H Q=>∃ a xs,v=.ref a/\SqT K H a xs/\xs.length=n/\t xs σ H Q
theorem zxq {es:List Expr}{k:Nat}{t:TGs}{n:Nat}(hc:X.calm=true)(h:PGs X es t)
  (hn:(assignEach es X.env).length=n:=by rfl)(hst:(assignEach es X.env).findIdx? (·.1)=none:=by rfl):PG X (.Tuple es k pos) (zAy X.K n t):=by
 intro pins s σ H v u Q I r hw
 obtain⟨a,xs,e1,hq,hl,hw⟩:=hw
 subst e1
 cases r
 obtain⟨its,rv,ht,hz⟩:=I.tuple hq
 refine assign_Tuple_tuple (I.ok.hd hc) ht (by simp [hn,← hl,rv.length]) hst fun h' hx=>?_
 have I1:Inv X pins σ H { s with heap:=h' }:=I.kept (t':=s.toks) fun b o e=>hx b o (Nat.ne_of_lt (Heap.lt_size e)) e
 exact h pins _ σ H xs _ Q I1 (by simpa using rv) hw
def zzJ (te:TE)(g:TG):TS:=fun D σ H=>te σ H fun x H1=>g x σ H1 D.nx
theorem zrc {i:Nat}{x:Str}{e:Expr}{te:TE}{pos':Pos}(hN:X.N.Nodup)(hi:X.N[i]?=some x)(hx:Loc X.env.scope x)(he:PE X e te)(hs:swapsWith e (some (.Name x pos')) pos.line X.env=pure false:=by rfl)(hf:X.fn x=true∨X.env.scope.names.lookup x=some .local := by first | exact .inl rfl | exact .inr rfl | assumption) :
  PS X (.Assign [.Name x pos'] e pos) (zzJ te (zv5 i)):=by
 intro pins s σ H D I h
 refine wpAny_Assign_Name (thn (he pins s σ H _ I h) fun v s1 ⟨y,H1,I1,r1,q1⟩=>?_) hs
 exact zgz I1 hN hi hx r1 (fun s2 I2=>⟨_,H1,I2,q1⟩) hf
def zAc (i j:Nat)(ta:TA):TS:=fun D σ H=>ta σ H fun vs H1=>∃ v w,vs=[v,w]/\D.nx ((σ.set i (some v)).set j (some w)) H1
theorem zxo {i j:Nat}{x y:Str}{a b:Expr}{ta:TA}{px py pt:Pos}{kt k2 pt2}(hc:X.calm=true)(hN:X.N.Nodup)(hi:X.N[i]?=some x)(hj:X.N[j]?=some y)(hij:i≠j)
  (hx:X.env.scope.names.lookup x=some .local)(hy:X.env.scope.names.lookup y=some .local)(ha:PA X [a,b] ta)
  (hw:swappedStores [.Tuple [.Name x px,.Name y py] kt pt] (.Tuple [a,b] k2 pt2) X.env=pure (some [x,y]))
  (hs:swapsWithSole [.Tuple [.Name x px,.Name y py] kt pt] (.Tuple [a,b] k2 pt2) pos.line X.env=pure false:=by rfl) :
  PS X (.Assign [.Tuple [.Name x px,.Name y py] kt pt] (.Tuple [a,b] k2 pt2) pos) (zAc i j ta):=by
 intro pins s σ H D I h
 rw[exec_Assign_arm]
 refine wpAny_bind (wpAny_standAt ?_)
 rw[hs]
 refine wpAny_bind (wpAny_pure ?_)
 rw[if_neg (by decide)]
 refine wpAny_bind (Tuple_ (thn (ha _ pins s σ H _ I h) fun us s1 ⟨vs,H1,I1,r1,q1⟩=>?_))
 obtain⟨v,w,e1,q1⟩:=q1
 subst e1
 obtain⟨u1,u2,rfl,rv,rw'⟩:∃ u1 u2,us=[u1,u2]/\zct v u1/\zct w u2:=by
  cases r1 with
  | cons p q =>
   cases q with
   | cons p' q' =>
    cases q'
    exact⟨_,_,rfl,p,p'⟩
 refine wpAny_newObj_type ?_ (by show 2<=sizeLine;decide)
 have I2:Inv X pins σ H1 { s1 with heap:=s1.heap.push { cls:=.type "tuple",data:=.seq [u1,u2].toArray } }:=I1.kept (t':=s1.toks) fun b o e=>Heap.get?_push_of_some _ e
 rw[hw]
 refine wpAny_bind (wpAny_pure ?_)
 show wpAny (model X.prog X.w) X.A (do rule "assign.swapped-stores";let items ← unpackItems (.ref s1.heap.objs.size) 2 none;assignInOrder [fun v=>bindName X.env y v,fun v=>bindName X.env x v] items.reverse;pure Flow.next) _ _ _
 refine wpAny_bind (wpAny_rule (wpAny_bind (unpackItems_tuple (items:=#[u1,u2]) (I.ok.hd hc) (IsTup.new s1.heap _) fun h' hx'=>?_)))
 have I3:=I2.kept (h':=h') (t':=s1.toks) fun b o e=>hx' b o (Nat.ne_of_lt (Heap.lt_size e)) e
 show wpAny _ _ (assignInOrder [fun v=>bindName X.env y v,fun v=>bindName X.env x v] [u2,u1] >>= fun _=>pure Flow.next) _ _ _
 refine wpAny_bind (assignInOrder_cons (wpAny_bindName (zgz I3 hN hj (.inl hy) rw' (fun s2 I4=>?_) (.inr hy))))
 refine assignInOrder_cons (wpAny_bindName (zgz I4 hN hi (.inl hx) rv (fun s3 I5=>assignInOrder_nil (wpAny_pure ?_)) (.inr hx)))
 rw[List.set_comm _ _ (Ne.symm hij)] at I5
 exact⟨_,H1,I5,q1⟩
end
section
variable {X:Cx}{pos:Pos}
def zwX (c:TT)(tb:TS):TS:=fun D σ H=>∃ W:Nat->St->Hp->Prop,(∃ m,W m σ H)/\∀ m σ H,W m σ H ->
 c σ H fun b H1=>if b=true then ∃ N:St->Hp->Prop,(∀ σ' H',N σ' H'->∃ m',m' < m/\W m' σ' H')/\tb { D with nx:=N,ct:=N,bk:=D.nx } σ H1 else D.nx σ H1
theorem ztm {c:Expr}{body:List Stmt}{tc:TT}{tb:TS}(hp:PassesOwn (model X.prog X.w) X.A X.env X.xe)(hc:PT X c tc)(hb:PSs X body tb):PS X (.While c body [] pos) (zwX tc tb):=by
 intro pins s σ H D I h
 obtain⟨W,⟨m0,w0⟩,turn⟩:=h
 refine wpAny_While (codeAny_whileLoop (fun n s'=>∃ σ' H',Inv X pins σ' H' s'/\W n σ' H') ?_ m0 ⟨σ,H,I,w0⟩)
 rintro n s1 ⟨σ1,H1,I1,w1⟩
 refine wpAny_passesOwn hp (thn (hc pins s1 σ1 H1 _ I1 (turn n σ1 H1 w1)) fun b s2 ⟨H2,I2,q2⟩=>?_)
 cases b with
 | true =>
  obtain⟨N,hN,q2⟩:=q2
  rw[if_pos rfl]
  refine wpAny_passesOwn hp (thn (hb pins s2 σ1 H2 _ I2 q2) fun f s3 q3=>?_)
  cases f with
  | next =>
   obtain⟨σ3,H3,I3,n3⟩:=q3
   obtain⟨m',hm,w3⟩:=hN σ3 H3 n3
   exact⟨m',hm,σ3,H3,I3,w3⟩
  | cont =>
   obtain⟨σ3,H3,I3,n3⟩:=q3
   obtain⟨m',hm,w3⟩:=hN σ3 H3 n3
   exact⟨m',hm,σ3,H3,I3,w3⟩
  | brk=>exact q3
  | ret v=>exact q3
 | false =>
  rw[if_neg Bool.false_ne_true]
  exact wpAny_execs_nil ⟨σ1,H2,I2,q2⟩
end
structure It where
 go:Nat->Hp->Prop
 yld:Nat->Hp->V->Hp->Prop
 stop:Nat->Hp->Prop
def zqe (X:Cx)(pins:List (Addr×Obj))(H:Hp)(b:Addr):Prop :=
 H b=none/\b≠X.env.locals/\b∉X.fs/\(b∈X.ex∨X.s₀.heap.objs.size<=b)/\(∀ x c,X.env.cells.lookup x=some c->c≠b)/\∀ p∈X.pn++pins,p.1≠b
theorem Inv.fpOk {X:Cx}{pins:List (Addr×Obj)}{σ:St}{H H':Hp}{s:Shared}{b:Addr}(I:Inv X pins σ H s)(hb:s.heap.objs.size<=b)(hn:H' b=none):zqe X pins H' b:=by
 refine⟨hn,Nat.ne_of_gt (Nat.lt_of_lt_of_le I.lt hb),I.nofs hb,.inr (Nat.le_trans I.sz hb),fun x c e z=>?_,fun p hp z=>?_⟩
 ·obtain⟨v,q⟩:=I.cell x c e
  exact absurd (Nat.lt_of_lt_of_le q.lt (by rw[z];exact hb)) (Nat.lt_irrefl _)
 ·exact absurd (Nat.lt_of_lt_of_le (Heap.lt_size (I.pin p hp).1) (by rw[z];exact hb)) (Nat.lt_irrefl _)
structure zwF (P:Program) (w:World) (K:W.Frag) (tg:Expr) (J:It) (fp:List Addr) (it:Addr) (tn:Nat->Heap->Prop):Prop where
 mem:it∈fp
 obj:∀ i h,tn i h->∀ b∈fp,∃ o,h.get? b=some o/\∀ v,o.data≠.cell v
 keep:∀ i h h',tn i h->(∀ b∈fp,∀ o,h.get? b=some o->h'.get? b=some o)->tn i h'
 item:∀ (X:Cx),X.prog=P->X.w=w->X.K=K->X.calm=true->∀ (i:Nat) (pins:List (Addr×Obj)) (s:Shared) (σ:St) (H:Hp) (E:Value->Shared->Prop),Inv X pins σ H s->(∀ b∈fp,zqe X pins H b)->tn i s.heap->J.go i H ->
  wpAny (model P w) X.A (pyNext (.ref it)) (fun r s1=>∃ u,r=some u /\
   wpAny (model P w) X.A (letOwnedTupleGo tg (.ref it) u) (fun _ s2=>∃ x H',Inv X pins σ H' s2/\zct x u/\J.yld i H x H'/\tn (i+1) s2.heap/\∀ b∈fp,H' b=none) E s1) E s
 done:∀ (X:Cx),X.prog=P->X.w=w->X.K=K->X.calm=true->∀ (i:Nat) (pins:List (Addr×Obj)) (s:Shared) (σ:St) (H:Hp) (E:Value->Shared->Prop),Inv X pins σ H s->(∀ b∈fp,zqe X pins H b)->tn i s.heap->J.stop i H ->
  wpAny (model P w) X.A (pyNext (.ref it)) (fun r s1=>r=none/\Inv X pins σ H s1) E s
 self:∀ (A:Around) (i:Nat) (s:Shared) (Q:Value->Shared->Prop) (E:Value->Shared->Prop),tn i s.heap->Q (.ref it) s->wpAny (model P w) A (pyIter (.ref it)) Q E s
abbrev TI:=St->Hp->(It->Hp->Prop)->Prop
def PIE (X:Cx)(pins:List (Addr×Obj))(σ:St)(tg:Expr)(R:It->Hp->Prop)(itv:Value)(s2:Shared):Prop :=
 ∃ (it:Addr) (fp:List Addr) (tn:Nat->Heap->Prop) (J:It) (H':Hp),itv=.ref it/\Inv X pins σ H' s2/\zwF X.prog X.w X.K tg J fp it tn/\tn 0 s2.heap/\(∀ b∈fp,zqe X pins H' b)/\R J H'
def PI (X:Cx)(tg iter:Expr)(wi:TI):Prop :=
 ∀ (pins:List (Addr×Obj)) (s:Shared) (σ:St) (H:Hp) (R:It->Hp->Prop),Inv X pins σ H s->wi σ H R ->
  wpAny (model X.prog X.w) X.A (eval iter X.env) (fun v s1=>wpAny (model X.prog X.w) X.A (pyIter v) (PIE X pins σ tg R) X.xe s1) X.xe s
theorem ztU {M:Model}{A:Around}{E:Value->Shared->Prop}{s:Shared}{tg:Expr}{it:Addr}{u:Value}{o:Obj}{n:String}{vs:Array Value}{Q:Unit->Shared->Prop}(ho:s.heap.get? it=some o)(hc:o.cls=.type n)(hd:o.data=.fields vs)
  (hn:["enumerate","zip","dict_itemiterator","dict_reverseitemiterator","odict_iterator","itertools.zip_longest","itertools.pairwise"].contains n=false)(hQ:Q () s):wpAny M A (letOwnedTupleGo tg (.ref it) u) Q E s:=by
 unfold letOwnedTupleGo
 cases tg<;>first
  | exact wpAny_pure hQ
  | (cases u<;>first
    | exact wpAny_pure hQ
    | (refine wpAny_bind (wpAny_load ho ?_);rw[hc,hd];show wpAny M A (if(["enumerate","zip","dict_itemiterator","dict_reverseitemiterator","odict_iterator","itertools.zip_longest","itertools.pairwise"].contains n&&vs[0]?==some (rawInt _))=true then _ else _) Q E s;rw[if_neg (by intro h;rw[hn,Bool.false_and] at h;cases h)];exact wpAny_pure hQ))
def Itl (K:W.Frag)(a:Addr):It :=
 ⟨fun i H=>∃ xs x,SqL K H a xs/\xs[i]?=some x,fun i H x H'=>H'=H/\∀ xs,SqL K H a xs->xs[i]?=some x,fun i H=>∃ xs,SqL K H a xs/\xs.length<=i⟩
def Itr (lo:Int)(n:Nat):It:=⟨fun i _=>i < n,fun i H x H'=>H'=H/\x=.int (lo+i),fun i _=>n<=i⟩
theorem zqG {P:Program}{w:World}{K:W.Frag}{tg:Expr}(a it:Addr):zwF P w K tg (Itl K a) [it] it (fun i h=>h.IsListIter it a i) where
 mem:=by simp
 obj:=fun i h st b hb=>by
  have e:b=it:=by simpa using hb
  subst e
  obtain⟨o,e,c,d⟩:=st
  exact⟨o,e,fun v z=>by rw[d] at z;cases z⟩
 keep:=fun i h h' st k=>st.at fun o e=>k it (by simp) o e
 item:=by
  intro X hP hw hK hc i pins s σ H E I hf st hg
  subst hP hw hK
  obtain⟨xs,x,hq,hx⟩:=hg
  obtain⟨its,rv,p,hz⟩:=I.list hq
  obtain⟨u,hu,ru⟩:=rv.get hx
  obtain⟨f0,f1,f2,f3,f4,f5⟩:=hf it (by simp)
  refine wpAny_pyNext_list_item st p.isList (x:=u) (by simpa using hu) fun h' st' sb=>?_
  have I1:Inv X pins σ H { s with heap:=h' }:=I.turned (t':=s.toks) (fun b o hb e=>(sb.2 b hb).trans e) f0 f1 f3 f4 f5
  obtain⟨o,e,c,d⟩:=id st'
  exact⟨u,rfl,ztU (s:={ s with heap:=h' }) e c d (by decide) ⟨x,H,I1,ru,⟨rfl,fun ys hy=>by rw[I.list_inj hy hq];exact hx⟩,st',fun b hb=>(hf b hb).1⟩⟩
 done:=by
  intro X hP hw hK hc i pins s σ H E I hf st hg
  subst hP hw hK
  obtain⟨xs,hq,hx⟩:=hg
  obtain⟨its,rv,p,hz⟩:=I.list hq
  obtain⟨f0,f1,f2,f3,f4,f5⟩:=hf it (by simp)
  have hl:=rv.length
  exact wpAny_pyNext_list_end (I.ok.hd hc) st p.isList (by simp;omega) fun h' eb=>⟨rfl,I.turned (t':=s.toks) (fun b o hb e=>eb b o hb e) f0 f1 f3 f4 f5⟩
 self:=fun _ _ _ _ _ st h=>wpAny_pyIter_listiter st h
theorem zpB {P:Program}{w:World}{K:W.Frag}{tg:Expr}(it:Addr)(lo:Int)(n:Nat):zwF P w K tg (Itr lo n) [it] it (fun i h=>IsRangeIter h it (lo+(i:Nat)*1) ((n:Int)-(i:Nat)) 1) where
 mem:=by simp
 obj:=fun i h st b hb=>by
  have e:b=it:=by simpa using hb
  subst e
  exact⟨_,st,fun v z=>by
   have z':Data.fields _=Data.cell v:=z
   cases z'⟩
 keep:=fun i h h' st k=>k it (by simp) _ st
 item:=by
  intro X hP hw hK hc i pins s σ H E I hf st hg
  subst hP hw hK
  obtain⟨f0,f1,f2,f3,f4,f5⟩:=hf it (by simp)
  have W:=Walks.range (prog:=X.prog) (w:=X.w) (I.ok.hd hc) it lo 1 n
  refine W.item i s _ _ hg st fun v h' tk hv st' kk=>?_
  obtain⟨t,rfl⟩:=hv
  have I1:Inv X pins σ H { s with heap:=h',toks:=tk }:=I.turned (fun b o hb e=>kk b o (by simpa using hb) e) f0 f1 f3 f4 f5
  refine⟨_,rfl,ztU (s:={ s with heap:=h',toks:=tk }) (n:="range_iterator") st' rfl rfl (by decide) ⟨.int (lo+i),H,I1,⟨t,?_⟩,⟨rfl,rfl⟩,st',fun b hb=>(hf b hb).1⟩⟩
  rw[Int.mul_one]
 done:=by
  intro X hP hw hK hc i pins s σ H E I hf st hg
  subst hP hw hK
  obtain⟨f0,f1,f2,f3,f4,f5⟩:=hf it (by simp)
  exact wpAny_pyNext_range_end (I.ok.hd hc) st (by have:n<=i:=hg;omega) fun h' eb=>⟨rfl,I.turned (t':=s.toks) (fun b o hb e=>eb b o hb e) f0 f1 f3 f4 f5⟩
 self:=fun _ _ _ _ _ st h=>wpAny_pyIter_rangeiter st h
section
variable {X:Cx}{tg:Expr}
def zzl (K:W.Frag)(tl:TE):TI:=fun σ H R=>tl σ H fun x H1=>∃ a,x=.ref a/\(∃ xs,SqL K H1 a xs)/\R (Itl K a) H1
theorem zri {l:Expr}{tl:TE}(hl:PE X l tl):PI X tg l (zzl X.K tl):=by
 intro pins s σ H R I h
 refine thn (hl pins s σ H _ I h) fun v s1 ⟨x,H1,I1,r1,q1⟩=>?_
 obtain⟨a,e,⟨xs,hq⟩,q⟩:=q1
 subst e
 cases r1
 obtain⟨its,rv,p,hz⟩:=I1.list hq
 refine wpAny_pyIter_list p.isList ?_
 refine⟨s1.heap.objs.size,[s1.heap.objs.size],_,_,H1,rfl,I1.kept (t':=s1.toks) fun b o e=>Heap.get?_push_of_some _ e,zqG a _,⟨_,Heap.get?_push_size _ rfl,rfl,rfl⟩,fun b hb=>?_,q⟩
 have e:b=s1.heap.objs.size:=by simpa using hb
 subst e
 exact I1.fpOk (Nat.le_refl _) (I1.hok.fresh (Nat.le_refl _))
theorem zti {pins:List (Addr×Obj)}{σ:St}{H:Hp}{s:Shared}{R:It->Hp->Prop}{E:Value->Shared->Prop}{lo hi:Int}{t u v:Tok}{tk:Nat}(I:Inv X pins σ H s)(h1:-(2 ^ 62)<=lo)(h2:lo < 2 ^ 62)(h3:-(2 ^ 62)<=hi)(h4:hi < 2 ^ 62)
  (q:R (Itr lo (hi-lo).toNat) H):wpAny (model X.prog X.w) X.A (pyIter (.ref s.heap.objs.size)) (PIE X pins σ tg R) E { s with heap:=s.heap.push { cls:=.type "range",data:=.fields #[.int lo t,.int hi u,.int 1 v] },toks:=tk }:=by
 refine wpAny_pyIter_range (IsRange.new ..) (small_one h1 h2 h3 h4) ?_
 have I1:Inv X pins σ H { s with heap:=s.heap.push { cls:=.type "range",data:=.fields #[.int lo t,.int hi u,.int 1 v] },toks:=tk }:=I.kept fun b o e=>Heap.get?_push_of_some _ e
 refine⟨(s.heap.push { cls:=.type "range",data:=.fields #[.int lo t,.int hi u,.int 1 v] }).objs.size,[(s.heap.push { cls:=.type "range",data:=.fields #[.int lo t,.int hi u,.int 1 v] }).objs.size],_,_,H,rfl,
  I1.kept (t':=tk) fun b o e=>Heap.get?_push_of_some _ e,zpB _ lo (hi-lo).toNat,?_,fun b hb=>?_,q⟩
 ·have e1:lo+((0:Nat):Int)*1=lo:=by simp
  have e2:(((hi-lo).toNat:Nat):Int)-((0:Nat):Int)=Builtin.Range.rangeSize lo hi 1:=by rw[rangeSize_one];split<;>omega
  show IsRangeIter _ _ (lo+((0:Nat):Int)*1) ((((hi-lo).toNat:Nat):Int)-((0:Nat):Int)) 1
  rw[e1,e2]
  exact Heap.get?_push_size _ rfl
 ·have e:b=(s.heap.push { cls:=.type "range",data:=.fields #[.int lo t,.int hi u,.int 1 v] }).objs.size:=by simpa using hb
  subst e
  exact I1.fpOk (Nat.le_refl _) (I1.hok.fresh (Nat.le_refl _))
def zzk (ta:TA):TI:=fun σ H R=>ta σ H fun vs H1=>∃ j:Int,vs=[.int j]/\-(2 ^ 62)<=j/\j < 2 ^ 62/\R (Itr 0 j.toNat) H1
theorem zmK {a:Expr}{ta:TA}{p pos:Pos}(hg:Gl X "range")(hm:X.mg "range"=none)(ha:PA X [a] ta)(hs:starEach [a] X.env=[(false,eval a X.env)]:=by rfl):PI X tg (.Call (.Name "range" p) [a] [] pos) (zzk ta):=by
 intro pins s σ H R I h
 refine Call_ (zmU I hg hm boot_range (PyProof.Rows.callWith_type1 (thn (ha pos pins s σ H _ I h) fun us s1 ⟨vs,H1,I1,r1,q1⟩=>?_) hs rfl))
 obtain⟨j,e,q1,q2,q⟩:=q1
 subst e
 cases r1 with
 | cons r rr =>
  cases rr
  obtain⟨t,rfl⟩:=r
  exact call_range_1 (zti I1 (by omega) (by omega) q1 q2 (by simpa using q))
def zAi (wi:TI)(g:TG)(tb:TS):TS:=fun D σ H=>wi σ H fun J H1=>∃ W:Nat->Nat->St->Hp->Prop,(∃ m,W 0 m σ H1)/\∀ i m σ H,W i m σ H ->
 (J.stop i H/\D.nx σ H)∨(J.go i H/\∃ N:St->Hp->Prop,(∀ σ' H',N σ' H'->∃ m',m' < m/\W (i+1) m' σ' H')/\∀ x H',J.yld i H x H'->g x σ H' fun σ2 H2=>tb { D with nx:=N,ct:=N,bk:=D.nx } σ2 H2)
def zmJ (fp:List Addr)(h:Heap):List (Addr×Obj):=fp.filterMap fun b=>(h.get? b).map fun o=>(b,o)
theorem zgH {fp:List Addr}{h:Heap}{b:Addr}{o:Obj}(hb:b∈fp)(e:h.get? b=some o):(b,o)∈zmJ fp h:=List.mem_filterMap.mpr ⟨b,hb,by rw[e];rfl⟩
theorem zrv {fp:List Addr}{h:Heap}{p:Addr×Obj}(hp:p∈zmJ fp h):p.1∈fp/\h.get? p.1=some p.2:=by
 obtain⟨b,hb,e⟩:=List.mem_filterMap.mp hp
 cases q:h.get? b with
 | none=>rw[q] at e;cases e
 | some o =>
  rw[q] at e
  have e':(b,o)=p:=Option.some.inj e
  subst e'
  exact⟨hb,q⟩
theorem Inv.pinned {pins:List (Addr×Obj)}{σ:St}{H:Hp}{s:Shared}{fp:List Addr}(I:Inv X pins σ H s)(hf:∀ b∈fp,zqe X pins H b)(ho:∀ b∈fp,∃ o,s.heap.get? b=some o/\∀ v,o.data≠.cell v):Inv X (pins++zmJ fp s.heap) σ H s :=
 I.pins_of fun p hp=>(List.mem_append.mp hp).elim (fun z=>I.pin p (List.mem_append_right _ z)) fun z=>by
  obtain⟨hb,e⟩:=zrv z
  obtain⟨f0,f1,f2,_⟩:=hf p.1 hb
  obtain⟨o,e',d⟩:=ho p.1 hb
  rw[e] at e';cases e'
  exact⟨e,f0,f1,f2,d⟩
theorem Inv.unpinned {pins pl:List (Addr×Obj)}{σ:St}{H:Hp}{s:Shared}(I:Inv X (pins++pl) σ H s):Inv X pins σ H s:=I.pins_of fun p hp=>I.pin p (List.mem_append_right _ (List.mem_append_left _ hp))
theorem zrd {iter:Expr}{body:List Stmt}{wi:TI}{g:TG}{tb:TS}{pos:Pos}(hp:PassesOwn (model X.prog X.w) X.A X.env X.xe)(hc:X.calm=true)(hi:PI X tg iter wi)(hg:PG X tg g)(hb:PSs X body tb)
  (hs:∀ x,foldedSetIterable iter X.env x=pure x:=by intro _;rfl):PS X (.For tg iter body [] pos) (zAi wi g tb):=by
 intro pins s σ H D I h
 refine wpAny_For (thn (hi pins s σ H _ I h) fun v s1 h1=>thn h1 fun itv s2 h2=>?_) hs
 obtain⟨it,fp,tn,J,H2,e,I2,T,st2,f2,W,⟨m0,w0⟩,turn⟩:=h2
 subst e
 have stat:∀ {H':Hp},(∀ b∈fp,H' b=none)->∀ b∈fp,zqe X pins H' b:=fun hn b hb=>⟨hn b hb,(f2 b hb).2⟩
 refine codeAny_forLoop_any (fun n s'=>∃ i σ' H',Inv X pins σ' H' s'/\tn i s'.heap/\(∀ b∈fp,H' b=none)/\W i n σ' H') ?_ m0 ⟨0,σ,H2,I2,st2,fun b hb=>(f2 b hb).1,w0⟩
 rintro n s3 ⟨i,σ3,H3,I3,st3,fr3,w3⟩
 rcases turn i n σ3 H3 w3 with⟨stop,qn⟩ | ⟨go,N,hN,step⟩
 ·refine wpAny_passesOwn hp (thn (T.done X rfl rfl rfl hc i pins s3 σ3 H3 X.xe I3 (stat fr3) st3 stop) fun r s4 ⟨hr,I4⟩=>?_)
  subst hr
  exact wpAny_execs_nil ⟨σ3,H3,I4,qn⟩
 ·refine wpAny_passesOwn hp (thn (T.item X rfl rfl rfl hc i pins s3 σ3 H3 X.xe I3 (stat fr3) st3 go) fun r s4 ⟨u,hr,h4⟩=>?_)
  subst hr
  refine wpAny_passesOwn hp (thn h4 fun _ s5 ⟨x,H5,I5,r5,y5,st5,fr5⟩=>?_)
  have I5':=I5.pinned (stat fr5) (T.obj _ _ st5)
  refine wpAny_passesOwn hp (thn (hg _ s5 σ3 H5 x u _ I5' r5 (step x H5 y5)) fun _ s6 ⟨σ6,H6,I6,q6⟩=>?_)
  refine wpAny_passesOwn hp (thn (hb _ s6 σ6 H6 _ I6 q6) fun f s7 q7=>?_)
  have again:∀ {σ7:St}{H7:Hp},Inv X (pins++zmJ fp s5.heap) σ7 H7 s7->N σ7 H7->∃ m,m < n/\∃ i σ' H',Inv X pins σ' H' s7/\tn i s7.heap/\(∀ b∈fp,H' b=none)/\W i m σ' H':=fun {σ7 H7} I7 n7=>by
   obtain⟨m',hm,w7⟩:=hN σ7 H7 n7
   refine⟨m',hm,i+1,σ7,H7,I7.unpinned,T.keep _ _ _ st5 fun b hb o e=>(I7.pin (b,o) (List.mem_append_right _ (List.mem_append_right _ (zgH hb e)))).1,fun b hb=>?_,w7⟩
   obtain⟨o,e,d⟩:=T.obj _ _ st5 b hb
   exact(I7.pin (b,o) (List.mem_append_right _ (List.mem_append_right _ (zgH hb e)))).2.1
  cases f with
  | next=>obtain⟨σ7,H7,I7,n7⟩:=q7;exact again I7 n7
  | cont=>obtain⟨σ7,H7,I7,n7⟩:=q7;exact again I7 n7
  | brk=>obtain⟨σ7,H7,I7,q7⟩:=q7;exact⟨σ7,H7,I7.unpinned,q7⟩
  | ret v=>obtain⟨x7,σ7,H7,I7,r7,q7⟩:=q7;exact⟨x7,σ7,H7,I7.unpinned,r7,q7⟩
end
theorem ztY {K:W.Frag}{a:Addr}{xs:List V}{g:TG}{tb:TS}{D:zk3}{σ:St}{H:Hp}(Pv:Nat->St->Hp->Prop)(h0:Pv 0 σ H)(hl:∀ i σ H,i<=xs.length->Pv i σ H->SqL K H a xs)
  (hs:∀ i x σ H,xs[i]?=some x->Pv i σ H->g x σ H fun σ2 H2=>tb { D with nx:=Pv (i+1),ct:=Pv (i+1),bk:=D.nx } σ2 H2)(hd:∀ σ H,Pv xs.length σ H->D.nx σ H) :
  ∃ W:Nat->Nat->St->Hp->Prop,(∃ m,W 0 m σ H)/\∀ i m σ H,W i m σ H ->
   ((Itl K a).stop i H/\D.nx σ H)∨((Itl K a).go i H/\∃ N:St->Hp->Prop,(∀ σ' H',N σ' H'->∃ m',m' < m/\W (i+1) m' σ' H')/\∀ x H',(Itl K a).yld i H x H'->g x σ H' fun σ2 H2=>tb { D with nx:=N,ct:=N,bk:=D.nx } σ2 H2):=by
 refine⟨fun i m σ H=>m=xs.length-i/\i<=xs.length/\Pv i σ H,⟨xs.length,by simp,Nat.zero_le _,h0⟩,?_⟩
 rintro i m σ H ⟨rfl,hi,p⟩
 have q:=hl i σ H hi p
 by_cases hlt:i < xs.length
 ·refine .inr ⟨⟨xs,xs[i],q,by simp [hlt]⟩,Pv (i+1),fun σ' H' p'=>⟨xs.length-(i+1),by omega,rfl,hlt,p'⟩,fun x H' y=>?_⟩
  obtain⟨e,y⟩:=y
  subst e
  exact hs i x σ _ (y xs q) p
 ·have e:i=xs.length:=by omega
  subst e
  exact .inl ⟨⟨xs,q,Nat.le_refl _⟩,hd σ H p⟩
theorem zrU {lo:Int}{n:Nat}{g:TG}{tb:TS}{D:zk3}{σ:St}{H:Hp}(Pv:Nat->St->Hp->Prop)(h0:Pv 0 σ H)
  (hs:∀ i σ H,i < n->Pv i σ H->g (.int (lo+i)) σ H fun σ2 H2=>tb { D with nx:=Pv (i+1),ct:=Pv (i+1),bk:=D.nx } σ2 H2)(hd:∀ σ H,Pv n σ H->D.nx σ H) :
  ∃ W:Nat->Nat->St->Hp->Prop,(∃ m,W 0 m σ H)/\∀ i m σ H,W i m σ H ->
   ((Itr lo n).stop i H/\D.nx σ H)∨((Itr lo n).go i H/\∃ N:St->Hp->Prop,(∀ σ' H',N σ' H'->∃ m',m' < m/\W (i+1) m' σ' H')/\∀ x H',(Itr lo n).yld i H x H'->g x σ H' fun σ2 H2=>tb { D with nx:=N,ct:=N,bk:=D.nx } σ2 H2):=by
 refine⟨fun i m σ H=>m=n-i/\i<=n/\Pv i σ H,⟨n,by simp,Nat.zero_le _,h0⟩,?_⟩
 rintro i m σ H ⟨rfl,hi,p⟩
 by_cases hlt:i < n
 ·refine .inr ⟨hlt,Pv (i+1),fun σ' H' p'=>⟨n-(i+1),by omega,rfl,hlt,p'⟩,fun x H' y=>?_⟩
  obtain⟨e,y⟩:=y
  subst e y
  exact hs i σ _ hlt p
 ·have e:i=n:=by omega
  subst e
  exact .inl ⟨Nat.le_refl _,hd σ H p⟩
abbrev R2:=V->V->Hp->VK->Prop
def OpR (X:Cx)(f:Value->Value->Sem Value)(r:R2):Prop :=
 ∀ (pins:List (Addr×Obj)) (s:Shared) (σ:St) (H:Hp) (x y:V) (v u:Value) (Q:VK),Inv X pins σ H s->zct x v->zct y u->r x y H Q ->
  wpAny (model X.prog X.w) X.A (f v u) (EP X pins σ Q) X.xe s
def UnR (X:Cx)(f:Value->Sem Value)(r:V->Hp->VK->Prop):Prop :=
 ∀ (pins:List (Addr×Obj)) (s:Shared) (σ:St) (H:Hp) (x:V) (v:Value) (Q:VK),Inv X pins σ H s->zct x v->r x H Q ->
  wpAny (model X.prog X.w) X.A (f v) (EP X pins σ Q) X.xe s
def zkg (X:Cx)(f:Value)(r:List V->Hp->VK->Prop):Prop :=
 ∀ (pins:List (Addr×Obj)) (s:Shared) (σ:St) (H:Hp) (xs:List V) (us:List Value) (Q:VK),Inv X pins σ H s->zbT xs us->r xs H Q ->
  wpAny (model X.prog X.w) X.A (call f us) (EP X pins σ Q) X.xe s
def zAF (X:Cx)(r:V->Hp->(Bool->Hp->Prop)->Prop):Prop :=
 ∀ (pins:List (Addr×Obj)) (s:Shared) (σ:St) (H:Hp) (x:V) (v:Value) (Q:Bool->Hp->Prop),Inv X pins σ H s->zct x v->r x H Q ->
  wpAny (model X.prog X.w) X.A (truthy v) (TP X pins σ Q) X.xe s
def tOp (r:R2)(ta tb:TE):TE:=fun σ H Q=>ta σ H fun x H1=>tb σ H1 fun y H2=>r x y H2 Q
def tUn (r:V->Hp->VK->Prop)(ta:TE):TE:=fun σ H Q=>ta σ H fun x H1=>r x H1 Q
def rI (C:Int->Int->Prop)(g:Int->Int->V):R2:=fun x y H Q=>∃ i j,x=.int i/\y=.int j/\C i j/\Q (g i j) H
def rI0 (g:Int->Int->V):R2:=fun x y H Q=>∃ i j,x=.int i/\y=.int j/\Q (g i j) H
def rU (g:Int->V):V->Hp->VK->Prop:=fun x H Q=>∃ i,x=.int i/\Q (g i) H
section
variable {X:Cx}{a b c:Expr}{ta tb tc:TE}{pos:Pos}
theorem zzD (ha:PE X a ta)(hb:PE X b tb){pins:List (Addr×Obj)}{s:Shared}{σ:St}{H:Hp}{R:V->V->Hp->Prop}(I:Inv X pins σ H s)
  (h:ta σ H fun x H1=>tb σ H1 fun y H2=>R x y H2){Q:Value->Shared->Prop}{f:Value->Value->Sem Value}
  (hf:∀ v u s2 x y H2,Inv X pins σ H2 s2->zct x v->zct y u->R x y H2->wpAny (model X.prog X.w) X.A (f v u) Q X.xe s2) :
  wpAny (model X.prog X.w) X.A (eval a X.env) (fun v s₁=>wpAny (model X.prog X.w) X.A (eval b X.env) (fun u s₂=>wpAny (model X.prog X.w) X.A (f v u) Q X.xe s₂) X.xe s₁) X.xe s:=by
 refine thn (ha pins s σ H _ I h) fun v s1 ⟨x,H1,I1,r1,q1⟩=>?_
 refine thn (hb pins s1 σ H1 _ I1 q1) fun u s2 ⟨y,H2,I2,r2,q2⟩=>?_
 exact hf v u s2 x y H2 I2 r1 r2 q2
theorem zvz {op:Operator}{r:R2}(ho:OpR X (binaryOp op) r)(ha:PE X a ta)(hb:PE X b tb):PE X (.BinOp a op b pos) (tOp r ta tb):=by
 intro pins s σ H Q I h
 exact wpAny_BinOp (zzD ha hb I h fun v u s2 x y H2 I2 rx ry q=>ho pins s2 σ H2 x y v u Q I2 rx ry q)
theorem zxs {op:UnaryOp}{r:V->Hp->VK->Prop}(ho:UnR X (unaryOp op) r)(ha:PE X a ta):PE X (.UnaryOp op a pos) (tUn r ta):=by
 intro pins s σ H Q I h
 exact UnaryOp_ (thn (ha pins s σ H _ I h) fun v s1 ⟨x,H1,I1,r1,q1⟩=>ho pins s1 σ H1 x v Q I1 r1 q1)
theorem opI {f:Value->Value->Sem Value}{C:Int->Int->Prop}{g:Int->Int->Int}
  (rule:∀ (i j:Int) (t u:Tok) (s:Shared) (Q:Value->Shared->Prop) (E:Value->Shared->Prop),C i j->Q (.int (g i j) s.toks) { s with toks:=s.toks+1 }->wpAny (model X.prog X.w) X.A (f (.int i t) (.int j u)) Q E s) :
  OpR X f (rI C fun i j=>.int (g i j)):=by
 intro pins s σ H x y v u Q I rx ry h
 obtain⟨i,j,rfl,rfl,hc,q⟩:=h
 obtain⟨t,rfl⟩:=rx
 obtain⟨t',rfl⟩:=ry
 exact rule i j t t' s _ _ hc ⟨.int (g i j),H,I.tok _,⟨_,rfl⟩,q⟩
theorem zzc {f:Value->Value->Sem Value}{g:Int->Int->Int}
  (rule:∀ (i j:Int) (t u:Tok) (s:Shared) (Q:Value->Shared->Prop) (E:Value->Shared->Prop),Q (.int (g i j) s.toks) { s with toks:=s.toks+1 }->wpAny (model X.prog X.w) X.A (f (.int i t) (.int j u)) Q E s) :
  OpR X f (rI0 fun i j=>.int (g i j)):=by
 intro pins s σ H x y v u Q I rx ry h
 obtain⟨i,j,rfl,rfl,q⟩:=h
 obtain⟨t,rfl⟩:=rx
 obtain⟨t',rfl⟩:=ry
 exact rule i j t t' s _ _ ⟨.int (g i j),H,I.tok _,⟨_,rfl⟩,q⟩
theorem zyA {f:Value->Value->Sem Value}{g:Int->Int->Bool}
  (rule:∀ (i j:Int) (t u:Tok) (s:Shared) (Q:Value->Shared->Prop) (E:Value->Shared->Prop),Q (.bool (g i j)) s->wpAny (model X.prog X.w) X.A (f (.int i t) (.int j u)) Q E s) :
  OpR X f (rI0 fun i j=>.bl (g i j)):=by
 intro pins s σ H x y v u Q I rx ry h
 obtain⟨i,j,rfl,rfl,q⟩:=h
 obtain⟨t,rfl⟩:=rx
 obtain⟨t',rfl⟩:=ry
 exact rule i j t t' s _ _ ⟨.bl (g i j),H,I,rfl,q⟩
def zAI (i j:Int):Prop:=0<=j/\j<=1000000/\i.natAbs < 2 ^ 64
def zz4 (i j:Int):Prop:=(-(2 ^ 64) < i/\i < 2 ^ 64)∨(-(2 ^ 64) < j/\j < 2 ^ 64)
theorem zz4.ok {i j:Int}(h:zz4 i j):IntMulOk i j:=by
 rcases h with⟨h1,h2⟩ | ⟨h1,h2⟩
 ·exact .of_left (intBits_le_64 h1 h2)
 ·exact .of_right (intBits_le_64 h1 h2)
theorem zpA (k:Nat):(0:Int)<=2 ^ k:=by
 rw[two_pow_cast]
 exact Int.natCast_nonneg _
theorem zxL:OpR X (binaryOp .Add) (rI0 fun i j=>.int (i+j)):=zzc fun _ _ _ _ _ _ _ q=>add_int q
theorem zxE:OpR X (binaryOp .Sub) (rI0 fun i j=>.int (i-j)):=zzc fun _ _ _ _ _ _ _ q=>sub_int q
theorem zvE:OpR X (binaryOp .Mod) (rI (fun _ j=>j≠0) fun i j=>.int (i.fmod j)):=opI fun _ _ _ _ _ _ _ hc q=>mod_int' hc q
theorem zxH:OpR X (binaryOp .Pow) (rI zAI fun i j=>.int (i ^ j.toNat)):=opI fun _ _ _ _ _ _ _ hc q=>pow_int_small hc.1 hc.2.1 hc.2.2 q
theorem zxF:OpR X (binaryOp .RShift) (rI (fun _ j=>0<=j) fun i j=>.int (i / 2 ^ j.toNat)):=opI fun i j _ _ _ _ _ hc q =>
 rshift_int hc (by rw[Int.fdiv_eq_ediv_of_nonneg i (zpA _)];exact q)
theorem zxK:OpR X (binaryOp .BitAnd) (rI0 fun i j=>.int (Builtin.bitAnd i j)):=zzc fun _ _ _ _ _ _ _ q=>and_int q
theorem unI {f:Value->Sem Value}{g:Int->Int}
  (rule:∀ (i:Int) (t:Tok) (s:Shared) (Q:Value->Shared->Prop) (E:Value->Shared->Prop),Q (.int (g i) s.toks) { s with toks:=s.toks+1 }->wpAny (model X.prog X.w) X.A (f (.int i t)) Q E s) :
  UnR X f (rU fun i=>.int (g i)):=by
 intro pins s σ H x v Q I rx h
 obtain⟨i,rfl,q⟩:=h
 obtain⟨t,rfl⟩:=rx
 exact rule i t s _ _ ⟨.int (g i),H,I.tok _,⟨_,rfl⟩,q⟩
theorem zum:UnR X (unaryOp .USub) (rU fun i=>.int (-i)):=unI fun _ _ _ _ _ q=>neg_int q
end
section
variable {X:Cx}{a b c:Expr}{ta tb tc:TE}{pos:Pos}
theorem zrX {pins:List (Addr×Obj)}{σ:St}{H:Hp}{s:Shared}{Q:VK}{k k':Bool}(I:Inv X pins σ H s)(q:Q (.bl k) H)(e:k=k'):EP X pins σ Q (.bool k') s:=by
 subst e
 exact⟨.bl k,H,I,rfl,q⟩
theorem zvF:OpR X (compareOp .Lt) (rI0 fun i j=>.bl (decide (i < j))):=zyA fun _ _ _ _ _ _ _ q=>lt_int q
theorem zpN:OpR X (compareOp .LtE) (rI0 fun i j=>.bl (decide (i<=j))):=zyA fun _ _ _ _ _ _ _ q=>le_int q
theorem ztv:OpR X (compareOp .Gt) (rI0 fun i j=>.bl (decide (j < i))):=zyA fun _ _ _ _ _ _ _ q=>gt_int q
theorem zvG:OpR X (compareOp .GtE) (rI0 fun i j=>.bl (decide (j<=i))):=zyA fun _ _ _ _ _ _ _ q=>ge_int q
theorem zrr:OpR X (compareOp .In) (fun x y H Q=>∃ i j,x=.str i/\y=.str j/\Q (.bl (!(Builtin.Str.occurrences j i 0 j.length 1).isEmpty)) H):=by
 intro pins s σ H x y v u Q I rx ry h
 obtain⟨i,j,rfl,rfl,q⟩:=h
 obtain⟨t,rfl⟩:=rx
 obtain⟨t',rfl⟩:=ry
 exact in_str (zrX I q rfl)
theorem zrq:OpR X (compareOp .Is) (fun x y H Q=>y=.non/\Q (.bl (decide (x=.non))) H):=by
 intro pins s σ H x y v u Q I rx ry h
 obtain⟨rfl,q⟩:=h
 cases ry
 refine is_none_gen (zrX I q ?_)
 cases x<;>first
  | (cases rx;rfl)
  | (obtain⟨t,rfl⟩:=rx;rfl)
theorem zvC:OpR X (compareOp .IsNot) (fun x y H Q=>y=.non/\Q (.bl (!decide (x=.non))) H):=by
 intro pins s σ H x y v u Q I rx ry h
 obtain⟨rfl,q⟩:=h
 cases ry
 refine isnot_none_gen (zrX I q ?_)
 cases x<;>first
  | (cases rx;rfl)
  | (obtain⟨t,rfl⟩:=rx;rfl)
theorem OpR.or {f:Value->Value->Sem Value}{r r':R2}(h:OpR X f r)(h':OpR X f r'):OpR X f (fun x y H Q=>r x y H Q∨r' x y H Q):=by
 intro pins s σ H x y v u Q I rx ry q
 rcases q with q | q
 ·exact h pins s σ H x y v u Q I rx ry q
 ·exact h' pins s σ H x y v u Q I rx ry q
theorem zvA {op:CmpOp}{r:R2}(ho:OpR X (compareOp op) r)(ha:PE X a ta)(hb:PE X b tb)(hm:behindInMarks op b=false):PE X (.Compare a [op] [b] pos) (tOp r ta tb):=by
 intro pins s σ H Q I h
 exact wpAny_Compare1 (zzD ha hb I h fun v u s2 x y H2 I2 rx ry q=>ho pins s2 σ H2 x y v u Q I2 rx ry q) hm
def zwY (t:TE):TT:=fun σ H Q=>t σ H fun x H'=>∃ k,x=.bl k/\Q k H'
theorem zvp {op:CmpOp}{r:R2}(ho:OpR X (compareOp op) r)(ha:PE X a ta)(hb:PE X b tb)(hm:behindInMarks op b=false):PT X (.Compare a [op] [b] pos) (zwY (tOp r ta tb)):=by
 intro pins s σ H Q I h
 refine wpAny_isTrue_Compare1 (thn (ha pins s σ H _ I h) fun v s1 ⟨x,H1,I1,r1,q1⟩=>thn (hb pins s1 σ H1 _ I1 q1) fun u s2 ⟨y,H2,I2,r2,q2⟩ =>
  thn (ho pins s2 σ H2 x y v u _ I2 r1 r2 q2) fun c s3 ⟨z,H3,I3,r3,k,e,q3⟩=>?_) hm
 subst e
 cases r3
 exact wpAny_truthy_bool ⟨H3,I3,q3⟩
def zqP (r r':R2)(ta tb tc:TE):TE:=fun σ H Q=>ta σ H fun x H1=>tb σ H1 fun y H2=>r x y H2 fun z H3=>∃ k,z=.bl k /\
 (if k=true then tc σ H3 fun w' H4=>r' y w' H4 Q else Q (.bl false) H3)
theorem ztt {op op':CmpOp}{r r':R2}(ho:OpR X (compareOp op) r)(ho':OpR X (compareOp op') r')(ha:PE X a ta)(hb:PE X b tb)(hc:PE X c tc)
  (hm:lastMarks [op,op'] [b,c]=false:=by with_unfolding_all rfl):PE X (.Compare a [op,op'] [b,c] pos) (zqP r r' ta tb tc):=by
 intro pins s σ H Q I h
 refine Compare_chain (thn (ha pins s σ H _ I h) fun v s1 ⟨x,H1,I1,r1,q1⟩=>chain_link (thn (hb pins s1 σ H1 _ I1 q1) fun u s2 ⟨y,H2,I2,r2,q2⟩ =>
  thn (ho pins s2 σ H2 x y v u _ I2 r1 r2 q2) fun d s3 ⟨z,H3,I3,r3,k,e,q3⟩=>?_)) hm
 subst e
 cases r3
 refine wpAny_truthy_bool ?_
 cases k with
 | false=>exact ite_ff ⟨.bl false,H3,I3,rfl,q3⟩
 | true=>exact ite_tt (chain_last (thn (hc pins s3 σ H3 _ I3 q3) fun w' s4 ⟨z',H4,I4,r4,q4⟩=>ho' pins s4 σ H4 y z' u w' Q I4 r2 r4 q4))
theorem ztl {op op':CmpOp}{r r':R2}(ho:OpR X (compareOp op) r)(ho':OpR X (compareOp op') r')(ha:PE X a ta)(hb:PE X b tb)(hc:PE X c tc)
  (hm:lastMarks [op,op'] [b,c]=false:=by with_unfolding_all rfl):PT X (.Compare a [op,op'] [b,c] pos) (zwY (zqP r r' ta tb tc)):=by
 intro pins s σ H Q I h
 refine isTrue_chain (thn (ha pins s σ H _ I h) fun v s1 ⟨x,H1,I1,r1,q1⟩=>test_link (thn (hb pins s1 σ H1 _ I1 q1) fun u s2 ⟨y,H2,I2,r2,q2⟩ =>
  thn (ho pins s2 σ H2 x y v u _ I2 r1 r2 q2) fun d s3 ⟨z,H3,I3,r3,k,e,q3⟩=>?_)) hm
 subst e
 cases r3
 refine wpAny_truthy_bool ?_
 cases k with
 | false =>
  obtain⟨k',e',q'⟩:=q3
  cases e'
  exact ite_ff ⟨H3,I3,q'⟩
 | true =>
  refine ite_tt (test_last (thn (hc pins s3 σ H3 _ I3 q3) fun w' s4 ⟨z',H4,I4,r4,q4⟩=>thn (ho' pins s4 σ H4 y z' u w' _ I4 r2 r4 q4) fun d' s5 ⟨z2,H5,I5,r5,k2,e2,q5⟩=>?_))
  subst e2
  cases r5
  exact wpAny_truthy_bool ⟨H5,I5,q5⟩
def zAE (K:W.Frag)(x:V)(H:Hp)(k:Bool):Prop :=
 match x with
 | .non=>k=false
 | .bl b=>k=b
 | .int i=>k=(i != 0)
 | .str y=>y.length<=sizeLine/\k=((y.length:Int) != 0)
 | .byt y=>y.size<=sizeLine/\k=((y.size:Int) != 0)
 | .ref p=>(∃ xs,SqL K H p xs/\k=!xs.isEmpty)∨(∃ xs,SqT K H p xs/\k=!xs.isEmpty)∨∃ kvs,H p=some (.dK kvs)/\k=!kvs.isEmpty
 | _=>False
theorem zp0 {κ:Type}{kvs:List (κ×V)}{vs:List (κ×Value)}(r:KV kvs vs):(!vs.isEmpty)=!kvs.isEmpty:=by
 cases r<;>rfl
theorem zkQ {xs:List V}{its:List Value}(r:zbT xs its):(!its.toArray.isEmpty)=!xs.isEmpty:=by
 cases r<;>simp
theorem zmT:(sizeLine:Nat) < 2 ^ 63:=by rw[sizeLine_eq];decide
theorem zzI:zAF X (fun x H Q=>∃ k,zAE X.K x H k/\Q k H):=by
 intro pins s σ H x v Q I rx h
 obtain⟨k,e,q⟩:=h
 have hl:=zmT
 have hs:sizeLine=16777216:=sizeLine_eq
 cases x with
 | non =>
  cases rx
  have e':k=false:=e
  subst e'
  exact truthy_none ⟨H,I,q⟩
 | bl b =>
  cases rx
  have e':k=b:=e
  subst e'
  exact wpAny_truthy_bool ⟨H,I,q⟩
 | int i =>
  obtain⟨t,rfl⟩:=rx
  have e':k=(i != 0):=e
  subst e'
  exact PySem.P.truthy_int ⟨H,I,q⟩
 | str y =>
  obtain⟨t,rfl⟩:=rx
  obtain⟨hy,e'⟩:y.length<=sizeLine/\k=((y.length:Int) != 0):=e
  subst e'
  exact PySem.P.truthy_str (by omega) ⟨H,I.tok _,q⟩
 | byt y =>
  obtain⟨t,rfl⟩:=rx
  obtain⟨hy,e'⟩:y.size<=sizeLine/\k=((y.size:Int) != 0):=e
  subst e'
  exact W.truthy_bytes (by omega) ⟨H,I.tok _,q⟩
 | ref p =>
  cases rx
  have e':(∃ xs,SqL X.K H p xs/\k=!xs.isEmpty)∨(∃ xs,SqT X.K H p xs/\k=!xs.isEmpty)∨∃ kvs,H p=some (.dK kvs)/\k=!kvs.isEmpty:=e
  rcases e' with⟨xs,hx,e'⟩ | ⟨xs,hx,e'⟩ | ⟨kvs,hx,e'⟩
  ·subst e'
   obtain⟨its,r,pl,hz⟩:=I.list hx
   have hlen:=r.length
   exact wpAny_truthy_list pl.isList (by simp only[List.size_toArray];omega) ⟨H,I.tok _,by rw[zkQ r];exact q⟩
  ·subst e'
   obtain⟨its,r,pl,hz⟩:=I.tuple hx
   have hlen:=r.length
   exact truthy_tuple pl (by simp only[List.size_toArray];omega) ⟨H,I.tok _,by rw[zkQ r];exact q⟩
  ·subst e'
   obtain⟨hz,hS,vs,r,m⟩:kvs.length<=sizeLine/\(p==sysModules)=false/\∃ vs,KV kvs vs/\s.heap.DictOf (zn7 X.prog X.w) p vs:=I.hok p _ hx
   have hlen:kvs.length=vs.length:=Paired.length r
   exact wpAny_truthy_dict hS m (by omega) ⟨H,I.tok _,by rw[zp0 r];exact q⟩
 | _=>exact(show False from e).elim
theorem zpO:OpR X (binaryOp .Add) (fun x y H Q=>∃ i j,x=.str i/\y=.str j/\i.length+j.length<=sizeLine/\Q (.str (i++j)) H):=by
 intro pins s σ H x y v u Q I rx ry h
 obtain⟨i,j,rfl,rfl,hz,q⟩:=h
 obtain⟨t,rfl⟩:=rx
 obtain⟨t',rfl⟩:=ry
 exact add_str (fun t' tk=>⟨.str (i++j),H,I.tok _,⟨_,rfl⟩,q⟩) hz
theorem zqD {x:V}{us:List Value}(r:zbT [x] us):∃ u,us=[u]/\zct x u:=by
 cases r with
 | cons r1 r2=>cases r2;exact⟨_,rfl,r1⟩
theorem zyI {x y:V}{us:List Value}(r:zbT [x,y] us):∃ u w',us=[u,w']/\zct x u/\zct y w':=by
 cases r with
 | cons r1 r2 =>
  cases r2 with
  | cons r3 r4=>cases r4;exact⟨_,_,rfl,r1,r3⟩
theorem zhU:zkg X (.builtin "abs") (fun xs H Q=>∃ i,xs=[.int i]/\Q (.int (if i < 0 then -i else i)) H):=by
 intro pins s σ H xs us Q I r h
 obtain⟨i,rfl,q⟩:=h
 obtain⟨u,rfl,t,rfl⟩:=zqD r
 exact call_abs_int fun u tk=>⟨.int (if i < 0 then -i else i),H,I.tok _,⟨_,rfl⟩,q⟩
theorem zsq (hc:X.calm=true):zkg X (.builtin "min") (fun xs H Q=>∃ i j,xs=[.int i,.int j]/\Q (.int (if j < i then j else i)) H):=by
 intro pins s σ H xs us Q I r h
 obtain⟨i,j,rfl,q⟩:=h
 obtain⟨u,w',rfl,⟨t,rfl⟩,⟨t',rfl⟩⟩:=zyI r
 refine min_two_ints (I.ok.hd hc) fun h' tk k=>⟨_,H,I.kept k,?_,q⟩
 by_cases hj:j < i
 ·rw[if_pos hj,if_pos hj];exact⟨_,rfl⟩
 ·rw[if_neg hj,if_neg hj];exact⟨_,rfl⟩
def zz3 (K:W.Frag)(x:V)(H:Hp)(n:Nat):Prop :=
 match x with
 | .str y=>y.length<=sizeLine/\n=y.length
 | .byt y=>y.size<=sizeLine/\n=y.size
 | .ref p=>(∃ xs,SqL K H p xs/\n=xs.length)∨∃ xs,SqT K H p xs/\n=xs.length
 | _=>False
theorem za5:zkg X (.builtin "len") (fun xs H Q=>∃ x n,xs=[x]/\zz3 X.K x H n/\Q (.int n) H):=by
 intro pins s σ H xs us Q I r h
 obtain⟨x,n,rfl,e,q⟩:=h
 obtain⟨u,rfl,rx⟩:=zqD r
 have hl:=zmT
 have hs:sizeLine=16777216:=sizeLine_eq
 cases x with
 | str y =>
  obtain⟨t,rfl⟩:=rx
  obtain⟨hy,e'⟩:y.length<=sizeLine/\n=y.length:=e
  subst e'
  exact len_str (by omega) ⟨.int _,H,I.tok _,⟨_,rfl⟩,q⟩
 | byt y =>
  obtain⟨t,rfl⟩:=rx
  obtain⟨hy,e'⟩:y.size<=sizeLine/\n=y.size:=e
  subst e'
  exact W.len_bytes (by omega) ⟨.int _,H,I.tok _,⟨_,rfl⟩,q⟩
 | ref p =>
  cases rx
  have e':(∃ xs,SqL X.K H p xs/\n=xs.length)∨∃ xs,SqT X.K H p xs/\n=xs.length:=e
  rcases e' with⟨xs,hx,e'⟩ | ⟨xs,hx,e'⟩
  ·subst e'
   obtain⟨its,r',pl,hz⟩:=I.list hx
   have hlen:=r'.length
   exact Calls.call_len_list pl.isList (by simp only[List.size_toArray];omega) ⟨.int xs.length,H,I.tok _,⟨_,by simp only[List.size_toArray];rw[hlen]⟩,q⟩
  ·subst e'
   obtain⟨its,r',pl,hz⟩:=I.tuple hx
   have hlen:=r'.length
   exact len_tuple pl (by simp only[List.size_toArray];omega) ⟨.int xs.length,H,I.tok _,⟨_,by simp only[List.size_toArray];rw[hlen]⟩,q⟩
 | _=>exact(show False from e).elim
end
structure zzF (h:Heap) (x dx C:Addr) (mA:Str->Option Value):Prop where
 obj:h.get? x=some (W.instObj C dx)
 ns:h.Ns1 dx mA
 ne:dx≠x
theorem zmS {h:Heap}{dx:Addr}{mA:Str->Option Value}(n:h.Ns1 dx mA):∃ od,h.get? dx=some od/\∀ name,W.lookIn name od=some (mA name):=by
 obtain⟨o,es,ep,ho,hd,hk,_,hm⟩:=n
 refine⟨o,ho,fun name=>?_⟩
 have e:=hm name
 unfold nsFind findBy at e
 rw[← Array.find?_toList] at e
 unfold W.lookIn
 rw[hd]
 dsimp only
 split
 ·rename_i y q
  rw[q] at e
  exact congrArg some e
 ·rename_i q
  rw[q] at e
  have a:es.toList.any (·.refKey)=false:=by
   rw[List.any_eq_false]
   intro y hy
   obtain⟨z,t,hkey⟩:=hk y (Array.mem_toList_iff.mp hy)
   simp [DictEntry.refKey,hkey]
  have a':¬ es.toList.any (·.refKey)=true:=by rw[a];exact Bool.false_ne_true
  rw[if_neg a']
  exact congrArg some e
theorem zzF.look {h:Heap}{x dx C:Addr}{mA:Str->Option Value}(I:zzF h x dx C mA):∃ od,W.InstAt h x (W.instObj C dx) C (some od)/\∀ name,W.lookIn name od=some (mA name) :=
 let ⟨od,ho,hl⟩:=zmS I.ns
 ⟨od,⟨I.obj,rfl,rfl,ho⟩,hl⟩
section
variable {prog:Program}{w:World}{A:Around}{E:Value->Shared->Prop}{s:Shared}{K:W.Frag}{x dx C f:Addr}{mA:Str->Option Value}{name:Str}{v:Value}
end
def znx (f:Str)(v:V):List (Str×V)->List (Str×V)
 | []=>[(f,v)]
 | (g,x)::r=>if g=f then(g,v)::r else(g,x)::znx f v r
theorem zjw (f g:Str)(v:V):∀ fs:List (Str×V),(znx f v fs).lookup g=if g=f then some v else fs.lookup g
 | []=>by
  show List.lookup g [(f,v)]=_
  by_cases h:g=f
  ·have hb:(g==f)=true:=beq_iff_eq.mpr h
   simp only[List.lookup,hb,if_pos h]
  ·have hb:(g==f)=false:=beq_eq_false_iff_ne.mpr h
   simp only[List.lookup,hb,if_neg h]
 | (k,x)::r=>by
  have ih:=zjw f g v r
  rw[show znx f v ((k,x)::r)=(if k=f then(k,v)::r else(k,x)::znx f v r) from rfl]
  by_cases hk:k=f
  ·rw[if_pos hk]
   by_cases h:g=k
   ·have hb:(g==k)=true:=beq_iff_eq.mpr h
    simp only[List.lookup,hb,if_pos (h.trans hk)]
   ·have hb:(g==k)=false:=beq_eq_false_iff_ne.mpr h
    simp only[List.lookup,hb,if_neg (fun e:g=f=>h (e.trans hk.symm))]
  ·rw[if_neg hk]
   by_cases h:g=k
   ·have hb:(g==k)=true:=beq_iff_eq.mpr h
    simp only[List.lookup,hb,if_neg (fun e:g=f=>hk (h.symm.trans e))]
   ·have hb:(g==k)=false:=beq_eq_false_iff_ne.mpr h
    simp only[List.lookup,hb]
    exact ih
theorem zjF (f:Str)(v:V):∀ fs:List (Str×V),f∈(znx f v fs).map (·.1)/\∀ g,g∈fs.map (·.1)->g∈(znx f v fs).map (·.1)
 | []=>⟨by simp [znx],fun g h=>by simp at h⟩
 | (k,x)::r=>by
  obtain⟨i1,i2⟩:=zjF f v r
  rw[show znx f v ((k,x)::r)=(if k=f then(k,v)::r else(k,x)::znx f v r) from rfl]
  by_cases hk:k=f
  ·rw[if_pos hk]
   subst hk
   exact⟨by simp,fun g h=>by simpa using h⟩
  ·rw[if_neg hk]
   refine⟨?_,fun g h=>?_⟩
   ·rw[List.map_cons]
    exact List.mem_cons_of_mem _ i1
   ·rw[List.map_cons] at h ⊢
    rcases List.mem_cons.mp h with e | e
    ·exact List.mem_cons.mpr (.inl e)
    ·exact List.mem_cons_of_mem _ (i2 g e)
section
variable {P:Program}{w:World}{H H':Hp}{h h':Heap}{a C dx:Addr}{fs fs':List (Str×V)}
theorem zrN (hok:HOk P w H h)(e:H a=some (.ins C dx fs)):∃ mA,zzF h a dx C mA/\(∀ f,zys (fs.lookup f) (mA f))/\PySem.Within mA (fs.map (·.1))/\fs.length<=1000/\H dx=some (.own a):=by
 obtain⟨d,z,ne,ob,mA,n,r,q⟩:=(show zb8 P w H h a (.ins C dx fs) from hok a _ e)
 exact⟨mA,⟨ob,n,ne⟩,r,q,z,d⟩
end
structure Cls (K:W.Frag) (C:Addr):Prop where
 pg:W.plainGet K C Str.empty=true
 hd:W.hasDictIn K C=true
 po:W.plainOver K C=true
 sa:W.findIn K (.ref C) "__setattr__"=some (some (.builtin "object.__setattr__"))
theorem Cls.get {K:W.Frag}{C:Addr}(c:Cls K C)(f:Str):W.plainGet K C f=true:=c.pg
def zk0 (K:W.Frag)(C:Addr)(f:Str):Prop:=W.findIn K (.ref C) f=some none
section
variable {X:Cx}{pins:List (Addr×Obj)}{σ:St}{H:Hp}{s:Shared}{a C dx:Addr}{fs:List (Str×V)}{f:Str}{v:V}{A:Around}{E:Value->Shared->Prop}
end
section
variable {X:Cx}{o e value:Expr}{f:Str}{pos pos' tpos:Pos}{ta tv:TE}
end
section
variable {X:Cx}{pins:List (Addr×Obj)}{σ:St}{H:Hp}{s:Shared}{A:Around}{E:Value->Shared->Prop}{Q:Value->Shared->Prop}{c:Value}{b:Bool}
inductive zqk (K:W.Frag) (H:Hp):V->Value->Prop where
 | non:zqk K H .non (.type "NoneType")
 | bl (x:Bool):zqk K H (.bl x) (.type "bool")
 | int (i:Int):zqk K H (.int i) (.type "int")
 | str (x:Str):zqk K H (.str x) (.type "str")
 | flt (x:UInt64):zqk K H (.flt x) (.type "float")
 | lst {a:Addr}{xs:List V}(e:H a=some (.lst xs)):zqk K H (.ref a) (.type "list")
 | frz {a:Addr}{o:Obj}{xs:List V}(e:H a=some (.frz o (.lst xs))):zqk K H (.ref a) (.type "list")
 | tup {a:Addr}{xs:List V}(e:H a=some (.tup xs)):zqk K H (.ref a) (.type "tuple")
 | dK {a:Addr}{kvs:List (Key×V)}(e:H a=some (.dK kvs)):zqk K H (.ref a) (.type "dict")
 | dT {a:Addr}{kvs:List (List Key×V)}(e:H a=some (.dT kvs)):zqk K H (.ref a) (.type "dict")
 | ins {a C dx:Addr}{fs:List (Str×V)}(e:H a=some (.ins C dx fs)) (cl:Cls K C) (ha:W.findIn K (.ref C) "__class__"=some (some (.builtin "object.__class__")))
   (hn:W.specialIn K (.builtin "object.__class__") "__get__"=some (some (.builtin "getset_descriptor.__get__"))) (htk:W.takesIn K (.builtin "object.__class__")=some true)
   (hm:W.mroIn K C (.type "object")=some true):zqk K H (.ref a) (.ref C)
theorem zhL {x:V}{u t:Value}(I:Inv X pins σ H s)(rx:zct x u)(ty:zqk X.K H x t)(e:W.kitOne X.K t c=some b)(h:∀ tk,Q (.bool b) { s with toks:=tk }) :
  wpAny (model X.prog X.w) A (call (.builtin "isinstance") [u,c]) Q E s:=by
 cases ty with
 | non=>cases (show u=Value.none from rx);exact W.kia_one W.kitx_none I.kIn True.intro e (fun z=>nomatch z) h
 | bl y=>cases (show u=Value.bool y from rx);exact W.kia_one W.kitx_bool I.kIn True.intro e (fun z=>nomatch z) h
 | int i=>obtain⟨t,q⟩:=(show ∃ t,u=Value.int i t from rx);cases q;exact W.kia_one W.kitx_int I.kIn True.intro e (fun z=>nomatch z) h
 | str y=>obtain⟨t,q⟩:=(show ∃ t,u=Value.str y t from rx);cases q;exact W.kia_one W.kitx_str I.kIn True.intro e (fun z=>nomatch z) h
 | flt y=>obtain⟨t,q⟩:=(show ∃ t,u=Value.float y t from rx);cases q;exact W.kia_one W.kitx_float I.kIn True.intro e (fun z=>nomatch z) h
 | @lst a xs ea =>
  cases (show u=Value.ref a from rx)
  obtain⟨_,_,n,_,h1⟩:=(show zb8 X.prog X.w H s.heap a (.lst xs) from I.hok a _ ea)
  exact W.kia_one W.kitx_list I.kIn ⟨_,h1,rfl⟩ e (fun z=>nomatch z) h
 | @frz a ob xs ea =>
  cases (show u=Value.ref a from rx)
  obtain⟨_,_,_,n,_,h1⟩:=(show zb8 X.prog X.w H s.heap a (.frz ob (.lst xs)) from I.hok a _ ea)
  exact W.kia_one W.kitx_list I.kIn ⟨_,h1,rfl⟩ e (fun z=>nomatch z) h
 | @tup a xs ea =>
  cases (show u=Value.ref a from rx)
  obtain⟨_,_,_,p⟩:=(show zb8 X.prog X.w H s.heap a (.tup xs) from I.hok a _ ea)
  obtain⟨o,h1,h2,_⟩:=p
  exact W.kia_one W.kitx_tuple I.kIn ⟨o,h1,h2⟩ e (fun z=>nomatch z) h
 | @dK a kvs ea =>
  cases (show u=Value.ref a from rx)
  obtain⟨_,_,vs,_,p⟩:=(show zb8 X.prog X.w H s.heap a (.dK kvs) from I.hok a _ ea)
  obtain⟨o,es,ep,h1,h2,_⟩:=p
  exact W.kia_one W.kitx_dict I.kIn ⟨o,h1,h2.1⟩ e (fun z=>nomatch z) h
 | @dT a kvs ea =>
  cases (show u=Value.ref a from rx)
  obtain⟨_,_,xs,_,o,es,ep,h1,h2,_⟩:=(show zb8 X.prog X.w H s.heap a (.dT kvs) from I.hok a _ ea)
  exact W.kia_one W.kitx_dict I.kIn ⟨o,h1,h2.1⟩ e (fun z=>nomatch z) h
 | @ins a C dx fs ea cl ha hn htk hm =>
  cases (show u=Value.ref a from rx)
  obtain⟨mA,O,_⟩:=zrN I.hok ea
  obtain⟨od,J,_⟩:=O.look
  exact W.kia_one (W.kitx_own (cl.get _) cl.hd ha hn htk hm) I.kIn J e (fun z=>nomatch z) h
end
structure zhz (k:Nat) (A:Around):Prop where
 hd:A.handled=none
 dp:A.depth+3*k+5 < recursionLimit
 un:A.units+16*k+200 < cLine
theorem zhz.mono {j k:Nat}{A:Around}(r:zhz k A)(h:j<=k):zhz j A:=⟨r.hd,by have:=r.dp;omega,by have:=r.un;omega⟩
theorem zhz.deeper {k:Nat}{A:Around}(r:zhz (k+1) A)(env:Env):zhz k (A.deeper env) :=
 ⟨r.hd,by have:=r.dp;show A.depth+1+3*k+5 < _;omega,by have:=r.un;show A.units+3+16*k+200 < _;omega⟩
theorem zpT {A:Around}{C:Addr}{us:List Value}{kw:List (Str×Value)}:(A.under (.builtin "type.__call__" ⟨.ref C::us,kw⟩)).depth=A.depth+1:=by
 first | rfl | simp [Around.under,Code.weight,Code.isCreation,Code.isGuard,Code.isCaller,Code.frames,Code.isFrame,guardIds]
theorem zpS {A:Around}{C:Addr}{us:List Value}{kw:List (Str×Value)}:(A.under (.builtin "type.__call__" ⟨.ref C::us,kw⟩)).units=A.units+1:=by
 first | rfl | simp [Around.under,Code.cUnits,Code.frames,Code.isFrame]
theorem zhz.make {k:Nat}{A:Around}(r:zhz (k+1) A)(C:Addr)(us:List Value)(kw:List (Str×Value)):zhz k (A.under (.builtin "type.__call__" ⟨.ref C::us,kw⟩)) :=
 ⟨r.hd,by have:=r.dp;rw[zpT];omega,by have:=r.un;rw[zpS];omega⟩
theorem zhz.depth {k:Nat}{A:Around}(r:zhz k A):A.depth < recursionLimit:=by have:=r.dp;omega
theorem zhz.units {k:Nat}{A:Around}(r:zhz k A):A.units+64 < cLine:=by have:=r.un;omega
def zAf:TA:=fun _ H Q=>Q [] H
def zyQ (ta:TE)(tr:TA):TA:=fun σ H Q=>ta σ H fun x H1=>tr σ H1 fun xs H2=>Q (x::xs) H2
section
variable {X:Cx}{e:Expr}{es:List Expr}{te:TE}{t:TA}{pos:Pos}
theorem ziD:PA X [] zAf:=fun _ _ _ _ H Q I h=>Calls.spliced_nil ⟨[],H,I,.nil,h⟩
theorem zeY (ha:PE X e te)(hr:PA X es t)(hs:starEach (e::es) X.env=(false,eval e X.env)::starEach es X.env:=by rfl):PA X (e::es) (zyQ te t):=by
 intro pos pins s σ H Q I h
 rw[hs]
 show wpAny _ _ (spliced ((false,eval e X.env)::backTo pos (starEach es X.env))) _ _ s
 refine Calls.spliced_cons (thn (ha pins s σ H _ I h) fun u s1 ⟨x,H1,I1,r1,q1⟩=>?_)
 exact thn (hr pos pins s1 σ H1 _ I1 q1) fun us s2 ⟨xs,H2,I2,r2,q2⟩=>⟨x::xs,H2,I2,.cons r1 r2,q2⟩
def zz8 (t:TA):TE:=fun σ H Q=>t σ H fun xs H1=>xs.length<=sizeLine/\∀ p,H1 p=none->Q (.ref p) (upd H1 p (.tup xs))
def zAg (t:TA):TE:=fun σ H Q=>t σ H fun xs H1=>xs.length<=sizeLine/\∀ p,H1 p=none->Q (.ref p) (upd H1 p (.lst xs))
theorem zxt {x1}(h:PA X es t):PE X (.Tuple es x1 pos) (zz8 t):=by
 intro pins s σ H Q I hq
 refine wpAny_Tuple_spliced (thn (h pos pins s σ H _ I hq) fun us s1 ⟨xs,H1,I1,r,z,q⟩=>⟨by rw[← r.length];exact z,?_⟩)
 have hf:H1 s1.heap.objs.size=none:=I1.hok.fresh (Nat.le_refl _)
 refine⟨.ref s1.heap.objs.size,upd H1 s1.heap.objs.size (.tup xs),I1.laid (t':=s1.toks) (fun b u e=>Heap.get?_push_of_some _ e) (Nat.le_refl _) ?_,rfl,q _ hf⟩
 exact⟨z,us,r,⟨_,Heap.get?_push_size _ rfl,rfl,_,rfl⟩⟩
theorem zuu (h:PA X es t):PE X (.List es pos) (zAg t):=by
 intro pins s σ H Q I hq
 refine wpAny_List_spliced (thn (h pos pins s σ H _ I hq) fun us s1 ⟨xs,H1,I1,r,z,q⟩=>⟨by rw[← r.length];exact z,?_⟩)
 have hf:H1 s1.heap.objs.size=none:=I1.hok.fresh (Nat.le_refl _)
 refine⟨.ref s1.heap.objs.size,upd H1 s1.heap.objs.size (.lst xs),I1.laid (t':=s1.toks) (fun b u e=>Heap.get?_push_of_some _ e) (Nat.le_refl _) ?_,rfl,q _ hf⟩
 exact⟨z,us,0,r,Heap.get?_push_size _ rfl⟩
end
abbrev Sp:=List V->Hp->VK->XK->Prop
abbrev CXT:=List Env->Hp->Shared->XK->Value->Shared->Prop
structure zuH (P:Program) (w:World) (K:W.Frag) (mg:Str->Option Value) (base:Heap) (A:Around) (outer:List Env) (s:Shared) (H:Hp):Prop where
 frames:A.frames=some outer
 mod:Mod K mg base
 bs:∀ b o,base.get? b=some o->s.heap.get? b=some o/\H b=none
 bsz:base.objs.size<=s.heap.objs.size
 funs:s.heap.FunFrames base outer
 frf:∀ b∈frs outer,H b=none
 hok:HOk P w H s.heap
 bare:AllBare s.gens
def CE (outer:List Env)(P:Program)(w:World)(H:Hp)(s:Shared)(Q:VK)(u:Value)(s':Shared):Prop :=
 ∃ v H',s'.os=s.os/\AllBare s'.gens/\Un (frs outer) [] H H' s.heap s'.heap/\HOk P w H' s'.heap/\zct v u/\Q v H'
def CR (CX:CXT)(outer:List Env)(P:Program)(w:World)(H:Hp)(s:Shared)(Q:VK)(E:XK)(r:Result)(s':Shared):Prop :=
 match r with
 | .ok (.ret u)=>CE outer P w H s Q u s'
 | .ok _=>False
 | .error e=>CX outer H s E e s'
structure zcL (P:Program) (w:World) (K:W.Frag) (mg:Str->Option Value) (base:Heap) (CX:CXT) (k:Nat) (f:Addr) (fd:FuncData) (ps:List Str) (sp:Sp):Prop where
 len:∀ vs H Q E,sp vs H Q E->vs.length=ps.length
 run:∀ (A:Around) (outer:List Env) (s:Shared) (H:Hp) (args:Args) (us:List Value) (vs:List V) (Q:VK) (E:XK),zhz k A->zuH P w K mg base A outer s H->BindsTo s fd args (ps.zip us)->zbT vs us->sp vs H Q E ->
  codeAny (model P w) A (.call (.ref f) args) (CR CX outer P w H s Q E) s
theorem zcL.mono {P:Program}{w:World}{K:W.Frag}{mg:Str->Option Value}{base:Heap}{CX:CXT}{j k:Nat}{f:Addr}{fd:FuncData}{ps:List Str}{sp:Sp}(F:zcL P w K mg base CX j f fd ps sp)(h:j<=k) :
  zcL P w K mg base CX k f fd ps sp:=⟨F.len,fun A outer s H args us vs Q E hr=>F.run A outer s H args us vs Q E (hr.mono h)⟩
theorem zuH.make {P:Program}{w:World}{K:W.Frag}{mg:Str->Option Value}{base:Heap}{A:Around}{outer:List Env}{s:Shared}{H:Hp}(e:zuH P w K mg base A outer s H)(C:Addr)(us:List Value)(kw:List (Str×Value)) :
  zuH P w K mg base (A.under (.builtin "type.__call__" ⟨.ref C::us,kw⟩)) outer s H:=⟨by first | exact e.frames | (simpa [Around.under,Code.envs,Code.isFrame,pushEnvs] using e.frames),e.mod,e.bs,e.bsz,e.funs,e.frf,e.hok,e.bare⟩
section
variable {X:Cx}{pins:List (Addr×Obj)}{σ:St}{H:Hp}{s s':Shared}
theorem Inv.env0 (I:Inv X pins σ H s):zuH X.prog X.w X.K X.mg X.base X.A X.stack s H :=
 ⟨I.ok.frames,I.ok.mod,I.bs,Nat.le_trans I.ok.bsz I.sz,I.stack,I.stkFree,I.hok,I.bare⟩
theorem Inv.after {Q:VK}{u:Value}(I:Inv X pins σ H s)(h:CE X.stack X.prog X.w H s Q u s'):EP X pins σ Q u s':=by
 obtain⟨v,H',os,bare,un,hok,r,q⟩:=h
 obtain⟨hh,g,d,t,os'⟩:=s'
 obtain rfl:os'=s.os:=os
 exact⟨v,H',I.call (h':=hh) (g':=g) (d':=d) (t':=t) (ch:=[]) un hok bare (fun b z=>absurd z (by simp)),r,q⟩
end
def zyR (sp:Sp)(dvs:List V)(E:XK)(t:TA):TE:=fun σ H Q=>t σ H fun vs H1=>sp (vs++dvs) H1 Q E
def zbg (K:W.Frag)(fd:FuncData)(ps:List Str)(ds:List Value):Prop :=
 ∀ (s:Shared) (us:List Value),K.In s.heap->(us++ds).length=ps.length->BindsTo s fd ⟨us,[]⟩ (ps.zip (us++ds))
theorem zbg.all {K:W.Frag}{fd:FuncData}{ps:List Str}(h:∀ us:List Value,us.length=ps.length->bindArgs fd ⟨us,[]⟩=pure (ps.zip us)):zbg K fd ps []:=fun s us _ hl=>by
 rw[List.append_nil] at hl ⊢
 exact .of_eq (h us hl)
def zkZ (CX:CXT)(X:Cx)(E:XK):Prop:=∀ (pins:List (Addr×Obj)) (σ:St) (H:Hp) (s:Shared) (e:Value) (s':Shared),Inv X pins σ H s->CX X.stack H s E e s'->X.xe e s'
section
variable {X:Cx}{CX:CXT}{k:Nat}{f C:Addr}{fd:FuncData}{ps:List Str}{sp:Sp}{dvs:List V}{ds:List Value}{E:XK}{x m:Str}{p pos apos:Pos}{e o:Expr}{es:List Expr}{ta:TE}{t:TA}
theorem zxd {pins:List (Addr×Obj)}{σ:St}{H:Hp}{s:Shared}{Q:VK}{us:List Value}{vs:List V}(F:zcL X.prog X.w X.K X.mg X.base CX k f fd ps sp)(hr:zhz k X.A)(hb:zbg X.K fd ps ds)(hd:zbT dvs ds)(hx:zkZ CX X E)
  (I:Inv X pins σ H s)(r:zbT vs us)(h:sp (vs++dvs) H Q E):wpAny (model X.prog X.w) X.A (call (.ref f) us) (EP X pins σ Q) X.xe s:=by
 have r2:zbT (vs++dvs) (us++ds):=r.append hd
 have hl:(us++ds).length=ps.length:=by rw[← r2.length];exact F.len _ _ _ _ h
 refine wpAny_call (codeAny_mono (F.run X.A X.stack s H ⟨us,[]⟩ (us++ds) (vs++dvs) Q E hr I.env0 (hb s us I.kIn hl) r2 h) fun r s' hq=>?_)
 cases r with
 | error e=>exact hx pins σ H s e s' I hq
 | ok fl =>
  cases fl with
  | ret u=>exact I.after hq
  | next=>exact False.elim hq
  | brk=>exact False.elim hq
  | cont=>exact False.elim hq
theorem zvB (F:zcL X.prog X.w X.K X.mg X.base CX k f fd ps sp)(hr:zhz k X.A)(hg:Gl X x)(hm:X.mg x=some (.ref f))(hk:W.keepIn X.K (.ref f)=true)(hb:zbg X.K fd ps ds)(hd:zbT dvs ds)(hx:zkZ CX X E)
  (ha:PA X (e::es) t)(hdb:(x==("__debug__" : Str))=false:=by decide)(he:starEach (e::es) X.env=(false,eval e X.env)::starEach es X.env:=by rfl)(hpl:(backTo pos (starEach es X.env)).any (·.1)=false:=by rfl) :
  PE X (.Call (.Name x p) (e::es) [] pos) (zyR sp dvs E t):=by
 intro pins s σ H Q I h
 refine wpAny_Call_Name_kw (zg6 I hg hm ?_ hdb)
 refine W.callWith_K (h₀:=X.base) I.ok.mod.kin hk (thn (ha pos pins s σ H _ I h) fun us s1 ⟨vs,H1,I1,r,q⟩=>⟨I1.kIn,?_⟩) he hpl
 exact zxd F hr hb hd hx I1 r q
end
section
variable {X:Cx}{CX:CXT}{k:Nat}{f C:Addr}{fd:FuncData}{ps ks:List Str}{sp:Sp}{E:XK}{x m:Str}{p pos apos kpos:Pos}{e o:Expr}{es:List Expr}{kws:List Keyword}{te ta:TE}{t tk:TA}{nm:Option Str}
variable {g:List Value->List Value->List Value}{gV:List V->List V->List V}
end
structure zay (N P:List Str) (sc:Scope):Prop where
 kind:sc.kind=.function
 co:sc.isCoroutine=false
 gen:sc.isGenerator=false
 nd:N.Nodup
 pre:N.take P.length=P
 par:∀ x∈P,sc.names.lookup x=some .local ∨ sc.names.lookup x=some .cell
 nofree:∀ y∈sc.names,y.2≠.free
theorem znn {kindOf:Str->Option NameKind}{x:Str}:∀ {binds:List (Str×Value)}{m:Str->Option Value},(∀ v,(x,v)∉binds)->bindL kindOf binds m x=m x
 | [],_,_=>rfl
 | (n,v)::r,m,h=>by
  unfold bindL
  rw[znn fun w hw=>h w (List.mem_cons_of_mem _ hw)]
  split
  ·have:x≠n:=by rintro rfl;exact h v List.mem_cons_self
   simp [this]
  ·rfl
theorem znp {kindOf:Str->Option NameKind}{x:Str}:∀ {binds:List (Str×Value)}{m:Str->Option Value},(∀ v,(x,v)∉binds)->bindC kindOf binds m x=m x
 | [],_,_=>rfl
 | (n,v)::r,m,h=>by
  unfold bindC
  rw[znp fun w hw=>h w (List.mem_cons_of_mem _ hw)]
  split
  ·rfl
  ·have:x≠n:=by rintro rfl;exact h v List.mem_cons_self
   simp [this]
theorem zno {kindOf:Str->Option NameKind}{x:Str}{v:Value}:∀ {P:List Str}{vs:List Value}{i:Nat}{m:Str->Option Value},P.Nodup->P[i]?=some x->vs[i]?=some v->kindOf x=some .local ->
  bindL kindOf (P.zip vs) m x=some v
 | [],_,_,_,_,h,_,_=>by simp at h
 | _::_,[],_,_,_,_,h,_=>by simp at h
 | p::P,w::vs,0,m,nd,h1,h2,hk=>by
  simp at h1 h2;subst h1;subst h2
  show bindL kindOf ((p,w)::P.zip vs) m p=_
  unfold bindL
  rw[znn fun v hv=>(List.nodup_cons.mp nd).1 (List.of_mem_zip hv).1,if_pos hk]
  simp
 | p::P,w::vs,i+1,m,nd,h1,h2,hk=>by
  show bindL kindOf ((p,w)::P.zip vs) m x=_
  unfold bindL
  exact zno (i:=i) (List.nodup_cons.mp nd).2 (by simpa using h1) (by simpa using h2) hk
theorem znq {kindOf:Str->Option NameKind}{x:Str}{v:Value}:∀ {P:List Str}{vs:List Value}{i:Nat}{m:Str->Option Value},P.Nodup->P[i]?=some x->vs[i]?=some v->kindOf x≠some .local ->
  bindC kindOf (P.zip vs) m x=some v
 | [],_,_,_,_,h,_,_=>by simp at h
 | _::_,[],_,_,_,_,h,_=>by simp at h
 | p::P,w::vs,0,m,nd,h1,h2,hk=>by
  simp at h1 h2;subst h1;subst h2
  show bindC kindOf ((p,w)::P.zip vs) m p=_
  unfold bindC
  rw[znp fun v hv=>(List.nodup_cons.mp nd).1 (List.of_mem_zip hv).1,if_neg hk]
  simp
 | p::P,w::vs,i+1,m,nd,h1,h2,hk=>by
  show bindC kindOf ((p,w)::P.zip vs) m x=_
  unfold bindC
  exact znq (i:=i) (List.nodup_cons.mp nd).2 (by simpa using h1) (by simpa using h2) hk
def start (N:List Str)(vs:List V):St:=vs.map some++List.replicate (N.length-vs.length) none
def zg1 (CX:CXT)(P:Program)(w:World)(K:W.Frag)(mg:Str->Option Value)(base:Heap)(N:List Str)(qual:Str)(scope:Scope)(f:Addr)(cd:Value)(A:Around)(outer:List Env)(s:Shared)(H:Hp)(E:XK):Cx where
 prog:=P
 w:=w
 K:=K
 mg:=mg
 base:=base
 A:=A.deeper (envOfC qual scope s.heap.objs.size f cd)
 N:=N
 s₀:=s
 H₀:=H
 env:=envOfC qual scope s.heap.objs.size f cd
 outer:=outer
 stack:=envOfC qual scope s.heap.objs.size f cd::outer
 ex:=[]
 calm:=true
 fn:=fun _=>true
 pn:=[]
 xe:=fun e s'=>wpAny (model P w) (A.deeper (envOfC qual scope s.heap.objs.size f cd)) (leaving (envOfC qual scope s.heap.objs.size f cd) e) (fun _ s''=>CX outer H s E e s'') (fun e' s''=>CX outer H s E e' s'') s'
theorem zpe {sc:Scope}{n:Nat}{x:Str}(h:sc.names.lookup x=some .cell):∃ c,(cellsFrom n sc.names []).lookup x=some c:=by
 have q:=W.cellsFrom_some sc.names n [] (.inl h)
 exact Option.isSome_iff_exists.mp q
theorem zrL {CX:CXT}{P:Program}{w:World}{K:W.Frag}{mg:Str->Option Value}{base:Heap}{N ps:List Str}{qual:Str}{scope:Scope}{f:Addr}{cd:Value}{A:Around}{outer:List Env}{s s1:Shared}{H:Hp}{E:XK}{us:List Value}{vs:List V}
  (S:zay N ps scope)(hd:A.handled=none)(e0:zuH P w K mg base A outer s H)(hl:vs.length=ps.length)(r:zbT vs us)
  (x:InCallC s s.heap.objs.size (bindL (envOfC qual scope s.heap.objs.size f cd).kindOf (ps.zip us) fun _=>none) (cellsFrom (s.heap.objs.size+1) scope.names []) (bindC (envOfC qual scope s.heap.objs.size f cd).kindOf (ps.zip us) fun _=>none) s1) :
  Inv (zg1 CX P w K mg base N qual scope f cd A outer s H E) [] (start N vs) H s1:=by
 have hpl:ps.length<=N.length:=by have:=congrArg List.length S.pre;rw[List.length_take] at this;omega
 obtain⟨h1,tk,rfl,hk⟩:=x.done
 have noA:∀ b:Addr,b∉(zg1 CX P w K mg base N qual scope f cd A outer s H E).ex:=fun b z=>absurd (show b∈([]:List Addr) from z) (by simp)
 refine⟨⟨e0.mod,S.kind,rfl,rfl,Nat.le_refl _,fun y z c h1 h2=>?_,fun y hy=>?_,fun y c _ h=>?_,fun _=>hd,Around.frames_deeper e0.frames,.inr ⟨rfl,rfl⟩,fun b z=>absurd z (noA b),e0.bs,e0.bsz,fun b _ _=>noA b,fun b z=>absurd z (noA b),e0.funs,e0.frf⟩,
  rfl,e0.bare,Un.kept hk,⟨_,x.toInCall.ns,fun i y v h1 h2 h3=>?_⟩,fun y c h=>⟨_,x.cell y c h⟩,e0.hok.fresh (Nat.le_refl _),fun y c h=>?_,fun p hp=>absurd (show p∈([]:List (Addr×Obj)) from hp) (by simp),e0.hok.kept hk,?_⟩
 ·exact name_of_addr x.apart (PySem.mem_of_lookup h1) (PySem.mem_of_lookup h2)
 ·have hy:scope.names.lookup y=some .cell∨scope.names.lookup y=some .free:=hy
  rcases hy with hy | hy
  ·exact zpe hy
  ·exact absurd rfl (S.nofree _ (PySem.mem_of_lookup hy))
 ·exact Nat.le_of_lt (x.above y c (PySem.mem_of_lookup h))
 ·have hi:i < vs.length:=by
   unfold start at h2
   by_cases hi:i < vs.length
   ·exact hi
   ·rw[List.getElem?_append_right (by simpa using hi)] at h2
    rw[List.getElem?_replicate] at h2
    split at h2<;>cases h2
  have ha:vs[i]?=some v:=by
   unfold start at h2
   rw[List.getElem?_append_left (by simpa using hi),List.getElem?_map] at h2
   cases e:vs[i]? with
   | none=>rw[e] at h2;cases h2
   | some a=>rw[e] at h2;cases h2;rfl
  obtain⟨u,hu,rv⟩:=r.get ha
  have hp:ps[i]?=some y:=by
   rw[← S.pre,List.getElem?_take_of_lt (by omega)];exact h1
  have ndP:ps.Nodup:=by rw[← S.pre];exact S.nd.sublist (List.take_sublist _ _)
  refine⟨u,rv,?_⟩
  rcases S.par y (List.mem_of_getElem? hp) with k | k
  ·exact .inl ⟨k,zno ndP hp hu k⟩
  ·obtain⟨c,e⟩:=zpe (n:=s.heap.objs.size+1) k
   refine .inr ⟨.inl k,c,e,?_⟩
   have q:=x.cell y c e
   rw[znq ndP hp hu (by show scope.names.lookup y≠_;rw[k];decide)] at q
   exact q
 ·exact e0.hok.fresh (Nat.le_of_lt (x.above y c (PySem.mem_of_lookup h)))
 ·unfold start
  show _=N.length
  rw[List.length_append,List.length_map,List.length_replicate]
  omega
theorem zx5 {CX:CXT}{P:Program}{w:World}{K:W.Frag}{mg:Str->Option Value}{base:Heap}{k:Nat}{f:Addr}{name qual:Str}{params:Arguments}{body:List Stmt}{scope:Scope}{dV kV doc pm cdv ct oc:Value}{an od:Option Addr}
  {osl:Array (Option Value)}{N ps:List Str}{sp:Sp}(lk:K.lookup f=some ⟨oc,od,.func (W.fnOf name qual params body scope dV kV doc pm an cdv ct),osl⟩) (hcd:W.codeIn K cdv qual=true) (S:zay N ps scope)
  (len:∀ vs H Q E,sp vs H Q E->vs.length=ps.length)
  (hbody:∀ (A:Around) (outer:List Env) (s:Shared) (H:Hp) (vs:List V) (Q:VK) (E:XK),zhz k (A.deeper (envOfC qual scope s.heap.objs.size f cdv))->sp vs H Q E ->
   ∃ t,PSs (zg1 CX P w K mg base N qual scope f cdv A outer s H E) body t/\t { nx:=fun _ H'=>Q .non H',rt:=Q } (start N vs) H) :
  zcL P w K mg base CX (k+1) f (W.fnOf name qual params body scope dV kV doc pm an cdv ct) ps sp:=by
 refine⟨len,fun A outer s H args us vs Q E hr e0 hb r hsp=>?_⟩
 have hl:=len _ _ _ _ hsp
 have KX:K.In s.heap:=e0.mod.kin.keeps fun b o e=>(e0.bs b o e).1
 have lim:s.heap.NoLimit:=e0.mod.nolimit.keeps fun b o e=>(e0.bs b o e).1
 have hkind:∀ y∈ps.zip us,scope.names.lookup y.1=some .local ∨ (scope.names.lookup y.1=some .cell/\((cellsFrom (s.heap.objs.size+1) scope.names []).lookup y.1).isSome=true):=fun⟨n,v⟩ hy=>by
  rcases S.par n (List.of_mem_zip hy).1 with q | q
  ·exact .inl q
  ·exact .inr ⟨q,W.cellsFrom_some _ _ _ (.inl q)⟩
 refine codeAny_call_function hr.depth (KX _ _ lk) rfl S.co S.gen rfl (W.codeRec_of KX hcd) (hb _ _ _ _ ?_)
 refine wpAny_newFunctionEnv_cells S.kind hkind fun env he s1 x=>?_
 subst he
 refine⟨lim.keeps x.toInCall.keep,codeAny_func ?_⟩
 obtain⟨t,ht,hq⟩:=hbody A outer s H vs Q E (hr.deeper _) hsp
 have I:Inv (zg1 CX P w K mg base N qual scope f cdv A outer s H E) [] (start N vs) H s1:=zrL S hr.hd e0 hl r x
 refine wpAny_mono (ht [] s1 (start N vs) H _ I hq) (fun fl s' hs=>?_) fun e s' hs=>hs
 have fin:∀ {σ':St}{H':Hp}{v:V}{u:Value},Inv (zg1 CX P w K mg base N qual scope f cdv A outer s H E) [] σ' H' s'->zct v u->Q v H'->CE outer P w H s Q u s' :=
  fun {σ' H' v u} J rv q=>⟨v,H',J.os,J.bare,J.base,J.hok,rv,q⟩
 cases fl with
 | ret u =>
  obtain⟨v,σ',H',J,rv,q⟩:=hs
  exact fin J rv q
 | next =>
  obtain⟨σ',H',J,q⟩:=hs
  exact fin (v:=V.non) (u:=Value.none) J rfl q
 | brk =>
  obtain⟨_,_,_,q⟩:=hs
  exact False.elim q
 | cont =>
  obtain⟨_,_,_,q⟩:=hs
  exact False.elim q
section
variable {X:Cx}{x:Str}{p pos:Pos}{e:Expr}{es:List Expr}{t:TA}{id T:String}{r:List V->Hp->VK->Prop}
def tCB (r:List V->Hp->VK->Prop)(t:TA):TE:=fun σ H Q=>t σ H fun vs H1=>r vs H1 Q
theorem zlm (hc:zkg X (.builtin id) r)(hg:Gl X x)(hm:X.mg x=none)(hv:bootBuiltins x=some (.builtin id))(ha:PA X (e::es) t)(hn:x≠"__name__":=by decide)(hdb:(x==("__debug__" : Str))=false:=by decide)
  (he:starEach (e::es) X.env=(false,eval e X.env)::starEach es X.env:=by rfl)(hpl:(backTo pos (starEach es X.env)).any (·.1)=false:=by rfl):PE X (.Call (.Name x p) (e::es) [] pos) (tCB r t):=by
 intro pins s σ H Q I h
 refine wpAny_Call_Name_kw (zmU I hg hm hv ?_ hn hdb)
 exact PyProof.Rows.callWith_builtin1 (thn (ha pos pins s σ H _ I h) fun us s1 ⟨vs,H1,I1,r1,q1⟩=>hc pins s1 σ H1 vs us Q I1 r1 q1) he hpl
theorem zrl (hc:zkg X (.type T) r)(hg:Gl X x)(hm:X.mg x=none)(hv:bootBuiltins x=some (.type T))(ha:PA X (e::es) t)(hn:x≠"__name__":=by decide)(hdb:(x==("__debug__" : Str))=false:=by decide)
  (he:starEach (e::es) X.env=(false,eval e X.env)::starEach es X.env:=by rfl)(hpl:(backTo pos (starEach es X.env)).any (·.1)=false:=by rfl):PE X (.Call (.Name x p) (e::es) [] pos) (tCB r t):=by
 intro pins s σ H Q I h
 refine wpAny_Call_Name_kw (zmU I hg hm hv ?_ hn hdb)
 exact PyProof.Rows.callWith_type1 (thn (ha pos pins s σ H _ I h) fun us s1 ⟨vs,H1,I1,r1,q1⟩=>hc pins s1 σ H1 vs us Q I1 r1 q1) he hpl
end
end L2
namespace HT
open PySem PyProof.Rows
section
open PySem.SeqAt
open PySem.AutoSeq1 (wpAny_loadPart')
open PySem.MeetsSeq PySem.MeetsSeq2 PySem.MeetsSeq3
end
section
variable {prog:Program}{w:World}{A:Around}{E:Value->Shared->Prop}{s:Shared}
theorem cat_tup {t b:Addr}{vs ws:List Value}{Q:Value->Shared->Prop}(ht:IsTup s.heap t vs.toArray)(hb:IsTup s.heap b ws.toArray)(hv:vs≠[])
  (h1:ws=[]->Q (.ref t) s)(h2:ws≠[]->Q (.ref s.heap.objs.size) { s with heap:=s.heap.push { cls:=.type "tuple",data:=.seq (vs++ws).toArray } })
  (hsz:vs.length+ws.length<=sizeLine):wpAny (model prog w) A (binaryOp .Add (.ref t) (.ref b)) Q E s:=by
 obtain⟨⟨cls,dd,data,sl⟩,ho,hc,n,hd⟩:=id ht
 obtain⟨⟨cls2,dd2,data2,sl2⟩,ho2,hc2,n2,hd2⟩:=id hb
 simp only at hc hd hc2 hd2
 subst hc hd hc2 hd2
 have e:vs.toArray++ws.toArray=(vs++ws).toArray:=by simp
 by_cases hw:ws=[]
 ·exact concat_meets ⟨_,ho,rfl⟩ ⟨_,ho2,rfl⟩ noFill_tuple_add seq_tuple_add PySem.F.slot_tuple_add PySem.F.entry_tuple_add (PySem.F.args_tuple_add_2 _ _)
   (tuple_addW1 t b vs.toArray ws.toArray n n2 dd dd2 sl sl2 (by simpa using hv) (by simp [hw])) ⟨ho,ho2,h1 hw⟩
 ·refine concat_meets ⟨_,ho,rfl⟩ ⟨_,ho2,rfl⟩ noFill_tuple_add seq_tuple_add PySem.F.slot_tuple_add PySem.F.entry_tuple_add (PySem.F.args_tuple_add_2 _ _)
   (tuple_addW2 t b vs.toArray ws.toArray n n2 dd dd2 sl sl2 (by simpa using hv) (by simpa using hw) (by rw[List.size_toArray,List.size_toArray];exact hsz)) ⟨ho,ho2,?_⟩
  rw[e]
  exact h2 hw
def sIx (n d:Nat):Option Int->Nat
 | none=>d
 | some v=>if v < 0 then(v+(n:Int)).toNat else min v.toNat n
theorem sIx_none (n d:Nat):sIx n d none=d:=rfl
theorem sIx_nat (n d k:Nat):sIx n d (some (k:Int))=min k n:=by
 show(if(k:Int) < 0 then((k:Int)+(n:Int)).toNat else min (k:Int).toNat n)=min k n
 rw[if_neg (by omega),Int.toNat_natCast]
theorem zxb (n d:Nat)(hd:d<=n)(o:Option Int):sIx n d o<=n:=by
 cases o with
 | none=>exact hd
 | some v =>
  show(if v < 0 then(v+(n:Int)).toNat else min v.toNat n)<=n
  by_cases hv:v < 0
  ·rw[if_pos hv];omega
  ·rw[if_neg hv];exact Nat.min_le_right _ _
theorem zsm (v:Int)(n d:Nat):(if v < 0 then max (v+(n:Int)) 0 else min v (n:Int))=((sIx n d (some v):Nat):Int):=by
 show(if v < 0 then max (v+(n:Int)) 0 else min v (n:Int))=(((if v < 0 then(v+(n:Int)).toNat else min v.toNat n):Nat):Int)
 by_cases hv:v < 0
 ·simp only[if_pos hv];omega
 ·simp only[if_neg hv];omega
theorem zqb (lo hi:Option Int)(n:Nat):Builtin.Slice.sliceAdjust lo hi 1 (n:Int)=(((sIx n 0 lo:Nat):Int),((sIx n n hi:Nat):Int)):=by
 have h1:¬ ((1:Int) < 0):=by omega
 unfold Builtin.Slice.sliceAdjust
 simp only[h1,if_false]
 refine Prod.ext ?_ ?_
 ·cases lo with
  | none=>rfl
  | some v=>exact zsm v n 0
 ·cases hi with
  | none=>rfl
  | some v=>exact zsm v n n
theorem zpK (i j:Nat):Builtin.Slice.slicePlaces (i:Int) (j:Int) 1=j-i:=by
 unfold Builtin.Slice.slicePlaces
 have h1:(1:Int) > 0:=by omega
 simp only[h1,if_true,Int.ediv_one]
 split<;>omega
theorem zkA {v:Value}{o:Option Int}{Q:Option Int->Shared->Prop}(p:IsPart v o)(h:Q o s):wpAny (model prog w) A (Builtin.Slice.slicePartIndex v) Q E s:=by
 cases p with
 | none=>exact slicePart_none h
 | int i t=>exact slicePart_int h
theorem ziX {sl:Addr}{vl vu:Value}{lo hi:Option Int}{n:Nat}{Q:Int×Int×Nat->Shared->Prop}(hs:s.heap.IsSliceOf sl vl vu .none)(pl:IsPart vl lo)(pu:IsPart vu hi)
  (h:Q (((sIx n 0 lo:Nat):Int),1,sIx n n hi-sIx n 0 lo) s):wpAny (model prog w) A (Builtin.Slice.sliceApplied (.ref sl) (pure (n:Int))) Q E s:=by
 obtain⟨os,hos,hcs,hds⟩:=id hs
 unfold Builtin.Slice.sliceApplied Builtin.Slice.sliceFields
 refine wpAny_bind (wpAny_bind (wpAny_field hos hds (x:=vl) rfl (wpAny_bind (wpAny_field hos hds (x:=vu) rfl (wpAny_bind (wpAny_field hos hds (x:=.none) rfl (wpAny_pure ?_)))))))
 refine wpAny_bind (slicePart_none ?_)
 show wpAny _ _ (if((1:Int)==0)=true then _ else _) _ _ s
 rw[if_neg (by decide)]
 refine wpAny_bind (zkA pl (wpAny_bind (zkA pu (wpAny_bind (wpAny_pure ?_)))))
 show wpAny _ _ (match Builtin.Slice.sliceAdjust lo hi 1 (n:Int) with | (lo,hi)=>pure (lo,(1:Int),Builtin.Slice.slicePlaces lo hi 1)) _ _ s
 rw[zqb lo hi n]
 show wpAny _ _ (pure (((sIx n 0 lo:Nat):Int),(1:Int),Builtin.Slice.slicePlaces ((sIx n 0 lo:Nat):Int) ((sIx n n hi:Nat):Int) 1)) _ _ s
 rw[zpK]
 exact wpAny_pure h
theorem ztp (xs:Array Value)(i k:Nat):((List.range k).filterMap fun(m:Nat)=>xs[((i:Int)+(m:Int)*1).toNat]?).toArray=((xs.toList.drop i).take k).toArray:=by
 have e:(fun(m:Nat)=>xs[((i:Int)+(m:Int)*1).toNat]?)=fun m=>xs[i+m]?:=by
  funext m
  have:((i:Int)+(m:Int)*1).toNat=i+m:=by omega
  rw[this]
 rw[e]
 have:=pick_run xs i k
 rw[List.filterMap_map] at this
 have e2:((fun x=>xs[x]?)∘fun x=>i+x)=fun m=>xs[i+m]?:=rfl
 rw[e2] at this
 rw[this]
theorem getItem_tuple_cut {t sl:Addr}{items:Array Value}{vl vu:Value}{lo hi:Option Int}{Q:Value->Shared->Prop}(ht:IsTup s.heap t items)(hs:s.heap.IsSliceOf sl vl vu .none)(pl:IsPart vl lo)(pu:IsPart vu hi)
  (hw:¬ (sIx items.size 0 lo=0/\sIx items.size items.size hi=items.size))
  (h:Q (.ref s.heap.objs.size) { s with heap:=s.heap.push { cls:=.type "tuple",data:=.seq ((items.toList.drop (sIx items.size 0 lo)).take (sIx items.size items.size hi-sIx items.size 0 lo)).toArray } })
  (hsz:items.size<=sizeLine):wpAny (model prog w) A (getItem (.ref t) (.ref sl)) Q E s:=by
 have htake:sizeOk (.seq ((items.toList.drop (sIx items.size 0 lo)).take (sIx items.size items.size hi-sIx items.size 0 lo)).toArray):=by
  show((items.toList.drop (sIx items.size 0 lo)).take (sIx items.size items.size hi-sIx items.size 0 lo)).toArray.size<=sizeLine
  rw[List.size_toArray,List.length_take,List.length_drop,Array.length_toList]
  omega
 have hj:sIx items.size items.size hi<=items.size:=zxb _ _ (Nat.le_refl _) hi
 obtain⟨os,hos,hcs,hds⟩:=id hs
 have hTs:s.TypeIs (.ref sl) "slice":=⟨os,hos,hcs⟩
 unfold getItem
 try with_reducible refine wpAny_holding ?_
 first | refine wpAny_bind (wpAny_pure ?_) | skip
 refine wpAny_bind (wpAny_sequenceKey ht.typeIs (by decide) ?_)
 refine wpAny_bind (wpAny_callSpecial?_slot (name:=Str.ofString "__getitem__") ht.typeIs PyProof.Rows.slot_tuple_getitem
  (wpAny_call_entry PyProof.Rows.slot_tuple_getitem ht.typeIs entry_tuple_getitem ?_ (args_tuple_getitem _ _)))
 show wpAny _ _ (Builtin.Tuple.tupleItemsOf (.ref t) >>= _) _ _ s
 refine wpAny_bind (tupleItemsOf_ ht ?_)
 refine wpAny_bind (wpAny_typeOf hTs ?_)
 rw[if_pos (by decide)]
 refine wpAny_bind (ziX hs pl pu ?_)
 have hno:¬ ((((sIx items.size 0 lo:Nat):Int)==0&&(1:Int)==1&&(sIx items.size items.size hi-sIx items.size 0 lo)==items.size)=true):=by
  intro q
  rw[Bool.and_eq_true,Bool.and_eq_true] at q
  have q1:((sIx items.size 0 lo:Nat):Int)=0:=eq_of_beq q.1.1
  have q2:sIx items.size items.size hi-sIx items.size 0 lo=items.size:=eq_of_beq q.2
  exact hw ⟨by omega,by omega⟩
 show wpAny _ _ (if(((sIx items.size 0 lo:Nat):Int)==0&&(1:Int)==1&&(sIx items.size items.size hi-sIx items.size 0 lo)==items.size)=true then _ else _) _ _ s
 rw[if_neg hno,ztp]
 first
  | exact wpAny_bind (m:=Builtin.Tuple.tupleExact _) (wpAny_newObj_type (wpAny_pure ⟨_,rfl,wpAny_pure h⟩) htake)
  | exact wpAny_bind (m:=Builtin.Tuple.tupleExact _) (wpAny_newObj_type (wpAny_bind (wpAny_pure (wpAny_pure ⟨_,rfl,wpAny_pure h⟩))) htake)
  | exact wpAny_bind (wpAny_bind (m:=Builtin.Tuple.tupleExact _) (wpAny_newObj_type (wpAny_pure (wpAny_pure ⟨_,rfl,wpAny_pure h⟩)) htake))
  | exact wpAny_bind (wpAny_bind (m:=Builtin.Tuple.tupleExact _) (wpAny_newObj_type (wpAny_pure ⟨_,rfl,wpAny_pure h⟩) htake))
end
end HT
namespace L2
open PySem PySem.Spec PyProof.Rows
abbrev TO:=St->Hp->(Option Int->Hp->Prop)->Prop
def PO (X:Cx)(e:Option Expr)(t:TO):Prop :=
 ∀ (pins:List (Addr×Obj)) (s:Shared) (σ:St) (H:Hp) (Q:Option Int->Hp->Prop),Inv X pins σ H s->t σ H Q ->
  wpAny (model X.prog X.w) X.A (evalPart e X.env) (fun u s'=>∃ o H',Inv X pins σ H' s'/\IsPart u o/\Q o H') X.xe s
def zu7:TO:=fun _ H Q=>Q none H
def zyM (t:TE):TO:=fun σ H Q=>t σ H fun x H1=>∃ i,x=.int i/\Q (some i) H1
section
variable {X:Cx}{e:Expr}{te:TE}{lo hi:Option Expr}{tl th:TO}{pos p2:Pos}
theorem zvr:PO X none zu7:=by
 intro pins s σ H Q I h
 rw[evalPart_none]
 exact wpAny_pure ⟨none,H,I,.none,h⟩
theorem zvq (h:PE X e te):PO X (some e) (zyM te):=by
 intro pins s σ H Q I hw
 rw[evalPart_some]
 refine thn (h pins s σ H _ I hw) fun u s1 ⟨x,H1,I1,r1,q1⟩=>?_
 obtain⟨i,rfl,q⟩:=q1
 obtain⟨t,rfl⟩:=r1
 exact⟨some i,H1,I1,.int i t,q⟩
def SlR (X:Cx)(r:V->Option Int->Option Int->Hp->VK->Prop):Prop :=
 ∀ (pins:List (Addr×Obj)) (s:Shared) (σ:St) (H:Hp) (x:V) (v vl vu:Value) (lo hi:Option Int) (sl:Addr) (Q:VK),Inv X pins σ H s->zct x v->s.heap.IsSliceOf sl vl vu .none->IsPart vl lo->IsPart vu hi->r x lo hi H Q ->
  ∃ T id,typeLookup (.type T) "__getitem__"=pure (some (.builtin id))/\s.TypeIs v T/\wpAny (model X.prog X.w) X.A (getItem v (.ref sl)) (EP X pins σ Q) X.xe s
theorem SlR.or {r r':V->Option Int->Option Int->Hp->VK->Prop}(h:SlR X r)(h':SlR X r'):SlR X (fun x lo hi H Q=>r x lo hi H Q∨r' x lo hi H Q):=by
 intro pins s σ H x v vl vu lo hi sl Q I rx hs pl pu q
 rcases q with q | q
 ·exact h pins s σ H x v vl vu lo hi sl Q I rx hs pl pu q
 ·exact h' pins s σ H x v vl vu lo hi sl Q I rx hs pl pu q
def tSl (r:V->Option Int->Option Int->Hp->VK->Prop)(te:TE)(tl th:TO):TE:=fun σ H Q=>te σ H fun x H1=>tl σ H1 fun l H2=>th σ H2 fun u H3=>r x l u H3 Q
theorem ztr {r:V->Option Int->Option Int->Hp->VK->Prop}(hr:SlR X r)(he:PE X e te)(hl:PO X lo tl)(hu:PO X hi th):PE X (.Subscript e (.Slice lo hi none p2) pos) (tSl r te tl th):=by
 intro pins s σ H Q I h
 refine Subscript_ (thn (he pins s σ H _ I h) fun v s1 ⟨x,H1,I1,r1,q1⟩=>?_)
 refine wpAny_Slice (thn (hl pins s1 σ H1 _ I1 q1) fun vl s2 ⟨l,H2,I2,pl,q2⟩=>thn (hu pins s2 σ H2 _ I2 q2) fun vu s3 ⟨u,H3,I3,pu,q3⟩=>?_)
 rw[evalPart_none]
 refine wpAny_pure ?_
 have I4:Inv X pins σ H3 { s3 with heap:=s3.heap.push { cls:=.type "slice",data:=.fields #[vl,vu,.none] } }:=I3.kept (t':=s3.toks) fun b ob q=>Heap.get?_push_of_some _ q
 obtain⟨T,id,hT,ht,hg⟩:=hr pins { s3 with heap:=s3.heap.push { cls:=.type "slice",data:=.fields #[vl,vu,.none] } } σ H3 x v vl vu l u s3.heap.objs.size Q I4 r1 (Heap.IsSliceOf.new ..) pl pu q3
 show wpAny (model X.prog X.w) X.A (subscriptTail e (.Slice lo hi none p2) v (.ref s3.heap.objs.size)) (EP X pins σ Q) X.xe { s3 with heap:=s3.heap.push { cls:=.type "slice",data:=.fields #[vl,vu,.none] } }
 exact tail_any (ops:=[.ref s3.heap.objs.size,v]) ht hT hg (by with_unfolding_all rfl)
def zuE (xs:List V)(lo hi:Option Int):List V:=(xs.drop (HT.sIx xs.length 0 lo)).take (HT.sIx xs.length xs.length hi-HT.sIx xs.length 0 lo)
theorem zjY (xs:List V)(lo hi:Option Int):(zuE xs lo hi).length<=xs.length:=by
 unfold zuE
 rw[List.length_take,List.length_drop]
 omega
def zAo (K:W.Frag):V->Option Int->Option Int->Hp->VK->Prop:=fun x lo hi H Q=>∃ a xs,x=.ref a/\SqT K H a xs /\
 ¬ (HT.sIx xs.length 0 lo=0/\HT.sIx xs.length xs.length hi=xs.length)/\∀ p,H p=none->Q (.ref p) (upd H p (.tup (zuE xs lo hi)))
theorem zw5:SlR X (zAo X.K):=by
 intro pins s σ H x v vl vu lo hi sl Q I rx hs pl pu h
 obtain⟨a,xs,rfl,hx,hw,q⟩:=h
 cases rx
 obtain⟨its,r,ht,hz⟩:=I.tuple hx
 have hlen:its.toArray.size=xs.length:=by rw[List.size_toArray];exact r.length.symm
 refine⟨"tuple",_,PyProof.Rows.slot_tuple_getitem.lookup,ht.typeIs,?_⟩
 refine HT.getItem_tuple_cut ht hs pl pu (by rw[hlen];exact hw) ?_ (by rw[hlen];exact hz)
 rw[hlen]
 refine⟨.ref s.heap.objs.size,_,I.laid (t':=s.toks) (o:=.tup (zuE xs lo hi)) (fun b ob q=>Heap.get?_push_of_some _ q) (Nat.le_refl _) ?_,rfl,q _ (I.hok.fresh (Nat.le_refl _))⟩
 exact⟨Nat.le_trans (zjY xs lo hi) hz,_,(r.drop (HT.sIx xs.length 0 lo)).take (HT.sIx xs.length xs.length hi-HT.sIx xs.length 0 lo),IsTup.new _ _⟩
def zy1 (K:W.Frag):R2:=fun x y H Q=>∃ a b xs ys,x=.ref a/\y=.ref b/\SqT K H a xs/\SqT K H b ys/\xs≠[]/\xs.length+ys.length<=sizeLine /\
 (ys=[]->Q (.ref a) H)/\(ys≠[]->∀ p,H p=none->Q (.ref p) (upd H p (.tup (xs++ys))))
theorem zbT.nil_iff {xs:List V}{us:List Value}(r:zbT xs us):us=[]↔xs=[]:=by
 cases r with
 | nil=>simp
 | cons _ _=>simp
theorem zvI:OpR X (binaryOp .Add) (zy1 X.K):=by
 intro pins s σ H x y v u Q I rx ry h
 obtain⟨a,b,xs,ys,rfl,rfl,ha,hb,hx,hz,q1,q2⟩:=h
 cases rx
 cases ry
 obtain⟨its,r1,p1,_⟩:=I.tuple ha
 obtain⟨its2,r2,p2,_⟩:=I.tuple hb
 refine HT.cat_tup p1 p2 (fun z=>hx (r1.nil_iff.mp z)) (fun z=>⟨.ref a,H,I,rfl,q1 (r2.nil_iff.mp z)⟩) (fun z=>?_) (by rw[← r1.length,← r2.length];exact hz)
 refine⟨.ref s.heap.objs.size,_,I.laid (t':=s.toks) (o:=.tup (xs++ys)) (fun b ob q=>Heap.get?_push_of_some _ q) (Nat.le_refl _) ?_,rfl,q2 (fun w=>z (r2.nil_iff.mpr w)) _ (I.hok.fresh (Nat.le_refl _))⟩
 exact⟨by rw[List.length_append];exact hz,_,r1.append r2,IsTup.new _ _⟩
end
def ixN (n:Nat)(i:Int):Option Nat:=if 0<=i then(if i < n then some i.toNat else none) else if -(n:Int)<=i then some (i+n).toNat else none
def atI {α:Type}(xs:List α)(i:Int):Option α:=(ixN xs.length i).bind fun j=>xs[j]?
theorem zvX {n:Nat}{i:Int}{j:Nat}(h:ixN n i=some j):seqIndex? i n=some j/\j < n/\-(n:Int)<=i/\i < n:=by
 unfold ixN at h
 by_cases h0:0<=i
 ·rw[if_pos h0] at h
  by_cases h1:i < n
  ·rw[if_pos h1] at h
   have e:i.toNat=j:=Option.some.inj h
   exact⟨by rw[seqIndex_of h0 h1,e],by omega,by omega,h1⟩
  ·rw[if_neg h1] at h;cases h
 ·rw[if_neg h0] at h
  by_cases h1:-(n:Int)<=i
  ·rw[if_pos h1] at h
   have e:(i+n).toNat=j:=Option.some.inj h
   exact⟨by rw[seqIndex_neg (by omega) h1,e],by omega,h1,by omega⟩
  ·rw[if_neg h1] at h;cases h
theorem zom {α:Type}{xs:List α}{i:Int}{v:α}(h:atI xs i=some v):∃ j,seqIndex? i xs.length=some j/\xs[j]?=some v/\j < xs.length/\-(xs.length:Int)<=i/\i < xs.length:=by
 unfold atI at h
 cases e:ixN xs.length i with
 | none=>rw[e] at h;cases h
 | some j =>
  rw[e] at h
  obtain⟨h1,h2,h3,h4⟩:=zvX e
  exact⟨j,h1,h,h2,h3,h4⟩
theorem zbq {α:Type}{xs:List α}{j:Nat}{v:α}(h:xs[j]?=some v):atI xs (j:Int)=some v:=by
 have hj:j < xs.length:=(List.getElem?_eq_some_iff.mp h).1
 have e:ixN xs.length (j:Int)=some j:=by
  unfold ixN
  rw[if_pos (by omega),if_pos (by omega)];simp
 unfold atI;rw[e];exact h
def zoq (b:Expr):Prop:=∀ o i,subscripted b false o i=operate [o,i] (getItem o i)
def IxR (X:Cx)(r:R2):Prop :=
 ∀ (value slice:Expr) (pins:List (Addr×Obj)) (s:Shared) (σ:St) (H:Hp) (x y:V) (v u:Value) (Q:VK),Inv X pins σ H s->zct x v->zct y u->r x y H Q ->
  subscripted slice false v u=operate [v,u] (getItem v u)->wpAny (model X.prog X.w) X.A (subscriptTail value slice v u) (EP X pins σ Q) X.xe s
def MtR (X:Cx)(id:String)(r:V->List V->Hp->VK->Prop):Prop :=
 ∀ (pins:List (Addr×Obj)) (s:Shared) (σ:St) (H:Hp) (x:V) (xs:List V) (v:Value) (us:List Value) (Q:VK),Inv X pins σ H s->zct x v->zbT xs us->r x xs H Q ->
  wpAny (model X.prog X.w) X.A (call (.builtin id) (v::us)) (EP X pins σ Q) X.xe s
section
variable {X:Cx}{a b:Expr}{ta tb:TE}{pos:Pos}
theorem IxR.or {r r':R2}(h:IxR X r)(h':IxR X r'):IxR X (fun x y H Q=>r x y H Q∨r' x y H Q):=by
 intro value slice pins s σ H x y v u Q I rx ry q hs
 rcases q with q | q
 ·exact h value slice pins s σ H x y v u Q I rx ry q hs
 ·exact h' value slice pins s σ H x y v u Q I rx ry q hs
theorem zza {r:R2}(hr:IxR X r)(ha:PE X a ta)(hb:PE X b tb)(hs:zoq b):PE X (.Subscript a b pos) (tOp r ta tb):=by
 intro pins s σ H Q I h
 exact Subscript_ (zzD ha hb I h fun v u s2 x y H2 I2 rx ry q=>hr a b pins s2 σ H2 x y v u Q I2 rx ry q (hs _ _))
def zzP (K:W.Frag):R2:=fun x y H Q=>∃ p xs i v,x=.ref p/\y=.int i/\SqL K H p xs/\atI xs i=some v/\Q v H
def zzN (K:W.Frag):R2:=fun x y H Q=>∃ p xs i v,x=.ref p/\y=.int i/\SqT K H p xs/\atI xs i=some v/\Q v H
def zzO:R2:=fun x y H Q=>∃ z i c,x=.str z/\y=.int i/\z.length<=sizeLine/\atI z.cps.toList i=some c/\Q (.str ⟨#[c]⟩) H
theorem zvW:IxR X (zzP X.K):=by
 intro value slice pins s σ H x y v u Q I rx ry h hs
 obtain⟨p,xs,i,z,rfl,rfl,hq,he,q⟩:=h
 cases rx
 obtain⟨t,rfl⟩:=ry
 obtain⟨its,r,pl,hz⟩:=I.list hq
 obtain⟨j,h1,h2,h3,h4,h5⟩:=zom he
 obtain⟨w,ew,rw'⟩:=r.get h2
 have hl:=r.length
 have hn:=zmT
 have fin:EP X pins σ Q w s:=⟨z,H,I,rw',q⟩
 by_cases h0:0<=i
 ·have hj:i.toNat=j:=by
   rw[seqIndex_of h0 h5] at h1
   exact Option.some.inj h1
  exact item_listR pl.isList h0 (by omega) (by rw[hj];simpa using ew) fin hs
 ·have hj:(i+(its.toArray.size:Int)).toNat=j:=by
   rw[seqIndex_neg (by omega) h4] at h1
   rw[List.size_toArray,← hl]
   exact Option.some.inj h1
  exact subscriptTail_builtinR (x:=w) pl.isList.typeIs slot_list_getitem.lookup
   (wpAny_getItem_list_neg (Q:=fun r s'=>r=w/\EP X pins σ Q r s') pl.isList (by omega) (by rw[List.size_toArray]<;>omega) (by omega) (by rw[hj];simpa using ew) ⟨rfl,fin⟩) hs
theorem zxY:IxR X (zzN X.K):=by
 intro value slice pins s σ H x y v u Q I rx ry h hs
 obtain⟨p,xs,i,z,rfl,rfl,hq,he,q⟩:=h
 cases rx
 obtain⟨t,rfl⟩:=ry
 obtain⟨its,r,pl,hz⟩:=I.tuple hq
 obtain⟨j,h1,h2,h3,h4,h5⟩:=zom he
 obtain⟨w,ew,rw'⟩:=r.get h2
 have hl:=r.length
 have hn:=zmT
 have fin:EP X pins σ Q w s:=⟨z,H,I,rw',q⟩
 exact subscriptTail_builtinR (x:=w) pl.typeIs slot_tuple_getitem.lookup
  (getItem_tuple (j:=j) (Q:=fun r s'=>r=w/\EP X pins σ Q r s') pl (by omega) (by omega) (by rw[List.size_toArray,← hl];exact h1) (by simpa using ew) ⟨rfl,fin⟩) hs
theorem zxZ:IxR X zzO:=by
 intro value slice pins s σ H x y v u Q I rx ry h hs
 obtain⟨z,i,c,rfl,rfl,hz,he,q⟩:=h
 obtain⟨t,rfl⟩:=rx
 obtain⟨t',rfl⟩:=ry
 obtain⟨j,h1,h2,h3,h4,h5⟩:=zom he
 have hl:z.cps.toList.length=z.length:=by simp [Str.length]
 rw[hl] at h1 h4 h5
 have hn:=zmT
 exact tail_any (typeIs_str s z t) slot_str_getitem.lookup (getItem_str (c:=c) (by
  have e1:decide (i < -(2 ^ 63:Int))=false:=decide_eq_false (by omega)
  have e2:decide (i≥2 ^ 63)=false:=decide_eq_false (by omega)
  rw[e1,e2,Bool.or_false]) (by rw[h1];simpa using h2) ⟨.str ⟨#[c]⟩,H,I.tok _,⟨_,rfl⟩,q⟩) hs
def rIx (K:W.Frag):R2:=fun x y H Q=>zzP K x y H Q∨zzN K x y H Q∨zzO x y H Q
theorem zx0:IxR X (rIx X.K):=zvW.or (zxY.or zxZ)
theorem zmx (lo hi:Option Int)(n:Nat):(sliceBounds lo hi none n).1=((HT.sIx n 0 lo:Nat):Int)/\(sliceBounds lo hi none n).2.1=((HT.sIx n n hi:Nat):Int)/\(sliceBounds lo hi none n).2.2=1:=by
 refine⟨?_,?_,rfl⟩
 ·cases lo with
  | none=>simp [sliceBounds,HT.sIx]
  | some i =>
   simp only[sliceBounds,HT.sIx,Option.getD_none,show(1:Int) > 0 by decide,if_true]
   by_cases h:i < 0
   ·simp only[h,if_true]<;>omega
   ·simp only[h,if_false]<;>omega
 ·cases hi with
  | none=>simp [sliceBounds,HT.sIx]
  | some i =>
   simp only[sliceBounds,HT.sIx,Option.getD_none,show(1:Int) > 0 by decide,if_true]
   by_cases h:i < 0
   ·simp only[h,if_true]<;>omega
   ·simp only[h,if_false]<;>omega
theorem zlf (its:List Value)(lo hi:Option Int):slicePick its.toArray lo hi none=((its.drop (HT.sIx its.length 0 lo)).take (HT.sIx its.length its.length hi-HT.sIx its.length 0 lo)).toArray:=by
 obtain⟨h1,h2,h3⟩:=zmx lo hi its.toArray.size
 unfold slicePick
 rw[h1,h2,h3]
 simp only[sliceRange_one,pick_run,List.size_toArray]<;>rfl
def zAq (K:W.Frag):V->Option Int->Option Int->Hp->VK->Prop:=fun x lo hi H Q=>∃ a xs,x=.ref a/\SqL K H a xs/\∀ p,H p=none->Q (.ref p) (upd H p (.lst (zuE xs lo hi)))
theorem zvc:SlR X (zAq X.K):=by
 intro pins s σ H x v vl vu lo hi sl Q I rx hs pl pu h
 obtain⟨a,xs,rfl,hx,q⟩:=h
 cases rx
 obtain⟨its,r,ht,hz⟩:=I.list hx
 have hlen:=r.length
 refine⟨"list",_,slot_list_getitem.lookup,ht.isList.typeIs,?_⟩
 refine wpAny_getItem_list_slice ht.isList hs pl pu .none (by simp) ?_ (by rw[List.size_toArray]<;>omega)
 rw[zlf,← hlen]
 refine⟨.ref s.heap.objs.size,_,I.laid (t':=s.toks) (o:=.lst (zuE xs lo hi)) (fun b ob q=>Heap.get?_push_of_some _ q) (Nat.le_refl _) ?_,rfl,q _ (I.hok.fresh (Nat.le_refl _))⟩
 exact⟨Nat.le_trans (zjY xs lo hi) hz,_,0,(r.drop (HT.sIx xs.length 0 lo)).take (HT.sIx xs.length xs.length hi-HT.sIx xs.length 0 lo),Heap.get?_push_size _ rfl⟩
theorem zmL:OpR X (compareOp .NotIn) (fun x y H Q=>∃ i j,x=.str i/\y=.str j/\Q (.bl (!(!(Builtin.Str.occurrences j i 0 j.length 1).isEmpty))) H):=by
 intro pins s σ H x y v u Q I rx ry h
 obtain⟨i,j,rfl,rfl,q⟩:=h
 obtain⟨t,rfl⟩:=rx
 obtain⟨t',rfl⟩:=ry
 exact notIn_str ⟨.bl _,H,I,rfl,q⟩
theorem ziR:zkg X (.type "list") (fun xs H Q=>∃ p ys,xs=[.ref p]/\(SqL X.K H p ys∨SqT X.K H p ys)/\∀ l,H l=none->Q (.ref l) (upd H l (.lst ys))):=by
 intro pins s σ H xs us Q I r h
 obtain⟨p,ys,rfl,hq,q⟩:=h
 obtain⟨u,rfl,rx⟩:=zqD r
 cases rx
 have fin:∀ (its:List Value),zbT ys its->ys.length<=sizeLine->∀ (h':Heap) (c':Nat),(∀ b o',s.heap.get? b=some o'->h'.get? b=some o') ->
   h'.get? s.heap.objs.size=some { cls:=.type "list",dict:=none,data:=.seq its.toArray c',slots:=#[] }->EP X pins σ Q (.ref s.heap.objs.size) { s with heap:=h' }:=fun its r' hz h' c' kp e =>
  ⟨.ref s.heap.objs.size,_,I.laid (t':=s.toks) kp (Nat.le_refl _) (show zb8 X.prog X.w _ h' _ (.lst ys) from⟨hz,its,c',r',e⟩),rfl,q _ (I.hok.fresh (Nat.le_refl _))⟩
 rcases hq with hq | hq
 ·obtain⟨its,r',pl,hz⟩:=I.list hq
  have hlen:=r'.length
  obtain⟨o,ho,hc,n,hd⟩:=pl.isList
  exact call_list_seq p (.inl rfl) ho hc hd (fun h' c' kp e=>fin its r' hz h' c' kp e) (by simp only[List.size_toArray]<;>omega)
 ·obtain⟨its,r',pl,hz⟩:=I.tuple hq
  have hlen:=r'.length
  obtain⟨o,ho,hc,n,hd⟩:=pl
  exact call_list_seq p (.inr rfl) ho hc hd (fun h' c' kp e=>fin its r' hz h' c' kp e) (by simp only[List.size_toArray]<;>omega)
theorem zlP:zkg X (.type "tuple") (fun xs H Q=>∃ p ys,xs=[.ref p]/\((SqL X.K H p ys/\∀ l,H l=none->Q (.ref l) (upd H l (.tup ys)))∨(SqT X.K H p ys/\Q (.ref p) H))):=by
 intro pins s σ H xs us Q I r h
 obtain⟨p,ys,rfl,h⟩:=h
 obtain⟨u,rfl,rx⟩:=zqD r
 cases rx
 rcases h with⟨hq,q⟩ | ⟨hq,q⟩
 ·obtain⟨its,r',pl,hz⟩:=I.list hq
  have hlen:=r'.length
  refine call_tuple_list pl.isList (fun h' kp=>?_) (by simp only[List.size_toArray]<;>omega)
  have I1:Inv X pins σ H { s with heap:=h' }:=I.kept (t':=s.toks) kp
  have I2:Inv X pins σ (upd H h'.objs.size (.tup ys)) { s with heap:=h'.push { cls:=.type "tuple",data:=.seq its.toArray } } :=
   I1.laid (t':=s.toks) (fun b o e=>Heap.get?_push_of_some _ e) (Nat.le_refl _) (show zb8 X.prog X.w _ _ _ (.tup ys) from⟨hz,its,r',IsTup.new _ _⟩)
  exact⟨.ref h'.objs.size,_,I2,rfl,q _ (I1.hok.fresh (Nat.le_refl _))⟩
 ·obtain⟨its,r',pl,hz⟩:=I.tuple hq
  exact call_tuple_same pl ⟨.ref p,H,I,rfl,q⟩
def tyV (K:W.Frag)(T:String)(x:V)(H:Hp):Prop:=match x with
 | .str _=>T="str"
 | .int _=>T="int"
 | .ref p=>(T="list"/\∃ xs,SqL K H p xs)∨(T="tuple"/\∃ o,K.lookup p=some o/\o.cls=.type "tuple"/\o.dict=none) ∨
   (T="dict"/\((∃ kvs,H p=some (.dK kvs))∨∃ kvs,H p=some (.dT kvs)))∨(T="set"/\∃ S n,H p=some (.set S n))
 | _=>False
theorem zun {pins:List (Addr×Obj)}{σ:St}{H:Hp}{s:Shared}{T:String}{x:V}{v:Value}(I:Inv X pins σ H s)(r:zct x v)(ty:tyV X.K T x H) :
  s.TypeIs v T/\∀ a,v=.ref a->∃ ob,s.heap.get? a=some ob/\ob.dict=none:=by
 cases x with
 | str z =>
  obtain⟨t,rfl⟩:=r
  cases (show T="str" from ty)
  exact⟨typeIs_str s z t,fun _ e=>nomatch e⟩
 | int i =>
  obtain⟨t,rfl⟩:=r
  cases (show T="int" from ty)
  exact⟨typeIs_int s i t,fun _ e=>nomatch e⟩
 | ref p =>
  cases r
  rcases ty with⟨rfl,xs,hq⟩ | ⟨rfl,o,hk,hc,hd⟩ | ⟨rfl,hk⟩ | ⟨rfl,S,n,hk⟩
  ·obtain⟨its,_,pl,_⟩:=I.list hq
   refine⟨pl.isList.typeIs,fun a e=>?_⟩
   cases e
   obtain⟨o,n,e,c,hd,_⟩:=pl
   exact⟨o,e,hd⟩
  ·refine⟨⟨o,I.kIn p o hk,hc⟩,fun a e=>?_⟩
   cases e
   exact⟨o,I.kIn _ o hk,hd⟩
  ·have z:∃ o,s.heap.get? p=some o/\o.ExactDict:=by
    rcases hk with⟨kvs,hk⟩ | ⟨kvs,hk⟩
    ·obtain⟨_,_,_,_,o,_,_,e,ex,_⟩:=I.hok p _ hk
     exact⟨o,e,ex⟩
    ·obtain⟨_,_,_,_,o,_,_,e,ex,_⟩:=I.hok p _ hk
     exact⟨o,e,ex⟩
   obtain⟨o,e,ex⟩:=z
   refine⟨⟨o,e,ex.1⟩,fun a e2=>?_⟩
   cases e2
   exact⟨o,e,ex.2.1⟩
  ·obtain⟨o,_,_,_,e,ex,_⟩:=I.hok p _ hk
   refine⟨⟨o,e,ex.1⟩,fun a e2=>?_⟩
   cases e2
   exact⟨o,e,ex.2.1⟩
 | _=>exact False.elim ty
def zAj (K:W.Frag)(T:String)(r:V->List V->Hp->VK->Prop)(to:TE):TE:=fun σ H Q=>to σ H fun x H1=>tyV K T x H1/\r x [] H1 Q
def tBM (K:W.Frag)(T:String)(r:V->List V->Hp->VK->Prop)(to:TE)(t:TA):TE:=fun σ H Q=>to σ H fun x H1=>tyV K T x H1/\t σ H1 fun xs H2=>r x xs H2 Q
variable {o e:Expr}{es:List Expr}{to:TE}{t:TA}{name:Str}{apos cpos:Pos}{T id:String}{r:V->List V->Hp->VK->Prop}
theorem zxz (pa:PlainAttrs T)(slot:Slot T name id)(hty:typeOf (.builtin id)=pure (.type "method_descriptor"))(hm:MtR X id r)(ho:PE X o to)
  (hbase:attributeBase o name X.env (eval o X.env)=eval o X.env:=by rfl)(hline:(apos.endLine==cpos.line)=true:=by rfl):PE X (.Call (.Attribute o name apos) [] [] cpos) (zAj X.K T r to):=by
 intro pins s σ H Q I h
 refine wpAny_Call_method0_late hbase hline (thn (ho pins s σ H _ I h) fun v s1 ⟨x,H1,I1,r1,ty,q1⟩=>?_)
 obtain⟨h1,h2⟩:=zun I1 r1 ty
 exact⟨T,id,pa,slot,hty,h1,h2,Calls.callWith_builtin rfl (PySem.evalArgs_none (hm pins s1 σ H1 x [] v [] Q I1 r1 .nil q1))⟩
theorem zxA (pa:PlainAttrs T)(slot:Slot T name id)(hty:typeOf (.builtin id)=pure (.type "method_descriptor"))(hm:MtR X id r)(ho:PE X o to)(ha:PA X (e::es) t)
  (hbase:attributeBase o name X.env (eval o X.env)=eval o X.env:=by rfl)
  (hfew:((backTo cpos (starEach (e::es) X.env)).all (fun x=>!x.1)&&(backToKw cpos (keywordEach [] X.env)).all (fun x=>x.1.isSome)
  &&decide ((e::es).length+([]:List Keyword).length+(if([]:List Keyword).isEmpty then 0 else 1) < 30))=true:=by rfl)
  (hline:(apos.endLine==cpos.line)=true:=by rfl) (hs:starEach (e::es) X.env=(false,eval e X.env)::starEach es X.env:=by rfl) (hplain:(backTo cpos (starEach es X.env)).any (·.1)=false:=by rfl) :
  PE X (.Call (.Attribute o name apos) (e::es) [] cpos) (tBM X.K T r to t):=by
 intro pins s σ H Q I h
 refine wpAny_Call_method_late hbase hfew hline rfl (thn (ho pins s σ H _ I h) fun v s1 ⟨x,H1,I1,r1,ty,q1⟩=>?_)
 obtain⟨h1,h2⟩:=zun I1 r1 ty
 refine⟨T,id,pa,slot,hty,h1,h2,?_⟩
 have hA:=ha cpos pins s1 σ H1 _ I1 q1
 rw[hs] at hA ⊢
 refine Calls.callWith_builtin (by show(false||(backTo cpos (starEach es X.env)).any (·.1))=false;rw[hplain]<;>rfl) (Calls.evalArgs_plain ?_)
 exact thn hA fun us s2 ⟨vs,H2,I2,r2,q2⟩=>hm pins s2 σ H2 x vs v us Q I2 r1 r2 q2
end
def MtM (X:Cx)(id:String)(r:V->List V->Hp->VK->Prop):Prop :=
 ∀ (pins:List (Addr×Obj)) (s:Shared) (σ:St) (H:Hp) (x:V) (xs:List V) (v:Value) (us:List Value) (Q:VK),Inv X pins σ H s->zct x v->zbT xs us->r x xs H Q ->
  wpAny (model X.prog X.w) X.A (call (.builtin id) (v::us)) (EP X pins σ Q) X.xe s
theorem zbT.one:∀ {x:V}{us:List Value},zbT [x] us->∃ u,us=[u]/\zct x u
 | _,_,.cons r .nil=>⟨_,rfl,r⟩
theorem zbT.dropLast {xs:List V}{us:List Value}(h:zbT xs us):zbT xs.dropLast us.dropLast:=by
 induction h with
 | nil=>exact .nil
 | cons r t ih =>
  cases t with
  | nil=>exact .nil
  | cons q t'=>exact .cons r ih
theorem zbT.rep {xs:List V}{us:List Value}(h:zbT xs us):∀ k:Nat,zbT (List.replicate k xs).flatten (List.replicate k us).flatten
 | 0=>.nil
 | k+1=>by
  rw[List.replicate_succ,List.replicate_succ,List.flatten_cons,List.flatten_cons]
  exact zbT.append h (zbT.rep h k)
theorem zwE {α:Type}(l:List α):l.eraseIdx (l.length-1)=l.dropLast:=by
 induction l with
 | nil=>rfl
 | cons a r ih =>
  cases r with
  | nil=>rfl
  | cons b r =>
   have e:(a::b::r).length-1=((b::r).length-1)+1:=by
    have h1:(a::b::r).length=r.length+2:=rfl
    have h2:(b::r).length=r.length+1:=rfl
    omega
   rw[e,List.eraseIdx_cons_succ,ih]
   all_goals rfl
theorem zm9 (its:List Value):∀ (k:Nat) (acc:List Value),
  List.foldl (fun x1 x2=>x1++x2) acc.toArray (List.replicate k its.toArray)=(acc++(List.replicate k its).flatten).toArray
 | 0,acc=>by simp
 | k+1,acc=>by
  have e:acc.toArray++its.toArray=(acc++its).toArray:=by simp
  have e2:(acc++its)++(List.replicate k its).flatten=acc++(List.replicate (k+1) its).flatten:=by
   rw[List.replicate_succ,List.flatten_cons,List.append_assoc]
  rw[← e2,← zm9 its k (acc++its),← e,List.replicate_succ,List.foldl_cons]
section
variable {X:Cx}{pins:List (Addr×Obj)}{σ:St}{H:Hp}{s:Shared}{l b:Addr}{xs ys zs:List V}
theorem Inv.lset {its its':List Value}{n:Nat}{f:Array Value->Array Value}{t':Nat}(I:Inv X pins σ H s)(hH:H l=some (.lst xs))
  (e:s.heap.get? l=some { cls:=.type "list",data:=.seq its.toArray n })(hf:f its.toArray=its'.toArray)(hv:zbT ys its')(hz:ys.length<=sizeLine) :
  Inv X pins σ (upd H l (.lst ys)) { s with heap:=s.heap.update l (Obj.mapSeq f),toks:=t' }:=by
 have q:=PySem.IsL.update e f
 rw[hf] at q
 refine I.write (x:=l) (e:=l) (by rw[hH];exact trivial) (.inl rfl) (fun b' u hb hu=>(Heap.get?_update_other s.heap (Obj.mapSeq f) (Ne.symm hb)).trans hu) ⟨_,q⟩ ?_
 exact⟨hz,its',_,hv,q⟩
theorem Inv.lnew {its:List Value}{t':Nat}(I:Inv X pins σ H s)(hv:zbT ys its)(hz:ys.length<=sizeLine) :
  Inv X pins σ (upd H s.heap.objs.size (.lst ys)) { s with heap:=s.heap.push { cls:=.type "list",data:=.seq its.toArray },toks:=t' } :=
 I.laid (fun _ _ q=>Heap.get?_push_of_some _ q) (Nat.le_refl _) ⟨hz,its,0,hv,Heap.get?_push_size _ rfl⟩
theorem Inv.fresh (I:Inv X pins σ H s):H s.heap.objs.size=none:=I.hok.fresh (Nat.le_refl _)
theorem Inv.lstM (I:Inv X pins σ H s)(hH:H l=some (.lst xs)):xs.length<=sizeLine/\∃ (its:List Value) (n:Nat),zbT xs its/\xs.length=its.length/\s.heap.get? l=some { cls:=.type "list",data:=.seq its.toArray n }:=by
 obtain⟨z,its,n,r,e⟩:=I.hok l _ hH
 exact⟨z,its,n,r,r.length,e⟩
theorem ztx {n:Nat}(h:n<=sizeLine):Builtin.List.listTooLong n=false:=by
 unfold Builtin.List.listTooLong
 exact decide_eq_false (by omega)
end
section
variable {X:Cx}
def zvn:V->List V->Hp->VK->Prop:=fun x vs H Q=>∃ l xs y,x=.ref l/\vs=[y]/\H l=some (.lst xs)/\xs.length < sizeLine/\Q .non (upd H l (.lst (xs++[y])))
theorem zmP:MtM X "list.append" zvn:=by
 intro pins s σ H x vs v us Q I rx rv h
 obtain⟨l,xs,y,rfl,rfl,hH,hz,q⟩:=h
 cases rx
 obtain⟨u,rfl,ru⟩:=rv.one
 obtain⟨z,its,n,r,hl,e⟩:=I.lstM hH
 refine call_meets F.slot_list_append ⟨_,e,rfl⟩ F.entry_list_append (F.args_list_append_2 _ _) (PySem.list_append l its.toArray n u (by rw[List.size_toArray];omega)) ⟨e,?_⟩
 refine⟨.non,_,I.lset (its':=its++[u]) hH e (by simp) (r.append (.cons ru .nil)) ?_,rfl,q⟩
 rw[List.length_append,List.length_singleton]
 omega
def zAJ:V->List V->Hp->VK->Prop:=fun x vs H Q=>∃ l xs y,x=.ref l/\vs=[]/\H l=some (.lst xs)/\xs[xs.length-1]?=some y/\Q y (upd H l (.lst xs.dropLast))
def zAr:R2:=fun x y H Q=>∃ l k xs,x=.ref l/\y=.int k/\H l=some (.lst xs)/\-(2 ^ 63)<=k/\k < 2 ^ 63/\xs.length*k.toNat<=sizeLine /\
 ∀ p,H p=none->Q (.ref p) (upd H p (.lst (List.replicate k.toNat xs).flatten))
theorem zvT {α:Type}(xs:List α)(k:Nat):(List.replicate k xs).flatten.length=k*xs.length:=by
 induction k with
 | zero=>simp
 | succ k ih=>rw[List.replicate_succ,List.flatten_cons,List.length_append,ih,Nat.succ_mul,Nat.add_comm]
theorem zxG:OpR X (binaryOp .Mult) zAr:=by
 intro pins s σ H x y v u Q I rx ry h
 obtain⟨l,k,xs,rfl,rfl,hH,h1,h2,hz,q⟩:=h
 cases rx
 obtain⟨t,rfl⟩:=ry
 obtain⟨z,its,n,r,hl,e⟩:=I.lstM hH
 have hlen:its.toArray.size*k.toNat<=sizeLine:=by rw[List.size_toArray,← hl];exact hz
 have hcap:¬ its.toArray.size*k.toNat > (2 ^ 63-1) / 8:=by
  have:(sizeLine:Nat)<=(2 ^ 63-1) / 8:=by decide
  omega
 have hfit:¬ (!Builtin.List.listFitsIndex k)=true:=by
  rw[fitsIndex_both h1 h2]
  exact Bool.false_ne_true
 have hlong:¬ Builtin.List.listTooLong (its.toArray.size*k.toNat)=true:=by
  rw[ztx hlen]
  exact Bool.false_ne_true
 have hnew:List.foldl (fun x1 x2=>x1++x2) #[] (List.replicate (if its.toArray.isEmpty=true then 0 else k.toNat) its.toArray)=(List.replicate k.toNat its).flatten.toArray:=by
  have f0:∀ m:Nat,List.foldl (fun x1 x2=>x1++x2) #[] (List.replicate m its.toArray)=(List.replicate m its).flatten.toArray:=fun m=>by
   have:=zm9 its m []
   rw[List.nil_append] at this
   exact this
  rw[f0]
  cases its with
  | nil=>simp
  | cons a r'=>rw[if_neg (by simp)]
 refine wpAny_binaryOp_repeat_ref (T:="list") (U:="int") (by decide) ⟨_,e,rfl⟩ (fun s'=>typeIs_int s' k t) noFill_list_mul F.fills_int_mul F.slot_int_rmul repeat_list F.slot_int_index.lookup
  (call_meets F.slot_int_rmul (typeIs_int s k t) F.entry_int_rmul (F.args_int_rmul_2 _ _) (int___rmul___int_list k t l its.toArray n)
   ⟨e,rfl,⟨_,e,rfl⟩,call_meets F.slot_list_mul ⟨_,e,rfl⟩ F.entry_list_mul (F.args_list_mul_2 _ _) (AutoListH.list___mul___list_int_3 l its.toArray n k t hfit hcap hlong) ⟨e,?_⟩⟩)
 rw[hnew]
 exact⟨.ref _,_,I.lnew (t':=s.toks) (r.rep k.toNat) (by rw[zvT,Nat.mul_comm];exact hz),rfl,q _ I.fresh⟩
end
section
variable {prog:Program}{w:World}{A:Around}{E:Value->Shared->Prop}{s:Shared}
set_option maxRecDepth 100000 in
end
section
variable {X:Cx}
end
end L2
namespace Att
open PySem PySem.W PySem.Calls PyProof.Rows
theorem zjH {P:Params}{h:Heap}:∀ (ns:List Int) (vs:List Value),WellAll P h vs (ns.map WData.int)->IntsAre vs ns:=by
 intro ns
 induction ns with
 | nil =>
  intro vs w
  rw[List.map_nil] at w
  cases w
  exact .nil
 | cons n ns ih =>
  intro vs w
  rw[List.map_cons] at w
  cases w with
  | cons a b =>
   cases a
   exact .cons _ _ (ih _ b)
theorem zq0 {l:OpenLaw}{n:Nat}(hn:l.most=some n){P:Params}{h:Heap}{args:List WData}{vals:List Value}
  (hpre:l.row.toRowW.claim.pre args=true)(hwl:WellAll P h vals args) :
  ∃ a vs ns,vals=[Value.ref a]/\args=[WData.list (ns.map WData.int)]/\h.get? a=some { cls:=.type "list",data:=.seq vs.toArray }/\IntsAre vs ns/\ns.length<=n:=by
 have hsh:WShape.hasAll [] args [.list .int]=true:=(pre_splitW hpre).1
 have hc:l.pre.holds [] { args:=args }=true:=(pre_splitW hpre).2
 obtain⟨d,r,rfl,h1,h2⟩:=hasAllW_cons hsh
 obtain rfl:=hasAllW_nil h2
 obtain⟨xs,rfl,h3⟩:=hasW_list h1
 obtain⟨ns,rfl⟩:=items_int h3
 have hlen:ns.length<=n:=by
  unfold OpenLaw.pre at hc
  have h4:(WTm.not (.lt (.lit (.int (n:Int))) (.len (.arg 0)))).holds [] { args:=[.list (ns.map .int)] }=true:=by
   have h4:=(holds_andW hc).1
   rw[hn] at h4
   exact h4
  have h5:=condW_of h4 (w_not (w_lt w_lit (w_len_list (w_arg rfl))))
  rw[List.length_map] at h5
  refine Nat.le_of_not_lt fun q=>?_
  have q':(n:Int) < ((ns.length:Nat):Int):=by omega
  first
   | (rw[decide_eq_true q'] at h5;exact absurd h5 (by decide))
   | (simp at h5;omega)
 cases hwl with
 | cons w1 w2 =>
  cases w2
  cases w1 with
  | list ho hall=>exact⟨_,_,ns,rfl,rfl,ho,zjH ns _ hall,hlen⟩
theorem zre (l:OpenLaw)(args:List WData):l.row.toRowW.claim.post args (.bool true) args=true :=
 postW_of (r:=l.row.toRowW) (X:=(true==true))
  (show WShape.has [] (.bool true) .bool=true by first | rfl | decide | simp [WShape.has,WShape.arms,WShape.armsAll])
  (show(WTm.eq .res (.lit (.bool true))).value [] { args:=args,res:=some (.bool true),after:=args }=some (.bool (true==true)) from w_eq_bool (w_res rfl) w_lit) rfl
theorem attach_call {l:OpenLaw}{n:Nat}{q:Program}{loose:List Str}{XP:(Str->Option Value)->Heap->Prop}{YP:World->Heap->Prop}{d:DefRec}
  (hn:l.most=some n)(hdf:d.params.defaults=[])
  (call:∀ (w:World) (s₀ s₁:Shared) (mg mb:Str->Option Value) (fa:Addr) (o:Obj) (pm cd doc:Value) (a:Addr) (vs:List Value) (ns:List Int),
   Ground q loose [] XP w s₀ mg mb s₁.heap->YP w s₁.heap ->
   s₁.heap.get? fa=some o->o.data=.func (docDef d.name d.params d.body d.scope pm cd doc)->s₁.heap.CodeRec cd d.name->mg d.name=some (.ref fa) ->
   s₁.heap.get? a=some { cls:=.type "list",data:=.seq vs.toArray }->IntsAre vs ns->ns.length<=n->s₁.gens=#[] ->
   codeAny (model l.prog w) callerA (.call (.ref fa) ⟨[.ref a],[]⟩) (fun r s'=>r=.ok (.ret (.bool true))/\OldK s₁.heap s'.heap/\s'.os=s₁.os/\AllBare s'.gens) s₁) :
  WalkO q loose XP YP l.row.toRowW d [] (fun f vs=>PySem.call f vs):=by
 intro w s₀ s₁ mg mb G Y fa o pm cd doc dV kV ho hd hcd hD hmg hg args vals as hpre hlay hrd hwl hlo
 obtain rfl:dV=.none:=Dflts.none hD hdf
 obtain rfl:kV=.none:=Dflts.noKw hD
 obtain⟨a,vs,ns,rfl,rfl,hobj,hints,hlen⟩:=zq0 hn hpre hwl
 refine enter_call (codeAny_mono (call w s₀ s₁ mg mb fa o pm cd doc a vs ns G Y ho (fd_plain hd) hcd hmg hobj hints hlen hg) fun r s' hq=>?_)
 obtain⟨rfl,h2,h3,h4⟩:=hq
 exact⟨.inl ⟨.bool true,.bool true,[],rfl,fun _=>rfl,.bool true,zre l _,fun _=>⟨List.Pairwise.nil,fun _ hm=>(nomatch hm)⟩⟩,h2,h3,h4⟩
section
variable {prog:Program}{w:World}{A:Around}{E:Value->Shared->Prop}{s:Shared}{K:Frag}
end
end Att
namespace L2
open PySem PySem.Spec PyProof.Rows
theorem zms:∀ {vs:List Value}{ns:List Int},IntsAre vs ns->zbT (ns.map V.int) vs
 | _,_,.nil=>.nil
 | _,_,.cons n t h=>.cons ⟨t,rfl⟩ (zms h)
def zyE (H:Hp):Prop:=∀ b,H b=none∨∃ o xs,H b=some (.frz o (.lst xs))
theorem ztG {P:Program}{w:World}{K:W.Frag}{mg mb:Str->Option Value}{CX:CXT}{k:Nat}{fa a:Addr}{fd:FuncData}{x:Str}{sp:Sp}{s₁:Shared}{vs:List Value}{ns:List Int}
  (KX:K.In s₁.heap)(hns:s₁.heap.Ns mainGlobals mg)(hb:s₁.heap.Ns builtinsNs mb)(hbb:∀ x:Str,x≠"__name__"->mb x=bootBuiltins x)(hlim:s₁.heap.NoLimit)(hg:s₁.gens=#[])
  (ha:s₁.heap.get? a=some { cls:=.type "list",data:=.seq vs.toArray })(hi:IntsAre vs ns)(hl:ns.length<=sizeLine)(hr:zhz k callerA)
  (F:∀ base:Heap,K.In base->base.Ns mainGlobals mg->zcL P w K mg base CX k fa fd [x] sp)(hbind:∀ (s:Shared) (u:Value),BindsTo s fd ⟨[u],[]⟩ [(x,u)])
  (hsp:∀ H:Hp,zyE H->SqL K H a (ns.map V.int)->sp [.ref a] H (fun v _=>v=.bl true) fun _ _ _=>False)
  (hCX:∀ H e s',CX [] H s₁ (fun _ _ _=>False) e s'->False) :
  codeAny (model P w) callerA (.call (.ref fa) ⟨[.ref a],[]⟩) (fun r s'=>r=.ok (.ret (.bool true))/\OldK s₁.heap s'.heap/\s'.os=s₁.os/\AllBare s'.gens) s₁:=by
 have rv:=zms hi
 have lenV:=hi.length
 have core:∀ H:Hp,zyE H->SqL K H a (ns.map V.int)->HOk P w H s₁.heap->(∀ b,H b≠none->b=a)->(H a≠none->K.lookup a=none) ->
   codeAny (model P w) callerA (.call (.ref fa) ⟨[.ref a],[]⟩) (fun r s'=>r=.ok (.ret (.bool true))/\OldK s₁.heap s'.heap/\s'.os=s₁.os/\AllBare s'.gens) s₁:=by
  intro H hO hS hok hA hK
  have base_of:∀ {b:Addr}{o:Obj},s₁.heap.get? b=some o->H b=none->(ztT s₁.heap H).get? b=some o:=fun e n=>ztS e n
  have noA:∀ {b:Addr}{o:Obj}{es:Array DictEntry}{ep:Nat},s₁.heap.get? b=some o->o.data=.dict es ep->H b=none:=fun {b o es ep} e d=>by
   cases q:H b with
   | none=>rfl
   | some u =>
    have e':b=a:=hA b (by rw[q];simp)
    subst e'
    rw[ha] at e;cases e
    have d':Data.seq vs.toArray _=Data.dict es ep:=d
    cases d'
  have nsK:∀ {b:Addr}{m:Str->Option Value},s₁.heap.Ns b m->(ztT s₁.heap H).Ns b m:=fun {b m} ⟨o,es,ep,e,d,r⟩=>⟨o,es,ep,base_of e (noA e d),d,r⟩
  have hKb:K.In (ztT s₁.heap H):=fun b o e=>base_of (KX b o e) (by
   cases q:H b with
   | none=>rfl
   | some u =>
    have e':b=a:=hA b (by rw[q];simp)
    subst e'
    rw[hK (by rw[q];simp)] at e;cases e)
  have hM:Mod K mg (ztT s₁.heap H):=⟨hKb,nsK hns,⟨mb,nsK hb,hbb⟩,let ⟨mc,h1,h2⟩:=hlim;⟨mc,nsK h1,h2⟩⟩
  have e0:zuH P w K mg (ztT s₁.heap H) callerA [] s₁ H:=⟨rfl,hM,fun b o e=>zvK e,Nat.le_of_eq (zrP _ _),trivial,fun b hb=>absurd (show b∈([]:List Addr) from hb) (by simp),hok,.of_eq hg⟩
  refine codeAny_mono ((F _ hKb (nsK hns)).run callerA [] s₁ H ⟨[.ref a],[]⟩ [.ref a] [.ref a] _ _ hr e0 (hbind s₁ (.ref a)) (.cons rfl .nil) (hsp H hO hS)) fun r s' h=>?_
  cases r with
  | error e=>exact(hCX H e s' h).elim
  | ok fl =>
   cases fl with
   | next=>exact False.elim h
   | brk=>exact False.elim h
   | cont=>exact False.elim h
   | ret u =>
    obtain⟨v,H',os,bare,un,hok',r',q⟩:=h
    have q':v=.bl true:=q
    subst q'
    obtain rfl:u=Value.bool true:=r'
    refine⟨rfl,OldK.of_keep fun b o e=>?_,os,bare⟩
    cases q:H b with
    | none=>exact un.keep b o e q (by intro z;exact absurd (show b∈([]:List Addr) from z) (by simp)) (by simp)
    | some u =>
     rcases hO b with z | ⟨ob,xs,z⟩
     ·rw[q] at z;cases z
     ·have z2:=un.frzs b ob _ z
      obtain⟨e1,_⟩:=hok b _ z
      obtain⟨e2,_⟩:=hok' b _ z2
      rw[e] at e1;cases e1
      exact e2
 cases hk:K.lookup a with
 | some o =>
  have e:=KX a o hk
  rw[ha] at e
  cases e
  refine core (fun _=>none) (fun _=>.inl rfl) (.inr ⟨_,vs.toArray,_,hk,rfl,rfl,rfl,by rw[List.size_toArray,lenV];exact hl,by simpa using rv⟩) (fun b u z=>by have z':(none:Option HO)=some u:=z;cases z') (fun b z=>absurd rfl z) fun z=>absurd rfl z
 | none =>
  refine core (fun b=>if b=a then some (.frz { cls:=.type "list",data:=.seq vs.toArray } (.lst (ns.map V.int))) else none) (fun b=>?_) (.inl (.inr ⟨{ cls:=.type "list",data:=.seq vs.toArray },if_pos rfl⟩)) (fun b u z=>?_) (fun b z=>?_) fun _=>hk
  ·by_cases hb:b=a
   ·exact .inr ⟨_,_,if_pos hb⟩
   ·exact .inl (if_neg hb)
  ·by_cases hb:b=a
   ·have z':=(if_pos hb).symm.trans z
    cases z'
    subst hb
    exact⟨ha,by rw[List.length_map];exact hl,vs,_,rv,ha⟩
   ·have z':=(if_neg hb).symm.trans z
    cases z'
  ·by_cases hb:b=a
   ·exact hb
   ·exact absurd (if_neg hb) z
abbrev KOf {K:W.Frag}{h:Heap}(_:K.In h):W.Frag:=K
theorem zuV {l:W.OpenLaw}{n k:Nat}{q:Program}{loose:List Str}{XP:(Str->Option Value)->Heap->Prop}{YP:World->Heap->Prop}{d:DefRec}{K:Params->W.Frag}{CX:World->CXT}{sp:World->Sp}{x:Str}
  (hn:l.most=some n)(hn2:n<=sizeLine)(hdf:d.params.defaults=[])(hr:zhz k callerA)
  (hY:∀ (w:World) (h:Heap),YP w h->(K w.params).In h)
  (F:∀ (w:World) (mg:Str->Option Value) (fa:Addr) (h:Heap),(K w.params).In h->h.Ns mainGlobals mg->mg d.name=some (.ref fa) ->
   ∃ fd:FuncData,(∀ (s:Shared) (u:Value),BindsTo s fd ⟨[u],[]⟩ [(x,u)]) /\
    ∀ base:Heap,(K w.params).In base->base.Ns mainGlobals mg->zcL l.prog w (K w.params) mg base (CX w) k fa fd [x] (sp w))
  (hsp:∀ (w:World) (H:Hp) (a:Addr) (ns:List Int),ns.length<=n->zyE H->SqL (K w.params) H a (ns.map V.int)->sp w [.ref a] H (fun v _=>v=.bl true) fun _ _ _=>False)
  (hCX:∀ (w:World) (H:Hp) (s:Shared) (e:Value) (s':Shared),CX w [] H s (fun _ _ _=>False) e s'->False) :
  W.WalkO q loose XP YP l.row.toRowW d [] (fun f vs=>PySem.call f vs):=by
 refine Att.attach_call hn hdf fun w s₀ s₁ mg mb fa o pm cd doc a vs ns G Y ho hd hcd hmg hobj hints hlen hg=>?_
 have KX:=hY w _ Y
 obtain⟨fd,hb,hF⟩:=F w mg fa _ KX G.T.g hmg
 exact ztG KX G.T.g G.T.b G.T.builtins G.T.nolimit hg hobj hints (Nat.le_trans hlen hn2) hr hF hb (fun H hO hS=>hsp w H a ns hlen hO hS) fun H e s'=>hCX w H s₁ e s'
theorem walk_ofK {l:W.OpenLaw}{n k:Nat}{q:Program}{loose:List Str}{XP:(Str->Option Value)->Heap->Prop}{YP:World->Heap->Prop}{d:DefRec}{K:Params->W.Frag}{CX:CXT}{sp:W.Frag->Sp}{x:Str}
  (hn:l.most=some n)(hn2:n<=sizeLine)(hdf:d.params.defaults=[])(hr:zhz k callerA)
  (hY:∀ (w:World) (h:Heap),YP w h->(K w.params).In h)
  (F:∀ (w:World) (mg:Str->Option Value) (fa:Addr) (h:Heap),(K w.params).In h->h.Ns mainGlobals mg->mg d.name=some (.ref fa) ->
   ∃ fd:FuncData,(∀ (s:Shared) (u:Value),BindsTo s fd ⟨[u],[]⟩ [(x,u)]) /\
    ∀ base:Heap,(K w.params).In base->base.Ns mainGlobals mg->zcL l.prog w (K w.params) mg base CX k fa fd [x] (sp (K w.params)))
  (hsp:∀ (K:W.Frag) (H:Hp) (a:Addr) (ns:List Int),ns.length<=n->zyE H->SqL K H a (ns.map V.int)->sp K [.ref a] H (fun v _=>v=.bl true) fun _ _ _=>False)
  (hCX:∀ (H:Hp) (s:Shared) (e:Value) (s':Shared),CX [] H s (fun _ _ _=>False) e s'->False) :
  W.WalkO q loose XP YP l.row.toRowW d [] (fun f vs=>PySem.call f vs) :=
 zuV (K:=K) (CX:=fun _=>CX) (sp:=fun w=>sp (K w.params)) hn hn2 hdf hr hY F (fun w H a ns h1 h2 h3=>hsp (K w.params) H a ns h1 h2 h3) fun _ H s e s'=>hCX H s e s'
def zv2 (s:Stmt)(j:Nat):Stmt:=match s with
 | .ClassDef _ _ _ body _ _ _ _ _ _ _=>body.getD j (.Pass ⟨0,0,0,0⟩)
 | _=>.Pass ⟨0,0,0,0⟩
def defArgs (s:Stmt):Arguments:=match s with
 | .FunctionDef _ a _ _ _ _ _ _ _ _=>a
 | _=>{ posonlyargs:=[],args:=[],vararg:=none,kwonlyargs:=[],kw_defaults:=[],kwarg:=none,defaults:=[] }
def defBody (s:Stmt):List Stmt:=match s with
 | .FunctionDef _ _ b _ _ _ _ _ _ _=>b
 | _=>[]
def defScope (s:Stmt):Scope:=match s with
 | .FunctionDef _ _ _ _ _ _ sc _ _ _=>sc
 | _=>{ kind:=.function,names:=[],isGenerator:=false,isCoroutine:=false }
abbrev CX0:CXT:=fun _ _ _ _ _ _=>False
abbrev E0:XK:=fun _ _ _=>False
theorem zbo {X:Cx}:zkZ CX0 X E0:=fun _ _ _ _ _ _ _ h=>h.elim
structure Fun (K:W.Frag) (x qual:Str) (st:Stmt) (f:Addr) (fd:FuncData):Prop where
 ex:∃ (oc:Value) (od:Option Addr) (kV doc pm:Value) (an:Option Addr) (cdv ct:Value) (osl:Array (Option Value)),
  fd=W.fnOf x qual (defArgs st) (defBody st) (defScope st) .none kV doc pm an cdv ct/\K.lookup f=some ⟨oc,od,.func fd,osl⟩/\W.codeIn K cdv qual=true
 kp:W.keepIn K (.ref f)=true
section
variable {P:Program}{w:World}{K:W.Frag}{mg:Str->Option Value}{base:Heap}
theorem Fun.ok {x qual:Str}{st:Stmt}{f:Addr}{fd:FuncData}{N ps:List Str}{k:Nat}{sp:Sp}(F:Fun K x qual st f fd)(S:zay N ps (defScope st))(len:∀ vs H Q E,sp vs H Q E->vs.length=ps.length)
  (hbody:∀ (cdv:Value) (A:Around) (outer:List Env) (s:Shared) (H:Hp) (vs:List V) (Q:VK) (E:XK),zhz k (A.deeper (envOfC qual (defScope st) s.heap.objs.size f cdv))->sp vs H Q E ->
   ∃ t,PSs (zg1 CX0 P w K mg base N qual (defScope st) f cdv A outer s H E).nox (defBody st) t/\t { nx:=fun _ H'=>Q .non H',rt:=Q } (start N vs) H):zcL P w K mg base CX0 (k+1) f fd ps sp:=by
 obtain⟨oc,od,kV,doc,pm,an,cdv,ct,osl,rfl,lk,hcd⟩:=F.ex
 refine zx5 lk hcd S len fun A outer s H vs Q E hr hsp=>?_
 obtain⟨t,h,q⟩:=hbody cdv A outer s H vs Q E hr hsp
 exact⟨t,h.nox,q⟩
theorem Fun.binds {x qual:Str}{st:Stmt}{f:Addr}{fd:FuncData}{ps:List Str}(F:Fun K x qual st f fd)
  (h:∀ (kV doc pm:Value) (an:Option Addr) (cdv ct:Value) (us:List Value),us.length=ps.length->bindArgs (W.fnOf x qual (defArgs st) (defBody st) (defScope st) .none kV doc pm an cdv ct) ⟨us,[]⟩=pure (ps.zip us)):zbg K fd ps []:=by
 obtain⟨oc,od,kV,doc,pm,an,cdv,ct,osl,rfl,lk,hcd⟩:=F.ex
 exact .all (h kV doc pm an cdv ct)
theorem zas {x qual:Str}{st:Stmt}{f:Addr}{oc:Value}{od an:Option Addr}{osl:Array (Option Value)}{kV doc pm cdv ct:Value}(l:K.lookup f=some ⟨oc,od,.func (W.fnOf x qual (defArgs st) (defBody st) (defScope st) .none kV doc pm an cdv ct),osl⟩)
  (c:W.codeIn K cdv qual=true)(k:W.keepIn K (.ref f)=true):Fun K x qual st f (W.fnOf x qual (defArgs st) (defBody st) (defScope st) .none kV doc pm an cdv ct):=⟨⟨oc,od,kV,doc,pm,an,cdv,ct,osl,rfl,l,c⟩,k⟩
end
section
variable {X:Cx}
end
def zaM (H H':Hp):Prop:=∀ b o,H b=some o->H' b=some o
theorem zaM.refl (H:Hp):zaM H H:=fun _ _ h=>h
theorem zaM.trans {H H1 H2:Hp}(a:zaM H H1)(b:zaM H1 H2):zaM H H2:=fun c o h=>b c o (a c o h)
theorem zaM.free {H H':Hp}(e:zaM H H'){l:Addr}(h:H' l=Option.none):H l=Option.none:=by
 cases q:H l with
 | none=>rfl
 | some o =>
  rw[e l o q] at h
  cases h
end L2
namespace DL
open PySem PySem.Spec PySem.Calls PySem.W PyProof.Rows Builtin Builtin.ObjectAttr Builtin.Getset_descriptor
section
variable {prog:Program}{w:World}{A:Around}{E:Value->Shared->Prop}{h:Heap}{g:Array GenState}{d:Drawn}{t:Nat}{os:OsState}{a C:Addr}{o:Obj}{K:Frag}
structure zsH (K:Frag) (C:Addr):Prop where
 cls:findIn K (.ref C) "__class__"=some (some (.builtin "object.__class__"))
 ga:findIn K (.ref C) "__getattribute__"=some (some (.builtin "BaseException.__getattribute__"))
 gt:findIn K (.ref C) "__getattr__"=some none
 ob:mroIn K C (.type "object")=some true
 be:subIn K (.ref C) (.type "BaseException")=some true
theorem zwL {R:Result->Shared->Prop}{tp:Value}(X:K.In h)(Z:zsH K C)(hx:h.get? a=some o)(hc:o.cls=.ref C)(hq:R (.ok (.ret (.ref C))) ⟨h,g,d,t,os⟩) :
  codeAny (model prog w) A (.call (.builtin "getset_descriptor.__get__") ⟨[.builtin "object.__class__",.ref a,tp],[]⟩) R ⟨h,g,d,t,os⟩:=by
 have L0:Looks (model prog w) h (typeOf (.ref a)) (.ref C):=hc▸(Looks.ld hx).andThen .now
 have L1:=looks_mroIn (M:=model prog w) X Z.ob
 refine codeAny_call_builtin KF.slot_gs.plain KF.entry_gs (KF.slot_gs.check _ _ _ _ _ _ _ _ KF.type_class (KF.args_gs _ _ _) ?_)
 unfold Builtin.«getset_descriptor.__get__» descrGet
 rw[dga_obj]
 refine wpAny_bind (wpAny_pure ?_)
 unfold descrGetter descrCheckInstance descrNameAndClass isInstance
 simp only[KF.owner_class]
 repeat lk
 refine⟨Code.quiet_builtin _ (by decide +kernel),codeAny_builtin KF.entry_class ?_⟩
 unfold Builtin.«object.__class__» shownTypeOf
 repeat lk
 exact hq
theorem zsO {M:Model}{nameV:Value}{Q:Unit->Shared->Prop}(X:K.In h)(Z:zsH K C)(hx:h.get? a=some o)(hc:o.cls=.ref C)(hq:Q () ⟨h,g,d,t,os⟩):wpAny M A (checkBuiltinCall "BaseException.__getattribute__" ⟨[.ref a,nameV],[]⟩) Q E ⟨h,g,d,t,os⟩:=by
 have hk:builtinKind "BaseException.__getattribute__"=some .slot:=by decide +kernel
 have hsplit:splitId "BaseException.__getattribute__"=some ("BaseException","__getattribute__"):=by decide +kernel
 have ha:=F.args_bexc_ga (.ref a) nameV
 have LS:Looks M h (isSubtype (.ref C) (.type "BaseException")) true:=looks_subIn X Z.be
 simp only[checkBuiltinCall,hk,hsplit]
 refine wpAny_bind ?_
 ·unfold isInstance
  repeat (first | (with_reducible refine wpAny_loadPart_at hx ?_;rw[hc]) | (with_reducible refine LS.at ?_) | wp_step)
  exact hq
theorem zsN {tk:Tok}{Q:Fin->Shared->Prop}(X:K.In h)(Z:zsH K C)(hx:h.get? a=some o)(hc:o.cls=.ref C)(hq:Q (.done (.ret (.ref C))) ⟨h,g,d,t,os⟩) :
  wpAny (model prog w) A (Builtin.«object.__getattribute__» ⟨[.ref a,.str "__class__" tk],[]⟩) Q E ⟨h,g,d,t,os⟩:=by
 have hT5:(⟨h,g,d,t,os⟩:Shared).TypeIs (.builtin "object.__class__") "getset_descriptor":=F.typeOf_object_class
 have f5:=F.typeOf_object_class
 have f6:=F.slot_gs_get.lookup
 have f7:=F.slot_gs_set.lookup
 have LC:Looks (model prog w) h (typeLookup (.ref C) "__class__") (some (.builtin "object.__class__")):=looks_findIn X Z.cls
 repeat (any_goals (first | assumption | (with_reducible refine wpAny_loadPart_at hx ?_;rw[hc]) | (with_reducible refine LC.at ?_) | wp_step))
 refine zwL X Z hx hc ?_
 repeat (any_goals (first | assumption | wp_step))
theorem zuR {tk:Tok}{R:Result->Shared->Prop}(X:K.In h)(Z:zsH K C)(hx:h.get? a=some o)(hc:o.cls=.ref C)(hq:R (.ok (.ret (.ref C))) ⟨h,g,d,t,os⟩) :
  codeAny (model prog w) A (.call (.builtin "BaseException.__getattribute__") ⟨[.ref a,.str "__class__" tk],[]⟩) R ⟨h,g,d,t,os⟩ :=
 codeAny_call_builtin F.attr_ValueError.ga.plain F.entry_bexc_ga (zsO X Z hx hc (zsN X Z hx hc hq))
theorem zyG {tk:Tok}{Q:Value->Shared->Prop}(X:K.In h)(Z:zsH K C)(hx:h.get? a=some o)(hc:o.cls=.ref C)(hq:Q (.ref C) ⟨h,g,d,t,os⟩) :
  wpAny (model prog w) A (getAttrBy (.ref a) (.str "__class__" tk) false) Q E ⟨h,g,d,t,os⟩:=by
 have f3:=F.attr_ValueError.ga.bind (.ref a)
 have hx2:(Value.builtin "BaseException.__getattribute__"==Value.builtin "object.__getattribute__")=false:=by decide +kernel
 have hx1:(onTheHeap (Value.ref C)&&Value.builtin "BaseException.__getattribute__"==Value.builtin "object.__getattribute__")=false:=by rw[hx2];rfl
 have L1:Looks (model prog w) h (typeLookup (.ref C) "__getattribute__") (some (.builtin "BaseException.__getattribute__")):=looks_findIn X Z.ga
 have L2:Looks (model prog w) h (typeLookup (.ref C) "__getattr__") none:=looks_findIn X Z.gt
 repeat (any_goals (first | assumption | (with_reducible refine wpAny_loadPart_at hx ?_;rw[hc]) | (with_reducible refine L1.at ?_) | (with_reducible refine L2.at ?_) | wp_step))
 refine zuR X Z hx hc ?_
 repeat (any_goals (first | assumption | wp_step))
theorem zuS {Q:Option Value->Shared->Prop}(X:K.In h)(Z:zsH K C)(hx:h.get? a=some o)(hc:o.cls=.ref C)(hq:Q (some (.ref C)) ⟨h,g,d,t+1,os⟩):wpAny (model prog w) A (getAttr? (.ref a) "__class__") Q E ⟨h,g,d,t,os⟩:=by
 unfold getAttr? getAttrBy?
 repeat (any_goals (first | assumption | with_reducible apply zyG X Z hx hc | wp_step))
end
def zsC (a C:Addr):Heap->Prop:=fun h=>∃ o vs,h.get? a=some o/\o.cls=.ref C/\o.data=.fields vs
theorem zoX {K:Frag}{a C:Addr}(Z:zsH K C)(hC:(clsIn K C).isSome=true):KitX K (.ref a) (.ref C) (zsC a C) where
 ty:=fun _ _ _ ⟨o,_,h1,h2,_⟩=>h2▸(Looks.ld h1).andThen .now
 it:=fun _ _ X _=>by
  obtain⟨cd,hcD⟩:=Option.isSome_iff_exists.mp hC
  unfold clsIn at hcD
  split at hcD
  ·rename_i c' d' cd' sl' ho
   intro A' Q' E' s' k q
   unfold isType loadHead
   exact wpAny_bind (wpAny_loadPart (k _ _ (X _ _ ho)) (wpAny_pure q))
  ·cases hcD
 ne:=fun h tp dd its n sl X htp=>by
  obtain⟨cd,hcD⟩:=Option.isSome_iff_exists.mp hC
  refine Bool.eq_false_iff.mpr fun q=>?_
  have e:C=tp:=Value.ref.inj (beq_iff_eq.mp q)
  subst e
  unfold clsIn at hcD
  split at hcD
  ·rename_i c' d' cd' sl' ho
   have z:=(X _ _ ho).symm.trans htp
   cases z
  ·cases hcD
 ca:=fun {_ _ _ _ _ s} X ⟨o,_,h1,h2,_⟩ k=>by
  obtain⟨h,g,d,t,os⟩:=s
  exact zuS X Z h1 h2 k
theorem zsH.isCls {K:Frag}{C:Addr}(Z:zsH K C):(clsIn K C).isSome=true:=by
 obtain⟨cd,a,b⟩:=Option.bind_eq_some_iff.mp Z.ob
 rw[a];rfl
def zgl:List String:=["NoneType","bool","int","str","tuple","list","dict"]
structure XC (K:Frag) (x:Str) (C:Addr):Prop where
 ns:nsIn K mainGlobals x=some (some (.ref C))
 ek:zsH K C
 bt:∀ T∈zgl,kitOne K (.ref C) (.type T)=some false
end DL
namespace L2
open PySem PySem.Spec PyProof.Rows
section
variable {κ:Type}[DecidableEq κ]
def zy3 (kvs:List (κ×V))(k:κ)(v:V):List (κ×V) :=
 if(kvs.any fun kv=>decide (kv.1=k))=true then kvs.map (fun kv=>if kv.1=k then(kv.1,v) else kv) else kvs++[(k,v)]
end
section
variable {P:Program}{w:World}{H:Hp}{h:Heap}{a:Addr}
end
section
variable {X:Cx}{pins:List (Addr×Obj)}{σ:St}{H:Hp}{s:Shared}{a:Addr}{y v:V}{u r:Value}{o:Option V}{A:Around}{E:Value->Shared->Prop}
theorem Inv.big (I:Inv X pins σ H s):sysModules < s.heap.objs.size:=by
 have h:mainGlobals < s.heap.objs.size:=(I.mod.glob.keeps I.bk).lt
 exact Nat.lt_trans (by decide) h
end
section
variable {X:Cx}{pins:List (Addr×Obj)}{σ:St}{H:Hp}{s:Shared}{a:Addr}{kvs:List (Key×V)}{k:Key}{u:Value}{A:Around}{E:Value->Shared->Prop}
end
section
variable {X:Cx}{o i e value:Expr}{pos pos' tpos:Pos}{td ty tv:TE}
end
theorem zt3 {P:Program}{w:World}{H:Hp}(h:Heap)(hb:sysModules < h.objs.size):zb8 P w H (h.push { cls:=.type "dict",data:=.dict #[] }) h.objs.size (.dK []) :=
 ⟨Nat.zero_le _,beq_eq_false_iff_ne.mpr (Ne.symm (Nat.ne_of_lt hb)),[],.nil,Heap.DictOf.new h⟩
def zwZ:TE:=fun _ H Q=>∀ p,H p=none->Q (.ref p) (upd H p (.dK []))
section
variable {X:Cx}{pos:Pos}
theorem zts:PE X (.Dict [] [] pos) zwZ:=fun pins s σ H Q I h =>
 wpAny_Dict_empty ⟨.ref s.heap.objs.size,_,I.laid (a:=s.heap.objs.size) (o:=.dK []) (t':=s.toks) (fun _ _ q=>Heap.get?_push_of_some _ q) (Nat.le_refl _) (zt3 s.heap I.big),rfl,h _ (I.hok.fresh (Nat.le_refl _))⟩
end
section
variable {X:Cx}{pins:List (Addr×Obj)}{σ:St}{H:Hp}{s:Shared}{a:Addr}{y d:V}{u r:Value}{o:Option V}{A:Around}{E:Value->Shared->Prop}
end
section
variable {X:Cx}{o e f:Expr}{apos cpos:Pos}{td ty tx:TE}
end
section
variable {X:Cx}{pins:List (Addr×Obj)}{σ:St}{H:Hp}{s:Shared}{a:Addr}{kvs:List (Key×V)}{A:Around}{E:Value->Shared->Prop}
end
section
variable {X:Cx}{pins:List (Addr×Obj)}{σ:St}{H:Hp}{s:Shared}{a:Addr}{y:V}{u:Value}{A:Around}{E:Value->Shared->Prop}
end
end L2
namespace DL
open PySem PySem.Spec PyProof.Rows L2
def nst:Expr->Bool
 | .Starred _ _=>false
 | _=>true
theorem zaO {e:Expr}{es:List Expr}{env:PySem.Env}(h:nst e=true):starEach (e::es) env=(false,eval e env)::starEach es env:=by
 cases e<;>first | (rw[starEach];intros;contradiction) | rw[starEach] | (cases h)
theorem zgA {e:Expr}{env:PySem.Env}(h:nst e=true):starEach [e] env=[(false,eval e env)]:=by
 rw[zaO h,starEach]
theorem zb0 {env:PySem.Env}{pos:Pos}:∀ {es:List Expr},es.all nst=true->(backTo pos (starEach es env)).any (·.1)=false
 | [],_=>by rw[starEach];rfl
 | e::es,h=>by
  rw[List.all_cons,Bool.and_eq_true] at h
  rw[zaO h.1]
  have:=zb0 (env:=env) (pos:=pos) h.2
  show(false||(backTo pos (starEach es env)).any (·.1))=false
  rw[this];rfl
theorem zo2 {e:Expr}{env:PySem.Env}{pos:Pos}(h:nst e=true):((backTo pos (starEach [e] env)).all (fun x=>!x.1)&&(backToKw pos (keywordEach [] env)).all (fun x=>x.1.isSome)
  &&decide ([e].length+([]:List Keyword).length+(if([]:List Keyword).isEmpty then 0 else 1) < 30))=true:=by
 rw[zgA h,keywordEach];rfl
inductive Kd where
 | ins (c:Str) (ks:List Str) | dint (ks:List Int)
inductive D where
 | non | bl (b:Bool) | int (i:Int) | str (x:Str) | tup (xs:List D) | lst (xs:List D) | dic (ks:List Str) (xs:List D) | exc (x:Str) | ob (k:Kd) (xs:List D)
structure zAG (K:W.Frag) (ks:List Str) (C:Addr):Prop where
 cls:Cls K C
 no:∀ f∈ks,zk0 K C f
 gc:W.findIn K (.ref C) "__class__"=some (some (.builtin "object.__class__"))
 gn:W.specialIn K (.builtin "object.__class__") "__get__"=some (some (.builtin "getset_descriptor.__get__"))
 tk:W.takesIn K (.builtin "object.__class__")=some true
 mo:W.mroIn K C (.type "object")=some true
 bt:∀ T∈zgl,W.kitOne K (.ref C) (.type T)=some false
def zyt (K:W.Frag)(H:Hp):Kd->Addr->List V->Prop
 | .ins c ks,a,vs=>∃ C dx,W.nsIn K mainGlobals c=some (some (.ref C))/\zAG K ks C/\H a=some (.ins C dx (ks.zip vs))/\ks.length=vs.length
 | .dint ks,a,vs=>∃ kvs,Rd H a (.dK kvs)/\kvs=(ks.map Sum.inl).zip vs/\ks.length=vs.length
structure Exn where
 cls:Str
 flds:List (Str×D)
inductive Res (α:Type) where
 | ok (a:α) | exn (x:Exn) | stuck
def Res.bind {α β:Type}(r:Res α)(f:α->Res β):Res β:=match r with
 | .ok a=>f a
 | .exn x=>.exn x
 | .stuck=>.stuck
mutual
def Rep (K:W.Frag)(H:Hp):D->V->Prop
 | .non,v=>v=.non
 | .bl b,v=>v=.bl b
 | .int i,v=>v=.int i
 | .str x,v=>v=.str x
 | .tup ds,v=>∃ a vs,v=.ref a/\SqT K H a vs/\Reps K H ds vs
 | .lst ds,v=>∃ a vs,v=.ref a/\SqL K H a vs/\Reps K H ds vs
 | .dic ks ds,v=>∃ a kvs vs,v=.ref a/\Rd H a (.dK kvs)/\kvs=(ks.map Sum.inr).zip vs/\ks.length=vs.length/\Reps K H ds vs
 | .exc x,v=>∃ a C,v=.ref a/\XC K x C/\Rd H a (.ext (zsC a C))
 | .ob k ds,v=>∃ a vs,v=.ref a/\zyt K H k a vs/\Reps K H ds vs
def Reps (K:W.Frag)(H:Hp):List D->List V->Prop
 | [],vs=>vs=[]
 | d::ds,vs=>∃ v r,vs=v::r/\Rep K H d v/\Reps K H ds r
end
theorem zaM.rd {H H':Hp}(e:zaM H H'){a:Addr}{o:HO}(h:Rd H a o):Rd H' a o:=by
 rcases h with h | ⟨o',h⟩
 ·exact .inl (e _ _ h)
 ·exact .inr ⟨o',e _ _ h⟩
theorem zaM.sqT {K:W.Frag}{H H':Hp}(e:zaM H H'){a:Addr}{xs:List V}(h:SqT K H a xs):SqT K H' a xs:=by
 rcases h with h | h
 ·exact .inl (zaM.rd e h)
 ·exact .inr h
theorem zaM.sqL {K:W.Frag}{H H':Hp}(e:zaM H H'){a:Addr}{xs:List V}(h:SqL K H a xs):SqL K H' a xs:=by
 rcases h with h | h
 ·exact .inl (zaM.rd e h)
 ·exact .inr h
theorem zyt.mono {K:W.Frag}{H H':Hp}(e:zaM H H'):∀ {k:Kd}{a:Addr}{vs:List V},zyt K H k a vs->zyt K H' k a vs
 | .ins c ks,a,vs,⟨C,dx,h0,h1,h2,h3⟩=>⟨C,dx,h0,h1,e _ _ h2,h3⟩
 | .dint ks,a,vs,⟨kvs,h1,h2,h3⟩=>⟨kvs,zaM.rd e h1,h2,h3⟩
mutual
theorem Rep.mono {K:W.Frag}{H H':Hp}(e:zaM H H'):∀ {d:D}{v:V},Rep K H d v->Rep K H' d v
 | .non,_,h=>by unfold Rep at h ⊢;exact h
 | .bl _,_,h=>by unfold Rep at h ⊢;exact h
 | .int _,_,h=>by unfold Rep at h ⊢;exact h
 | .str _,_,h=>by unfold Rep at h ⊢;exact h
 | .tup ds,_,h=>by
  unfold Rep at h ⊢
  obtain⟨a,vs,e1,e2,e3⟩:=h
  exact⟨a,vs,e1,zaM.sqT e e2,Reps.mono e e3⟩
 | .lst ds,_,h=>by
  unfold Rep at h ⊢
  obtain⟨a,vs,e1,e2,e3⟩:=h
  exact⟨a,vs,e1,zaM.sqL e e2,Reps.mono e e3⟩
 | .dic ks ds,_,h=>by
  unfold Rep at h ⊢
  obtain⟨a,kvs,vs,e1,e2,e3,e4,e5⟩:=h
  exact⟨a,kvs,vs,e1,zaM.rd e e2,e3,e4,Reps.mono e e5⟩
 | .exc x,_,h=>by
  unfold Rep at h ⊢
  obtain⟨a,C,e1,e2,e3⟩:=h
  exact⟨a,C,e1,e2,zaM.rd e e3⟩
 | .ob k ds,_,h=>by
  unfold Rep at h ⊢
  obtain⟨a,vs,e1,e2,e3⟩:=h
  exact⟨a,vs,e1,e2.mono e,Reps.mono e e3⟩
theorem Reps.mono {K:W.Frag}{H H':Hp}(e:zaM H H'):∀ {ds:List D}{vs:List V},Reps K H ds vs->Reps K H' ds vs
 | [],_,h=>by unfold Reps at h ⊢;exact h
 | d::ds,_,h=>by
  unfold Reps at h ⊢
  obtain⟨v,r,e1,e2,e3⟩:=h
  exact⟨v,r,e1,Rep.mono e e2,Reps.mono e e3⟩
end
section
variable {K:W.Frag}{H:Hp}{v:V}{vs:List V}{d:D}{ds:List D}
theorem Rep.non_iff:Rep K H .non v↔v=.non:=by unfold Rep;exact Iff.rfl
theorem Rep.bl_iff {b}:Rep K H (.bl b) v↔v=.bl b:=by unfold Rep;exact Iff.rfl
theorem Rep.int_iff {i}:Rep K H (.int i) v↔v=.int i:=by unfold Rep;exact Iff.rfl
theorem Rep.str_iff {x}:Rep K H (.str x) v↔v=.str x:=by unfold Rep;exact Iff.rfl
theorem Rep.tup_iff:Rep K H (.tup ds) v↔∃ a vs,v=.ref a/\SqT K H a vs/\Reps K H ds vs:=by rw[Rep]
theorem Rep.lst_iff:Rep K H (.lst ds) v↔∃ a vs,v=.ref a/\SqL K H a vs/\Reps K H ds vs:=by rw[Rep]
theorem Rep.exc_iff {x}:Rep K H (.exc x) v↔∃ a C,v=.ref a/\XC K x C/\Rd H a (.ext (zsC a C)):=by rw[Rep]
theorem Rep.ob_iff {k}:Rep K H (.ob k ds) v↔∃ a vs,v=.ref a/\zyt K H k a vs/\Reps K H ds vs:=by rw[Rep]
theorem Reps.nil_iff:Reps K H [] vs↔vs=[]:=by unfold Reps;exact Iff.rfl
theorem Reps.cons_iff:Reps K H (d::ds) vs↔∃ v r,vs=v::r/\Rep K H d v/\Reps K H ds r:=by rw[Reps]
theorem Reps.nil:Reps K H [] []:=Reps.nil_iff.mpr rfl
theorem Reps.cons (h:Rep K H d v)(h':Reps K H ds vs):Reps K H (d::ds) (v::vs):=Reps.cons_iff.mpr ⟨_,_,rfl,h,h'⟩
end
theorem Reps.length {K:W.Frag}{H:Hp}:∀ {ds:List D}{vs:List V},Reps K H ds vs->ds.length=vs.length
 | [],_,h=>by rw[Reps.nil_iff.mp h];rfl
 | d::ds,_,h=>by
  obtain⟨v,r,rfl,_,h⟩:=Reps.cons_iff.mp h
  simp [Reps.length h]
theorem Reps.get {K:W.Frag}{H:Hp}:∀ {ds:List D}{vs:List V}{i:Nat}{d:D},Reps K H ds vs->ds[i]?=some d->∃ v,vs[i]?=some v/\Rep K H d v
 | [],_,_,_,h,e=>by simp at e
 | x::ds,_,0,d,h,e=>by
  obtain⟨v,r,rfl,h1,_⟩:=Reps.cons_iff.mp h
  simp at e;subst e;exact⟨v,rfl,h1⟩
 | x::ds,_,i+1,d,h,e=>by
  obtain⟨v,r,rfl,_,h2⟩:=Reps.cons_iff.mp h
  obtain⟨u,e1,e2⟩:=Reps.get (i:=i) h2 (by simpa using e)
  exact⟨u,by simpa using e1,e2⟩
theorem Reps.app {K:W.Frag}{H:Hp}:∀ {ds es:List D}{vs us:List V},Reps K H ds vs->Reps K H es us->Reps K H (ds++es) (vs++us)
 | [],_,_,_,h,h'=>by rw[Reps.nil_iff.mp h];exact h'
 | d::ds,_,_,_,h,h'=>by
  obtain⟨v,r,rfl,h1,h2⟩:=Reps.cons_iff.mp h
  exact Reps.cons h1 (Reps.app h2 h')
theorem Reps.take {K:W.Frag}{H:Hp}:∀ {ds:List D}{vs:List V}(n:Nat),Reps K H ds vs->Reps K H (ds.take n) (vs.take n)
 | _,_,0,_=>by simp;exact Reps.nil
 | [],_,n+1,h=>by rw[Reps.nil_iff.mp h];exact Reps.nil
 | d::ds,_,n+1,h=>by
  obtain⟨v,r,rfl,h1,h2⟩:=Reps.cons_iff.mp h
  exact Reps.cons h1 (Reps.take n h2)
theorem Reps.drop {K:W.Frag}{H:Hp}:∀ {ds:List D}{vs:List V}(n:Nat),Reps K H ds vs->Reps K H (ds.drop n) (vs.drop n)
 | _,_,0,h=>by simpa using h
 | [],_,n+1,h=>by rw[Reps.nil_iff.mp h];exact Reps.nil
 | d::ds,_,n+1,h=>by
  obtain⟨v,r,rfl,h1,h2⟩:=Reps.cons_iff.mp h
  exact Reps.drop n h2
theorem Reps.ints {K:W.Frag}{H:Hp}:∀ (ns:List Int),Reps K H (ns.map D.int) (ns.map V.int)
 | []=>Reps.nil
 | n::r=>Reps.cons (Rep.int_iff.mpr rfl) (Reps.ints r)
structure zbn (H H₀ H' H₀':Hp):Prop where
 s:zaM H H'
 z:zaM H₀ H₀'
 sub:zaM H₀' H'
 nw:∀ a,H₀' a≠none->H₀ a=none->H a=none
theorem zbn.refl {H H₀:Hp}(h:zaM H₀ H):zbn H H₀ H H₀:=⟨zaM.refl _,zaM.refl _,h,fun a h1 h2=>absurd h2 h1⟩
theorem zbn.trans {H H₀ H1 H01 H2 H02:Hp}(a:zbn H H₀ H1 H01)(b:zbn H1 H01 H2 H02):zbn H H₀ H2 H02 :=
 ⟨a.s.trans b.s,a.z.trans b.z,b.sub,fun x h1 h2=>by
  cases q:H01 x with
  | none=>exact a.s.free (b.nw x h1 q)
  | some o=>exact a.nw x (by rw[q];simp) h2⟩
theorem zbn.alloc {H H₀:Hp}{p:Addr}{o:HO}(hs:zaM H₀ H)(hp:H p=none):zbn H H₀ (upd H p o) (upd H₀ p o) :=
 ⟨same_new hp o,same_new (hs.free hp) o,fun b u e=>by
  by_cases hb:b=p
  ·subst hb;rw[zav] at e ⊢;exact e
  ·rw[zaw hb] at e ⊢;exact hs _ _ e,fun a h1 h2=>by
  by_cases hb:a=p
  ·subst hb;exact hp
  ·rw[zaw hb] at h1;exact absurd h2 h1⟩
where
 same_new {H:Hp}{p:Addr}(h:H p=none) (o:HO):zaM H (upd H p o):=fun b u q=>by rw[zaw (zaL q h)];exact q
inductive Sl where
 | no | sh (d:D) | ow (d:D) | ox (j:Nat) (ds:List D)
abbrev Ev:=List Sl
def zgu (K:W.Frag)(H₀:Hp)(σ:L2.St)(ρ:Ev):Prop:=∀ (i:Nat) (d:D),ρ[i]?=some (.sh d)->∃ v,σ[i]?=some (some v)/\Rep K H₀ d v
theorem zgu.mono {K:W.Frag}{H H':Hp}{σ:L2.St}{ρ:Ev}(e:zaM H H')(r:zgu K H σ ρ):zgu K H' σ ρ:=fun i d h =>
 let ⟨v,h1,h2⟩:=r i d h
 ⟨v,h1,h2.mono e⟩
def ExR (K:W.Frag)(H:Hp)(x:Exn)(C:Value)(ox:Option Addr):Prop :=
 (∃ c,C=.ref c/\XC K x.cls c)/\match ox with
  | none=>x.flds=[]
  | some a=>∃ fs,H a=some (.xd fs)/\∀ n d,x.flds.lookup n=some d->∃ v,fs.lookup n=some v/\Rep K H d v
def post (K:W.Frag)(E:XK)(H H₀:Hp)(r:Res D)(Q:VK):Prop:=match r with
 | .ok d=>∀ v H' H₀',zbn H H₀ H' H₀'->Rep K H₀' d v->Q v H'
 | .exn x=>∀ C ox H' H₀',zbn H H₀ H' H₀'->ExR K H₀' x C ox->E C ox H'
 | .stuck=>False
def znZ (K:W.Frag)(E:XK)(H H₀:Hp)(r:Res (List D))(Q:List V->Hp->Prop):Prop:=match r with
 | .ok ds=>∀ vs H' H₀',zbn H H₀ H' H₀'->Reps K H₀' ds vs->Q vs H'
 | .exn x=>∀ C ox H' H₀',zbn H H₀ H' H₀'->ExR K H₀' x C ox->E C ox H'
 | .stuck=>False
def zn0 (K:W.Frag)(E:XK)(H H₀:Hp)(r:Res D)(Q:Bool->Hp->Prop):Prop:=match r with
 | .ok (.bl b)=>∀ H' H₀',zbn H H₀ H' H₀'->Q b H'
 | .ok _=>False
 | .exn x=>∀ C ox H' H₀',zbn H H₀ H' H₀'->ExR K H₀' x C ox->E C ox H'
 | .stuck=>False
section
variable {K:W.Frag}{E:XK}{H H₀ H1 H01:Hp}
theorem post.grow {r:Res D}{Q:VK}(h:post K E H H₀ r Q)(g:zbn H H₀ H1 H01):post K E H1 H01 r Q:=by
 cases r with
 | ok d=>exact fun v H' H₀' g'=>h v H' H₀' (g.trans g')
 | exn x=>exact fun C ox H' H₀' g'=>h C ox H' H₀' (g.trans g')
 | stuck=>exact h
theorem znZ.grow {r:Res (List D)}{Q:List V->Hp->Prop}(h:znZ K E H H₀ r Q)(g:zbn H H₀ H1 H01):znZ K E H1 H01 r Q:=by
 cases r with
 | ok d=>exact fun v H' H₀' g'=>h v H' H₀' (g.trans g')
 | exn x=>exact fun C ox H' H₀' g'=>h C ox H' H₀' (g.trans g')
 | stuck=>exact h
theorem zn0.grow {r:Res D}{Q:Bool->Hp->Prop}(h:zn0 K E H H₀ r Q)(g:zbn H H₀ H1 H01):zn0 K E H1 H01 r Q:=by
 cases r with
 | ok d =>
  cases d with
  | bl b=>exact fun H' H₀' g'=>h H' H₀' (g.trans g')
  | _=>exact h
 | exn x=>exact fun C ox H' H₀' g'=>h C ox H' H₀' (g.trans g')
 | stuck=>exact h
end
def tD (K:W.Frag)(E:XK)(f:Ev->Res D):TE:=fun σ H Q=>∃ H₀ ρ,zaM H₀ H/\zgu K H₀ σ ρ/\post K E H H₀ (f ρ) Q
def tDA (K:W.Frag)(E:XK)(f:Ev->Res (List D)):TA:=fun σ H Q=>∃ H₀ ρ,zaM H₀ H/\zgu K H₀ σ ρ/\znZ K E H H₀ (f ρ) Q
def tDT (K:W.Frag)(E:XK)(f:Ev->Res D):TT:=fun σ H Q=>∃ H₀ ρ,zaM H₀ H/\zgu K H₀ σ ρ/\zn0 K E H H₀ (f ρ) Q
structure DE (X:Cx) (E:XK) (e:Expr) (f:Ev->Res D):Prop where
 o:PE X e (tD X.K E f)
structure DA (X:Cx) (E:XK) (es:List Expr) (f:Ev->Res (List D)):Prop where
 o:PA X es (tDA X.K E f)
structure DT (X:Cx) (E:XK) (e:Expr) (f:Ev->Res D):Prop where
 o:PT X e (tDT X.K E f)
structure DW (X:Cx) (E:XK) (e:Expr) (f:Ev->Res D):Prop where
 o:PW X e (tDT X.K E f)
section
variable {X:Cx}{E:XK}{e a b:Expr}{es:List Expr}{f g:Ev->Res D}{fa:Ev->Res (List D)}{pos:Pos}
theorem zaT {t t':TE}(h:PE X e t)(w:∀ σ H Q,t' σ H Q->t σ H Q):PE X e t':=fun pins s σ H Q I q=>h pins s σ H Q I (w σ H Q q)
theorem zrn {t t':TA}(h:PA X es t)(w:∀ σ H Q,t' σ H Q->t σ H Q):PA X es t':=fun pos pins s σ H Q I q=>h pos pins s σ H Q I (w σ H Q q)
theorem zlk {t t':TT}(h:PT X e t)(w:∀ σ H Q,t' σ H Q->t σ H Q):PT X e t':=fun pins s σ H Q I q=>h pins s σ H Q I (w σ H Q q)
theorem zra {t t':TT}(h:PW X e t)(w:∀ σ H Q,t' σ H Q->t σ H Q):PW X e t':=fun wh pins s σ H Q I q=>h wh pins s σ H Q I (w σ H Q q)
def zaf (i:Nat):Ev->Res D:=fun ρ=>match ρ[i]? with
 | some (.sh d)=>.ok d
 | _=>.stuck
def dC (d:D):Ev->Res D:=fun _=>.ok d
theorem zyf {i:Nat}{x:Str}(hN:X.N[i]?=some x)(hv:Vis X.env.scope x)(hd:(x==("__debug__" : Str))=false:=by decide)(hcd:(x==("__classdict__" : Str))=false:=by decide):DE X E (.Name x pos) (zaf i):=by
 refine⟨?_⟩
 refine zaT (zjl hN hv hd hcd) fun σ H Q ⟨H₀,ρ,hs,hr,q⟩=>?_
 unfold zaf at q
 cases e:ρ[i]? with
 | none=>rw[e] at q;exact q.elim
 | some s =>
  rw[e] at q
  cases s with
  | sh d =>
   obtain⟨v,e1,e2⟩:=hr i d e
   exact⟨v,e1,q v H H₀ (zbn.refl hs) e2⟩
  | no=>exact q.elim
  | ow d=>exact q.elim
  | ox j ds=>exact q.elim
theorem zae {i j}:DE X E (.Constant (.int i) j pos) (dC (.int i)):=⟨zaT zuv fun σ H Q ⟨H₀,ρ,hs,hr,q⟩=>q _ H H₀ (zbn.refl hs) (Rep.int_iff.mpr rfl)⟩
theorem zhd {i j}:DE X E (.Constant (.bool i) j pos) (dC (.bl i)):=⟨zaT zzb fun σ H Q ⟨H₀,ρ,hs,hr,q⟩=>q _ H H₀ (zbn.refl hs) (Rep.bl_iff.mpr rfl)⟩
theorem zeM {j}:DE X E (.Constant .none j pos) (dC .non):=⟨zaT zxy fun σ H Q ⟨H₀,ρ,hs,hr,q⟩=>q _ H H₀ (zbn.refl hs) (Rep.non_iff.mpr rfl)⟩
theorem zbS {x j}:DE X E (.Constant (.str x) j pos) (dC (.str x)):=⟨zaT zxu fun σ H Q ⟨H₀,ρ,hs,hr,q⟩=>q _ H H₀ (zbn.refl hs) (Rep.str_iff.mpr rfl)⟩
theorem zwg {x:Str}{v:V}{u:Value}{d:D}(hg:Gl X x)(hm:X.mg x=some u)(r:zct v u)(hr:∀ H,Rep X.K H d v)(hd:(x==("__debug__" : Str))=false:=by decide):DE X E (.Name x pos) (dC d) :=
 ⟨zaT (zrk hg hm r hd) fun σ H Q ⟨H₀,ρ,hs,hr',q⟩=>q _ H H₀ (zbn.refl hs) (hr H₀)⟩
def zac (f g:Ev->Res D)(op:D->D->Res D):Ev->Res D:=fun ρ=>(f ρ).bind fun x=>(g ρ).bind fun y=>op x y
def za2 (f:Ev->Res D)(op:D->Res D):Ev->Res D:=fun ρ=>(f ρ).bind op
def OpD (K:W.Frag)(E:XK)(r:R2)(op:D->D->Res D):Prop:=∀ (x y:D) (v u:V) (H H₀:Hp) (Q:VK),zaM H₀ H->Rep K H₀ x v->Rep K H₀ y u->post K E H H₀ (op x y) Q->r v u H Q
theorem zhB {r:R2}{op:D->D->Res D}(ho:OpD X.K E r op)(σ:L2.St)(H:Hp)(Q:VK)(h:tD X.K E (zac f g op) σ H Q):tOp r (tD X.K E f) (tD X.K E g) σ H Q:=by
 obtain⟨H₀,ρ,hs,hr,q⟩:=h
 refine⟨H₀,ρ,hs,hr,?_⟩
 unfold zac at q
 cases e1:f ρ with
 | stuck=>rw[e1] at q;exact q
 | exn x=>rw[e1] at q;exact q
 | ok x =>
  rw[e1] at q
  intro v H1 H01 g1 r1
  refine⟨H01,ρ,g1.sub,hr.mono g1.z,?_⟩
  replace q:post X.K E H H₀ ((g ρ).bind fun y=>op x y) Q:=q
  replace q:=q.grow g1
  cases e2:g ρ with
  | stuck=>rw[e2] at q;exact q
  | exn x=>rw[e2] at q;exact q
  | ok y =>
   rw[e2] at q
   intro u H2 H02 g2 r2
   exact ho x y v u H2 H02 Q g2.sub (r1.mono g2.z) r2 (post.grow (r:=op x y) q g2)
theorem znd {op:Operator}{r:R2}{o:D->D->Res D}(h:OpR X (binaryOp op) r)(ho:OpD X.K E r o)(ha:DE X E a f)(hb:DE X E b g):DE X E (.BinOp a op b pos) (zac f g o) :=
 ⟨zaT (zvz h ha.o hb.o) (zhB ho)⟩
theorem zeO {op:CmpOp}{r:R2}{o:D->D->Res D}(h:OpR X (compareOp op) r)(ho:OpD X.K E r o)(ha:DE X E a f)(hb:DE X E b g)(hm:behindInMarks op b=false):DE X E (.Compare a [op] [b] pos) (zac f g o) :=
 ⟨zaT (zvA h ha.o hb.o hm) (zhB ho)⟩
theorem zzy {r:R2}{o:D->D->Res D}(h:IxR X r)(ho:OpD X.K E r o)(ha:DE X E a f)(hb:DE X E b g)(hs:zoq b):DE X E (.Subscript a b pos) (zac f g o) :=
 ⟨zaT (zza h ha.o hb.o hs) (zhB ho)⟩
def UnD (K:W.Frag)(E:XK)(r:V->Hp->VK->Prop)(op:D->Res D):Prop:=∀ (x:D) (v:V) (H H₀:Hp) (Q:VK),zaM H₀ H->Rep K H₀ x v->post K E H H₀ (op x) Q->r v H Q
theorem zzw {op:UnaryOp}{r:V->Hp->VK->Prop}{o:D->Res D}(h:UnR X (unaryOp op) r)(ho:UnD X.K E r o)(ha:DE X E a f):DE X E (.UnaryOp op a pos) (za2 f o):=by
 refine⟨?_⟩
 refine zaT (zxs h ha.o) fun σ H Q ⟨H₀,ρ,hs,hr,q⟩=>⟨H₀,ρ,hs,hr,?_⟩
 unfold za2 at q
 cases e1:f ρ with
 | stuck=>rw[e1] at q;exact q
 | exn x=>rw[e1] at q;exact q
 | ok x =>
  rw[e1] at q
  intro v H1 H01 g1 r1
  exact ho x v H1 H01 Q g1.sub r1 (post.grow (r:=o x) q g1)
def zau:Ev->Res (List D):=fun _=>.ok []
def zad (f:Ev->Res D)(fa:Ev->Res (List D)):Ev->Res (List D):=fun ρ=>(f ρ).bind fun x=>(fa ρ).bind fun xs=>.ok (x::xs)
theorem zaj:DA X E [] zau:=⟨zrn ziD fun σ H Q ⟨H₀,ρ,hs,hr,q⟩=>q [] H H₀ (zbn.refl hs) Reps.nil⟩
theorem zaa (ha:DE X E e f)(hr:DA X E es fa)(hs:starEach (e::es) X.env=(false,eval e X.env)::starEach es X.env:=by exact zaO rfl):DA X E (e::es) (zad f fa):=by
 refine⟨?_⟩
 refine zrn (zeY ha.o hr.o hs) fun σ H Q ⟨H₀,ρ,hs,hr,q⟩=>⟨H₀,ρ,hs,hr,?_⟩
 unfold zad at q
 cases e1:f ρ with
 | stuck=>rw[e1] at q;exact q
 | exn x=>rw[e1] at q;exact q
 | ok x =>
  rw[e1] at q
  intro v H1 H01 g1 r1
  refine⟨H01,ρ,g1.sub,hr.mono g1.z,?_⟩
  replace q:znZ X.K E H H₀ ((fa ρ).bind fun xs=>.ok (x::xs)) Q:=q
  replace q:=q.grow g1
  cases e2:fa ρ with
  | stuck=>rw[e2] at q;exact q
  | exn x=>rw[e2] at q;exact q
  | ok xs =>
   rw[e2] at q
   intro us H2 H02 g2 r2
   exact q (v::us) H2 H02 g2 (Reps.cons (r1.mono g2.z) r2)
def line:Nat:=1000000
theorem zdg {n:Nat}(h:n<=line):n<=sizeLine:=Nat.le_trans h (by decide)
def zal (fa:Ev->Res (List D))(m:List D->Res D):Ev->Res D:=fun ρ=>(fa ρ).bind m
def zi9:List D->Res D:=fun ds=>if ds.length<=line then .ok (.tup ds) else .stuck
def zdw:List D->Res D:=fun ds=>if ds.length<=line then .ok (.lst ds) else .stuck
theorem zhW {m:List D->Res D}{r:List V->Hp->VK->Prop}(ho:∀ (ds:List D) (vs:List V) (H H₀:Hp) (Q:VK),zaM H₀ H->Reps X.K H₀ ds vs->post X.K E H H₀ (m ds) Q->r vs H Q)
  (σ:L2.St)(H:Hp)(Q:VK)(h:tD X.K E (zal fa m) σ H Q):tDA X.K E fa σ H fun vs H1=>r vs H1 Q:=by
 obtain⟨H₀,ρ,hs,hr,q⟩:=h
 refine⟨H₀,ρ,hs,hr,?_⟩
 unfold zal at q
 cases e1:fa ρ with
 | stuck=>rw[e1] at q;exact q
 | exn x=>rw[e1] at q;exact q
 | ok x =>
  rw[e1] at q
  intro v H1 H01 g1 r1
  exact ho x v H1 H01 Q g1.sub r1 (post.grow (r:=m x) q g1)
theorem zeL {x1}(h:DA X E es fa):DE X E (.Tuple es x1 pos) (zal fa zi9):=by
 refine⟨?_⟩
 refine zaT (zxt h.o) (zhW (r:=fun xs H1 Q=>xs.length<=sizeLine/\∀ p,H1 p=none->Q (.ref p) (upd H1 p (.tup xs))) fun ds vs H H₀ Q hs hr q=>?_)
 unfold zi9 at q
 by_cases hl:ds.length<=line
 ·rw[if_pos hl] at q
  refine⟨by rw[← hr.length];exact zdg hl,fun p hp=>q _ _ _ (zbn.alloc hs hp) (Rep.tup_iff.mpr ⟨p,vs,rfl,SqT.of zav,hr.mono (zbn.alloc hs hp).z⟩)⟩
 ·rw[if_neg hl] at q;exact q.elim
theorem zby (h:DA X E es fa):DE X E (.List es pos) (zal fa zdw):=by
 refine⟨?_⟩
 refine zaT (zuu h.o) (zhW (r:=fun xs H1 Q=>xs.length<=sizeLine/\∀ p,H1 p=none->Q (.ref p) (upd H1 p (.lst xs))) fun ds vs H H₀ Q hs hr q=>?_)
 unfold zdw at q
 by_cases hl:ds.length<=line
 ·rw[if_pos hl] at q
  refine⟨by rw[← hr.length];exact zdg hl,fun p hp=>q _ _ _ (zbn.alloc hs hp) (Rep.lst_iff.mpr ⟨p,vs,rfl,SqL.of zav,hr.mono (zbn.alloc hs hp).z⟩)⟩
 ·rw[if_neg hl] at q;exact q.elim
def spD (K:W.Frag)(n:Nat)(m:List D->Res D):Sp:=fun vs H Q E=>vs.length=n/\∃ H₀ ds,zaM H₀ H/\Reps K H₀ ds vs/\post K E H H₀ (m ds) Q
theorem zap {CX:CXT}{k n:Nat}{fn:Addr}{fd:FuncData}{ps:List Str}{m:List D->Res D}{x:Str}{p:Pos}(F:zcL X.prog X.w X.K X.mg X.base CX k fn fd ps (spD X.K n m))(hr:zhz k X.A)(hg:Gl X x)(hm:X.mg x=some (.ref fn))
  (hk:W.keepIn X.K (.ref fn)=true)(hb:zbg X.K fd ps [])(hx:zkZ CX X E)(ha:DA X E (e::es) fa)(hn:(e::es).length=n:=by rfl)(hl:∀ ρ ds,fa ρ=.ok ds->ds.length=(e::es).length)
  (hdb:(x==("__debug__" : Str))=false:=by decide)(he:starEach (e::es) X.env=(false,eval e X.env)::starEach es X.env:=by exact zaO rfl)(hpl:(backTo pos (starEach es X.env)).any (·.1)=false:=by exact zb0 rfl) :
  DE X E (.Call (.Name x p) (e::es) [] pos) (zal fa m):=by
 refine⟨?_⟩
 refine zaT (zvB F hr hg hm hk hb .nil hx ha.o hdb he hpl) fun σ H Q h=>?_
 obtain⟨H₀,ρ,hs,hr,q⟩:=h
 refine⟨H₀,ρ,hs,hr,?_⟩
 unfold zal at q
 cases e1:fa ρ with
 | stuck=>rw[e1] at q;exact q
 | exn x=>rw[e1] at q;exact q
 | ok ds =>
  rw[e1] at q
  intro v H1 H01 g1 r1
  refine⟨?_,H01,ds,g1.sub,by simpa using r1,post.grow (r:=m ds) q g1⟩
  have:=r1.length
  have:=hl ρ ds e1
  simp only[List.append_nil]
  omega
theorem zam {ρ:Ev}{ds:List D}(h:zau ρ=.ok ds):ds.length=0:=by cases h;rfl
theorem zag {ρ:Ev}{ds:List D}{n:Nat}(hr:∀ es,fa ρ=.ok es->es.length=n)(h:zad f fa ρ=.ok ds):ds.length=n+1:=by
 unfold zad at h
 cases e1:f ρ with
 | stuck=>rw[e1] at h;cases h
 | exn x=>rw[e1] at h;cases h
 | ok x =>
  rw[e1] at h
  replace h:((fa ρ).bind fun xs=>Res.ok (x::xs))=.ok ds:=h
  cases e2:fa ρ with
  | stuck=>rw[e2] at h;cases h
  | exn x=>rw[e2] at h;cases h
  | ok xs =>
   rw[e2] at h
   cases h
   simp [hr xs e2]
def zkz (X:Cx)(E:XK)(r:List V->Hp->VK->Prop)(m:List D->Res D):Prop:=∀ (ds:List D) (vs:List V) (H H₀:Hp) (Q:VK),zaM H₀ H->Reps X.K H₀ ds vs->post X.K E H H₀ (m ds) Q->r vs H Q
theorem zaG {id:String}{r:List V->Hp->VK->Prop}{m:List D->Res D}{x:Str}{p:Pos}(hc:zkg X (.builtin id) r)(hd:zkz X E r m)(hg:Gl X x)(hm:X.mg x=none)(hv:bootBuiltins x=some (.builtin id))(ha:DA X E (e::es) fa)(hn:x≠"__name__":=by decide)(hdb:(x==("__debug__" : Str))=false:=by decide)
  (he:starEach (e::es) X.env=(false,eval e X.env)::starEach es X.env:=by exact zaO rfl)(hpl:(backTo pos (starEach es X.env)).any (·.1)=false:=by exact zb0 rfl):DE X E (.Call (.Name x p) (e::es) [] pos) (zal fa m) :=
 ⟨zaT (zlm hc hg hm hv ha.o hn hdb he hpl) (zhW hd)⟩
theorem zt1 (h:PT X e (tB (tD X.K E f))):DT X E e f:=by
 refine⟨?_⟩
 refine zlk h fun σ H Q ⟨H₀,ρ,hs,hr,q⟩=>⟨H₀,ρ,hs,hr,?_⟩
 cases e1:f ρ with
 | stuck=>rw[e1] at q;exact q
 | exn x=>rw[e1] at q;exact q
 | ok d =>
  rw[e1] at q
  intro v H1 H01 g1 r1
  cases d with
  | bl b=>rw[Rep.bl_iff.mp r1];exact⟨b,rfl,q H1 H01 g1⟩
  | _=>exact q.elim
theorem zbm (h:DE X E e f)(he:∀ whole,isTrue e X.env whole=(do let v ← whole;standAt e.pos;holding [v] (truthy v)):=by intro _;rfl):DT X E e f:=zt1 (zxl h.o he)
theorem zaI {op:CmpOp}{r:R2}{o:D->D->Res D}(h:OpR X (compareOp op) r)(ho:OpD X.K E r o)(ha:DE X E a f)(hb:DE X E b g)(hm:behindInMarks op b=false):DT X E (.Compare a [op] [b] pos) (zac f g o):=by
 refine⟨?_⟩
 refine zlk (zvp h ha.o hb.o hm) fun σ H Q h=>?_
 have w:tD X.K E (zac f g o) σ H fun x H'=>∃ k,x=.bl k/\Q k H':=by
  obtain⟨H₀,ρ,hs,hr,q⟩:=h
  refine⟨H₀,ρ,hs,hr,?_⟩
  cases e1:zac f g o ρ with
  | stuck=>rw[e1] at q;exact q
  | exn x=>rw[e1] at q;exact q
  | ok d =>
   rw[e1] at q
   intro v H1 H01 g1 r1
   cases d with
   | bl b=>rw[Rep.bl_iff.mp r1];exact⟨b,rfl,q H1 H01 g1⟩
   | _=>exact q.elim
 exact zhB ho σ H _ w
def zdk (f:Ev->Res D):Ev->Res D:=za2 f fun x=>match x with
 | .bl b=>.ok (.bl (!b))
 | _=>.stuck
def zhT (f g:Ev->Res D):Ev->Res D:=fun ρ=>(f ρ).bind fun x=>match x with
 | .bl true=>g ρ
 | .bl false=>.ok (.bl false)
 | _=>.stuck
def dOr (f g:Ev->Res D):Ev->Res D:=fun ρ=>(f ρ).bind fun x=>match x with
 | .bl true=>.ok (.bl true)
 | .bl false=>g ρ
 | _=>.stuck
theorem zbx (ha:DT X E a f):DT X E (.UnaryOp .Not a pos) (zdk f):=by
 refine⟨?_⟩
 refine zlk (zxm ha.o) fun σ H Q ⟨H₀,ρ,hs,hr,q⟩=>⟨H₀,ρ,hs,hr,?_⟩
 unfold zdk za2 at q
 cases e1:f ρ with
 | stuck=>rw[e1] at q;exact q
 | exn x=>rw[e1] at q;exact q
 | ok d =>
  rw[e1] at q
  cases d with
  | bl b=>exact q
  | _=>exact q.elim
theorem zuA (ha:DE X E a f):DE X E (.UnaryOp .Not a pos) (zdk f):=by
 refine⟨?_⟩
 refine zaT (zxx ha.o) fun σ H Q ⟨H₀,ρ,hs,hr,q⟩=>⟨H₀,ρ,hs,hr,?_⟩
 unfold zdk za2 at q
 cases e1:f ρ with
 | stuck=>rw[e1] at q;exact q
 | exn x=>rw[e1] at q;exact q
 | ok d =>
  rw[e1] at q
  intro v H1 H01 g1 r1
  cases d with
  | bl b=>rw[Rep.bl_iff.mp r1];exact⟨b,rfl,q (.bl !b) H1 H01 g1 (Rep.bl_iff.mpr rfl)⟩
  | _=>exact q.elim
variable {rest:List Expr}
theorem zea (ha:DT X E a f):DW X E (.BoolOp .And [a] pos) f:=⟨zvo ha.o⟩
theorem zaN (ha:DT X E a f):DW X E (.BoolOp .Or [a] pos) f:=⟨zxh ha.o⟩
theorem zkW (ha:DT X E a f)(hb:DW X E (.BoolOp .And (b::rest) pos) g):DW X E (.BoolOp .And (a::b::rest) pos) (zhT f g):=by
 refine⟨?_⟩
 refine zra (zxi ha.o hb.o) fun σ H Q ⟨H₀,ρ,hs,hr,q⟩=>⟨H₀,ρ,hs,hr,?_⟩
 unfold zhT at q
 cases e1:f ρ with
 | stuck=>rw[e1] at q;exact q
 | exn x=>rw[e1] at q;exact q
 | ok d =>
  rw[e1] at q
  cases d with
  | bl b =>
   cases b with
   | true=>exact fun H1 H01 g1=>⟨H01,ρ,g1.sub,hr.mono g1.z,zn0.grow (r:=g ρ) q g1⟩
   | false=>exact fun H1 H01 g1=>q H1 H01 g1
  | _=>exact q.elim
theorem zdz (ha:DT X E a f)(hb:DW X E (.BoolOp .Or (b::rest) pos) g):DW X E (.BoolOp .Or (a::b::rest) pos) (dOr f g):=by
 refine⟨?_⟩
 refine zra (zy2 ha.o hb.o) fun σ H Q ⟨H₀,ρ,hs,hr,q⟩=>⟨H₀,ρ,hs,hr,?_⟩
 unfold dOr at q
 cases e1:f ρ with
 | stuck=>rw[e1] at q;exact q
 | exn x=>rw[e1] at q;exact q
 | ok d =>
  rw[e1] at q
  cases d with
  | bl b =>
   cases b with
   | false=>exact fun H1 H01 g1=>⟨H01,ρ,g1.sub,hr.mono g1.z,zn0.grow (r:=g ρ) q g1⟩
   | true=>exact fun H1 H01 g1=>q H1 H01 g1
  | _=>exact q.elim
theorem DW.dt (h:DW X E e f):DT X E e f:=⟨PW.pt h.o⟩
theorem zfr {op}(h:DE X E a f):DE X E (.BoolOp op [a] pos) f:=⟨zxw h.o⟩
theorem zfX (ha:DE X E a f)(hb:DE X E (.BoolOp .And (b::rest) pos) g):DE X E (.BoolOp .And (a::b::rest) pos) (zhT f g):=by
 refine⟨?_⟩
 refine zaT (zxB ha.o hb.o) fun σ H Q ⟨H₀,ρ,hs,hr,q⟩=>⟨H₀,ρ,hs,hr,?_⟩
 unfold zhT at q
 cases e1:f ρ with
 | stuck=>rw[e1] at q;exact q
 | exn x=>rw[e1] at q;exact q
 | ok d =>
  rw[e1] at q
  intro v H1 H01 g1 r1
  cases d with
  | bl b =>
   rw[Rep.bl_iff.mp r1]
   cases b with
   | true=>exact⟨true,rfl,H01,ρ,g1.sub,hr.mono g1.z,post.grow (r:=g ρ) q g1⟩
   | false=>exact⟨false,rfl,q (.bl false) H1 H01 g1 (Rep.bl_iff.mpr rfl)⟩
  | _=>exact q.elim
theorem zzx (ha:DE X E a f)(hb:DE X E (.BoolOp .Or (b::rest) pos) g):DE X E (.BoolOp .Or (a::b::rest) pos) (dOr f g):=by
 refine⟨?_⟩
 refine zaT (zy9 ha.o hb.o) fun σ H Q ⟨H₀,ρ,hs,hr,q⟩=>⟨H₀,ρ,hs,hr,?_⟩
 unfold dOr at q
 cases e1:f ρ with
 | stuck=>rw[e1] at q;exact q
 | exn x=>rw[e1] at q;exact q
 | ok d =>
  rw[e1] at q
  intro v H1 H01 g1 r1
  cases d with
  | bl b =>
   rw[Rep.bl_iff.mp r1]
   cases b with
   | false=>exact⟨false,rfl,H01,ρ,g1.sub,hr.mono g1.z,post.grow (r:=g ρ) q g1⟩
   | true=>exact⟨true,rfl,q (.bl true) H1 H01 g1 (Rep.bl_iff.mpr rfl)⟩
  | _=>exact q.elim
def dIf (c f g:Ev->Res D):Ev->Res D:=fun ρ=>(c ρ).bind fun x=>match x with
 | .bl true=>f ρ
 | .bl false=>g ρ
 | _=>.stuck
end
def zAH (K:W.Frag)(H₀ H:Hp)(a:Addr)(d:D):Prop:=match d with
 | .lst ds=>∃ vs,H a=some (.lst vs)/\Reps K H₀ ds vs
 | _=>False
def OXr (K:W.Frag)(He H₀ H:Hp)(a:Addr)(j:Nat)(ds:List D)(p:Addr):Prop:=∃ vs es us,He a=none/\H a=some (.tup vs)/\He p=none/\H₀ p=none/\ds[j]?=some (.lst es)/\vs[j]?=some (.ref p)/\H p=some (.lst us)/\Reps K H₀ es us/\ds.length=vs.length/\∀ k d v,k≠j->ds[k]?=some d->vs[k]?=some v->Rep K H₀ d v
def OX (K:W.Frag)(He H₀:Hp)(σ:L2.St)(H:Hp)(ρ:Ev):Prop:=∀ (i j:Nat) (ds:List D),ρ[i]?=some (.ox j ds)->∃ a p,σ[i]?=some (some (.ref a))/\OXr K He H₀ H a j ds p/\(∀ (k:Nat) (d:D),ρ[k]?=some (.ow d)->σ[k]?≠some (some (.ref p)))/\∀ (k j':Nat) (ds':List D),ρ[k]?=some (.ox j' ds')->k=i
theorem OX.upd {K:W.Frag}{He H₀ H₀' H H':Hp}{σ σ':L2.St}{ρ ρ':Ev}(h:OX K He H₀ σ H ρ)
  (hk:∀ (j:Nat) (s:Sl),ρ'[j]?=some s->(ρ[j]?=some s/\σ'[j]?=σ[j]?)∨(∃ d,s=.sh d)∨s=.no∨∃ d q,s=.ow d/\σ'[j]?=some (some (.ref q))/\∀ (i j:Nat) (ds:List D) (a p:Addr),ρ[i]?=some (.ox j ds)->σ[i]?=some (some (.ref a))->OXr K He H₀ H a j ds p->q≠p)
  (hz:zaM H₀ H₀')(ht:∀ a vs,He a=none->H a=some (.tup vs)->H' a=some (.tup vs))
  (hl:∀ p us,He p=none->H₀ p=none->H p=some (.lst us)->(∀ (k:Nat) (d:D),ρ[k]?=some (.ow d)->σ[k]?≠some (some (.ref p)))->H' p=some (.lst us)/\H₀' p=none):OX K He H₀' σ' H' ρ':=fun i j ds e=>by
 have old:ρ[i]?=some (.ox j ds)/\σ'[i]?=σ[i]?:=by
  rcases hk i _ e with h1 | ⟨d,h1⟩ | h1 | ⟨d,q,h1,_⟩
  ·exact h1
  ·cases h1
  ·cases h1
  ·cases h1
 obtain⟨a,p,h1,h2,h3,h4⟩:=h i j ds old.1
 have h2':=h2
 obtain⟨vs,es,us,r1,r2,r3,r4,r5,r6,r7,r8,r9,r10⟩:=h2
 obtain⟨l1,l2⟩:=hl p us r3 r4 r7 h3
 refine⟨a,p,old.2.trans h1,⟨vs,es,us,r1,ht a vs r1 r2,r3,l2,r5,r6,l1,r8.mono hz,r9,fun k d v hk e1 e2=>(r10 k d v hk e1 e2).mono hz⟩,fun k d ek z=>?_,fun k j' ds' ek=>?_⟩
 ·rcases hk k _ ek with h1' | ⟨d',h1'⟩ | h1' | ⟨d',q,h1',h2'',h3'⟩
  ·exact h3 k d h1'.1 (by rw[← h1'.2];exact z)
  ·cases h1'
  ·cases h1'
  ·rw[h2''] at z
   cases z
   exact h3' i j ds a p old.1 h1 h2' rfl
 ·rcases hk k _ ek with h1' | ⟨d',h1'⟩ | h1' | ⟨d',q,h1',_⟩
  ·exact h4 k j' ds' h1'.1
  ·cases h1'
  ·cases h1'
  ·cases h1'
theorem OX.none {K:W.Frag}{He H₀ H:Hp}{σ:L2.St}{ρ:Ev}(h:∀ (i j:Nat) (ds:List D),ρ[i]?≠some (.ox j ds)):OX K He H₀ σ H ρ:=fun i j ds e=>absurd e (h i j ds)
theorem zq7 {K:W.Frag}{H:Hp}:∀ {ds:List D}{vs:List V},ds.length=vs.length->(∀ (k:Nat) (d:D) (v:V),ds[k]?=some d->vs[k]?=some v->Rep K H d v)->Reps K H ds vs
 | [],[],_,_=>Reps.nil
 | d::ds,v::vs,hl,h=>Reps.cons (h 0 d v rfl rfl) (zq7 (by simpa using hl) fun k d' v' e1 e2=>h (k+1) d' v' e1 e2)
structure SRx (K:W.Frag) (He H0e H₀:Hp) (σ:L2.St) (H:Hp) (ρ:Ev):Prop where
 g:zbn He H0e H H₀
 rd:zgu K H₀ σ ρ
 ow:∀ (i:Nat) (d:D),ρ[i]?=some (.ow d)->∃ a,σ[i]?=some (some (.ref a))/\He a=none/\H₀ a=none/\zAH K H₀ H a d
 ap:∀ (i j:Nat) (d d':D),i≠j->ρ[i]?=some (.ow d)->ρ[j]?=some (.ow d')->σ[i]?≠σ[j]?
 ln:ρ.length=σ.length
 ex:OX K He H₀ σ H ρ
inductive Fl where
 | nx (ρ:Ev) | rt (d:D) | bk (ρ:Ev) | ct (ρ:Ev)
def zcf (K:W.Frag)(E:XK)(He H0e H₀:Hp)(r:Res Fl)(D:zk3):Prop:=match r with
 | .ok (.nx ρ)=>∀ σ H H₀',zaM H₀ H₀'->SRx K He H0e H₀' σ H ρ->D.nx σ H
 | .ok (.rt d)=>∀ v H H₀',zbn He H0e H H₀'->Rep K H₀' d v->D.rt v H
 | .ok (.bk ρ)=>∀ σ H H₀',zaM H₀ H₀'->SRx K He H0e H₀' σ H ρ->D.bk σ H
 | .ok (.ct ρ)=>∀ σ H H₀',zaM H₀ H₀'->SRx K He H0e H₀' σ H ρ->D.ct σ H
 | .exn x=>∀ C ox H H₀',zbn He H0e H H₀'->ExR K H₀' x C ox->E C ox H
 | .stuck=>False
theorem zcf.grow {K:W.Frag}{E:XK}{He H0e H₀ H₁:Hp}{r:Res Fl}{D:zk3}(h:zcf K E He H0e H₀ r D)(s:zaM H₀ H₁):zcf K E He H0e H₁ r D:=by
 cases r with
 | ok f =>
  cases f with
  | nx ρ=>exact fun σ H H₀' s'=>h σ H H₀' (s.trans s')
  | rt d=>exact h
  | bk ρ=>exact fun σ H H₀' s'=>h σ H H₀' (s.trans s')
  | ct ρ=>exact fun σ H H₀' s'=>h σ H H₀' (s.trans s')
 | exn x=>exact h
 | stuck=>exact h
def tS (K:W.Frag)(E:XK)(He H0e:Hp)(g:Ev->Res Fl):TS:=fun D σ H=>∃ H₀ ρ,SRx K He H0e H₀ σ H ρ/\zcf K E He H0e H₀ (g ρ) D
structure DS (X:Cx) (E:XK) (He H0e:Hp) (st:Stmt) (g:Ev->Res Fl):Prop where
 o:PS X st (tS X.K E He H0e g)
structure DSs (X:Cx) (E:XK) (He H0e:Hp) (st:List Stmt) (g:Ev->Res Fl):Prop where
 o:PSs X st (tS X.K E He H0e g)
def shr (ρ:Ev):Ev:=ρ.map fun s=>match s with
 | .ow d=>.sh d
 | .ox _ ds=>.sh (.tup ds)
 | x=>x
def frz (He H₀ H:Hp):Hp:=fun a=>match He a with
 | none=>H a
 | some _=>H₀ a
section
variable {K:W.Frag}{E:XK}{He H0e H₀ H H1:Hp}{σ:L2.St}{ρ:Ev}
theorem SRx.same (h:SRx K He H0e H₀ σ H ρ)(s:zaM H H1):SRx K He H0e H₀ σ H1 ρ :=
 ⟨⟨h.g.s.trans s,h.g.z,h.g.sub.trans s,h.g.nw⟩,h.rd,fun i d e=>by
  obtain⟨a,h1,h2,h3,h4⟩:=h.ow i d e
  refine⟨a,h1,h2,h3,?_⟩
  cases d with
  | lst ds=>obtain⟨vs,h5,h6⟩:=h4;exact⟨vs,s _ _ h5,h6⟩
  | _=>exact h4,h.ap,h.ln,h.ex.upd (fun j s' e=>.inl ⟨e,rfl⟩) (zaM.refl _) (fun a vs _ e=>s _ _ e) fun p us _ h0 hp _=>⟨s _ _ hp,h0⟩⟩
theorem SRx.grow {H01:Hp}(h:SRx K He H0e H₀ σ H ρ)(s:zbn H H₀ H1 H01):SRx K He H0e H01 σ H1 ρ :=
 ⟨h.g.trans s,h.rd.mono s.z,fun i d e=>by
  obtain⟨a,h1,h2,h3,h4⟩:=h.ow i d e
  have ha:H01 a=none:=by
   cases q:H01 a with
   | none=>rfl
   | some o =>
    have:=s.nw a (by rw[q];simp) h3
    cases d with
    | lst ds=>obtain⟨vs,h5,_⟩:=h4;rw[h5] at this;cases this
    | _=>exact h4.elim
  refine⟨a,h1,h2,ha,?_⟩
  cases d with
  | lst ds=>obtain⟨vs,h5,h6⟩:=h4;exact⟨vs,s.s _ _ h5,h6.mono s.z⟩
  | _=>exact h4,h.ap,h.ln,h.ex.upd (fun j s' e=>.inl ⟨e,rfl⟩) s.z (fun a vs _ e=>s.s _ _ e) fun p us _ h0 hp _=>⟨s.s _ _ hp,by
   cases q:H01 p with
   | none=>rfl
   | some o=>have:=s.nw p (by rw[q];simp) h0;rw[hp] at this;cases this⟩⟩
theorem SRx.frz_sub (h:SRx K He H0e H₀ σ H ρ):zaM H₀ (frz He H₀ H):=fun b o e=>by
 unfold frz
 cases q:He b with
 | none=>exact h.g.sub _ _ e
 | some _=>exact e
theorem SRx.frz_le (h:SRx K He H0e H₀ σ H ρ):zaM (frz He H₀ H) H:=fun b o e=>by
 unfold frz at e
 cases q:He b with
 | none=>rw[q] at e;exact e
 | some _=>rw[q] at e;exact h.g.sub _ _ e
theorem SRx.frz_grow (h:SRx K He H0e H₀ σ H ρ):zbn He H0e H (frz He H₀ H) :=
 ⟨h.g.s,h.g.z.trans h.frz_sub,h.frz_le,fun a h1 h2=>by
  cases q:He a with
  | none=>rfl
  | some o =>
   unfold frz at h1
   rw[q] at h1
   have:=h.g.nw a h1 h2
   rw[q] at this;cases this⟩
theorem SRx.looks (h:SRx K He H0e H₀ σ H ρ):zgu K (frz He H₀ H) σ (shr ρ):=fun i d e=>by
 unfold shr at e
 rw[List.getElem?_map] at e
 cases q:ρ[i]? with
 | none=>rw[q] at e;cases e
 | some s =>
  rw[q] at e
  cases s with
  | no=>cases e
  | sh d' =>
   cases e
   obtain⟨v,h1,h2⟩:=h.rd i d q
   exact⟨v,h1,h2.mono h.frz_sub⟩
  | ow d' =>
   cases e
   obtain⟨a,h1,h2,h3,h4⟩:=h.ow i d q
   refine⟨_,h1,?_⟩
   cases d with
   | lst ds =>
    obtain⟨vs,h5,h6⟩:=h4
    exact Rep.lst_iff.mpr ⟨a,vs,rfl,SqL.of (by unfold frz;rw[h2];exact h5),h6.mono h.frz_sub⟩
   | _=>exact h4.elim
  | ox j ds =>
   cases e
   obtain⟨a,p,h1,⟨vs,es,us,r1,r2,r3,r4,r5,r6,r7,r8,r9,r10⟩,_⟩:=h.ex i j ds q
   refine⟨_,h1,Rep.tup_iff.mpr ⟨a,vs,rfl,SqT.of (by unfold frz;rw[r1];exact r2),zq7 r9 fun k d v e1 e2=>?_⟩⟩
   by_cases hk:k=j
   ·subst hk
    rw[r5] at e1;cases e1
    rw[r6] at e2;cases e2
    exact Rep.lst_iff.mpr ⟨p,us,rfl,SqL.of (by unfold frz;rw[r3];exact r7),r8.mono h.frz_sub⟩
   ·exact(r10 k d v hk e1 e2).mono h.frz_sub
theorem SRx.put (h:SRx K He H0e H₀ σ H ρ){i:Nat}{d:D}{v:V}(r:Rep K H₀ d v):SRx K He H0e H₀ (σ.set i (some v)) H (ρ.set i (.sh d)):=by
 have key:∀ (j:Nat) (s:Sl),(ρ.set i (.sh d))[j]?=some s->(j=i/\s=.sh d/\i < σ.length)∨(j≠i/\ρ[j]?=some s):=fun j s e=>by
  by_cases hj:i=j
  ·subst hj
   rw[List.getElem?_set_self'] at e
   cases q:ρ[i]? with
   | none=>rw[q] at e;cases e
   | some s' =>
    rw[q] at e
    cases e
    refine .inl ⟨rfl,rfl,?_⟩
    rw[← h.ln]
    exact(List.getElem?_eq_some_iff.mp q).1
  ·rw[List.getElem?_set_ne hj] at e
   exact .inr ⟨fun z=>hj z.symm,e⟩
 refine⟨h.g,fun j d' e=>?_,fun j d' e=>?_,fun j k d1 d2 hn e1 e2=>?_,by simp [h.ln],h.ex.upd (fun j s e=>?_) (zaM.refl _) (fun a vs _ e=>e) fun p us _ h0 hp _=>⟨hp,h0⟩⟩
 rotate_left 3
 ·rcases key j _ e with⟨rfl,e',hl⟩ | ⟨hj,e'⟩
  ·exact .inr (.inl ⟨d,e'⟩)
  ·exact .inl ⟨e',by rw[List.getElem?_set_ne (Ne.symm hj)]⟩
 ·rcases key j _ e with⟨rfl,e',hl⟩ | ⟨hj,e'⟩
  ·cases e'
   exact⟨v,by rw[List.getElem?_set_self hl],r⟩
  ·obtain⟨v',h1,h2⟩:=h.rd j d' e'
   exact⟨v',by rw[List.getElem?_set_ne (Ne.symm hj)];exact h1,h2⟩
 ·rcases key j _ e with⟨rfl,e',hl⟩ | ⟨hj,e'⟩
  ·cases e'
  ·obtain⟨a,h1,h2⟩:=h.ow j d' e'
   exact⟨a,by rw[List.getElem?_set_ne (Ne.symm hj)];exact h1,h2⟩
 ·rcases key j _ e1 with⟨_,e',_⟩ | ⟨hj,e1'⟩
  ·cases e'
  rcases key k _ e2 with⟨_,e',_⟩ | ⟨hk,e2'⟩
  ·cases e'
  rw[List.getElem?_set_ne (Ne.symm hj),List.getElem?_set_ne (Ne.symm hk)]
  exact h.ap j k d1 d2 hn e1' e2'
theorem SRx.putOwn (h:SRx K He H0e H₀ σ H ρ){i:Nat}{ds:List D}{vs:List V}{p:Addr}(hp:∀ (j:Nat) (a:Addr),σ[j]?=some (some (V.ref a))->a=p->∀ d:D,ρ[j]?≠some (Sl.ow d))(he:He p=none)(h0:H₀ p=none)(hv:H p=some (.lst vs))(r:Reps K H₀ ds vs)(hx:∀ (i j:Nat) (ds:List D) (a q:Addr),ρ[i]?=some (.ox j ds)->σ[i]?=some (some (.ref a))->OXr K He H₀ H a j ds q->p≠q) :
  SRx K He H0e H₀ (σ.set i (some (.ref p))) H (ρ.set i (.ow (.lst ds))):=by
 have key:∀ (j:Nat) (s:Sl),(ρ.set i (.ow (.lst ds)))[j]?=some s->(j=i/\s=.ow (.lst ds)/\i < σ.length)∨(j≠i/\ρ[j]?=some s):=fun j s e=>by
  by_cases hj:i=j
  ·subst hj
   rw[List.getElem?_set_self'] at e
   cases q:ρ[i]? with
   | none=>rw[q] at e;cases e
   | some s' =>
    rw[q] at e
    cases e
    refine .inl ⟨rfl,rfl,?_⟩
    rw[← h.ln]
    exact(List.getElem?_eq_some_iff.mp q).1
  ·rw[List.getElem?_set_ne hj] at e
   exact .inr ⟨fun z=>hj z.symm,e⟩
 have other:∀ (k:Nat) (d2:D),k≠i->ρ[k]?=some (.ow d2)->some (some (V.ref p))≠σ[k]?:=fun k d2 hk e2 z=>by
  obtain⟨a,h1,_⟩:=h.ow k d2 e2
  rw[h1] at z
  cases z
  exact hp k p h1 rfl d2 e2
 refine⟨h.g,fun j d' e=>?_,fun j d' e=>?_,fun j k d1 d2 hn e1 e2=>?_,by simp [h.ln],h.ex.upd (fun j s e=>?_) (zaM.refl _) (fun a vs _ e=>e) fun p us _ h0 hp _=>⟨hp,h0⟩⟩
 rotate_left 3
 ·rcases key j _ e with⟨rfl,e',hl⟩ | ⟨hj,e'⟩
  ·exact .inr (.inr (.inr ⟨.lst ds,p,e',by rw[List.getElem?_set_self hl],hx⟩))
  ·exact .inl ⟨e',by rw[List.getElem?_set_ne (Ne.symm hj)]⟩
 ·rcases key j _ e with⟨rfl,e',hl⟩ | ⟨hj,e'⟩
  ·cases e'
  ·obtain⟨v',h1,h2⟩:=h.rd j d' e'
   exact⟨v',by rw[List.getElem?_set_ne (Ne.symm hj)];exact h1,h2⟩
 ·rcases key j _ e with⟨rfl,e',hl⟩ | ⟨hj,e'⟩
  ·cases e'
   exact⟨p,by rw[List.getElem?_set_self hl],he,h0,vs,hv,r⟩
  ·obtain⟨a,h1,h2⟩:=h.ow j d' e'
   exact⟨a,by rw[List.getElem?_set_ne (Ne.symm hj)];exact h1,h2⟩
 ·rcases key j _ e1 with⟨rfl,_,hl⟩ | ⟨hj,e1'⟩
  ·rcases key k _ e2 with⟨rfl,_,_⟩ | ⟨hk,e2'⟩
   ·exact absurd rfl hn
   ·rw[List.getElem?_set_self hl,List.getElem?_set_ne (Ne.symm hk)]
    exact other k d2 hk e2'
  ·rcases key k _ e2 with⟨rfl,_,hl⟩ | ⟨hk,e2'⟩
   ·rw[List.getElem?_set_self hl,List.getElem?_set_ne (Ne.symm hj)]
    exact fun z=>other j d1 hj e1' z.symm
   ·rw[List.getElem?_set_ne (Ne.symm hj),List.getElem?_set_ne (Ne.symm hk)]
    exact h.ap j k d1 d2 hn e1' e2'
theorem SRx.fresh_x {H01:Hp}{p:Addr}(h:SRx K He H0e H₀ σ H ρ)(s:zaM H H1)(hp:H p=none):∀ (i j:Nat) (ds:List D) (a q:Addr),ρ[i]?=some (.ox j ds)->σ[i]?=some (some (.ref a))->OXr K He H01 H1 a j ds q->p≠q:=fun i j ds a q x1 x2 x3=>by
 obtain⟨a2,p2,y1,⟨vs2,_,us2,_,z3,_,_,_,z4,z5,_⟩,_⟩:=h.ex i j ds x1
 rw[x2] at y1;cases y1
 obtain⟨vs1,_,_,_,z1,_,_,_,z2,_⟩:=x3
 have:=s _ _ z3
 rw[z1] at this;cases this
 rw[z2] at z4;cases z4
 intro z;subst z
 rw[hp] at z5;cases z5
theorem SRx.write (h:SRx K He H0e H₀ σ H ρ){i:Nat}{d:D}{p:Addr}{ds:List D}{vs:List V}(e:ρ[i]?=some (.ow d))(es:σ[i]?=some (some (.ref p)))(r:Reps K H₀ ds vs) :
  SRx K He H0e H₀ σ (upd H p (.lst vs)) (ρ.set i (.ow (.lst ds))):=by
 obtain⟨a,h1,h2,h3,h4⟩:=h.ow i d e
 rw[h1] at es;cases es
 have hil:i < ρ.length:=(List.getElem?_eq_some_iff.mp e).1
 have key:∀ (j:Nat) (s:Sl),(ρ.set i (.ow (.lst ds)))[j]?=some s->(j=i/\s=.ow (.lst ds))∨(j≠i/\ρ[j]?=some s):=fun j s e=>by
  by_cases hj:i=j
  ·subst hj
   rw[List.getElem?_set_self hil] at e
   cases e
   exact .inl ⟨rfl,rfl⟩
  ·rw[List.getElem?_set_ne hj] at e
   exact .inr ⟨fun z=>hj z.symm,e⟩
 refine⟨⟨fun b o eb=>?_,h.g.z,fun b o eb=>?_,h.g.nw⟩,fun j d' e'=>?_,fun j d' e'=>?_,fun j k d1 d2 hn e1 e2=>?_,by simp [h.ln],h.ex.upd (fun j s e'=>?_) (zaM.refl _) (fun b us _ eb=>?_) fun q us _ q0 hq hd=>?_⟩
 rotate_left 5
 ·rcases key j _ e' with⟨rfl,e''⟩ | ⟨hj,e''⟩
  ·exact .inr (.inr (.inr ⟨.lst ds,p,e'',h1,fun i' j' ds' a' p' x1 x2 x3=>by
    obtain⟨a2,p2,y1,y2,y3,_⟩:=h.ex i' j' ds' x1
    rw[x2] at y1;cases y1
    have:p2=p':=by
     obtain⟨vs1,_,_,_,z1,_,_,_,z2,_⟩:=x3
     obtain⟨vs2,_,_,_,z3,_,_,_,z4,_⟩:=y2
     rw[z1] at z3;cases z3
     rw[z2] at z4;cases z4;rfl
    subst this
    intro zz;subst zz
    exact y3 j d e h1⟩))
  ·exact .inl ⟨e'',rfl⟩
 ·rw[zaw (by
   intro z;subst z
   cases d with
   | lst ds'=>obtain⟨vs',h5,_⟩:=h4;rw[h5] at eb;cases eb
   | _=>exact h4)];exact eb
 ·have hq':q≠p:=by
   intro z;subst z
   exact hd i d e h1
  exact⟨by rw[zaw hq'];exact hq,q0⟩
 ·rw[zaw (by intro z;subst z;rw[h2] at eb;cases eb)];exact h.g.s _ _ eb
 ·rw[zaw (by intro z;subst z;rw[h3] at eb;cases eb)];exact h.g.sub _ _ eb
 ·rcases key j _ e' with⟨rfl,e''⟩ | ⟨hj,e''⟩
  ·cases e''
  ·exact h.rd j d' e''
 ·rcases key j _ e' with⟨rfl,e''⟩ | ⟨hj,e''⟩
  ·cases e''
   exact⟨p,h1,h2,h3,vs,zav,r⟩
  ·obtain⟨b,k1,k2,k3,k4⟩:=h.ow j d' e''
   refine⟨b,k1,k2,k3,?_⟩
   have hb:b≠p:=by
    intro z;subst z
    exact h.ap j i d' d hj e'' e (by rw[k1,h1])
   cases d' with
   | lst ds' =>
    obtain⟨vs',h5,h6⟩:=k4
    exact⟨vs',by rw[zaw hb];exact h5,h6⟩
   | _=>exact k4.elim
 ·rcases key j _ e1 with⟨rfl,e1'⟩ | ⟨hj,e1'⟩
  ·rcases key k _ e2 with⟨rfl,_⟩ | ⟨hk,e2'⟩
   ·exact absurd rfl hn
   ·exact h.ap j k d d2 hn e e2'
  ·rcases key k _ e2 with⟨rfl,_⟩ | ⟨hk,e2'⟩
   ·exact h.ap j k d1 d hn e1' e
   ·exact h.ap j k d1 d2 hn e1' e2'
end
mutual
def zog:D->Bool
 | .lst _=>false
 | .dic _ _=>false
 | .exc _=>false
 | .ob _ _=>false
 | .tup ds=>flats ds
 | _=>true
def flats:List D->Bool
 | []=>true
 | d::ds=>zog d&&flats ds
end
mutual
theorem Rep.flat_to {K:W.Frag}{H H':Hp}(e:∀ a vs,Rd H a (.tup vs)->Rd H' a (.tup vs)):∀ {d:D}{v:V},zog d=true->Rep K H d v->Rep K H' d v
 | .non,_,_,h=>by unfold Rep at h ⊢;exact h
 | .bl _,_,_,h=>by unfold Rep at h ⊢;exact h
 | .int _,_,_,h=>by unfold Rep at h ⊢;exact h
 | .str _,_,_,h=>by unfold Rep at h ⊢;exact h
 | .tup ds,_,f,h=>by
  unfold zog at f
  obtain⟨a,vs,e1,e2,e3⟩:=Rep.tup_iff.mp h
  refine Rep.tup_iff.mpr ⟨a,vs,e1,?_,Reps.flat_to e f e3⟩
  rcases e2 with e2 | e2
  ·exact .inl (e _ _ e2)
  ·exact .inr e2
 | .lst ds,_,f,h=>by unfold zog at f;cases f
 | .dic ks ds,_,f,h=>by unfold zog at f;cases f
 | .exc x,_,f,h=>by unfold zog at f;cases f
 | .ob k ds,_,f,h=>by unfold zog at f;cases f
theorem Reps.flat_to {K:W.Frag}{H H':Hp}(e:∀ a vs,Rd H a (.tup vs)->Rd H' a (.tup vs)):∀ {ds:List D}{vs:List V},flats ds=true->Reps K H ds vs->Reps K H' ds vs
 | [],_,_,h=>by unfold Reps at h ⊢;exact h
 | d::ds,_,f,h=>by
  unfold flats at f
  rw[Bool.and_eq_true] at f
  obtain⟨v,r,e1,e2,e3⟩:=Reps.cons_iff.mp h
  exact Reps.cons_iff.mpr ⟨v,r,e1,Rep.flat_to e f.1 e2,Reps.flat_to e f.2 e3⟩
end
def zqc (H₀ J:Hp):Hp:=fun a=>match H₀ a with
 | some o=>some o
 | none=>match J a with
  | some (.tup vs)=>some (.tup vs)
  | some (.frz o (.tup vs))=>some (.frz o (.tup vs))
  | _=>none
section
variable {K:W.Frag}{E:XK}{He H0e H₀ H H1 J:Hp}{σ:L2.St}{ρ:Ev}
theorem zwv (h:zaM H₀ J):∀ a o,zqc H₀ J a=some o->J a=some o:=fun a o e=>by
 unfold zqc at e
 cases q:H₀ a with
 | some u=>rw[q] at e;cases e;exact h _ _ q
 | none =>
  rw[q] at e
  cases q2:J a with
  | none=>rw[q2] at e;cases e
  | some u =>
   rw[q2] at e
   cases u with
   | tup vs=>cases e;rfl
   | frz o u' =>
    cases u' with
    | tup vs=>cases e;rfl
    | _=>cases e
   | _=>cases e
theorem zwu (h:zaM H₀ J)(a:Addr)(vs:List V)(e:Rd J a (.tup vs)):Rd (zqc H₀ J) a (.tup vs):=by
 rcases e with e | ⟨o,e⟩
 ·refine .inl ?_
  unfold zqc
  cases q:H₀ a with
  | some u=>have:=h _ _ q;rw[e] at this;cases this;rfl
  | none=>rw[e]
 ·refine .inr ⟨o,?_⟩
  unfold zqc
  cases q:H₀ a with
  | some u=>have:=h _ _ q;rw[e] at this;cases this;rfl
  | none=>rw[e]
theorem SRx.behind (h:SRx K He H0e H₀ σ H ρ)(g:zbn H (frz He H₀ H) H1 J):SRx K He H0e (zqc H₀ J) σ H1 ρ:=by
 have hJ:zaM H₀ J:=h.frz_sub.trans g.z
 have le:=zwv (H₀:=H₀) (J:=J) hJ
 have z:zaM H₀ (zqc H₀ J):=fun b o e=>by unfold zqc;rw[e]
 refine⟨⟨h.g.s.trans g.s,h.g.z.trans z,fun b o e=>g.sub _ _ (le b o e),fun a h1 h2=>?_⟩,h.rd.mono z,fun i d e=>?_,h.ap,h.ln,h.ex.upd (fun j s e=>.inl ⟨e,rfl⟩) z (fun a vs _ e=>g.s _ _ e) fun p us hp h0 hl _=>⟨g.s _ _ hl,by
  have:frz He H₀ H p=some (.lst us):=by unfold frz;rw[hp];exact hl
  have:=g.z _ _ this
  unfold zqc
  rw[h0,this]⟩⟩
 ·cases q:zqc H₀ J a with
  | none=>exact absurd q h1
  | some o =>
   have hj:=le a o q
   exact(h.frz_grow.trans g).nw a (by rw[hj];simp) h2
 ·obtain⟨a,k1,k2,k3,k4⟩:=h.ow i d e
  refine⟨a,k1,k2,?_,?_⟩
  ·cases d with
   | lst ds =>
    obtain⟨vs,h5,_⟩:=k4
    have:frz He H₀ H a=some (.lst vs):=by unfold frz;rw[k2];exact h5
    have:=g.z _ _ this
    unfold zqc
    rw[k3,this]
   | _=>exact k4.elim
  ·cases d with
   | lst ds=>obtain⟨vs,h5,h6⟩:=k4;exact⟨vs,g.s _ _ h5,h6.mono z⟩
   | _=>exact k4.elim
end
section
variable {X:Cx}{E:XK}{He H0e:Hp}{st:Stmt}{rest:List Stmt}{e a b:Expr}{es:List Expr}{f g:Ev->Res D}{fa:Ev->Res (List D)}{s t:Ev->Res Fl}{pos:Pos}
theorem zcO {t t':TS}(h:PS X st t)(w:∀ D σ H,t' D σ H->t D σ H):PS X st t':=fun pins s σ H D I q=>h pins s σ H D I (w D σ H q)
theorem zhF {t t':TS}(h:PSs X rest t)(w:∀ D σ H,t' D σ H->t D σ H):PSs X rest t':=fun pins s σ H D I q=>h pins s σ H D I (w D σ H q)
def zak:Ev->Res Fl:=fun ρ=>.ok (.nx ρ)
def zan (s t:Ev->Res Fl):Ev->Res Fl:=fun ρ=>(s ρ).bind fun r=>match r with
 | .nx ρ'=>t ρ'
 | r=>.ok r
theorem zai:DSs X E He H0e [] zak:=⟨zhF zrb fun D σ H ⟨H₀,ρ,h,q⟩=>q σ H H₀ (zaM.refl _) h⟩
theorem zab (h1:DS X E He H0e st s)(h2:DSs X E He H0e rest t):DSs X E He H0e (st::rest) (zan s t):=by
 refine⟨?_⟩
 refine zhF (zi8 h1.o h2.o) fun D σ H ⟨H₀,ρ,h,q⟩=>⟨H₀,ρ,h,?_⟩
 unfold zan at q
 cases e1:s ρ with
 | stuck=>rw[e1] at q;exact q
 | exn x=>rw[e1] at q;exact q
 | ok r =>
  rw[e1] at q
  cases r with
  | nx ρ'=>exact fun σ' H' H₀' s' h'=>⟨H₀',ρ',h',zcf.grow (r:=t ρ') q s'⟩
  | rt d=>exact q
  | bk ρ'=>exact q
  | ct ρ'=>exact q
def zdt:Ev->Res Fl:=fun _=>.stuck
theorem plain {K:W.Frag}{H₀ H:Hp}{σ:L2.St}{ρ:Ev}{k:D->Res Fl}{D':zk3}(h:SRx K He H0e H₀ σ H ρ){r:Res D}{Q:VK}
  (q:zcf K E He H0e H₀ (r.bind k) D')(hk:∀ d v H' H₀',r=.ok d->zbn H H₀ H' H₀'->Rep K H₀' d v->zcf K E He H0e H₀' (k d) D'->Q v H'):post K E H H₀ r Q:=by
 cases r with
 | stuck=>exact q
 | exn x=>exact fun C ox H' H₀' g ex=>q C ox H' H₀' (h.g.trans g) ex
 | ok d=>exact fun v H' H₀' g rp=>hk d v H' H₀' rfl g rp (zcf.grow (r:=k d) q g.z)
theorem look {K:W.Frag}{H₀ H:Hp}{σ:L2.St}{ρ:Ev}{k:D->Res Fl}{D':zk3}(h:SRx K He H0e H₀ σ H ρ){r:Res D}{Q:VK}
  (q:zcf K E He H0e H₀ (r.bind k) D')(hk:∀ d v H' J,r=.ok d->zbn H (frz He H₀ H) H' J->Rep K J d v->zcf K E He H0e H₀ (k d) D'->Q v H'):post K E H (frz He H₀ H) r Q:=by
 cases r with
 | stuck=>exact q
 | exn x=>exact fun C ox H' H₀' g ex=>q C ox H' H₀' (h.frz_grow.trans g) ex
 | ok d=>exact fun v H' J g rp=>hk d v H' J rfl g rp q
theorem zxR {K:W.Frag}{H₀ H:Hp}{σ:L2.St}{ρ:Ev}{k:Bool->Res Fl}{D':zk3}(h:SRx K He H0e H₀ σ H ρ){r:Res D}{Q:Bool->Hp->Prop}
  (q:zcf K E He H0e H₀ (r.bind fun x=>match x with | .bl b=>k b | _=>.stuck) D')(hk:∀ b H',zaM H H'->zcf K E He H0e H₀ (k b) D'->Q b H'):zn0 K E H (frz He H₀ H) r Q:=by
 cases r with
 | stuck=>exact q
 | exn x=>exact fun C ox H' H₀' g ex=>q C ox H' H₀' (h.frz_grow.trans g) ex
 | ok d =>
  cases d with
  | bl b=>exact fun H' J g=>hk b H' g.s q
  | _=>exact q.elim
def zbb (i:Nat)(f:Ev->Res D):Ev->Res Fl:=fun ρ=>(f ρ).bind fun d=>.ok (.nx (ρ.set i (.sh d)))
def zs8 (i:Nat)(f:Ev->Res D):Ev->Res Fl:=fun ρ=>(f (shr ρ)).bind fun d=>if zog d=true then .ok (.nx (ρ.set i (.sh d))) else .stuck
def zcp (f:Ev->Res D):Ev->Res Fl:=fun ρ=>(f (shr ρ)).bind fun d=>.ok (.rt d)
def zhE (f:Ev->Res D):Ev->Res Fl:=fun ρ=>(f (shr ρ)).bind fun _=>.ok (.nx ρ)
def sIf (c:Ev->Res D)(s t:Ev->Res Fl):Ev->Res Fl:=fun ρ=>(c (shr ρ)).bind fun x=>match x with
 | .bl b=>if b=true then s ρ else t ρ
 | _=>.stuck
theorem zaC {i:Nat}{x:Str}{pos':Pos}(hN:X.N.Nodup)(hi:X.N[i]?=some x)(hx:Loc X.env.scope x)(he:DE X E e f)(hs:swapsWith e (some (.Name x pos')) pos.line X.env=pure false:=by rfl)
  (hf:X.fn x=true∨X.env.scope.names.lookup x=some .local := by first | exact .inl rfl | exact .inr rfl | assumption):DS X E He H0e (.Assign [.Name x pos'] e pos) (zbb i f):=by
 refine⟨?_⟩
 refine zcO (zrc hN hi hx he.o hs hf) fun D σ H ⟨H₀,ρ,h,q⟩=>⟨H₀,ρ,h.g.sub,h.rd,?_⟩
 refine plain h q fun d v H' H₀' _ g rp q'=>?_
 exact q' _ H' H₀' (zaM.refl _) ((h.grow g).put rp)
theorem zwe {i:Nat}{x:Str}{pos':Pos}(hN:X.N.Nodup)(hi:X.N[i]?=some x)(hx:Loc X.env.scope x)(he:DE X E e f)(hs:swapsWith e (some (.Name x pos')) pos.line X.env=pure false:=by rfl)
  (hf:X.fn x=true∨X.env.scope.names.lookup x=some .local := by first | exact .inl rfl | exact .inr rfl | assumption):DS X E He H0e (.Assign [.Name x pos'] e pos) (zs8 i f):=by
 refine⟨?_⟩
 refine zcO (zrc hN hi hx he.o hs hf) fun D σ H ⟨H₀,ρ,h,q⟩=>⟨frz He H₀ H,shr ρ,h.frz_le,h.looks,?_⟩
 refine look h q fun d v H' J _ g rp q'=>?_
 by_cases fl:zog d=true
 ·rw[if_pos fl] at q'
  have hJ:zaM H₀ J:=h.frz_sub.trans g.z
  refine q' _ H' (zqc H₀ J) (fun b o e=>by unfold zqc;rw[e]) ((h.behind g).put (rp.flat_to (zwu hJ) fl))
 ·rw[if_neg fl] at q';exact q'.elim
theorem zaF (he:DE X E e f):DS X E He H0e (.Return (some e) pos) (zcp f):=by
 refine⟨?_⟩
 refine zcO (zxn he.o) fun D σ H ⟨H₀,ρ,h,q⟩=>⟨frz He H₀ H,shr ρ,h.frz_le,h.looks,?_⟩
 exact look h q fun d v H' J _ g rp q'=>q' v H' J (h.frz_grow.trans g) rp
def zyU:Ev->Res Fl:=fun _=>.ok (.rt .non)
theorem zg9 (he:DE X E e f)(hs:swapsWith e none pos.line X.env=pure false:=by rfl):DS X E He H0e (.Expr e pos) (zhE f):=by
 refine⟨?_⟩
 refine zcO (znY he.o hs) fun D σ H ⟨H₀,ρ,h,q⟩=>⟨frz He H₀ H,shr ρ,h.frz_le,h.looks,?_⟩
 exact look h q fun d v H' J _ g rp q'=>q' σ H' H₀ (zaM.refl _) (h.same g.s)
theorem zbD {c:Expr}{fc:Ev->Res D}{sa sb:List Stmt}(hc:DT X E c fc)(ha:DSs X E He H0e sa s)(hb:DSs X E He H0e sb t):DS X E He H0e (.If c sa sb pos) (sIf fc s t):=by
 refine⟨?_⟩
 refine zcO (zy6 hc.o ha.o hb.o) fun D σ H ⟨H₀,ρ,h,q⟩=>⟨frz He H₀ H,shr ρ,h.frz_le,h.looks,?_⟩
 refine zxR (k:=fun b=>if b=true then s ρ else t ρ) h q fun b H' hs q'=>?_
 cases b with
 | true=>rw[if_pos rfl] at q' ⊢;exact⟨H₀,ρ,h.same hs,q'⟩
 | false=>rw[if_neg Bool.false_ne_true] at q' ⊢;exact⟨H₀,ρ,h.same hs,q'⟩
def tF (K:W.Frag)(E:XK)(f:Ev->Res D):TE:=fun σ H Q=>∃ H₀ ρ,zaM H₀ H/\zgu K H₀ σ ρ/\match f ρ with
 | .ok (.lst ds)=>∀ p vs H' H₀',zbn H H₀ H' H₀'->H p=none->H₀' p=none->H' p=some (.lst vs)->Reps K H₀' ds vs->Q (.ref p) H'
 | .ok _=>False
 | .exn x=>∀ C ox H' H₀',zbn H H₀ H' H₀'->ExR K H₀' x C ox->E C ox H'
 | .stuck=>False
structure DF (X:Cx) (E:XK) (e:Expr) (f:Ev->Res D):Prop where
 o:PE X e (tF X.K E f)
def zsG (i:Nat)(f:Ev->Res D):Ev->Res Fl:=fun ρ=>(f ρ).bind fun d=>match d with
 | .lst ds=>.ok (.nx (ρ.set i (.ow (.lst ds))))
 | _=>.stuck
theorem zjQ {i:Nat}{x:Str}{pos':Pos}(hN:X.N.Nodup)(hi:X.N[i]?=some x)(hx:Loc X.env.scope x)(he:DF X E e f)(hs:swapsWith e (some (.Name x pos')) pos.line X.env=pure false:=by rfl)
  (hf:X.fn x=true∨X.env.scope.names.lookup x=some .local := by first | exact .inl rfl | exact .inr rfl | assumption):DS X E He H0e (.Assign [.Name x pos'] e pos) (zsG i f):=by
 refine⟨?_⟩
 refine zcO (zrc hN hi hx he.o hs hf) fun D σ H ⟨H₀,ρ,h,q⟩=>⟨H₀,ρ,h.g.sub,h.rd,?_⟩
 unfold zsG at q
 cases e1:f ρ with
 | stuck=>rw[e1] at q;exact q
 | exn x=>rw[e1] at q;exact fun C ox H' H₀' g ex=>q C ox H' H₀' (h.g.trans g) ex
 | ok d =>
  rw[e1] at q
  cases d with
  | lst ds =>
   intro p vs H' H₀' g hp h0 hv rp
   refine q _ H' H₀' g.z ((h.grow g).putOwn (fun j a ej ea d ed=>?_) (h.g.s.free hp) h0 hv rp (h.fresh_x g.s hp))
   subst ea
   obtain⟨a',k1,_,_,k4⟩:=h.ow j d ed
   rw[ej] at k1;cases k1
   cases d with
   | lst ds'=>obtain⟨vs',h5,_⟩:=k4;rw[hp] at h5;cases h5
   | _=>exact k4.elim
  | _=>exact q.elim
theorem zjT (h:DA X E es fa):DF X E (.List es pos) (zal fa zdw):=by
 refine⟨?_⟩
 refine zaT (zuu h.o) fun σ H Q h=>?_
 obtain⟨H₀,ρ,hs,hr,q⟩:=h
 refine⟨H₀,ρ,hs,hr,?_⟩
 unfold zal at q
 cases e1:fa ρ with
 | stuck=>rw[e1] at q;exact q
 | exn x=>rw[e1] at q;exact q
 | ok ds =>
  rw[e1] at q
  intro vs H1 H01 g1 r1
  replace q:match zdw ds with
   | .ok (.lst ds)=>∀ p vs H' H₀',zbn H H₀ H' H₀'->H p=none->H₀' p=none->H' p=some (.lst vs)->Reps X.K H₀' ds vs->Q (.ref p) H'
   | .ok _=>False
   | .exn x=>∀ C ox H' H₀',zbn H H₀ H' H₀'->ExR X.K H₀' x C ox->E C ox H'
   | .stuck=>False:=q
  unfold zdw at q
  by_cases hl:ds.length<=line
  ·rw[if_pos hl] at q
   refine⟨by rw[← r1.length];exact zdg hl,fun p hp=>?_⟩
   have h0:H01 p=none:=g1.sub.free hp
   refine q p vs _ H01 (g1.trans ⟨fun b o q=>by rw[zaw (zaL q hp)];exact q,zaM.refl _,fun b o q=>?_,fun a h1 h2=>absurd h2 h1⟩) (g1.s.free hp) h0 zav r1
   rw[zaw (by intro z;subst z;rw[h0] at q;cases q)];exact g1.sub _ _ q
  ·rw[if_neg hl] at q;exact q.elim
def zpL (ρ:Ev)(i:Nat)(k:List D->Res Fl):Res Fl:=match ρ[i]? with
 | some (.ow (.lst ds))=>k ds
 | _=>.stuck
def zb2 (i:Nat)(f:Ev->Res D):Ev->Res Fl:=fun ρ=>zpL ρ i fun ds=>(f ρ).bind fun d=>if ds.length < line then .ok (.nx (ρ.set i (.ow (.lst (ds++[d]))))) else .stuck
def ztb (i:Nat)(f:Ev->Res D):Ev->Res Fl:=fun ρ=>zpL ρ i fun ds=>(f (shr ρ)).bind fun d=>if zog d=true/\ds.length < line then .ok (.nx (ρ.set i (.ow (.lst (ds++[d]))))) else .stuck
theorem ztu {K:W.Frag}{H₀ H:Hp}{σ:L2.St}{ρ:Ev}{i:Nat}{k:List D->Res Fl}{D':zk3}(h:SRx K He H0e H₀ σ H ρ)(q:zcf K E He H0e H₀ (zpL ρ i k) D') :
  ∃ ds p vs,ρ[i]?=some (.ow (.lst ds))/\σ[i]?=some (some (.ref p))/\He p=none/\H₀ p=none/\H p=some (.lst vs)/\Reps K H₀ ds vs/\zcf K E He H0e H₀ (k ds) D':=by
 unfold zpL at q
 cases e:ρ[i]? with
 | none=>rw[e] at q;exact q.elim
 | some s =>
  rw[e] at q
  cases s with
  | no=>exact q.elim
  | sh d=>exact q.elim
  | ox j ds=>exact q.elim
  | ow d =>
   cases d with
   | lst ds =>
    obtain⟨p,h1,h2,h3,vs,h4,h5⟩:=h.ow i _ e
    exact⟨ds,p,vs,rfl,h1,h2,h3,h4,h5,q⟩
   | _=>exact q.elim
theorem zdA {i:Nat}{x:Str}{p1 p2 p3:Pos}(hN:X.N[i]?=some x)(hv:Vis X.env.scope x)(he:DE X E e f)
  (hd:(x==("__debug__" : Str))=false:=by decide)(hcd:(x==("__classdict__" : Str))=false:=by decide)
  (hbase:attributeBase (.Name x p1) "append" X.env (eval (.Name x p1) X.env)=eval (.Name x p1) X.env:=by rfl)
  (hfew:((backTo p3 (starEach [e] X.env)).all (fun x=>!x.1)&&(backToKw p3 (keywordEach [] X.env)).all (fun x=>x.1.isSome)
  &&decide ([e].length+([]:List Keyword).length+(if([]:List Keyword).isEmpty then 0 else 1) < 30))=true:=by exact zo2 rfl)
  (hline:(p2.endLine==p3.line)=true:=by rfl) (hs:starEach [e] X.env=(false,eval e X.env)::starEach [] X.env:=by exact zaO rfl) (hplain:(backTo p3 (starEach [] X.env)).any (·.1)=false:=by exact zb0 rfl)
  (hw:swapsWith (.Call (.Attribute (.Name x p1) "append" p2) [e] [] p3) none pos.line X.env=pure false:=by rfl) :
  DS X E He H0e (.Expr (.Call (.Attribute (.Name x p1) "append" p2) [e] [] p3) pos) (zb2 i f):=by
 refine⟨?_⟩
 refine zcO (znY (zxA PySem.F.plainAttrs_list PySem.F.slot_list_append PySem.F.type_list_append zmP (zjl hN hv hd hcd) (zeY he.o ziD hs) hbase hfew hline hs hplain) hw) fun D σ H ⟨H₀,ρ,h,q⟩=>?_
 obtain⟨ds,p,vs,e1,e2,e3,e4,e5,e6,q⟩:=ztu h q
 refine⟨.ref p,e2,.inl ⟨rfl,vs,SqL.of e5⟩,?_⟩
 refine⟨H₀,ρ,h.g.sub,h.rd,plain h q fun d v H' H₀' _ g rp q'=>?_⟩
 by_cases hl:ds.length < line
 ·rw[if_pos hl] at q'
  have e5':H' p=some (.lst vs):=g.s _ _ e5
  refine⟨p,vs,v,rfl,rfl,e5',by rw[← e6.length];exact Nat.lt_of_lt_of_le hl (by decide),?_⟩
  exact q' σ _ H₀' (zaM.refl _) ((h.grow g).write e1 e2 ((e6.mono g.z).app (Reps.cons rp Reps.nil)))
 ·rw[if_neg hl] at q';exact q'.elim
def putAt (ρ:Ev)(i:Nat)(ds:List D)(d:D)(j:D):Res Fl:=match j with
 | .int j=>match ixN ds.length j with
  | some n=>.ok (.nx (ρ.set i (.ow (.lst (ds.set n d)))))
  | none=>.stuck
 | _=>.stuck
def zAn (i:Nat)(f k:Ev->Res D):Ev->Res Fl:=fun ρ=>zpL ρ i fun ds=>(f ρ).bind fun d=>(k ρ).bind fun j=>putAt ρ i ds d j
def zyV (i:Nat)(f k:Ev->Res D):Ev->Res Fl:=fun ρ=>zpL ρ i fun ds=>(f (shr ρ)).bind fun d=>(k (shr ρ)).bind fun j=>if zog d=true then putAt ρ i ds d j else .stuck
section
variable {i:Nat}{x:Str}{p1 p2:Pos}{k:Ev->Res D}
end
def zdy (tg:Ev->D->Res Ev)(body:Ev->Res Fl):List D->Ev->Res Fl
 | [],ρ=>.ok (.nx ρ)
 | d::r,ρ=>(tg ρ d).bind fun ρ1=>(body ρ1).bind fun x=>match x with
  | .nx ρ2=>zdy tg body r ρ2
  | .ct ρ2=>zdy tg body r ρ2
  | .bk ρ2=>.ok (.nx ρ2)
  | .rt d=>.ok (.rt d)
def tG (K:W.Frag)(He H0e:Hp)(tg:Ev->D->Res Ev):TG:=fun v σ H Q=>∃ H₀ ρ d,SRx K He H0e H₀ σ H ρ/\Rep K H₀ d v/\match tg ρ d with
  | .ok ρ'=>∀ σ' H' H₀',zaM H₀ H₀'->SRx K He H0e H₀' σ' H' ρ'->Q σ' H'
  | _=>False
structure DG (X:Cx) (E:XK) (He H0e:Hp) (target:Expr) (tg:Ev->D->Res Ev):Prop where
 o:PG X target (tG X.K He H0e tg)
def zfD (i:Nat):Ev->D->Res Ev:=fun ρ d=>.ok (ρ.set i (.sh d))
theorem zn1 {tgt:Expr}{t t':TG}(h:PG X tgt t)(w:∀ v σ H Q,t' v σ H Q->t v σ H Q):PG X tgt t':=fun pins s σ H v u Q I r q=>h pins s σ H v u Q I r (w v σ H Q q)
theorem zcU {i:Nat}{x:Str}(hN:X.N.Nodup)(hi:X.N[i]?=some x)(hx:Loc X.env.scope x)(hf:X.fn x=true∨X.env.scope.names.lookup x=some .local := by first | exact .inl rfl | exact .inr rfl | assumption):DG X E He H0e (.Name x pos) (zfD i) :=
 ⟨zn1 (zrj hN hi hx hf) fun v σ H Q ⟨H₀,ρ,d,h,rp,q⟩=>q _ H H₀ (zaM.refl _) (h.put rp)⟩
def zgS (K:W.Frag)(E:XK)(He H0e H₁:Hp)(tg:Ev->D->Res Ev)(s:Ev->Res Fl)(ds:List D)(D':zk3)(i:Nat)(σ:L2.St)(H:Hp):Prop :=
 ∃ H₀ ρ,zaM H₁ H₀/\SRx K He H0e H₀ σ H ρ/\zcf K E He H0e H₀ (zdy tg s (ds.drop i) ρ) D'
theorem zgS.step {K:W.Frag}{H₁:Hp}{tg:Ev->D->Res Ev}{ds:List D}{D':zk3}{i:Nat}{σ:L2.St}{H:Hp}{d:D}{v:V}(h:zgS K E He H0e H₁ tg s ds D' i σ H)(hd:ds[i]?=some d)(rv:Rep K H₁ d v)
  (he:∀ ρ,tg ρ d=.stuck∨∃ ρ',tg ρ d=.ok ρ') :
  tG K He H0e tg v σ H fun σ2 H2=>tS K E He H0e s { D' with nx:=zgS K E He H0e H₁ tg s ds D' (i+1),ct:=zgS K E He H0e H₁ tg s ds D' (i+1),bk:=D'.nx } σ2 H2:=by
 obtain⟨H₀,ρ,z,h,q⟩:=h
 have hi:i < ds.length:=(List.getElem?_eq_some_iff.mp hd).1
 have hdr:ds.drop i=d::ds.drop (i+1):=by
  rw[List.drop_eq_getElem_cons hi]
  rw[List.getElem?_eq_getElem hi] at hd
  cases hd;rfl
 rw[hdr] at q
 refine⟨H₀,ρ,d,h,rv.mono z,?_⟩
 unfold zdy at q
 rcases he ρ with e1 | ⟨ρ1,e1⟩
 ·rw[e1] at q;exact q.elim
 ·rw[e1] at q ⊢
  intro σ' H' H₀' z' h'
  refine⟨H₀',ρ1,h',?_⟩
  replace q:=zcf.grow (r:=(s ρ1).bind fun x=>match x with
   | .nx ρ2=>zdy tg s (ds.drop (i+1)) ρ2
   | .ct ρ2=>zdy tg s (ds.drop (i+1)) ρ2
   | .bk ρ2=>.ok (.nx ρ2)
   | .rt d=>.ok (.rt d)) q z'
  cases e2:s ρ1 with
  | stuck=>rw[e2] at q;exact q
  | exn x=>rw[e2] at q;exact q
  | ok r =>
   rw[e2] at q
   cases r with
   | nx ρ2=>exact fun σ3 H3 H03 z3 h3=>⟨H03,ρ2,(z.trans z').trans z3,h3,zcf.grow (r:=zdy tg s (ds.drop (i+1)) ρ2) q z3⟩
   | ct ρ2=>exact fun σ3 H3 H03 z3 h3=>⟨H03,ρ2,(z.trans z').trans z3,h3,zcf.grow (r:=zdy tg s (ds.drop (i+1)) ρ2) q z3⟩
   | bk ρ2=>exact q
   | rt d=>exact q
theorem zgS.done {K:W.Frag}{H₁:Hp}{tg:Ev->D->Res Ev}{ds:List D}{D':zk3}{σ:L2.St}{H:Hp}(h:zgS K E He H0e H₁ tg s ds D' ds.length σ H):D'.nx σ H:=by
 obtain⟨H₀,ρ,z,h,q⟩:=h
 rw[List.drop_length] at q
 unfold zdy at q
 exact q σ H H₀ (zaM.refl _) h
def zsy (tg:Ev->D->Res Ev):Prop:=∀ ρ d,tg ρ d=.stuck∨∃ ρ',tg ρ d=.ok ρ'
theorem zfe {i:Nat}:zsy (zfD i):=fun ρ d=>.inr ⟨_,rfl⟩
def zoG (f:Ev->Res D)(tg:Ev->D->Res Ev)(s:Ev->Res Fl):Ev->Res Fl:=fun ρ=>(f ρ).bind fun d=>match d with
 | .lst ds=>zdy tg s ds ρ
 | _=>.stuck
theorem znb {tgt iter:Expr}{body:List Stmt}{tg:Ev->D->Res Ev}(hp:PassesOwn (model X.prog X.w) X.A X.env X.xe)(hc:X.calm=true)(hi:DE X E iter f)(hg:DG X E He H0e tgt tg)(ht:zsy tg)(hb:DSs X E He H0e body s)
  (hs:∀ x,foldedSetIterable iter X.env x=pure x:=by intro _;rfl):DS X E He H0e (.For tgt iter body [] pos) (zoG f tg s):=by
 refine⟨?_⟩
 refine zcO (zrd hp hc (zri hi.o) hg.o hb.o hs) fun D' σ H ⟨H₀,ρ,h,q⟩=>⟨H₀,ρ,h.g.sub,h.rd,?_⟩
 refine plain h q fun d v H1 H01 _ g rp q1=>?_
 cases d with
 | lst ds =>
  obtain⟨a,vs,rfl,hv,hr⟩:=Rep.lst_iff.mp rp
  refine⟨a,rfl,⟨vs,zaM.sqL g.sub hv⟩,?_⟩
  refine ztY (K:=X.K) (a:=a) (g:=tG X.K He H0e tg) (tb:=tS X.K E He H0e s) (D:=D') (xs:=vs) (zgS X.K E He H0e H01 tg s ds D') ⟨H01,ρ,zaM.refl _,h.grow g,q1⟩ ?_ ?_ ?_
  ·rintro i σ' H' _ ⟨H₀',ρ',z,h',_⟩
   exact zaM.sqL (z.trans h'.g.sub) hv
  ·intro i x σ' H' hx hI
   have hil:i < ds.length:=by rw[hr.length];exact(List.getElem?_eq_some_iff.mp hx).1
   obtain⟨u,e1,e2⟩:=hr.get (List.getElem?_eq_getElem hil)
   rw[hx] at e1;cases e1
   exact hI.step (List.getElem?_eq_getElem hil) e2 fun ρ=>ht ρ _
  ·intro σ' H' hI
   rw[← hr.length] at hI
   exact hI.done
 | _=>exact q1.elim
def intsFrom (lo:Int)(n:Nat):List D:=(List.range n).map fun(k:Nat)=>D.int (lo+(k:Int))
def zta (f:Ev->Res D)(tg:Ev->D->Res Ev)(s:Ev->Res Fl):Ev->Res Fl:=fun ρ=>(f (shr ρ)).bind fun d=>match d with
 | .int j=>if -4611686018427387904<=j/\j < 4611686018427387904 then zdy tg s (intsFrom 0 j.toNat) ρ else .stuck
 | _=>.stuck
theorem zr5 {tgt iter:Expr}{p pos2:Pos}{body:List Stmt}{tg:Ev->D->Res Ev}(hp:PassesOwn (model X.prog X.w) X.A X.env X.xe)(hc:X.calm=true)(hgl:Gl X "range")(hm:X.mg "range"=none)(hi:DE X E iter f)(hg:DG X E He H0e tgt tg)(ht:zsy tg)(hb:DSs X E He H0e body s)
  (hst:starEach [iter] X.env=[(false,eval iter X.env)]:=by exact zgA rfl)(hs:∀ x,foldedSetIterable (.Call (.Name "range" p) [iter] [] pos2) X.env x=pure x:=by intro _;rfl):DS X E He H0e (.For tgt (.Call (.Name "range" p) [iter] [] pos2) body [] pos) (zta f tg s):=by
 refine⟨?_⟩
 refine zcO (zrd hp hc (zmK hgl hm (zeY hi.o ziD hst) hst) hg.o hb.o hs) fun D' σ H ⟨H₀,ρ,h,q⟩=>?_
 refine⟨frz He H₀ H,shr ρ,h.frz_le,h.looks,look h q fun d v H1 J _ g rp q1=>?_⟩
 cases d with
 | int j =>
  rw[Rep.int_iff.mp rp]
  replace q1:zcf X.K E He H0e H₀ (if -4611686018427387904<=j/\j < 4611686018427387904 then zdy tg s (intsFrom 0 j.toNat) ρ else .stuck) D':=q1
  by_cases hj:-4611686018427387904<=j/\j < 4611686018427387904
  ·rw[if_pos hj] at q1
   refine⟨j,rfl,by omega,by omega,?_⟩
   have hlen:(intsFrom 0 j.toNat).length=j.toNat:=by unfold intsFrom;simp
   refine zrU (lo:=0) (n:=j.toNat) (g:=tG X.K He H0e tg) (tb:=tS X.K E He H0e s) (D:=D') (zgS X.K E He H0e H₀ tg s (intsFrom 0 j.toNat) D') ⟨H₀,ρ,zaM.refl _,h.same g.s,q1⟩ ?_ ?_
   ·intro i σ' H' hlt hI
    refine hI.step (d:=.int (0+i)) ?_ (Rep.int_iff.mpr rfl) fun ρ=>ht ρ _
    unfold intsFrom
    simp [hlt]
   ·intro σ' H' hI
    exact zgS.done (ds:=intsFrom 0 j.toNat) (by rw[hlen];exact hI)
  ·rw[if_neg hj] at q1;exact q1.elim
 | _=>exact q1.elim
def zbZ (c:Ev->Res D)(s:Ev->Res Fl):Nat->Ev->Res Fl
 | 0,_=>.stuck
 | n+1,ρ=>(c (shr ρ)).bind fun x=>match x with
  | .bl b=>if b=true then(s ρ).bind fun x=>match x with
    | .nx ρ2=>zbZ c s n ρ2
    | .ct ρ2=>zbZ c s n ρ2
    | .bk ρ2=>.ok (.nx ρ2)
    | .rt d=>.ok (.rt d)
   else .ok (.nx ρ)
  | _=>.stuck
def zgV (fuel:Ev->Nat)(c:Ev->Res D)(s:Ev->Res Fl):Ev->Res Fl:=fun ρ=>zbZ c s (fuel ρ) ρ
theorem zlF (fuel:Ev->Nat){c:Expr}{body:List Stmt}{fc:Ev->Res D}(hp:PassesOwn (model X.prog X.w) X.A X.env X.xe)(hc:DT X E c fc)(hb:DSs X E He H0e body s):DS X E He H0e (.While c body [] pos) (zgV fuel fc s):=by
 refine⟨?_⟩
 refine zcO (ztm hp hc.o hb.o) fun D' σ H ⟨H₀,ρ,h,q⟩=>?_
 refine⟨fun m σ H=>∃ H₀ ρ,SRx X.K He H0e H₀ σ H ρ/\zcf X.K E He H0e H₀ (zbZ fc s m ρ) D',⟨fuel ρ,H₀,ρ,h,q⟩,?_⟩
 rintro m σ1 H1 ⟨H01,ρ1,h1,q1⟩
 cases m with
 | zero=>exact q1.elim
 | succ m =>
  refine⟨frz He H01 H1,shr ρ1,h1.frz_le,h1.looks,?_⟩
  unfold zbZ at q1
  refine zxR (k:=fun b=>if b=true then(s ρ1).bind fun x=>match x with
    | .nx ρ2=>zbZ fc s m ρ2
    | .ct ρ2=>zbZ fc s m ρ2
    | .bk ρ2=>.ok (.nx ρ2)
    | .rt d=>.ok (.rt d)
   else .ok (.nx ρ1)) h1 q1 fun b H2 hs q2=>?_
  cases b with
  | false =>
   rw[if_neg Bool.false_ne_true] at q2 ⊢
   exact q2 σ1 H2 H01 (zaM.refl _) (h1.same hs)
  | true =>
   rw[if_pos rfl] at q2 ⊢
   refine⟨fun σ' H'=>∃ m',m' < m+1/\∃ H₀ ρ,SRx X.K He H0e H₀ σ' H' ρ/\zcf X.K E He H0e H₀ (zbZ fc s m' ρ) D',fun σ' H' z=>z,H01,ρ1,h1.same hs,?_⟩
   cases e2:s ρ1 with
   | stuck=>rw[e2] at q2;exact q2
   | exn x=>rw[e2] at q2;exact q2
   | ok r =>
    rw[e2] at q2
    cases r with
    | nx ρ2=>exact fun σ3 H3 H03 z3 h3=>⟨m,Nat.lt_succ_self _,H03,ρ2,h3,zcf.grow (r:=zbZ fc s m ρ2) q2 z3⟩
    | ct ρ2=>exact fun σ3 H3 H03 z3 h3=>⟨m,Nat.lt_succ_self _,H03,ρ2,h3,zcf.grow (r:=zbZ fc s m ρ2) q2 z3⟩
    | bk ρ2=>exact q2
    | rt d=>exact q2
end
def zcH (n:Nat)(s:Ev->Res Fl)(ds:List D):Res D:=(s (ds.map Sl.sh++List.replicate (n-ds.length) .no)).bind fun r=>match r with
 | .nx _=>.ok .non
 | .rt d=>.ok d
 | _=>.stuck
theorem zjh {K:W.Frag}{H₀:Hp}{N:List Str}{ds:List D}{vs:List V}(h:Reps K H₀ ds vs):zgu K H₀ (start N vs) (ds.map Sl.sh++List.replicate (N.length-ds.length) .no):=by
 intro i d e
 have hl:=h.length
 by_cases hi:i < ds.length
 ·rw[List.getElem?_append_left (by simpa using hi),List.getElem?_map] at e
  cases q:ds[i]? with
  | none=>rw[q] at e;cases e
  | some d' =>
   rw[q] at e;cases e
   obtain⟨v,h1,h2⟩:=h.get q
   refine⟨v,?_,h2⟩
   unfold L2.start
   rw[List.getElem?_append_left (by simp;omega),List.getElem?_map,h1]
   rfl
 ·rw[List.getElem?_append_right (by simpa using hi),List.getElem?_replicate] at e
  split at e<;>cases e
theorem zmv {ds:List D}{n:Nat}(i j:Nat)(es:List D):(ds.map Sl.sh++List.replicate n Sl.no)[i]?≠some (.ox j es):=fun e=>by
 have:=List.mem_of_getElem? e
 rw[List.mem_append] at this
 rcases this with h | h
 ·obtain⟨_,_,h⟩:=List.mem_map.mp h;cases h
 ·have:=List.eq_of_mem_replicate h;cases this
theorem zaz {P:Program}{w:World}{K:W.Frag}{mg:Str->Option Value}{base:Heap}{x qual:Str}{st:Stmt}{f:Addr}{fd:FuncData}{N ps:List Str}{k:Nat}{s:Ev->Res Fl}(F:Fun K x qual st f fd)(S:zay N ps (defScope st))
  (hbody:∀ (cdv:Value) (A:Around) (outer:List PySem.Env) (s0:Shared) (H H₀:Hp) (E:XK),zhz k (A.deeper (envOfC qual (defScope st) s0.heap.objs.size f cdv)) ->
   DSs (zg1 CX0 P w K mg base N qual (defScope st) f cdv A outer s0 H E).nox E H H₀ (defBody st) s):zcL P w K mg base CX0 (k+1) f fd ps (spD K ps.length (zcH N.length s)):=by
 have hpl:ps.length<=N.length:=by have:=congrArg List.length S.pre;rw[List.length_take] at this;omega
 refine F.ok S (fun vs H Q E h=>h.1) fun cdv A outer s0 H vs Q E hr h=>?_
 obtain⟨hn,H₀,ds,hs,hv,q⟩:=h
 refine⟨_,(hbody cdv A outer s0 H H₀ E hr).o,H₀,ds.map Sl.sh++List.replicate (N.length-ds.length) .no,?_,?_⟩
 ·refine⟨zbn.refl hs,zjh hv,fun i d e=>?_,fun i j d d' hij e=>?_,?_,OX.none zmv⟩
  ·by_cases hi:i < ds.length
   ·rw[List.getElem?_append_left (by simpa using hi),List.getElem?_map] at e
    cases q:ds[i]? with
    | none=>rw[q] at e;cases e
    | some d'=>rw[q] at e;cases e
   ·rw[List.getElem?_append_right (by simpa using hi),List.getElem?_replicate] at e
    split at e<;>cases e
  ·by_cases hi:i < ds.length
   ·rw[List.getElem?_append_left (by simpa using hi),List.getElem?_map] at e
    cases q:ds[i]? with
    | none=>rw[q] at e;cases e
    | some d'=>rw[q] at e;cases e
   ·rw[List.getElem?_append_right (by simpa using hi),List.getElem?_replicate] at e
    split at e<;>cases e
  ·unfold L2.start
   have:=hv.length
   simp only[List.length_append,List.length_map,List.length_replicate]
   omega
 ·unfold zcH at q
  cases e1:s (ds.map Sl.sh++List.replicate (N.length-ds.length) .no) with
  | stuck=>rw[e1] at q;exact q
  | exn x=>rw[e1] at q;exact q
  | ok r =>
   rw[e1] at q
   cases r with
   | nx ρ'=>exact fun σ' H' H₀' _ h'=>q .non H' H₀' h'.g (Rep.non_iff.mpr rfl)
   | rt d=>exact fun v H' H₀' g rp=>q v H' H₀' g rp
   | bk ρ'=>exact q.elim
   | ct ρ'=>exact q.elim
mutual
def eqD:D->D->Bool
 | .non,.non=>true
 | .bl a,.bl b=>a==b
 | .bl a,.int b=>(if a then 1 else 0)==b
 | .int a,.bl b=>a==(if b then 1 else 0)
 | .int a,.int b=>a==b
 | .str a,.str b=>a==b
 | .tup xs,.tup ys=>eqDs xs ys
 | .lst xs,.lst ys=>eqDs xs ys
 | _,_=>false
def eqDs:List D->List D->Bool
 | [],[]=>true
 | x::xs,y::ys=>eqD x y&&eqDs xs ys
 | _,_=>false
end
def za0:Nat->D->Bool
 | _,.non=>true
 | _,.bl _=>true
 | _,.int _=>true
 | _,.str _=>true
 | n+1,.tup ds=>ds.all (za0 n)
 | n+1,.lst ds=>ds.all (za0 n)
 | _,_=>false
theorem zna {ds:List D}(h:∀ d∈ds,eqD d d=true):eqDs ds ds=true:=by
 induction ds with
 | nil=>simp [eqDs]
 | cons d r ih =>
  unfold eqDs
  rw[h d List.mem_cons_self,ih fun x hx=>h x (List.mem_cons_of_mem _ hx)]
  rfl
theorem zeK:∀ (n:Nat) (d:D),za0 n d=true->eqD d d=true
 | _,.non,_=>by simp [eqD]
 | _,.bl b,_=>by simp [eqD]
 | _,.int b,_=>by simp [eqD]
 | _,.str b,_=>by simp [eqD]
 | n+1,.tup ds,h=>by
  unfold za0 at h
  unfold eqD
  exact zna fun d hd=>zeK n d (List.all_eq_true.mp h d hd)
 | n+1,.lst ds,h=>by
  unfold za0 at h
  unfold eqD
  exact zna fun d hd=>zeK n d (List.all_eq_true.mp h d hd)
 | 0,.tup ds,h=>by unfold za0 at h;cases h
 | 0,.lst ds,h=>by unfold za0 at h;cases h
 | 0,.dic ks ds,h=>by unfold za0 at h;cases h
 | n+1,.dic ks ds,h=>by unfold za0 at h;cases h
 | 0,.exc x,h=>by unfold za0 at h;cases h
 | 0,.ob k x,h=>by unfold za0 at h;cases h
 | n+1,.ob k x,h=>by unfold za0 at h;cases h
 | n+1,.exc x,h=>by unfold za0 at h;cases h
theorem zwc {xs ys:List D}:eqD (.tup xs) (.tup ys)=eqDs xs ys:=by rw[eqD]
theorem zoh {xs ys:List D}:eqD (.lst xs) (.lst ys)=eqDs xs ys:=by rw[eqD]
theorem zie:∀ (xs ys:List D),xs.length=ys.length->eqDs xs ys=(List.range xs.length).all fun j=>eqD (xs.getD j .non) (ys.getD j .non)
 | [],[],_=>by simp [eqDs]
 | x::xs,y::ys,h=>by
  have ih:=zie xs ys (by simpa using h)
  unfold eqDs
  rw[ih,List.length_cons,List.range_succ_eq_map,List.all_cons,List.all_map]
  rfl
 | [],_::_,h=>by simp at h
 | _::_,[],h=>by simp at h
theorem zlE:∀ (xs ys:List D),xs.length≠ys.length->eqDs xs ys=false
 | [],[],h=>absurd rfl h
 | x::xs,y::ys,h=>by
  unfold eqDs
  rw[zlE xs ys (by simpa using h),Bool.and_false]
 | [],_::_,h=>by simp [eqDs]
 | _::_,[],h=>by simp [eqDs]
section
variable {X:Cx}{pins:List (Addr×Obj)}{σ:L2.St}{H:Hp}{s:Shared}
theorem Rep.tup_get (I:Inv X pins σ H s){ds:List D}{v:V}{u:Value}(r:Rep X.K H (.tup ds) v)(rv:zct v u):∃ a vs its,v=.ref a/\u=.ref a/\SqT X.K H a vs/\Reps X.K H ds vs/\zbT vs its/\IsTup s.heap a its.toArray/\ds.length=its.length:=by
 obtain⟨a,vs,rfl,h1,h2⟩:=Rep.tup_iff.mp r
 obtain rfl:u=Value.ref a:=rv
 obtain⟨its,h3,h4,_⟩:=I.tuple h1
 exact⟨a,vs,its,rfl,rfl,h1,h2,h3,h4,h2.length.trans h3.length⟩
theorem Rep.lst_get (I:Inv X pins σ H s){ds:List D}{v:V}{u:Value}(r:Rep X.K H (.lst ds) v)(rv:zct v u):∃ a vs its,v=.ref a/\u=.ref a/\SqL X.K H a vs/\Reps X.K H ds vs/\zbT vs its/\s.heap.IsList a its.toArray/\ds.length=its.length:=by
 obtain⟨a,vs,rfl,h1,h2⟩:=Rep.lst_iff.mp r
 obtain rfl:u=Value.ref a:=rv
 obtain⟨its,h3,h4,_⟩:=I.list h1
 exact⟨a,vs,its,rfl,rfl,h1,h2,h3,h4.isList,h2.length.trans h3.length⟩
theorem zlj {n:Nat}(ih:∀ (d d':D) (v:V),za0 n d=true->za0 n d'=true->Rep X.K H d v->Rep X.K H d' v->d=d'):∀ (ds ds':List D) (vs:List V),ds.all (za0 n)=true->ds'.all (za0 n)=true->Reps X.K H ds vs->Reps X.K H ds' vs->ds=ds'
 | [],ds',vs,_,_,h,h'=>by
  rw[Reps.nil_iff.mp h] at h'
  cases ds' with
  | nil=>rfl
  | cons d r=>obtain⟨_,_,e,_⟩:=Reps.cons_iff.mp h';cases e
 | d::ds,ds',vs,a,a',h,h'=>by
  obtain⟨v,r,rfl,h1,h2⟩:=Reps.cons_iff.mp h
  cases ds' with
  | nil=>cases Reps.nil_iff.mp h'
  | cons d' ds' =>
   obtain⟨v',r',e,h1',h2'⟩:=Reps.cons_iff.mp h'
   cases e
   rw[List.all_cons,Bool.and_eq_true] at a a'
   rw[ih d d' v a.1 a'.1 h1 h1',zlj ih ds ds' r a.2 a'.2 h2 h2']
theorem Rep.inj (I:Inv X pins σ H s):∀ (n:Nat) (d d':D) (v:V),za0 n d=true->za0 n d'=true->Rep X.K H d v->Rep X.K H d' v->d=d':=by
 have atom:∀ (n:Nat) (d d':D) (v:V),(∀ ds,d≠.tup ds)->(∀ ds,d≠.lst ds)->za0 n d=true->za0 n d'=true->Rep X.K H d v->Rep X.K H d' v->d=d':=by
  intro n d d' v n1 n2 s1 s2 h h'
  have nd:∀ m ks ds,za0 m (.dic ks ds)=true->False:=fun m ks ds h=>by cases m<;>(unfold za0 at h;cases h)
  have nx:∀ m x,za0 m (.exc x)=true->False:=fun m x h=>by cases m<;>(unfold za0 at h;cases h)
  have nb:∀ m k x,za0 m (.ob k x)=true->False:=fun m k x h=>by cases m<;>(unfold za0 at h;cases h)
  cases d with
  | tup ds=>exact absurd rfl (n1 ds)
  | lst ds=>exact absurd rfl (n2 ds)
  | dic ks ds=>exact(nd _ _ _ s1).elim
  | exc x=>exact(nx _ _ s1).elim
  | ob k x=>exact(nb _ _ _ s1).elim
  | non =>
   rw[Rep.non_iff.mp h] at h'
   cases d' with
   | non=>rfl
   | bl b=>cases Rep.bl_iff.mp h'
   | int b=>cases Rep.int_iff.mp h'
   | str b=>cases Rep.str_iff.mp h'
   | tup ds=>obtain⟨_,_,e,_⟩:=Rep.tup_iff.mp h';cases e
   | lst ds=>obtain⟨_,_,e,_⟩:=Rep.lst_iff.mp h';cases e
   | dic ks ds=>exact(nd _ _ _ s2).elim
   | exc x=>exact(nx _ _ s2).elim
   | ob k x=>exact(nb _ _ _ s2).elim
  | bl x =>
   rw[Rep.bl_iff.mp h] at h'
   cases d' with
   | non=>cases Rep.non_iff.mp h'
   | bl b=>cases Rep.bl_iff.mp h';rfl
   | int b=>cases Rep.int_iff.mp h'
   | str b=>cases Rep.str_iff.mp h'
   | tup ds=>obtain⟨_,_,e,_⟩:=Rep.tup_iff.mp h';cases e
   | lst ds=>obtain⟨_,_,e,_⟩:=Rep.lst_iff.mp h';cases e
   | dic ks ds=>exact(nd _ _ _ s2).elim
   | exc x=>exact(nx _ _ s2).elim
   | ob k x=>exact(nb _ _ _ s2).elim
  | int x =>
   rw[Rep.int_iff.mp h] at h'
   cases d' with
   | non=>cases Rep.non_iff.mp h'
   | bl b=>cases Rep.bl_iff.mp h'
   | int b=>cases Rep.int_iff.mp h';rfl
   | str b=>cases Rep.str_iff.mp h'
   | tup ds=>obtain⟨_,_,e,_⟩:=Rep.tup_iff.mp h';cases e
   | lst ds=>obtain⟨_,_,e,_⟩:=Rep.lst_iff.mp h';cases e
   | dic ks ds=>exact(nd _ _ _ s2).elim
   | exc x=>exact(nx _ _ s2).elim
   | ob k x=>exact(nb _ _ _ s2).elim
  | str x =>
   rw[Rep.str_iff.mp h] at h'
   cases d' with
   | non=>cases Rep.non_iff.mp h'
   | bl b=>cases Rep.bl_iff.mp h'
   | int b=>cases Rep.int_iff.mp h'
   | str b=>cases Rep.str_iff.mp h';rfl
   | tup ds=>obtain⟨_,_,e,_⟩:=Rep.tup_iff.mp h';cases e
   | lst ds=>obtain⟨_,_,e,_⟩:=Rep.lst_iff.mp h';cases e
   | dic ks ds=>exact(nd _ _ _ s2).elim
   | exc x=>exact(nx _ _ s2).elim
   | ob k x=>exact(nb _ _ _ s2).elim
 intro n
 induction n with
 | zero =>
  intro d d' v s1 s2 h h'
  exact atom 0 d d' v (fun ds e=>by subst e;unfold za0 at s1;cases s1) (fun ds e=>by subst e;unfold za0 at s1;cases s1) s1 s2 h h'
 | succ n ih =>
  intro d d' v s1 s2 h h'
  by_cases t1:∃ ds,d=.tup ds
  ·obtain⟨ds,rfl⟩:=t1
   by_cases t2:∃ ds',d'=.tup ds'
   ·obtain⟨ds',rfl⟩:=t2
    obtain⟨a,vs,rfl,h1,h2⟩:=Rep.tup_iff.mp h
    obtain⟨a',vs',e,h1',h2'⟩:=Rep.tup_iff.mp h'
    cases e
    rw[I.tuple_inj h1' h1] at h2'
    unfold za0 at s1 s2
    rw[zlj ih ds ds' vs s1 s2 h2 h2']
   ·by_cases t3:∃ ds',d'=.lst ds'
    ·obtain⟨ds',rfl⟩:=t3
     obtain⟨a0,_,ev,_,_⟩:=Rep.tup_iff.mp h;subst ev
     obtain⟨a,vs,its,ea,_,h1,h2,h3,h4,_⟩:=Rep.tup_get I h rfl;cases ea
     obtain⟨a',vs',its',e,_,h1',h2',h3',h4',_⟩:=Rep.lst_get I h' rfl
     cases e
     exact absurd rfl (SeqAt.ne_of_list_tuple h4' h4)
    ·exact(atom (n+1) d' _ v (fun ds e=>t2 ⟨ds,e⟩) (fun ds e=>t3 ⟨ds,e⟩) s2 s1 h' h).symm
  ·by_cases t1':∃ ds,d=.lst ds
   ·obtain⟨ds,rfl⟩:=t1'
    by_cases t2:∃ ds',d'=.lst ds'
    ·obtain⟨ds',rfl⟩:=t2
     obtain⟨a,vs,rfl,h1,h2⟩:=Rep.lst_iff.mp h
     obtain⟨a',vs',e,h1',h2'⟩:=Rep.lst_iff.mp h'
     cases e
     rw[I.list_inj h1' h1] at h2'
     unfold za0 at s1 s2
     rw[zlj ih ds ds' vs s1 s2 h2 h2']
    ·by_cases t3:∃ ds',d'=.tup ds'
     ·obtain⟨ds',rfl⟩:=t3
      obtain⟨a0,_,ev,_,_⟩:=Rep.lst_iff.mp h;subst ev
      obtain⟨a,vs,its,ea,_,h1,h2,h3,h4,_⟩:=Rep.lst_get I h rfl;cases ea
      obtain⟨a',vs',its',e,_,h1',h2',h3',h4',_⟩:=Rep.tup_get I h' rfl
      cases e
      exact absurd rfl (SeqAt.ne_of_list_tuple h4 h4')
     ·exact(atom (n+1) d' _ v (fun ds e=>t3 ⟨ds,e⟩) (fun ds e=>t2 ⟨ds,e⟩) s2 s1 h' h).symm
   ·exact atom (n+1) d d' v (fun ds e=>t1 ⟨ds,e⟩) (fun ds e=>t1' ⟨ds,e⟩) s1 s2 h h'
theorem zoY {n:Nat}{A:Around}{xs ys:List D}{vs us:List V}{is js:List Value}
  (ih:∀ (x y:D) (v u:V) (a b:Value),za0 n x=true->za0 n y=true->Rep X.K H x v->Rep X.K H y u->zct v a->zct u b->SeqAt.EqAt A.in1 s a b (eqD x y))
  (sx:xs.all (za0 n)=true)(sy:ys.all (za0 n)=true)(rx:Reps X.K H xs vs)(ry:Reps X.K H ys us)(qx:zbT vs is)(qy:zbT us js) :
  ∀ j (h1:j < is.toArray.size) (h2:j < js.toArray.size),SeqAt.EqAt A.in1 s is.toArray[j] js.toArray[j] (eqD (xs.getD j .non) (ys.getD j .non)):=by
 intro j h1 h2
 have lx:=rx.length
 have ly:=ry.length
 have kx:=qx.length
 have ky:=qy.length
 have h1':j < is.length:=by simpa using h1
 have h2':j < js.length:=by simpa using h2
 have hx:j < xs.length:=by omega
 have hy:j < ys.length:=by omega
 obtain⟨v,e1,r1⟩:=rx.get (List.getElem?_eq_getElem hx)
 obtain⟨u,e2,r2⟩:=ry.get (List.getElem?_eq_getElem hy)
 obtain⟨a,e3,r3⟩:=qx.get e1
 obtain⟨b,e4,r4⟩:=qy.get e2
 have ea:is.toArray[j]=a:=by
  rw[List.getElem?_eq_getElem h1'] at e3
  simpa using Option.some.inj e3
 have eb:js.toArray[j]=b:=by
  rw[List.getElem?_eq_getElem h2'] at e4
  simpa using Option.some.inj e4
 rw[ea,eb]
 have gx:xs.getD j .non=xs[j]:=by simp [List.getD,List.getElem?_eq_getElem hx]
 have gy:ys.getD j .non=ys[j]:=by simp [List.getD,List.getElem?_eq_getElem hy]
 rw[gx,gy]
 exact ih _ _ v u a b (List.all_eq_true.mp sx _ (List.getElem_mem hx)) (List.all_eq_true.mp sy _ (List.getElem_mem hy)) r1 r2 r3 r4
theorem zoH (I:Inv X pins σ H s){A:Around}(hu:A.units < cLine){x y:D}{v u:V}{a b:Value}(rx:Rep X.K H x v)(ry:Rep X.K H y u)(qx:zct v a)(qy:zct u b)
  (n1:∀ ds ds',¬ (x=.lst ds/\y=.lst ds'))(n2:∀ ds ds',¬ (x=.tup ds/\y=.tup ds'))(d1:∀ ks ds,x≠.dic ks ds)(d2:∀ ks ds,y≠.dic ks ds)(x1:∀ c,x≠.exc c)(x2:∀ c,y≠.exc c)(o1:∀ k c,x≠.ob k c)(o2:∀ k c,y≠.ob k c) :
  SeqAt.RcAt A s a b (eqD x y)/\SeqAt.EqAt A s a b (eqD x y)/\SeqAt.RcNeAt A s a b (!(eqD x y)):=by
 cases x with
 | non =>
  cases y with
  | non =>
   obtain rfl:=Rep.non_iff.mp rx;obtain rfl:a=Value.none:=qx
   obtain rfl:=Rep.non_iff.mp ry;obtain rfl:b=Value.none:=qy
   unfold eqD
   exact⟨SeqAt.RcAt.none_none ,SeqAt.EqAt.same _,SeqAt.RcNeAt.none_none ⟩
  | bl y =>
   obtain rfl:=Rep.non_iff.mp rx;obtain rfl:a=Value.none:=qx
   obtain rfl:=Rep.bl_iff.mp ry;obtain rfl:b=Value.bool _:=qy
   unfold eqD
   exact⟨SeqAt.RcAt.none_bool _,SeqAt.EqAt.none_bool _,SeqAt.RcNeAt.none_bool _⟩
  | int y =>
   obtain rfl:=Rep.non_iff.mp rx;obtain rfl:a=Value.none:=qx
   obtain rfl:=Rep.int_iff.mp ry;obtain⟨ty,rfl⟩:∃ t,b=Value.int _ t:=qy
   unfold eqD
   exact⟨SeqAt.RcAt.none_int _ _,SeqAt.EqAt.none_int _ _,SeqAt.RcNeAt.none_int _ _⟩
  | str y =>
   obtain rfl:=Rep.non_iff.mp rx;obtain rfl:a=Value.none:=qx
   obtain rfl:=Rep.str_iff.mp ry;obtain⟨ty,rfl⟩:∃ t,b=Value.str _ t:=qy
   unfold eqD
   exact⟨SeqAt.RcAt.none_str _ _,SeqAt.EqAt.none_str _ _,SeqAt.RcNeAt.none_str _ _⟩
  | lst y =>
   obtain rfl:=Rep.non_iff.mp rx;obtain rfl:a=Value.none:=qx
   obtain⟨ly,_,_,rfl,rfl,_,_,_,hy,_⟩:=Rep.lst_get I ry qy
   unfold eqD
   exact⟨SeqAt.RcAt.none_list  hy hu,SeqAt.EqAt.none_list  hy hu,SeqAt.RcNeAt.none_list  hy hu⟩
  | tup y =>
   obtain rfl:=Rep.non_iff.mp rx;obtain rfl:a=Value.none:=qx
   obtain⟨ly,_,_,rfl,rfl,_,_,_,hy,_⟩:=Rep.tup_get I ry qy
   unfold eqD
   exact⟨SeqAt.RcAt.none_tuple  hy hu,SeqAt.EqAt.none_tuple  hy hu,SeqAt.RcNeAt.none_tuple  hy hu⟩
  | dic ks ds=>exact absurd rfl (d2 ks ds)
  | exc c=>exact absurd rfl (x2 c)
  | ob k c=>exact absurd rfl (o2 k c)
 | bl x =>
  cases y with
  | non =>
   obtain rfl:=Rep.bl_iff.mp rx;obtain rfl:a=Value.bool _:=qx
   obtain rfl:=Rep.non_iff.mp ry;obtain rfl:b=Value.none:=qy
   unfold eqD
   exact⟨SeqAt.RcAt.bool_none _,SeqAt.EqAt.bool_none _,SeqAt.RcNeAt.bool_none _⟩
  | bl y =>
   obtain rfl:=Rep.bl_iff.mp rx;obtain rfl:a=Value.bool _:=qx
   obtain rfl:=Rep.bl_iff.mp ry;obtain rfl:b=Value.bool _:=qy
   unfold eqD
   exact⟨SeqAt.RcAt.bool_bool _ _,SeqAt.EqAt.bool_bool _ _,SeqAt.RcNeAt.bool_bool _ _⟩
  | int y =>
   obtain rfl:=Rep.bl_iff.mp rx;obtain rfl:a=Value.bool _:=qx
   obtain rfl:=Rep.int_iff.mp ry;obtain⟨ty,rfl⟩:∃ t,b=Value.int _ t:=qy
   unfold eqD
   exact⟨SeqAt.RcAt.bool_int _ _ _,SeqAt.EqAt.bool_int _ _ _,SeqAt.RcNeAt.bool_int _ _ _⟩
  | str y =>
   obtain rfl:=Rep.bl_iff.mp rx;obtain rfl:a=Value.bool _:=qx
   obtain rfl:=Rep.str_iff.mp ry;obtain⟨ty,rfl⟩:∃ t,b=Value.str _ t:=qy
   unfold eqD
   exact⟨SeqAt.RcAt.bool_str _ _ _,SeqAt.EqAt.bool_str _ _ _,SeqAt.RcNeAt.bool_str _ _ _⟩
  | lst y =>
   obtain rfl:=Rep.bl_iff.mp rx;obtain rfl:a=Value.bool _:=qx
   obtain⟨ly,_,_,rfl,rfl,_,_,_,hy,_⟩:=Rep.lst_get I ry qy
   unfold eqD
   exact⟨SeqAt.RcAt.bool_list _ hy hu,SeqAt.EqAt.bool_list _ hy hu,SeqAt.RcNeAt.bool_list _ hy hu⟩
  | tup y =>
   obtain rfl:=Rep.bl_iff.mp rx;obtain rfl:a=Value.bool _:=qx
   obtain⟨ly,_,_,rfl,rfl,_,_,_,hy,_⟩:=Rep.tup_get I ry qy
   unfold eqD
   exact⟨SeqAt.RcAt.bool_tuple _ hy hu,SeqAt.EqAt.bool_tuple _ hy hu,SeqAt.RcNeAt.bool_tuple _ hy hu⟩
  | dic ks ds=>exact absurd rfl (d2 ks ds)
  | exc c=>exact absurd rfl (x2 c)
  | ob k c=>exact absurd rfl (o2 k c)
 | int x =>
  cases y with
  | non =>
   obtain rfl:=Rep.int_iff.mp rx;obtain⟨tx,rfl⟩:∃ t,a=Value.int _ t:=qx
   obtain rfl:=Rep.non_iff.mp ry;obtain rfl:b=Value.none:=qy
   unfold eqD
   exact⟨SeqAt.RcAt.int_none _ _,SeqAt.EqAt.int_none _ _,SeqAt.RcNeAt.int_none _ _⟩
  | bl y =>
   obtain rfl:=Rep.int_iff.mp rx;obtain⟨tx,rfl⟩:∃ t,a=Value.int _ t:=qx
   obtain rfl:=Rep.bl_iff.mp ry;obtain rfl:b=Value.bool _:=qy
   unfold eqD
   exact⟨SeqAt.RcAt.int_bool _ _ _,SeqAt.EqAt.int_bool _ _ _,SeqAt.RcNeAt.int_bool _ _ _⟩
  | int y =>
   obtain rfl:=Rep.int_iff.mp rx;obtain⟨tx,rfl⟩:∃ t,a=Value.int _ t:=qx
   obtain rfl:=Rep.int_iff.mp ry;obtain⟨ty,rfl⟩:∃ t,b=Value.int _ t:=qy
   unfold eqD
   exact⟨SeqAt.RcAt.int_int _ _ _ _,SeqAt.EqAt.int_int _ _ _ _,SeqAt.RcNeAt.int_int _ _ _ _⟩
  | str y =>
   obtain rfl:=Rep.int_iff.mp rx;obtain⟨tx,rfl⟩:∃ t,a=Value.int _ t:=qx
   obtain rfl:=Rep.str_iff.mp ry;obtain⟨ty,rfl⟩:∃ t,b=Value.str _ t:=qy
   unfold eqD
   exact⟨SeqAt.RcAt.int_str _ _ _ _,SeqAt.EqAt.int_str _ _ _ _,SeqAt.RcNeAt.int_str _ _ _ _⟩
  | lst y =>
   obtain rfl:=Rep.int_iff.mp rx;obtain⟨tx,rfl⟩:∃ t,a=Value.int _ t:=qx
   obtain⟨ly,_,_,rfl,rfl,_,_,_,hy,_⟩:=Rep.lst_get I ry qy
   unfold eqD
   exact⟨SeqAt.RcAt.int_list _ _ hy hu,SeqAt.EqAt.int_list _ _ hy hu,SeqAt.RcNeAt.int_list _ _ hy hu⟩
  | tup y =>
   obtain rfl:=Rep.int_iff.mp rx;obtain⟨tx,rfl⟩:∃ t,a=Value.int _ t:=qx
   obtain⟨ly,_,_,rfl,rfl,_,_,_,hy,_⟩:=Rep.tup_get I ry qy
   unfold eqD
   exact⟨SeqAt.RcAt.int_tuple _ _ hy hu,SeqAt.EqAt.int_tuple _ _ hy hu,SeqAt.RcNeAt.int_tuple _ _ hy hu⟩
  | dic ks ds=>exact absurd rfl (d2 ks ds)
  | exc c=>exact absurd rfl (x2 c)
  | ob k c=>exact absurd rfl (o2 k c)
 | str x =>
  cases y with
  | non =>
   obtain rfl:=Rep.str_iff.mp rx;obtain⟨tx,rfl⟩:∃ t,a=Value.str _ t:=qx
   obtain rfl:=Rep.non_iff.mp ry;obtain rfl:b=Value.none:=qy
   unfold eqD
   exact⟨SeqAt.RcAt.str_none _ _,SeqAt.EqAt.str_none _ _,SeqAt.RcNeAt.str_none _ _⟩
  | bl y =>
   obtain rfl:=Rep.str_iff.mp rx;obtain⟨tx,rfl⟩:∃ t,a=Value.str _ t:=qx
   obtain rfl:=Rep.bl_iff.mp ry;obtain rfl:b=Value.bool _:=qy
   unfold eqD
   exact⟨SeqAt.RcAt.str_bool _ _ _,SeqAt.EqAt.str_bool _ _ _,SeqAt.RcNeAt.str_bool _ _ _⟩
  | int y =>
   obtain rfl:=Rep.str_iff.mp rx;obtain⟨tx,rfl⟩:∃ t,a=Value.str _ t:=qx
   obtain rfl:=Rep.int_iff.mp ry;obtain⟨ty,rfl⟩:∃ t,b=Value.int _ t:=qy
   unfold eqD
   exact⟨SeqAt.RcAt.str_int _ _ _ _,SeqAt.EqAt.str_int _ _ _ _,SeqAt.RcNeAt.str_int _ _ _ _⟩
  | str y =>
   obtain rfl:=Rep.str_iff.mp rx;obtain⟨tx,rfl⟩:∃ t,a=Value.str _ t:=qx
   obtain rfl:=Rep.str_iff.mp ry;obtain⟨ty,rfl⟩:∃ t,b=Value.str _ t:=qy
   unfold eqD
   exact⟨SeqAt.RcAt.str_str _ _ _ _,SeqAt.EqAt.str_str _ _ _ _,SeqAt.RcNeAt.str_str _ _ _ _⟩
  | lst y =>
   obtain rfl:=Rep.str_iff.mp rx;obtain⟨tx,rfl⟩:∃ t,a=Value.str _ t:=qx
   obtain⟨ly,_,_,rfl,rfl,_,_,_,hy,_⟩:=Rep.lst_get I ry qy
   unfold eqD
   exact⟨SeqAt.RcAt.str_list _ _ hy hu,SeqAt.EqAt.str_list _ _ hy hu,SeqAt.RcNeAt.str_list _ _ hy hu⟩
  | tup y =>
   obtain rfl:=Rep.str_iff.mp rx;obtain⟨tx,rfl⟩:∃ t,a=Value.str _ t:=qx
   obtain⟨ly,_,_,rfl,rfl,_,_,_,hy,_⟩:=Rep.tup_get I ry qy
   unfold eqD
   exact⟨SeqAt.RcAt.str_tuple _ _ hy hu,SeqAt.EqAt.str_tuple _ _ hy hu,SeqAt.RcNeAt.str_tuple _ _ hy hu⟩
  | dic ks ds=>exact absurd rfl (d2 ks ds)
  | exc c=>exact absurd rfl (x2 c)
  | ob k c=>exact absurd rfl (o2 k c)
 | lst x =>
  cases y with
  | non =>
   obtain⟨lx,_,_,rfl,rfl,_,_,_,hx,_⟩:=Rep.lst_get I rx qx
   obtain rfl:=Rep.non_iff.mp ry;obtain rfl:b=Value.none:=qy
   unfold eqD
   exact⟨SeqAt.RcAt.list_none  hx hu,SeqAt.EqAt.list_none  hx hu,SeqAt.RcNeAt.list_none  hx hu⟩
  | bl y =>
   obtain⟨lx,_,_,rfl,rfl,_,_,_,hx,_⟩:=Rep.lst_get I rx qx
   obtain rfl:=Rep.bl_iff.mp ry;obtain rfl:b=Value.bool _:=qy
   unfold eqD
   exact⟨SeqAt.RcAt.list_bool _ hx hu,SeqAt.EqAt.list_bool _ hx hu,SeqAt.RcNeAt.list_bool _ hx hu⟩
  | int y =>
   obtain⟨lx,_,_,rfl,rfl,_,_,_,hx,_⟩:=Rep.lst_get I rx qx
   obtain rfl:=Rep.int_iff.mp ry;obtain⟨ty,rfl⟩:∃ t,b=Value.int _ t:=qy
   unfold eqD
   exact⟨SeqAt.RcAt.list_int _ _ hx hu,SeqAt.EqAt.list_int _ _ hx hu,SeqAt.RcNeAt.list_int _ _ hx hu⟩
  | str y =>
   obtain⟨lx,_,_,rfl,rfl,_,_,_,hx,_⟩:=Rep.lst_get I rx qx
   obtain rfl:=Rep.str_iff.mp ry;obtain⟨ty,rfl⟩:∃ t,b=Value.str _ t:=qy
   unfold eqD
   exact⟨SeqAt.RcAt.list_str _ _ hx hu,SeqAt.EqAt.list_str _ _ hx hu,SeqAt.RcNeAt.list_str _ _ hx hu⟩
  | lst y =>
   exact absurd ⟨rfl,rfl⟩ (n1 x y)
  | tup y =>
   obtain⟨lx,_,_,rfl,rfl,_,_,_,hx,_⟩:=Rep.lst_get I rx qx
   obtain⟨ly,_,_,rfl,rfl,_,_,_,hy,_⟩:=Rep.tup_get I ry qy
   unfold eqD
   exact⟨SeqAt.RcAt.list_tuple  hx hy hu,SeqAt.EqAt.list_tuple  hx hy hu,SeqAt.RcNeAt.list_tuple  hx hy hu⟩
  | dic ks ds=>exact absurd rfl (d2 ks ds)
  | exc c=>exact absurd rfl (x2 c)
  | ob k c=>exact absurd rfl (o2 k c)
 | tup x =>
  cases y with
  | non =>
   obtain⟨lx,_,_,rfl,rfl,_,_,_,hx,_⟩:=Rep.tup_get I rx qx
   obtain rfl:=Rep.non_iff.mp ry;obtain rfl:b=Value.none:=qy
   unfold eqD
   exact⟨SeqAt.RcAt.tuple_none  hx hu,SeqAt.EqAt.tuple_none  hx hu,SeqAt.RcNeAt.tuple_none  hx hu⟩
  | bl y =>
   obtain⟨lx,_,_,rfl,rfl,_,_,_,hx,_⟩:=Rep.tup_get I rx qx
   obtain rfl:=Rep.bl_iff.mp ry;obtain rfl:b=Value.bool _:=qy
   unfold eqD
   exact⟨SeqAt.RcAt.tuple_bool _ hx hu,SeqAt.EqAt.tuple_bool _ hx hu,SeqAt.RcNeAt.tuple_bool _ hx hu⟩
  | int y =>
   obtain⟨lx,_,_,rfl,rfl,_,_,_,hx,_⟩:=Rep.tup_get I rx qx
   obtain rfl:=Rep.int_iff.mp ry;obtain⟨ty,rfl⟩:∃ t,b=Value.int _ t:=qy
   unfold eqD
   exact⟨SeqAt.RcAt.tuple_int _ _ hx hu,SeqAt.EqAt.tuple_int _ _ hx hu,SeqAt.RcNeAt.tuple_int _ _ hx hu⟩
  | str y =>
   obtain⟨lx,_,_,rfl,rfl,_,_,_,hx,_⟩:=Rep.tup_get I rx qx
   obtain rfl:=Rep.str_iff.mp ry;obtain⟨ty,rfl⟩:∃ t,b=Value.str _ t:=qy
   unfold eqD
   exact⟨SeqAt.RcAt.tuple_str _ _ hx hu,SeqAt.EqAt.tuple_str _ _ hx hu,SeqAt.RcNeAt.tuple_str _ _ hx hu⟩
  | lst y =>
   obtain⟨lx,_,_,rfl,rfl,_,_,_,hx,_⟩:=Rep.tup_get I rx qx
   obtain⟨ly,_,_,rfl,rfl,_,_,_,hy,_⟩:=Rep.lst_get I ry qy
   unfold eqD
   exact⟨SeqAt.RcAt.tuple_list  hx hy hu,SeqAt.EqAt.tuple_list  hx hy hu,SeqAt.RcNeAt.tuple_list  hx hy hu⟩
  | tup y =>
   exact absurd ⟨rfl,rfl⟩ (n2 x y)
  | dic ks ds=>exact absurd rfl (d2 ks ds)
  | exc c=>exact absurd rfl (x2 c)
  | ob k c=>exact absurd rfl (o2 k c)
 | dic ks ds=>exact absurd rfl (d1 ks ds)
 | exc c=>exact absurd rfl (x1 c)
 | ob k c=>exact absurd rfl (o1 k c)
theorem zyX (I:Inv X pins σ H s):∀ (n:Nat) (A:Around),A.units+n < cLine->∀ (x y:D) (v u:V) (a b:Value),za0 n x=true->za0 n y=true->Rep X.K H x v->Rep X.K H y u->zct v a->zct u b ->
  SeqAt.RcAt A s a b (eqD x y)/\SeqAt.EqAt A s a b (eqD x y)/\SeqAt.RcNeAt A s a b (!(eqD x y)):=by
 have nd:∀ m ks ds,za0 m (.dic ks ds)=true->False:=fun m ks ds h=>by cases m<;>(unfold za0 at h;cases h)
 have nx:∀ m x,za0 m (.exc x)=true->False:=fun m x h=>by cases m<;>(unfold za0 at h;cases h)
 have nb:∀ m k x,za0 m (.ob k x)=true->False:=fun m k x h=>by cases m<;>(unfold za0 at h;cases h)
 intro n
 induction n with
 | zero =>
  intro A hu x y v u a b sx sy rx ry qa qb
  refine zoH I (by omega) rx ry qa qb (fun ds ds' z=>?_) (fun ds ds' z=>?_) (fun ks ds z=>?_) (fun ks ds z=>?_) (fun c z=>nx _ _ (z▸sx)) (fun c z=>nx _ _ (z▸sy)) (fun k c z=>nb _ _ _ (z▸sx)) (fun k c z=>nb _ _ _ (z▸sy))
  ·rw[z.1] at sx;unfold za0 at sx;cases sx
  ·rw[z.1] at sx;unfold za0 at sx;cases sx
  ·rw[z] at sx;exact nd _ _ _ sx
  ·rw[z] at sy;exact nd _ _ _ sy
 | succ n ih =>
  intro A hu x y v u a b sx sy rx ry qa qb
  have ih':∀ (x y:D) (v u:V) (a b:Value),za0 n x=true->za0 n y=true->Rep X.K H x v->Rep X.K H y u->zct v a->zct u b->SeqAt.EqAt A.in1 s a b (eqD x y) :=
   fun x y v u a b s1 s2 r1 r2 q1 q2=>(ih A.in1 (by show A.units+1+n < cLine;omega) x y v u a b s1 s2 r1 r2 q1 q2).2.1
  by_cases t1:∃ ds ds',x=.tup ds/\y=.tup ds'
  ·obtain⟨xs,ys,rfl,rfl⟩:=t1
   obtain⟨l,vs,is,rfl,rfl,h1,h2,h3,h4,h5⟩:=Rep.tup_get I rx qa
   obtain⟨m,us,js,rfl,rfl,k1,k2,k3,k4,k5⟩:=Rep.tup_get I ry qb
   have hsx:=sx
   have hsy:=sy
   unfold za0 at sx sy
   have each:=zoY (A:=A) ih' sx sy h2 k2 h3 k3
   have eall:eqD (.tup xs) (.tup ys)=((List.range (min is.toArray.size js.toArray.size)).all (fun j=>eqD (xs.getD j .non) (ys.getD j .non))&&is.toArray.size==js.toArray.size):=by
    rw[zwc]
    simp only[List.size_toArray,← h5,← k5]
    by_cases hl:xs.length=ys.length
    ·rw[zie xs ys hl,← hl,Nat.min_self,beq_self_eq_true,Bool.and_true]
    ·rw[zlE xs ys hl,beq_eq_false_iff_ne.mpr hl,Bool.and_false]
   refine⟨?_,?_,?_⟩
   ·rw[eall];exact SeqAt.RcAt.tuples h4 k4 (by omega) each
   ·by_cases hlm:l=m
    ·subst hlm
     rw[Rep.inj I (n+1) _ _ _ hsx hsy rx ry,zeK (n+1) _ hsy]
     exact SeqAt.EqAt.same _
    ·refine SeqAt.EqAt.of_refs hlm ?_
     rw[eall];exact SeqAt.RcAt.tuples h4 k4 (by omega) each
   ·rw[eall];exact SeqAt.RcNeAt.tuples h4 k4 (by omega) each
  ·by_cases t2:∃ ds ds',x=.lst ds/\y=.lst ds'
   ·obtain⟨xs,ys,rfl,rfl⟩:=t2
    obtain⟨l,vs,is,rfl,rfl,h1,h2,h3,h4,h5⟩:=Rep.lst_get I rx qa
    obtain⟨m,us,js,rfl,rfl,k1,k2,k3,k4,k5⟩:=Rep.lst_get I ry qb
    have hsx:=sx
    have hsy:=sy
    unfold za0 at sx sy
    have each:=zoY (A:=A) ih' sx sy h2 k2 h3 k3
    by_cases hl:xs.length=ys.length
    ·have hsz:is.toArray.size=js.toArray.size:=by simp only[List.size_toArray];omega
     have eall:eqD (.lst xs) (.lst ys)=(List.range is.toArray.size).all (fun j=>eqD (xs.getD j .non) (ys.getD j .non)):=by
      rw[zoh]
      simp only[List.size_toArray,← h5]
      exact zie xs ys hl
     refine⟨?_,?_,?_⟩
     ·rw[eall];exact SeqAt.RcAt.lists h4 k4 hsz (by omega) each
     ·by_cases hlm:l=m
      ·subst hlm
       rw[Rep.inj I (n+1) _ _ _ hsx hsy rx ry,zeK (n+1) _ hsy]
       exact SeqAt.EqAt.same _
      ·refine SeqAt.EqAt.of_refs hlm ?_
       rw[eall];exact SeqAt.RcAt.lists h4 k4 hsz (by omega) each
     ·rw[eall];exact SeqAt.RcNeAt.lists h4 k4 hsz (by omega) each
    ·have hsz:(is.toArray.size != js.toArray.size)=true:=by simp only[List.size_toArray,bne_iff_ne,ne_eq];omega
     have eall:eqD (.lst xs) (.lst ys)=false:=by rw[zoh];exact zlE xs ys hl
     rw[eall]
     refine⟨SeqAt.RcAt.lists_lengths h4 k4 hsz (by omega),?_,SeqAt.RcNeAt.lists_lengths h4 k4 hsz (by omega)⟩
     refine SeqAt.EqAt.of_refs (fun e=>?_) (SeqAt.RcAt.lists_lengths h4 k4 hsz (by omega))
     subst e
     have:=Rep.inj I (n+1) _ _ _ hsx hsy rx ry
     cases this
     exact hl rfl
   ·exact zoH I (by omega) rx ry qa qb (fun ds ds' z=>t2 ⟨ds,ds',z⟩) (fun ds ds' z=>t1 ⟨ds,ds',z⟩) (fun ks ds z=>by rw[z] at sx;exact nd _ _ _ sx) (fun ks ds z=>by rw[z] at sy;exact nd _ _ _ sy) (fun c z=>nx _ _ (z▸sx)) (fun c z=>nx _ _ (z▸sy)) (fun k c z=>nb _ _ _ (z▸sx)) (fun k c z=>nb _ _ _ (z▸sy))
end
section
variable {X:Cx}{E:XK}
def dEq (x y:D):Res D:=if za0 40 x=true/\za0 40 y=true then .ok (.bl (eqD x y)) else .stuck
def dNe (x y:D):Res D:=if za0 40 x=true/\za0 40 y=true then .ok (.bl (!(eqD x y))) else .stuck
def zzQ (K:W.Frag):R2:=fun v u H Q=>∃ x y,Rep K H x v/\Rep K H y u/\za0 40 x=true/\za0 40 y=true/\Q (.bl (eqD x y)) H
def zyZ (K:W.Frag):R2:=fun v u H Q=>∃ x y,Rep K H x v/\Rep K H y u/\za0 40 x=true/\za0 40 y=true/\Q (.bl (!(eqD x y))) H
theorem zeE (hu:X.A.units+64 < cLine):OpR X (compareOp .Eq) (zzQ X.K):=by
 intro pins s σ H x y v u Q I rx ry h
 obtain⟨d,d',h1,h2,s1,s2,q⟩:=h
 exact(zyX I 40 X.A (by omega) d d' x y v u s1 s2 h1 h2 rx ry).1 _ _ _ _ ⟨.bl _,H,I,rfl,q⟩
theorem zeD (hu:X.A.units+64 < cLine):OpR X (compareOp .NotEq) (zyZ X.K):=by
 intro pins s σ H x y v u Q I rx ry h
 obtain⟨d,d',h1,h2,s1,s2,q⟩:=h
 exact(zyX I 40 X.A (by omega) d d' x y v u s1 s2 h1 h2 rx ry).2.2 _ _ _ _ ⟨.bl _,H,I,rfl,q⟩
theorem zhI:OpD X.K E (zzQ X.K) dEq:=by
 intro x y v u H H₀ Q hs r1 r2 q
 unfold dEq at q
 by_cases c:za0 40 x=true/\za0 40 y=true
 ·rw[if_pos c] at q
  exact⟨x,y,r1.mono hs,r2.mono hs,c.1,c.2,q _ H H₀ (zbn.refl hs) (Rep.bl_iff.mpr rfl)⟩
 ·rw[if_neg c] at q;exact q.elim
theorem zhH:OpD X.K E (zyZ X.K) dNe:=by
 intro x y v u H H₀ Q hs r1 r2 q
 unfold dNe at q
 by_cases c:za0 40 x=true/\za0 40 y=true
 ·rw[if_pos c] at q
  exact⟨x,y,r1.mono hs,r2.mono hs,c.1,c.2,q _ H H₀ (zbn.refl hs) (Rep.bl_iff.mpr rfl)⟩
 ·rw[if_neg c] at q;exact q.elim
open Classical in
noncomputable def zny (K:W.Frag) (H:Hp) (ds:List D) (x:D) (u:Value):Bool :=
 if h:∃ d,d∈ds/\∃ v,Rep K H d v/\zct v u then eqD h.choose x else false
theorem zr1 {pins:List (Addr×Obj)}{σ:L2.St}{H:Hp}{s:Shared}(I:Inv X pins σ H s){ds:List D}{x d:D}{v:V}{u:Value}(sd:ds.all (za0 40)=true)(hd:d∈ds)(r:Rep X.K H d v)(q:zct v u):zny X.K H ds x u=eqD d x:=by
 have h:∃ d,d∈ds/\∃ v,Rep X.K H d v/\zct v u:=⟨d,hd,v,r,q⟩
 unfold zny
 rw[dif_pos h]
 obtain⟨h1,v',h2,h3⟩:=h.choose_spec
 have e:v'=v:=h3.inj q
 subst e
 rw[Rep.inj I 40 _ _ _ (List.all_eq_true.mp sd _ h1) (List.all_eq_true.mp sd _ hd) h2 r]
def zvm (K:W.Frag)(neg:Bool):R2:=fun v u H Q=>∃ x ds,Rep K H x v/\(Rep K H (.lst ds) u∨Rep K H (.tup ds) u)/\za0 40 x=true/\ds.all (za0 40)=true/\Q (.bl (if neg then !(ds.any fun d=>eqD d x) else ds.any fun d=>eqD d x)) H
theorem zhX {pins:List (Addr×Obj)}{σ:L2.St}{H:Hp}{s:Shared}(I:Inv X pins σ H s){x:D}{es:List D}(se:es.all (za0 40)=true):∀ {ds:List D}{vs:List V}{us:List Value},(∀ d∈ds,d∈es)->Reps X.K H ds vs->zbT vs us->us.any (zny X.K H es x)=ds.any fun d=>eqD d x
 | [],_,_,_,h,q=>by
  rw[Reps.nil_iff.mp h] at q
  cases q
  rfl
 | d::ds,_,_,hm,h,q=>by
  obtain⟨v,r,rfl,h1,h2⟩:=Reps.cons_iff.mp h
  cases q with
  | cons q1 q2 =>
   rw[List.any_cons,List.any_cons,zr1 I se (hm d List.mem_cons_self) h1 q1,zhX I se (fun x hx=>hm x (List.mem_cons_of_mem _ hx)) h2 q2]
theorem zga {pins:List (Addr×Obj)}{σ:L2.St}{H:Hp}{s:Shared}(I:Inv X pins σ H s)(hu:X.A.units+64 < cLine){x:D}{v:V}{u:Value}(sx:za0 40 x=true)(rx:Rep X.K H x v)(qx:zct v u){es:List D}(se:es.all (za0 40)=true):∀ {ds:List D}{vs:List V}{us:List Value},(∀ d∈ds,d∈es)->Reps X.K H ds vs->zbT vs us->∀ y∈us,SeqAt.EqAt X.A.in1 s y u (zny X.K H es x y)
 | [],_,_,_,h,q=>fun y hy=>by
  rw[Reps.nil_iff.mp h] at q
  cases q
  cases hy
 | d::ds,_,_,hm,h,q=>fun y hy=>by
  obtain⟨w,r,rfl,h1,h2⟩:=Reps.cons_iff.mp h
  cases q with
  | cons q1 q2 =>
   rcases List.mem_cons.mp hy with rfl | hy
   ·rw[zr1 I se (hm d List.mem_cons_self) h1 q1]
    exact(zyX I 40 X.A.in1 (by show X.A.units+1+40 < cLine;omega) d x w v _ u (List.all_eq_true.mp se _ (hm d List.mem_cons_self)) sx h1 rx q1 qx).2.1
   ·exact zga I hu sx rx qx se (fun x hx=>hm x (List.mem_cons_of_mem _ hx)) h2 q2 y hy
theorem zxJ (hu:X.A.units+64 < cLine):OpR X (compareOp .In) (zvm X.K false):=by
 intro pins s σ H x y v u Q I rx ry h
 obtain⟨d,ds,h1,h2,s1,s2,q⟩:=h
 rcases h2 with h2 | h2
 ·obtain⟨a,vs,its,rfl,rfl,k1,k2,k3,k4,k5⟩:=Rep.lst_get I h2 ry
  refine SeqAt.in_listAt (zny X.K H ds d) k4 (fun w hw=>zga I hu s1 h1 rx s2 (fun _ z=>z) k2 k3 w (by simpa using hw)) ⟨.bl _,H,I,rfl,?_⟩
  rw[show its.toArray.any (zny X.K H ds d)=its.any (zny X.K H ds d) by simp,zhX I s2 (fun _ z=>z) k2 k3]
  exact q
 ·obtain⟨a,vs,its,rfl,rfl,k1,k2,k3,k4,k5⟩:=Rep.tup_get I h2 ry
  refine SeqAt.in_tupleAt (zny X.K H ds d) k4 (fun w hw=>zga I hu s1 h1 rx s2 (fun _ z=>z) k2 k3 w (by simpa using hw)) ⟨.bl _,H,I,rfl,?_⟩
  rw[show its.toArray.any (zny X.K H ds d)=its.any (zny X.K H ds d) by simp,zhX I s2 (fun _ z=>z) k2 k3]
  exact q
theorem zrp (hu:X.A.units+64 < cLine):OpR X (compareOp .NotIn) (zvm X.K true):=by
 intro pins s σ H x y v u Q I rx ry h
 obtain⟨d,ds,h1,h2,s1,s2,q⟩:=h
 rcases h2 with h2 | h2
 ·obtain⟨a,vs,its,rfl,rfl,k1,k2,k3,k4,k5⟩:=Rep.lst_get I h2 ry
  refine SeqAt.notIn_listAt (zny X.K H ds d) k4 (fun w hw=>zga I hu s1 h1 rx s2 (fun _ z=>z) k2 k3 w (by simpa using hw)) ⟨.bl _,H,I,rfl,?_⟩
  rw[show its.toArray.any (zny X.K H ds d)=its.any (zny X.K H ds d) by simp,zhX I s2 (fun _ z=>z) k2 k3]
  exact q
 ·obtain⟨a,vs,its,rfl,rfl,k1,k2,k3,k4,k5⟩:=Rep.tup_get I h2 ry
  refine SeqAt.notIn_tupleAt (zny X.K H ds d) k4 (fun w hw=>zga I hu s1 h1 rx s2 (fun _ z=>z) k2 k3 w (by simpa using hw)) ⟨.bl _,H,I,rfl,?_⟩
  rw[show its.toArray.any (zny X.K H ds d)=its.any (zny X.K H ds d) by simp,zhX I s2 (fun _ z=>z) k2 k3]
  exact q
def occ (i j:Str):Bool:=!(Builtin.Str.occurrences j i 0 j.length 1).isEmpty
def inD (x y:D):Option Bool:=match y with
 | .lst ds=>if za0 40 x=true/\ds.all (za0 40)=true then some (ds.any fun d=>eqD d x) else none
 | .tup ds=>if za0 40 x=true/\ds.all (za0 40)=true then some (ds.any fun d=>eqD d x) else none
 | .str j=>match x with
  | .str i=>some (occ i j)
  | _=>none
 | _=>none
def dIn (x y:D):Res D:=match inD x y with
 | some b=>.ok (.bl b)
 | none=>.stuck
def zbz (x y:D):Res D:=match inD x y with
 | some b=>.ok (.bl (!b))
 | none=>.stuck
def zxg (neg:Bool):R2:=fun x y H Q=>∃ i j,x=.str i/\y=.str j/\Q (.bl (if neg then !(occ i j) else occ i j)) H
theorem zjm (hu:X.A.units+64 < cLine):OpR X (compareOp .In) (fun v u H Q=>zvm X.K false v u H Q∨zxg false v u H Q):=OpR.or (zxJ hu) (by
 intro pins s σ H x y v u Q I rx ry h
 obtain⟨i,j,rfl,rfl,q⟩:=h
 exact zrr pins s σ H _ _ v u Q I rx ry ⟨i,j,rfl,rfl,q⟩)
theorem zdo (hu:X.A.units+64 < cLine):OpR X (compareOp .NotIn) (fun v u H Q=>zvm X.K true v u H Q∨zxg true v u H Q):=OpR.or (zrp hu) (by
 intro pins s σ H x y v u Q I rx ry h
 obtain⟨i,j,rfl,rfl,q⟩:=h
 exact zmL pins s σ H _ _ v u Q I rx ry ⟨i,j,rfl,rfl,q⟩)
theorem zoP {neg:Bool}{x y:D}{v u:V}{H H₀:Hp}{Q:VK}(hs:zaM H₀ H)(r1:Rep X.K H₀ x v)(r2:Rep X.K H₀ y u)
  (q:post X.K E H H₀ (match inD x y with | some b=>.ok (.bl (if neg then !b else b)) | none=>.stuck) Q):zvm X.K neg v u H Q∨zxg neg v u H Q:=by
 cases y with
 | lst ds =>
  simp only[inD] at q
  by_cases c:za0 40 x=true/\ds.all (za0 40)=true
  ·rw[if_pos c] at q
   exact .inl ⟨x,ds,r1.mono hs,.inl (r2.mono hs),c.1,c.2,q _ H H₀ (zbn.refl hs) (Rep.bl_iff.mpr rfl)⟩
  ·rw[if_neg c] at q;exact q.elim
 | tup ds =>
  simp only[inD] at q
  by_cases c:za0 40 x=true/\ds.all (za0 40)=true
  ·rw[if_pos c] at q
   exact .inl ⟨x,ds,r1.mono hs,.inr (r2.mono hs),c.1,c.2,q _ H H₀ (zbn.refl hs) (Rep.bl_iff.mpr rfl)⟩
  ·rw[if_neg c] at q;exact q.elim
 | str j =>
  cases x with
  | str i=>exact .inr ⟨i,j,Rep.str_iff.mp r1,Rep.str_iff.mp r2,q _ H H₀ (zbn.refl hs) (Rep.bl_iff.mpr rfl)⟩
  | _=>exact q.elim
 | _=>exact q.elim
theorem zjt:OpD X.K E (fun v u H Q=>zvm X.K false v u H Q∨zxg false v u H Q) dIn:=fun x y v u H H₀ Q hs r1 r2 q=>zoP (neg:=false) (E:=E) hs r1 r2 (by
 unfold dIn at q
 cases e:inD x y with
 | none=>rw[e] at q;exact q
 | some b=>rw[e] at q;exact q)
theorem zdp:OpD X.K E (fun v u H Q=>zvm X.K true v u H Q∨zxg true v u H Q) zbz:=fun x y v u H H₀ Q hs r1 r2 q=>zoP (neg:=true) (E:=E) hs r1 r2 (by
 unfold zbz at q
 cases e:inD x y with
 | none=>rw[e] at q;exact q
 | some b=>rw[e] at q;exact q)
end
@[irreducible] def B9:Nat:=2 ^ 9000
@[irreducible] def B13:Nat:=2 ^ 13500
@[irreducible] def B60:Nat:=2 ^ 60000
theorem zyv:B9=2 ^ 9000:=by unfold B9;rfl
theorem zpm:B13=2 ^ 13500:=by unfold B13;rfl
theorem zpl:B60=2 ^ 60000:=by unfold B60;rfl
theorem zkI {n k:Nat}(h:n < 2 ^ k)(hk:0 < k):n.log2 < k:=by
 by_cases h0:n=0
 ·rw[h0]
  have:Nat.log2 0=0:=by decide
  omega
 ·exact(Nat.log2_lt h0).mpr h
theorem zze {x y:Int}(h:y.natAbs < B9):Builtin.divisionGoesByPylong x y=false:=by
 rw[zyv] at h
 exact PyProof.noPylong_of_log2 (zkI h (by omega))
theorem zxP {x y:Int}(h:x.natAbs < B13):Builtin.divisionGoesByPylong x y=false:=by
 rw[zpm] at h
 have hx:x.natAbs.log2 < 13500:=zkI h (by omega)
 show(decide ((if y==0 then 0 else y.natAbs.log2 / 30+1) > 300)&&decide ((if x==0 then 0 else x.natAbs.log2 / 30+1) > (if y==0 then 0 else y.natAbs.log2 / 30+1)+150))=false
 have k:(if x==0 then 0 else x.natAbs.log2 / 30+1)<=450:=by
  by_cases hx0:(x==0)=true
  ·rw[if_pos hx0];omega
  ·rw[if_neg hx0];omega
 by_cases c:(if y==0 then 0 else y.natAbs.log2 / 30+1) > 300
 ·rw[Bool.and_eq_false_iff];right;exact decide_eq_false (by omega)
 ·rw[Bool.and_eq_false_iff];left;exact decide_eq_false c
def zha (i j:Int):Bool:=decide (j≠0)&&(decide (j.natAbs < B9)||decide (i.natAbs < B13))
def zeh (i j:Int):Bool:=decide (i.natAbs < B60)&&decide (j.natAbs < B60)
theorem zha.ok {i j:Int}(h:zha i j=true):j≠0/\Builtin.divisionGoesByPylong i j=false:=by
 unfold zha at h
 rw[Bool.and_eq_true,Bool.or_eq_true] at h
 refine⟨of_decide_eq_true h.1,?_⟩
 rcases h.2 with h | h
 ·exact zze (of_decide_eq_true h)
 ·exact zxP (of_decide_eq_true h)
theorem zeh.ok {i j:Int}(h:zeh i j=true):IntMulOk i j:=by
 unfold zeh at h
 rw[Bool.and_eq_true] at h
 have h1:=of_decide_eq_true h.1
 have h2:=of_decide_eq_true h.2
 rw[zpl] at h1 h2
 exact PyProof.Rows.mulOk_of_bits (m:=60000) (n:=60000) (PySem.intBits_le_iff.mpr h1) (PySem.intBits_le_iff.mpr h2) (by decide)
section
variable {X:Cx}{E:XK}{e a b c:Expr}{es:List Expr}{f g k:Ev->Res D}{fa:Ev->Res (List D)}{pos:Pos}
theorem zbp {K:W.Frag}{H H₀:Hp}{d:D}{v:V}{Q:VK}(hs:zaM H₀ H)(q:post K E H H₀ (.ok d) Q)(r:Rep K H₀ d v):Q v H:=q v H H₀ (zbn.refl hs) r
def iop (c:Int->Int->Bool)(g:Int->Int->D)(x y:D):Res D:=match x,y with
 | .int i,.int j=>if c i j=true then .ok (g i j) else .stuck
 | _,_=>.stuck
theorem zoO {C:Int->Int->Prop}{c:Int->Int->Bool}{gv:Int->Int->V}{g:Int->Int->D}(hc:∀ i j,c i j=true->C i j)(hg:∀ K H i j,Rep K H (g i j) (gv i j)):OpD X.K E (rI C gv) (iop c g):=by
 intro x y v u H H₀ Q hs r1 r2 q
 unfold iop at q
 cases x with
 | int i =>
  cases y with
  | int j =>
   by_cases h:c i j=true
   ·simp only[if_pos h] at q
    exact⟨i,j,Rep.int_iff.mp r1,Rep.int_iff.mp r2,hc i j h,zbp hs q (hg _ _ i j)⟩
   ·simp only[if_neg h] at q;exact q.elim
  | _=>exact q.elim
 | _=>exact q.elim
theorem zdH {gv:Int->Int->V}{g:Int->Int->D}(hg:∀ K H i j,Rep K H (g i j) (gv i j)):OpD X.K E (rI0 gv) (iop (fun _ _=>true) g):=by
 intro x y v u H H₀ Q hs r1 r2 q
 unfold iop at q
 cases x with
 | int i =>
  cases y with
  | int j=>simp only[if_pos] at q;exact⟨i,j,Rep.int_iff.mp r1,Rep.int_iff.mp r2,zbp hs q (hg _ _ i j)⟩
  | _=>exact q.elim
 | _=>exact q.elim
theorem ri {K:W.Frag}{H:Hp}(n:Int):Rep K H (.int n) (.int n):=Rep.int_iff.mpr rfl
theorem rb {K:W.Frag}{H:Hp}(n:Bool):Rep K H (.bl n) (.bl n):=Rep.bl_iff.mpr rfl
abbrev zpb:=iop (fun _ _=>true) fun i j=>.int (i-j)
abbrev zp8:=iop zha fun i j=>.int (i.fdiv j)
abbrev zeA:=iop (fun _ j=>decide (j≠0)) fun i j=>.int (i.fmod j)
abbrev zqh:=iop (fun i j=>decide (0<=j)&&decide (j<=1000000)&&decide (i.natAbs < 18446744073709551616)) fun i j=>.int (i ^ j.toNat)
abbrev dLt:=iop (fun _ _=>true) fun i j=>.bl (decide (i < j))
abbrev dLe:=iop (fun _ _=>true) fun i j=>.bl (decide (i<=j))
abbrev dGt:=iop (fun _ _=>true) fun i j=>.bl (decide (j < i))
abbrev dGe:=iop (fun _ _=>true) fun i j=>.bl (decide (j<=i))
theorem zvD:OpR X (binaryOp .Mult) (rI IntMulOk fun i j=>.int (i*j)):=opI fun _ _ _ _ _ _ _ hc q=>mul_int q hc
theorem zvH:OpR X (binaryOp .FloorDiv) (rI (fun i j=>j≠0/\Builtin.divisionGoesByPylong i j=false) fun i j=>.int (i.fdiv j)):=opI fun _ _ _ _ _ _ _ hc q=>floordiv_int hc.1 q (.inl hc.2)
theorem zo9 (ha:DE X E a f)(hb:DE X E b g):DE X E (.BinOp a .Sub b pos) (zac f g zpb):=znd zxE (zdH fun _ _ _ _=>ri _) ha hb
theorem zne (ha:DE X E a f)(hb:DE X E b g):DE X E (.BinOp a .FloorDiv b pos) (zac f g zp8):=znd zvH (zoO (fun _ _ h=>zha.ok h) fun _ _ _ _=>ri _) ha hb
theorem zb7 (ha:DE X E a f)(hb:DE X E b g):DE X E (.BinOp a .Mod b pos) (zac f g zeA):=znd zvE (zoO (fun _ _ h=>of_decide_eq_true h) fun _ _ _ _=>ri _) ha hb
theorem zkY (ha:DE X E a f)(hb:DE X E b g):DE X E (.BinOp a .Pow b pos) (zac f g zqh):=znd zxH (zoO (fun i j h=>by
 rw[Bool.and_eq_true,Bool.and_eq_true] at h
 exact⟨of_decide_eq_true h.1.1,of_decide_eq_true h.1.2,of_decide_eq_true h.2⟩) fun _ _ _ _=>ri _) ha hb
theorem nm {op:CmpOp}{b:Expr}(h1:op≠.In:=by decide)(h2:op≠.NotIn:=by decide):behindInMarks op b=false:=zoS _ h1 h2
def zsd (x:D):Res D:=match x with
 | .int i=>.ok (.int (-i))
 | _=>.stuck
theorem zr7 (ha:DE X E a f):DE X E (.UnaryOp .USub a pos) (za2 f zsd):=zzw zum (by
 intro x v H H₀ Q hs r q
 cases x with
 | int i=>exact⟨i,Rep.int_iff.mp r,zbp hs q (ri _)⟩
 | _=>exact q.elim) ha
theorem zrs:OpR X (binaryOp .Add) (fun x y H Q=>∃ l b xs zs,x=.ref l/\y=.ref b/\SqL X.K H l xs/\SqL X.K H b zs/\xs.length+zs.length<=sizeLine/\∀ p,H p=none->Q (.ref p) (upd H p (.lst (xs++zs)))):=by
 intro pins s σ H x y v u Q I rx ry h
 obtain⟨l,b,xs,zs,rfl,rfl,hH,hB,hz,q⟩:=h
 cases rx
 cases ry
 obtain⟨its,r,pl,z⟩:=I.list hH
 obtain⟨its2,r2,pl2,z2⟩:=I.list hB
 obtain⟨⟨cls,dd,data,sl⟩,ho,hc,n,hd⟩:=pl.isList
 obtain⟨⟨cls2,dd2,data2,sl2⟩,ho2,hc2,n2,hd2⟩:=pl2.isList
 simp only at hc hd hc2 hd2
 subst hc hd hc2 hd2
 have e:its.toArray++its2.toArray=(its++its2).toArray:=by simp
 have l1:=r.length
 have l2:=r2.length
 refine concat_meets ⟨_,ho,rfl⟩ ⟨_,ho2,rfl⟩ noFill_list_add seq_list_add PySem.F.slot_list_add PySem.F.entry_list_add (PySem.F.args_list_add_2 _ _) (list_addW l b its.toArray its2.toArray n n2 dd dd2 sl sl2 (by simp only[List.size_toArray];omega)) ⟨ho,ho2,?_⟩
 rw[e]
 exact⟨.ref _,_,I.lnew (t':=s.toks) (r.append r2) (by rw[List.length_append];omega),rfl,q _ I.fresh⟩
def zbR (x y:D):Res D:=match x,y with
 | .int i,.int j=>.ok (.int (i+j))
 | .str i,.str j=>if i.length+j.length<=line then .ok (.str (i++j)) else .stuck
 | .lst ds,.lst es=>if ds.length+es.length<=line then .ok (.lst (ds++es)) else .stuck
 | .tup ds,.tup es=>if ds.isEmpty=false/\ds.length+es.length<=line then .ok (.tup (ds++es)) else .stuck
 | _,_=>.stuck
theorem zaR (ha:DE X E a f)(hb:DE X E b g):DE X E (.BinOp a .Add b pos) (zac f g zbR):=znd (OpR.or zxL (OpR.or zpO (OpR.or zrs zvI))) (by
 intro x y v u H H₀ Q hs r1 r2 q
 unfold zbR at q
 cases x with
 | int i =>
  cases y with
  | int j=>exact .inl ⟨i,j,Rep.int_iff.mp r1,Rep.int_iff.mp r2,zbp hs q (ri _)⟩
  | _=>exact q.elim
 | str i =>
  cases y with
  | str j =>
   by_cases h:i.length+j.length<=line
   ·simp only[if_pos h] at q
    exact .inr (.inl ⟨i,j,Rep.str_iff.mp r1,Rep.str_iff.mp r2,zdg h,zbp hs q (Rep.str_iff.mpr rfl)⟩)
   ·simp only[if_neg h] at q;exact q.elim
  | _=>exact q.elim
 | lst ds =>
  cases y with
  | lst es =>
   by_cases h:ds.length+es.length<=line
   ·simp only[if_pos h] at q
    obtain⟨l,vs,rfl,h1,h2⟩:=Rep.lst_iff.mp r1
    obtain⟨m,us,rfl,k1,k2⟩:=Rep.lst_iff.mp r2
    refine .inr (.inr (.inl ⟨l,m,vs,us,rfl,rfl,zaM.sqL hs h1,zaM.sqL hs k1,by rw[← h2.length,← k2.length];exact zdg h,fun p hp=>?_⟩))
    exact q _ _ _ (zbn.alloc hs hp) (Rep.lst_iff.mpr ⟨p,_,rfl,SqL.of zav,(h2.app k2).mono (zbn.alloc hs hp).z⟩)
   ·simp only[if_neg h] at q;exact q.elim
  | _=>exact q.elim
 | tup ds =>
  cases y with
  | tup es =>
   by_cases h:ds.isEmpty=false/\ds.length+es.length<=line
   ·simp only[if_pos h] at q
    obtain⟨l,vs,rfl,h1,h2⟩:=Rep.tup_iff.mp r1
    obtain⟨m,us,rfl,k1,k2⟩:=Rep.tup_iff.mp r2
    refine .inr (.inr (.inr ⟨l,m,vs,us,rfl,rfl,zaM.sqT hs h1,zaM.sqT hs k1,fun z=>?_,by rw[← h2.length,← k2.length];exact zdg h.2,fun z=>?_,fun z p hp=>?_⟩))
    ·have:=h2.length
     rw[z] at this
     have e:ds=[]:=List.length_eq_zero_iff.mp this
     rw[e] at h;exact absurd h.1 (by decide)
    ·have:=k2.length
     rw[z] at this
     have e:es=[]:=List.length_eq_zero_iff.mp this
     rw[e,List.append_nil] at q
     exact zbp hs q r1
    ·exact q _ _ _ (zbn.alloc hs hp) (Rep.tup_iff.mpr ⟨p,_,rfl,SqT.of zav,(h2.app k2).mono (zbn.alloc hs hp).z⟩)
   ·simp only[if_neg h] at q;exact q.elim
  | _=>exact q.elim
 | _=>exact q.elim) ha hb
def dIx (x y:D):Res D:=match y with
 | .int i=>match x with
  | .lst ds=>match atI ds i with
   | some d=>.ok d
   | none=>.stuck
  | .tup ds=>match atI ds i with
   | some d=>.ok d
   | none=>.stuck
  | .str z=>if z.length<=line then match atI z.cps.toList i with
   | some c=>.ok (.str ⟨#[c]⟩)
   | none=>.stuck else .stuck
  | _=>.stuck
 | _=>.stuck
theorem Reps.atI {K:W.Frag}{H:Hp}{ds:List D}{vs:List V}{i:Int}{d:D}(h:Reps K H ds vs)(e:atI ds i=some d):∃ v,L2.atI vs i=some v/\Rep K H d v:=by
 unfold L2.atI at e ⊢
 rw[← h.length]
 cases q:ixN ds.length i with
 | none=>rw[q] at e;cases e
 | some j =>
  rw[q] at e
  exact h.get e
theorem zzd:OpD X.K E (rIx X.K) dIx:=by
 intro x y v u H H₀ Q hs r1 r2 q
 unfold dIx at q
 cases y with
 | int i =>
  cases x with
  | lst ds =>
   obtain⟨l,vs,rfl,h1,h2⟩:=Rep.lst_iff.mp r1
   cases e:atI ds i with
   | none=>simp only[e] at q;exact q.elim
   | some d =>
    simp only[e] at q
    obtain⟨w,e1,e2⟩:=h2.atI e
    exact .inl ⟨l,vs,i,w,rfl,Rep.int_iff.mp r2,zaM.sqL hs h1,e1,zbp hs q e2⟩
  | tup ds =>
   obtain⟨l,vs,rfl,h1,h2⟩:=Rep.tup_iff.mp r1
   cases e:atI ds i with
   | none=>simp only[e] at q;exact q.elim
   | some d =>
    simp only[e] at q
    obtain⟨w,e1,e2⟩:=h2.atI e
    exact .inr (.inl ⟨l,vs,i,w,rfl,Rep.int_iff.mp r2,zaM.sqT hs h1,e1,zbp hs q e2⟩)
  | str z =>
   by_cases hz:z.length<=line
   ·simp only[if_pos hz] at q
    cases e:atI z.cps.toList i with
    | none=>simp only[e] at q;exact q.elim
    | some c =>
     simp only[e] at q
     exact .inr (.inr ⟨z,i,c,Rep.str_iff.mp r1,Rep.int_iff.mp r2,zdg hz,e,zbp hs q (Rep.str_iff.mpr rfl)⟩)
   ·simp only[if_neg hz] at q;exact q.elim
  | _=>exact q.elim
 | _=>exact q.elim
theorem zah (ha:DE X E a f)(hb:DE X E b g)(hs:zoq b:=by intro _ _;rfl):DE X E (.Subscript a b pos) (zac f g dIx):=zzy zx0 zzd ha hb hs
def zde:Ev->Res (Option Int):=fun _=>.ok none
def zbL (f:Ev->Res D):Ev->Res (Option Int):=fun ρ=>(f ρ).bind fun x=>match x with
 | .int i=>.ok (some i)
 | _=>.stuck
def tDO (K:W.Frag)(E:XK)(f:Ev->Res (Option Int)):TO:=fun σ H Q=>∃ H₀ ρ,zaM H₀ H/\zgu K H₀ σ ρ/\match f ρ with
 | .ok o=>∀ H' H₀',zbn H H₀ H' H₀'->Q o H'
 | .exn x=>∀ C ox H' H₀',zbn H H₀ H' H₀'->ExR K H₀' x C ox->E C ox H'
 | .stuck=>False
structure DO (X:Cx) (E:XK) (e:Option Expr) (f:Ev->Res (Option Int)):Prop where
 o:PO X e (tDO X.K E f)
theorem zrf {eo:Option Expr}{t t':TO}(h:PO X eo t)(w:∀ σ H Q,t' σ H Q->t σ H Q):PO X eo t':=fun pins s σ H Q I q=>h pins s σ H Q I (w σ H Q q)
theorem zcy:DO X E none zde:=⟨zrf zvr fun σ H Q ⟨H₀,ρ,hs,hr,q⟩=>q H H₀ (zbn.refl hs)⟩
theorem zbe (ha:DE X E a f):DO X E (some a) (zbL f):=by
 refine⟨?_⟩
 refine zrf (zvq ha.o) fun σ H Q ⟨H₀,ρ,hs,hr,q⟩=>⟨H₀,ρ,hs,hr,?_⟩
 unfold zbL at q
 cases e1:f ρ with
 | stuck=>rw[e1] at q;exact q
 | exn x=>rw[e1] at q;exact q
 | ok d =>
  rw[e1] at q
  intro v H1 H01 g1 r1
  cases d with
  | int i=>exact⟨i,Rep.int_iff.mp r1,q H1 H01 g1⟩
  | _=>exact q.elim
def ze6 (xs:List D)(lo hi:Option Int):List D:=(xs.drop (HT.sIx xs.length 0 lo)).take (HT.sIx xs.length xs.length hi-HT.sIx xs.length 0 lo)
theorem Reps.cut {K:W.Frag}{H:Hp}{ds:List D}{vs:List V}(h:Reps K H ds vs)(lo hi:Option Int):Reps K H (ze6 ds lo hi) (zuE vs lo hi):=by
 unfold ze6 zuE
 rw[← h.length]
 exact(h.drop _).take _
theorem znQ {r:V->Option Int->Option Int->Hp->VK->Prop}{lo hi:Ev->Res (Option Int)}{m:D->Option Int->Option Int->Res D}
  (ho:∀ x v l h H H₀ Q,zaM H₀ H->Rep X.K H₀ x v->post X.K E H H₀ (m x l h) Q->r v l h H Q)(σ:L2.St)(H:Hp)(Q:VK)
  (h:tD X.K E (fun ρ=>(f ρ).bind fun x=>(lo ρ).bind fun l=>(hi ρ).bind fun h=>m x l h) σ H Q):tSl r (tD X.K E f) (tDO X.K E lo) (tDO X.K E hi) σ H Q:=by
 obtain⟨H₀,ρ,hs,hr,q⟩:=h
 refine⟨H₀,ρ,hs,hr,?_⟩
 replace q:post X.K E H H₀ ((f ρ).bind fun x=>(lo ρ).bind fun l=>(hi ρ).bind fun h=>m x l h) Q:=q
 cases e1:f ρ with
 | stuck=>rw[e1] at q;exact q
 | exn x=>rw[e1] at q;exact q
 | ok x =>
  rw[e1] at q
  intro v H1 H01 g1 r1
  refine⟨H01,ρ,g1.sub,hr.mono g1.z,?_⟩
  replace q:post X.K E H H₀ ((lo ρ).bind fun l=>(hi ρ).bind fun h=>m x l h) Q:=q
  replace q:=q.grow g1
  cases e2:lo ρ with
  | stuck=>rw[e2] at q;exact q
  | exn x=>rw[e2] at q;exact q
  | ok l =>
   rw[e2] at q
   intro H2 H02 g2
   refine⟨H02,ρ,g2.sub,(hr.mono g1.z).mono g2.z,?_⟩
   replace q:post X.K E H1 H01 ((hi ρ).bind fun h=>m x l h) Q:=q
   replace q:=q.grow g2
   cases e3:hi ρ with
   | stuck=>rw[e3] at q;exact q
   | exn x=>rw[e3] at q;exact q
   | ok h =>
    rw[e3] at q
    intro H3 H03 g3
    exact ho x v l h H3 H03 Q g3.sub ((r1.mono g2.z).mono g3.z) (post.grow (r:=m x l h) q g3)
def m1 (m:D->Res D)(ds:List D):Res D:=match ds with
 | [x]=>m x
 | _=>.stuck
def m2 (m:D->D->Res D)(ds:List D):Res D:=match ds with
 | [x,y]=>m x y
 | _=>.stuck
theorem zsr {r:List V->Hp->VK->Prop}{m:D->Res D}(h:∀ x v H H₀ Q,zaM H₀ H->Rep X.K H₀ x v->post X.K E H H₀ (m x) Q->r [v] H Q):zkz X E r (m1 m):=by
 intro ds vs H H₀ Q hs hr q
 unfold m1 at q
 match ds,hr,q with
 | [x],hr,q =>
  obtain⟨v,r',rfl,h1,h2⟩:=Reps.cons_iff.mp hr
  rw[Reps.nil_iff.mp h2]
  exact h x v H H₀ Q hs h1 q
 | [],_,q=>exact q.elim
 | _::_::_,_,q=>exact q.elim
theorem zzC {r:List V->Hp->VK->Prop}{m:D->D->Res D}(h:∀ x y v u H H₀ Q,zaM H₀ H->Rep X.K H₀ x v->Rep X.K H₀ y u->post X.K E H H₀ (m x y) Q->r [v,u] H Q):zkz X E r (m2 m):=by
 intro ds vs H H₀ Q hs hr q
 unfold m2 at q
 match ds,hr,q with
 | [x,y],hr,q =>
  obtain⟨v,r',rfl,h1,h2⟩:=Reps.cons_iff.mp hr
  obtain⟨u,r'',rfl,h3,h4⟩:=Reps.cons_iff.mp h2
  rw[Reps.nil_iff.mp h4]
  exact h x y v u H H₀ Q hs h1 h3 q
 | [],_,q=>exact q.elim
 | [_],_,q=>exact q.elim
 | _::_::_::_,_,q=>exact q.elim
def zt8 (x:D):Res D:=match x with
 | .int i=>.ok (.int (if i < 0 then -i else i))
 | _=>.stuck
def zAA (x y:D):Res D:=match x,y with
 | .int i,.int j=>.ok (.int (if j > i then j else i))
 | _,_=>.stuck
def zgR (x:D):Res D:=match x with
 | .lst ds=>.ok (.int ds.length)
 | .tup ds=>.ok (.int ds.length)
 | .str z=>if z.length<=line then .ok (.int z.length) else .stuck
 | _=>.stuck
def zuD (x:D):Res D:=match x with
 | .int i=>.ok (.int i)
 | .bl b=>.ok (.int (if b then 1 else 0))
 | _=>.stuck
def zse (x:D):Res D:=match x with
 | .lst ds=>.ok (.lst ds)
 | .tup ds=>.ok (.lst ds)
 | _=>.stuck
theorem znj:zkz X E (fun xs H Q=>∃ i,xs=[.int i]/\Q (.int (if i < 0 then -i else i)) H) (m1 zt8):=zsr fun x v H H₀ Q hs r q=>by
 cases x with
 | int i=>exact⟨i,by rw[Rep.int_iff.mp r],zbp hs q (ri _)⟩
 | _=>exact q.elim
theorem zcq:zkz X E (fun xs H Q=>∃ x n,xs=[x]/\zz3 X.K x H n/\Q (.int n) H) (m1 zgR):=zsr fun x v H H₀ Q hs r q=>by
 cases x with
 | lst ds =>
  obtain⟨p,vs,rfl,h1,h2⟩:=Rep.lst_iff.mp r
  refine⟨_,vs.length,rfl,.inl ⟨vs,zaM.sqL hs h1,rfl⟩,?_⟩
  rw[← h2.length];exact zbp hs q (ri _)
 | tup ds =>
  obtain⟨p,vs,rfl,h1,h2⟩:=Rep.tup_iff.mp r
  refine⟨_,vs.length,rfl,.inr ⟨vs,zaM.sqT hs h1,rfl⟩,?_⟩
  rw[← h2.length];exact zbp hs q (ri _)
 | str z =>
  unfold zgR at q
  by_cases hz:z.length<=line
  ·simp only[if_pos hz] at q
   rw[Rep.str_iff.mp r]
   exact⟨_,z.length,rfl,⟨zdg hz,rfl⟩,zbp hs q (ri _)⟩
  ·simp only[if_neg hz] at q;exact q.elim
 | _=>exact q.elim
theorem zsn:zkz X E (fun xs H Q=>∃ p ys,xs=[.ref p]/\(SqL X.K H p ys∨SqT X.K H p ys)/\∀ l,H l=none->Q (.ref l) (upd H l (.lst ys))) (m1 zse):=zsr fun x v H H₀ Q hs r q=>by
 cases x with
 | lst ds =>
  obtain⟨p,vs,rfl,h1,h2⟩:=Rep.lst_iff.mp r
  exact⟨p,vs,rfl,.inl (zaM.sqL hs h1),fun n hn=>q _ _ _ (zbn.alloc hs hn) (Rep.lst_iff.mpr ⟨n,_,rfl,SqL.of zav,h2.mono (zbn.alloc hs hn).z⟩)⟩
 | tup ds =>
  obtain⟨p,vs,rfl,h1,h2⟩:=Rep.tup_iff.mp r
  exact⟨p,vs,rfl,.inr (zaM.sqT hs h1),fun n hn=>q _ _ _ (zbn.alloc hs hn) (Rep.lst_iff.mpr ⟨n,_,rfl,SqL.of zav,h2.mono (zbn.alloc hs hn).z⟩)⟩
 | _=>exact q.elim
theorem zlG {T:String}{r:List V->Hp->VK->Prop}{m:List D->Res D}{x:Str}{p:Pos}(hc:zkg X (.type T) r)(hd:zkz X E r m)(hg:Gl X x)(hm:X.mg x=none)(hv:bootBuiltins x=some (.type T))(ha:DA X E (e::es) fa)(hn:x≠"__name__":=by decide)(hdb:(x==("__debug__" : Str))=false:=by decide)
  (he:starEach (e::es) X.env=(false,eval e X.env)::starEach es X.env:=by exact zaO rfl)(hpl:(backTo pos (starEach es X.env)).any (·.1)=false:=by exact zb0 rfl):DE X E (.Call (.Name x p) (e::es) [] pos) (zal fa m) :=
 ⟨zaT (zrl hc hg hm hv ha.o hn hdb he hpl) (zhW hd)⟩
def zv1:D->Bool
 | .non=>true
 | _=>false
def zpc (x y:D):Res D:=match y with
 | .non=>.ok (.bl (zv1 x))
 | _=>.stuck
def zjX (x y:D):Res D:=match y with
 | .non=>.ok (.bl (!(zv1 x)))
 | _=>.stuck
theorem Rep.is_non {K:W.Frag}{H:Hp}{x:D}{v:V}(r:Rep K H x v):decide (v=.non)=zv1 x:=by
 cases x with
 | non=>rw[Rep.non_iff.mp r];rfl
 | bl b=>rw[Rep.bl_iff.mp r];rfl
 | int b=>rw[Rep.int_iff.mp r];rfl
 | str b=>rw[Rep.str_iff.mp r];rfl
 | tup ds=>obtain⟨_,_,e,_⟩:=Rep.tup_iff.mp r;rw[e];rfl
 | lst ds=>obtain⟨_,_,e,_⟩:=Rep.lst_iff.mp r;rw[e];rfl
 | dic ks ds=>rw[Rep] at r;obtain⟨_,_,_,e,_⟩:=r;rw[e];rfl
 | exc x=>obtain⟨_,_,e,_⟩:=Rep.exc_iff.mp r;rw[e];rfl
 | ob k x=>obtain⟨_,_,e,_⟩:=Rep.ob_iff.mp r;rw[e];rfl
theorem zrx:OpD X.K E (fun x y H Q=>y=.non/\Q (.bl (decide (x=.non))) H) zpc:=by
 intro x y v u H H₀ Q hs r1 r2 q
 unfold zpc at q
 cases y with
 | non=>exact⟨Rep.non_iff.mp r2,by rw[r1.is_non];exact zbp hs q (rb _)⟩
 | _=>exact q.elim
theorem zvL:OpD X.K E (fun x y H Q=>y=.non/\Q (.bl (!decide (x=.non))) H) zjX:=by
 intro x y v u H H₀ Q hs r1 r2 q
 unfold zjX at q
 cases y with
 | non =>
  refine⟨Rep.non_iff.mp r2,?_⟩
  rw[r1.is_non]
  exact zbp hs q (rb _)
 | _=>exact q.elim
def tyD:D->String
 | .non=>"NoneType"
 | .bl _=>"bool"
 | .int _=>"int"
 | .str _=>"str"
 | .tup _=>"tuple"
 | .lst _=>"list"
 | .dic _ _=>"dict"
 | .exc _=>"<exc>"
 | .ob (.ins _ _) _=>"<exc>"
 | .ob (.dint _) _=>"dict"
def zcj (T:String)(x:D):Res D:=.ok (.bl (tyD x==T||(tyD x=="bool"&&T=="int")))
def zos (K:W.Frag)(T:String):Prop:=∀ S,S∈["NoneType","bool","int","str","tuple","list","dict"]->W.kitOne K (.type S) (.type T)=some (S==T||(S=="bool"&&T=="int"))
theorem ztM {pins:List (Addr×Obj)}{σ:L2.St}{H:Hp}{s:Shared}{A:Around}{Q:Value->Shared->Prop}{x:D}{v:V}{u:Value}{T:String}(I:Inv X pins σ H s)(r:Rep X.K H x v)(q:zct v u)(hk:zos X.K T)(hT:T∈zgl)(h:∀ tk,Q (.bool (tyD x==T||(tyD x=="bool"&&T=="int"))) { s with toks:=tk }) :
  wpAny (model X.prog X.w) A (call (.builtin "isinstance") [u,.type T]) Q X.xe s:=by
 cases x with
 | non=>rw[Rep.non_iff.mp r] at q;exact zhL I q .non (hk _ (by simp)) h
 | bl b=>rw[Rep.bl_iff.mp r] at q;exact zhL I q (.bl b) (hk _ (by simp)) h
 | int b=>rw[Rep.int_iff.mp r] at q;exact zhL I q (.int b) (hk _ (by simp)) h
 | str b=>rw[Rep.str_iff.mp r] at q;exact zhL I q (.str b) (hk _ (by simp)) h
 | tup ds =>
  obtain⟨a,vs,its,rfl,rfl,h1,h2,h3,h4,_⟩:=Rep.tup_get I r q
  obtain⟨o,k1,k2,_⟩:=h4
  exact W.kia_one W.kitx_tuple I.kIn ⟨o,k1,k2⟩ (hk _ (by simp)) (fun z=>nomatch z) h
 | lst ds =>
  obtain⟨a,vs,its,rfl,rfl,h1,h2,h3,h4,_⟩:=Rep.lst_get I r q
  obtain⟨o,k1,k2,_⟩:=h4
  exact W.kia_one W.kitx_list I.kIn ⟨o,k1,k2⟩ (hk _ (by simp)) (fun z=>nomatch z) h
 | dic ks ds =>
  rw[Rep] at r
  obtain⟨a,kvs,vs,rfl,h1,h2,_⟩:=r
  cases (show u=Value.ref a from q)
  obtain⟨_,_,vs',_,p⟩:=h1.ok I.hok
  obtain⟨o,es,ep,k1,k2,_⟩:=p
  exact W.kia_one W.kitx_dict I.kIn ⟨o,k1,k2.1⟩ (hk _ (by simp)) (fun z=>nomatch z) h
 | exc x =>
  obtain⟨a,C,rfl,hc,h1⟩:=Rep.exc_iff.mp r
  cases (show u=Value.ref a from q)
  obtain⟨p,_,_⟩:=h1.ok I.hok
  have e:(tyD (.exc x)==T||(tyD (.exc x)=="bool"&&T=="int"))=false:=by
   have:∀ T∈zgl,(tyD (.exc x)==T||(tyD (.exc x)=="bool"&&T=="int"))=false:=by show ∀ T∈zgl,("<exc>"==T||("<exc>"=="bool"&&T=="int"))=false;decide
   exact this T hT
  rw[e] at h
  exact W.kia_one (zoX hc.ek hc.ek.isCls) I.kIn p (hc.bt T hT) (fun z=>nomatch z) h
 | ob k xs =>
  obtain⟨a,vs,rfl,h1,_⟩:=Rep.ob_iff.mp r
  cases (show u=Value.ref a from q)
  cases k with
  | ins c ks =>
   obtain⟨C,dx,_,hc,h2,_⟩:=h1
   obtain⟨mA,O,_⟩:=zrN I.hok h2
   obtain⟨od,O',_⟩:=O.look
   have e:(tyD (.ob (.ins c ks) xs)==T||(tyD (.ob (.ins c ks) xs)=="bool"&&T=="int"))=false:=by
    have:∀ T∈zgl,(tyD (.ob (.ins c ks) xs)==T||(tyD (.ob (.ins c ks) xs)=="bool"&&T=="int"))=false:=by show ∀ T∈zgl,("<exc>"==T||("<exc>"=="bool"&&T=="int"))=false;decide
    exact this T hT
   rw[e] at h
   exact W.kia_one (W.kitx_own (hc.cls.get _) hc.cls.hd hc.gc hc.gn hc.tk hc.mo) I.kIn O' (hc.bt T hT) (fun z=>nomatch z) h
  | dint ks =>
   obtain⟨kvs,h2,_⟩:=h1
   obtain⟨_,_,vs',_,p⟩:=h2.ok I.hok
   obtain⟨o,es,ep,k1,k2,_⟩:=p
   exact W.kia_one W.kitx_dict I.kIn ⟨o,k1,k2.1⟩ (hk _ (by simp)) (fun z=>nomatch z) h
theorem zbh {T:String}{x:Str}{p1 p2:Pos}(hk:zos X.K T)(hgi:Gl X "isinstance")(hmi:X.mg "isinstance"=none)(hg:Gl X x)(hm:X.mg x=none)(hv:bootBuiltins x=some (.type T))(ha:DE X E a f)
  (hn:x≠"__name__":=by decide)(hdb:(x==("__debug__" : Str))=false:=by decide)(hT:T∈zgl:=by decide)
  (he:starEach [a,.Name x p2] X.env=(false,eval a X.env)::starEach [.Name x p2] X.env:=by exact zaO rfl)(he2:starEach [.Name x p2] X.env=(false,eval (.Name x p2) X.env)::starEach [] X.env:=by exact zaO rfl)(hpl:(backTo pos (starEach [.Name x p2] X.env)).any (·.1)=false:=by exact zb0 rfl) :
  DE X E (.Call (.Name "isinstance" p1) [a,.Name x p2] [] pos) (za2 f (zcj T)):=by
 refine⟨?_⟩
 refine zaT (zlm (r:=fun vs H Q=>∃ d v,vs=[v,.ty T]/\Rep X.K H d v/\Q (.bl (tyD d==T||(tyD d=="bool"&&T=="int"))) H) ?_ hgi hmi PyProof.Rows.Boot.«isinstance» (zeY ha.o (zeY (zrm (v:=.ty T) hg hm hv rfl hn hdb) ziD he2) he) (by decide) (by decide) he hpl) fun σ H Q ⟨H₀,ρ,hs,hr,q⟩=>⟨H₀,ρ,hs,hr,?_⟩
 ·intro pins s σ H xs us Q I r h
  obtain⟨d,v,rfl,h1,q⟩:=h
  cases r with
  | cons r1 r2 =>
   cases r2 with
   | cons r3 r4 =>
    cases r4
    rename_i u1 u2
    obtain rfl:u2=Value.type T:=r3
    exact ztM I h1 r1 hk hT fun tk=>⟨.bl _,H,I.tok _,rfl,q⟩
 ·unfold za2 at q
  cases e1:f ρ with
  | stuck=>rw[e1] at q;exact q
  | exn x=>rw[e1] at q;exact q
  | ok d =>
   rw[e1] at q
   intro v H1 H01 g1 r1
   exact⟨d,v,rfl,r1.mono g1.sub,q _ H1 H01 g1 (rb _)⟩
end
theorem znc {prog:Program}{w:World}{A:Around}{E:Value->Shared->Prop}{it t:Addr}{items:Array Value}(hne:t≠it):∀ (n i:Nat) (s:Shared) (Q:List Value->Shared->Prop),s.heap.IsListIter it t i->s.heap.IsList t items->i+n<=items.size ->
  (∀ h',h'.IsListIter it t (i+n)->Heap.SameBut it s.heap h'->Q ((items.toList.drop i).take n) { s with heap:=h' })->wpAny (model prog w) A (draw (.ref it) n) Q E s
 | 0,i,s,Q,hit,_,_,hQ=>by
  show wpAny _ _ (pure []) Q E s
  exact wpAny_pure (by simpa using hQ s.heap hit (Heap.SameBut.refl ..))
 | n+1,i,s,Q,hit,ht,hle,hQ=>by
  have hlt:i < items.size:=by omega
  show wpAny _ _ (pyNext (.ref it) >>= _) Q E s
  refine wpAny_bind (wpAny_pyNext_list_item hit ht (x:=items[i]) (by simp [hlt]) fun h₁ hit₁ hs₁=>?_)
  have ht₁:h₁.IsList t items:=by
   obtain⟨o,k1,k2⟩:=ht
   exact⟨o,(hs₁.2 t hne).trans k1,k2⟩
  refine wpAny_bind (wpAny_holding (znc hne n (i+1) _ _ hit₁ ht₁ (by omega) fun h₂ hit₂ hs₂=>wpAny_pure ?_))
  have hd:items.toList.drop i=items[i]::items.toList.drop (i+1):=by simp [List.drop_eq_getElem_cons,hlt]
  have:=hQ h₂ (by rw[show i+(n+1)=i+1+n by omega];exact hit₂) (hs₁.trans hs₂)
  rw[hd,List.take_succ_cons] at this
  exact this
theorem ziW {prog:Program}{w:World}{A:Around}{E:Value->Shared->Prop}{s:Shared}{t:Addr}{items:Array Value}{Q:List Value->Shared->Prop}(hh:A.handled=none)(ht:s.heap.IsList t items)
  (hQ:∀ h',Heap.ExtBut s.heap.objs.size s.heap h'->Q items.toList { s with heap:=h' }):wpAny (model prog w) A (unpackItems (.ref t) items.size none) Q E s:=by
 have hlt:t≠s.heap.objs.size:=by obtain⟨o,ho,_⟩:=ht;exact Nat.ne_of_lt (Heap.lt_size ho)
 unfold unpackItems
 refine wpAny_bind ?_
 ·unfold notIterableAtAll
  refine wpAny_bind (wpAny_specialOf ht.typeIs slot_list_iter.lookup ?_)
  refine wpAny_pure ?_
  simp only[Bool.false_eq_true,if_false]
  refine wpAny_bind (wpAny_holding (wpAny_pyIter_list ht ?_))
  have ht0:(s.heap.push { cls:=.type "list_iterator",data:=.fields #[.ref t,.int 0 0] }).IsList t items:=by
   obtain⟨o,k1,k2⟩:=ht
   exact⟨o,Heap.get?_push_of_some _ k1,k2⟩
  refine wpAny_bind (wpAny_holding (znc hlt items.size 0 _ _ ⟨_,Heap.get?_push_size _ rfl,rfl,rfl⟩ ht0 (by omega) fun h₁ hit₁ hs₁=>?_))
  have hall:List.take items.size (List.drop 0 items.toList)=items.toList:=by
   rw[List.drop_zero];exact List.take_of_length_le (by simp)
  rw[hall]
  rw[if_neg (by simp)]
  have ht₁:h₁.IsList t items:=by
   obtain⟨o,k1,k2⟩:=ht0
   exact⟨o,(hs₁.2 t hlt).trans k1,k2⟩
  refine wpAny_bind (wpAny_holding (wpAny_pyNext_list_end hh hit₁ ht₁ (by simp) fun h₂ he₂=>?_))
  simp only[Option.isSome_none,Bool.false_eq_true,if_false]
  refine wpAny_pure (hQ h₂ fun b o hb e=>he₂ b o hb (hs₁.extBut b o hb (Heap.get?_push_of_some _ e)))
def zvf (σ:L2.St):List Nat->List V->L2.St
 | i::is,v::vs=>zvf (σ.set i (some v)) is vs
 | _,_=>σ
def zcz (ρ:Ev):List Nat->List D->Ev
 | i::is,d::ds=>zcz (ρ.set i (.sh d)) is ds
 | _,_=>ρ
theorem SRx.putAll {K:W.Frag}{He H0e H₀ H:Hp}:∀ {is:List Nat}{ds:List D}{vs:List V}{σ:L2.St}{ρ:Ev},SRx K He H0e H₀ σ H ρ->Reps K H₀ ds vs->SRx K He H0e H₀ (zvf σ is vs) H (zcz ρ is ds)
 | [],_,_,_,_,h,_=>by unfold zvf zcz;exact h
 | _::_,[],_,_,_,h,r=>by rw[Reps.nil_iff.mp r];unfold zvf zcz;exact h
 | i::is,d::ds,_,_,_,h,r=>by
  obtain⟨v,vs,rfl,h1,h2⟩:=Reps.cons_iff.mp r
  unfold zvf zcz
  exact SRx.putAll (h.put h1) h2
section
variable {X:Cx}{E:XK}{He H0e:Hp}{e a b:Expr}{es:List Expr}{f g:Ev->Res D}{fa:Ev->Res (List D)}{pos:Pos}{is:List Nat}
def tVs (is:List Nat):TGs:=fun vs σ H Q=>vs.length=is.length/\Q (zvf σ is vs) H
theorem zoN {t t':TGs}(h:PGs X es t)(w:∀ vs σ H Q,t' vs σ H Q->t vs σ H Q):PGs X es t':=fun pins s σ H vs us Q I r q=>h pins s σ H vs us Q I r (w vs σ H Q q)
theorem ze2:PGs X [] (tVs []):=zoN zvx fun vs σ H Q ⟨h,q⟩=>by
 have e:vs=[]:=List.length_eq_zero_iff.mp h
 subst e
 exact⟨rfl,q⟩
theorem za4 {i:Nat}{x:Str}{p:Pos}(hN:X.N.Nodup)(hi:X.N[i]?=some x)(hx:Loc X.env.scope x)(h:PGs X es (tVs is))(hf:X.fn x=true∨X.env.scope.names.lookup x=some .local := by first | exact .inl rfl | exact .inr rfl | assumption)
  (hs:(assignEach (.Name x p::es) X.env).map (·.2)=assign (.Name x p) X.env::(assignEach es X.env).map (·.2):=by rfl):PGs X (.Name x p::es) (tVs (i::is)) :=
 zoN (ztq (zrj hN hi hx hf) h hs) fun vs σ H Q ⟨h,q⟩=>by
  cases vs with
  | nil=>simp at h
  | cons v vs=>exact⟨v,vs,rfl,by simpa using h,q⟩
theorem zvy {k:Nat}{t:TGs}{n:Nat}(hc:X.calm=true)(h:PGs X es t)
  (hn:(assignEach es X.env).length=n:=by rfl)(hst:(assignEach es X.env).findIdx? (·.1)=none:=by rfl):PG X (.Tuple es k pos) (fun v σ H Q=>∃ a xs,v=.ref a/\SqL X.K H a xs/\xs.length=n/\t xs σ H Q):=by
 intro pins s σ H v u Q I r hw
 obtain⟨a,xs,e1,hq,hl,hw⟩:=hw
 subst e1
 cases r
 obtain⟨its,rv,ht,hz⟩:=I.list hq
 rw[assign_Tuple]
 refine wpAny_bind (wpAny_standAt ?_)
 unfold unpack
 rw[hn,hst]
 have hsz:n=its.toArray.size:=by rw[List.size_toArray,← rv.length,hl]
 rw[hsz]
 refine wpAny_bind (wpAny_holding (ziW (I.ok.hd hc) ht.isList fun h' hx=>?_))
 have I1:Inv X pins σ H { s with heap:=h' }:=I.kept (t':=s.toks) fun b o e=>hx b o (Nat.ne_of_lt (Heap.lt_size e)) e
 exact h pins _ σ H xs _ Q I1 (by simpa using rv) hw
theorem zy7 {tgt:Expr}{t t':TG}(h:PG X tgt t)(h':PG X tgt t'):PG X tgt (fun v σ H Q=>t v σ H Q∨t' v σ H Q):=fun pins s σ H v u Q I r q=>q.elim (h pins s σ H v u Q I r) (h' pins s σ H v u Q I r)
theorem zxr {k:Nat}(hc:X.calm=true)(h:PGs X es (tVs is))(hn:(assignEach es X.env).length=is.length:=by rfl)(hst:(assignEach es X.env).findIdx? (·.1)=none:=by rfl) :
  PG X (.Tuple es k pos) (fun v σ H Q=>∃ a xs,v=.ref a/\(SqT X.K H a xs∨SqL X.K H a xs)/\xs.length=is.length/\Q (zvf σ is xs) H) :=
 zn1 (zy7 (zxq hc h hn hst) (zvy hc h hn hst)) fun v σ H Q ⟨a,xs,e,hq,hl,q⟩=>hq.elim (fun z=>.inl ⟨a,xs,e,z,hl,hl,q⟩) fun z=>.inr ⟨a,xs,e,z,hl,hl,q⟩
def zeX (n:Nat)(d:D):Option (List D):=match d with
 | .tup ds=>if ds.length=n then some ds else none
 | .lst ds=>if ds.length=n then some ds else none
 | _=>none
theorem zn2 {K:W.Frag}{H:Hp}{n:Nat}{d:D}{ds:List D}{v:V}(h:zeX n d=some ds)(r:Rep K H d v):∃ a vs,v=.ref a/\(SqT K H a vs∨SqL K H a vs)/\vs.length=n/\Reps K H ds vs:=by
 unfold zeX at h
 cases d with
 | tup es =>
  by_cases c:es.length=n
  ·simp only[if_pos c] at h;cases h
   obtain⟨a,vs,rfl,h1,h2⟩:=Rep.tup_iff.mp r
   exact⟨a,vs,rfl,.inl h1,by rw[← h2.length];exact c,h2⟩
  ·simp only[if_neg c] at h;cases h
 | lst es =>
  by_cases c:es.length=n
  ·simp only[if_pos c] at h;cases h
   obtain⟨a,vs,rfl,h1,h2⟩:=Rep.lst_iff.mp r
   exact⟨a,vs,rfl,.inr h1,by rw[← h2.length];exact c,h2⟩
  ·simp only[if_neg c] at h;cases h
 | _=>cases h
theorem zs7 {K:W.Frag}{H H':Hp}{a:Addr}{vs:List V}(hs:zaM H H')(h:SqT K H a vs∨SqL K H a vs):SqT K H' a vs∨SqL K H' a vs:=h.elim (fun z=>.inl (zaM.sqT hs z)) fun z=>.inr (zaM.sqL hs z)
def zAm (is:List Nat)(f:Ev->Res D):Ev->Res Fl:=fun ρ=>(f ρ).bind fun d=>match zeX is.length d with
 | some ds=>.ok (.nx (zcz ρ is ds))
 | none=>.stuck
def zf2 (is:List Nat):Ev->D->Res Ev:=fun ρ d=>match zeX is.length d with
 | some ds=>.ok (zcz ρ is ds)
 | none=>.stuck
theorem zfd:zsy (zf2 is):=fun ρ d=>by
 unfold zf2
 cases zeX is.length d with
 | none=>exact .inl rfl
 | some ds=>exact .inr ⟨_,rfl⟩
theorem zg0 {k:Nat}(hc:X.calm=true)(h:PGs X es (tVs is))(hn:(assignEach es X.env).length=is.length:=by rfl)(hst:(assignEach es X.env).findIdx? (·.1)=none:=by rfl):DG X E He H0e (.Tuple es k pos) (zf2 is) :=
 ⟨zn1 (zxr hc h hn hst) fun v σ H Q ⟨H₀,ρ,d,h,rp,q⟩=>by
  unfold zf2 at q
  cases e1:zeX is.length d with
  | none=>rw[e1] at q;exact q.elim
  | some ds =>
   rw[e1] at q
   obtain⟨a,vs,rfl,k1,k2,k3⟩:=zn2 e1 rp
   exact⟨a,vs,rfl,zs7 h.g.sub k1,k2,q _ H H₀ (zaM.refl _) (h.putAll k3)⟩⟩
def zsF (i j:Nat)(fa:Ev->Res (List D)):Ev->Res Fl:=fun ρ=>(fa ρ).bind fun ds=>match ds with
 | [x,y]=>.ok (.nx ((ρ.set i (.sh x)).set j (.sh y)))
 | _=>.stuck
theorem zyc {i j:Nat}{x y:Str}{px py pt pt2:Pos}{kt k2}(hc:X.calm=true)(hN:X.N.Nodup)(hi:X.N[i]?=some x)(hj:X.N[j]?=some y)(hij:i≠j)
  (hx:X.env.scope.names.lookup x=some .local)(hy:X.env.scope.names.lookup y=some .local)(ha:DA X E [a,b] fa)
  (hw:swappedStores [.Tuple [.Name x px,.Name y py] kt pt] (.Tuple [a,b] k2 pt2) X.env=pure (some [x,y]))
  (hs:swapsWithSole [.Tuple [.Name x px,.Name y py] kt pt] (.Tuple [a,b] k2 pt2) pos.line X.env=pure false:=by rfl) :
  DS X E He H0e (.Assign [.Tuple [.Name x px,.Name y py] kt pt] (.Tuple [a,b] k2 pt2) pos) (zsF i j fa):=by
 refine⟨?_⟩
 refine zcO (zxo hc hN hi hj hij hx hy ha.o hw hs) fun D σ H ⟨H₀,ρ,h,q⟩=>⟨H₀,ρ,h.g.sub,h.rd,?_⟩
 unfold zsF at q
 cases e1:fa ρ with
 | stuck=>rw[e1] at q;exact q
 | exn x=>rw[e1] at q;exact fun C ox H' H₀' g ex=>q C ox H' H₀' (h.g.trans g) ex
 | ok ds =>
  rw[e1] at q
  intro vs H1 H01 g1 r1
  match ds,r1,q with
  | [x,y],r1,q =>
   obtain⟨v,r',rfl,h1,h2⟩:=Reps.cons_iff.mp r1
   obtain⟨u,r'',rfl,h3,h4⟩:=Reps.cons_iff.mp h2
   rw[Reps.nil_iff.mp h4]
   exact⟨v,u,rfl,q _ H1 H01 g1.z (((h.grow g1).put h1).put h3)⟩
  | [],_,q=>exact q.elim
  | [_],_,q=>exact q.elim
  | _::_::_::_,_,q=>exact q.elim
end
theorem zkN {K:W.Frag}:zos K "int":=by
 intro S hS
 simp only[List.mem_cons,List.mem_nil_iff,or_false] at hS
 rcases hS with rfl | rfl | rfl | rfl | rfl | rfl | rfl<;>first | rfl | decide +kernel
theorem zjD {K:W.Frag}:zos K "bool":=by
 intro S hS
 simp only[List.mem_cons,List.mem_nil_iff,or_false] at hS
 rcases hS with rfl | rfl | rfl | rfl | rfl | rfl | rfl<;>first | rfl | decide +kernel
theorem zkM {K:W.Frag}:zos K "str":=by
 intro S hS
 simp only[List.mem_cons,List.mem_nil_iff,or_false] at hS
 rcases hS with rfl | rfl | rfl | rfl | rfl | rfl | rfl<;>first | rfl | decide +kernel
theorem zeJ {K:W.Frag}:zos K "tuple":=by
 intro S hS
 simp only[List.mem_cons,List.mem_nil_iff,or_false] at hS
 rcases hS with rfl | rfl | rfl | rfl | rfl | rfl | rfl<;>first | rfl | decide +kernel
theorem zdi {K:W.Frag}:zos K "list":=by
 intro S hS
 simp only[List.mem_cons,List.mem_nil_iff,or_false] at hS
 rcases hS with rfl | rfl | rfl | rfl | rfl | rfl | rfl<;>first | rfl | decide +kernel
section
variable {X:Cx}{E:XK}{He H0e:Hp}{e a b c:Expr}{f g h:Ev->Res D}{pos:Pos}
theorem dv (i:Nat){x:Str}(hN:X.N[i]?=some x:=by rfl)(hv:Vis X.env.scope x:=by first | exact Or.inl rfl | exact Or.inr (Or.inl rfl) | exact Or.inr (Or.inr rfl))(hd:(x==("__debug__" : Str))=false:=by decide)
  (hcd:(x==("__classdict__" : Str))=false:=by decide):DE X E (.Name x pos) (zaf i):=zyf hN hv hd hcd
def Kon (K:W.Frag)(mg:Str->Option Value)(x:Str)(d:D):Prop:=∃ v u,mg x=some u/\zct v u/\∀ H,Rep K H d v
theorem zaU {x:Str}{d:D}(k:Kon X.K X.mg x d)(hg:Gl X x)(hd:(x==("__debug__" : Str))=false:=by decide):DE X E (.Name x pos) (dC d):=by
 obtain⟨v,u,h1,h2,h3⟩:=k
 exact zwg hg h1 h2 h3 hd
theorem zdh {K:W.Frag}{mg:Str->Option Value}{x:Str}{i:Int}{t:Tok}(h:mg x=some (.int i t)):Kon K mg x (.int i):=⟨.int i,_,h,⟨t,rfl⟩,fun _=>ri _⟩
theorem zvV {K:W.Frag}{mg:Str->Option Value}{x:Str}{i:Str}{t:Tok}(h:mg x=some (.str i t)):Kon K mg x (.str i):=⟨.str i,_,h,⟨t,rfl⟩,fun _=>Rep.str_iff.mpr rfl⟩
theorem zrH {K:W.Frag}{mg:Str->Option Value}{x:Str}{a:Addr}{od:Option Addr}{its:Array Value}{n:Nat}{sl:Array (Option Value)}{ds:List D}{vs:List V}(h:mg x=some (.ref a))(l:K.lookup a=some ⟨.type "tuple",od,.seq its n,sl⟩)
  (hv:zbT vs its.toList)(hz:its.size<=sizeLine)(hd:∀ H,Reps K H ds vs):Kon K mg x (.tup ds):=⟨.ref a,_,h,rfl,fun H=>Rep.tup_iff.mpr ⟨a,vs,rfl,.inr ⟨_,its,n,l,rfl,rfl,hz,hv⟩,hd H⟩⟩
def zgi (op op':D->D->Res D)(f g h:Ev->Res D):Ev->Res D:=fun ρ=>(f ρ).bind fun x=>(g ρ).bind fun y=>(op x y).bind fun z=>match z with
 | .bl true=>(h ρ).bind fun w=>op' y w
 | .bl false=>.ok (.bl false)
 | _=>.stuck
def zop (r:R2)(o:D->D->Res D):Prop:=∀ (K:W.Frag) (x y:D) (v u:V) (H H₀:Hp) (Q:VK) (d:D),zaM H₀ H->Rep K H₀ x v->Rep K H₀ y u->o x y=.ok d->(∀ w,Rep K H₀ d w->Q w H)->r v u H Q
theorem zfk {gv:Int->Int->V}{g:Int->Int->D}(hg:∀ K H i j,Rep K H (g i j) (gv i j)):zop (rI0 gv) (iop (fun _ _=>true) g):=by
 intro K x y v u H H₀ Q d hs r1 r2 e q
 unfold iop at e
 cases x with
 | int i =>
  cases y with
  | int j=>simp only[if_pos] at e;cases e;exact⟨i,j,Rep.int_iff.mp r1,Rep.int_iff.mp r2,q _ (hg _ _ i j)⟩
  | _=>cases e
 | _=>cases e
def zor (o:D->D->Res D):Prop:=∀ x y,∀ z,o x y≠.exn z
theorem zj4 {r r':R2}{o o':D->D->Res D}(p:zop r o)(p':zop r' o')(n:zor o)(n':zor o')(σ:L2.St)(H:Hp)(Q:VK)(q:tD X.K E (zgi o o' f g h) σ H Q) :
  zqP r r' (tD X.K E f) (tD X.K E g) (tD X.K E h) σ H Q:=by
 obtain⟨H₀,ρ,hs,hr,q⟩:=q
 refine⟨H₀,ρ,hs,hr,?_⟩
 unfold zgi at q
 cases e1:f ρ with
 | stuck=>rw[e1] at q;exact q
 | exn x=>rw[e1] at q;exact q
 | ok x =>
  rw[e1] at q
  intro v H1 H01 g1 r1
  refine⟨H01,ρ,g1.sub,hr.mono g1.z,?_⟩
  replace q:=post.grow (r:=(g ρ).bind fun y=>(o x y).bind fun z=>match z with
   | .bl true=>(h ρ).bind fun w=>o' y w
   | .bl false=>.ok (.bl false)
   | _=>.stuck) q g1
  cases e2:g ρ with
  | stuck=>rw[e2] at q;exact q
  | exn x=>rw[e2] at q;exact q
  | ok y =>
   rw[e2] at q
   intro u H2 H02 g2 r2
   replace q:=post.grow (r:=(o x y).bind fun z=>match z with
    | .bl true=>(h ρ).bind fun w=>o' y w
    | .bl false=>.ok (.bl false)
    | _=>.stuck) q g2
   cases e3:o x y with
   | stuck=>rw[e3] at q;exact q.elim
   | exn z=>exact absurd e3 (n x y z)
   | ok z =>
    rw[e3] at q
    refine p X.K x y v u H2 H02 _ z g2.sub (r1.mono g2.z) r2 e3 fun w rw'=>?_
    cases z with
    | bl b =>
     rw[Rep.bl_iff.mp rw']
     refine⟨b,rfl,?_⟩
     cases b with
     | false=>rw[if_neg Bool.false_ne_true];exact q _ H2 H02 (zbn.refl g2.sub) (rb _)
     | true =>
      rw[if_pos rfl]
      refine⟨H02,ρ,g2.sub,(hr.mono g1.z).mono g2.z,?_⟩
      replace q:post X.K E H2 H02 ((h ρ).bind fun w=>o' y w) Q:=q
      cases e4:h ρ with
      | stuck=>rw[e4] at q;exact q
      | exn x=>rw[e4] at q;exact q
      | ok w2 =>
       rw[e4] at q
       intro v3 H3 H03 g3 r3
       replace q:=post.grow (r:=o' y w2) q g3
       cases e5:o' y w2 with
       | stuck=>rw[e5] at q;exact q.elim
       | exn z=>exact absurd e5 (n' y w2 z)
       | ok d =>
        rw[e5] at q
        exact p' X.K y w2 u v3 H3 H03 Q d g3.sub (r2.mono g3.z) r3 e5 fun w3 r5=>q w3 H3 H03 (zbn.refl g3.sub) r5
    | _=>exact q.elim
theorem zt6 {op op':CmpOp}{r r':R2}{o o':D->D->Res D}(ho:OpR X (compareOp op) r)(ho':OpR X (compareOp op') r')(p:zop r o)(p':zop r' o')(n:zor o)(n':zor o')(ha:DE X E a f)(hb:DE X E b g)(hc:DE X E c h)
  (hm:lastMarks [op,op'] [b,c]=false:=by with_unfolding_all rfl):DE X E (.Compare a [op,op'] [b,c] pos) (zgi o o' f g h):=⟨zaT (ztt ho ho' ha.o hb.o hc.o hm) (zj4 p p' n n')⟩
theorem zo6 {op op':CmpOp}{r r':R2}{o o':D->D->Res D}(ho:OpR X (compareOp op) r)(ho':OpR X (compareOp op') r')(p:zop r o)(p':zop r' o')(n:zor o)(n':zor o')(ha:DE X E a f)(hb:DE X E b g)(hc:DE X E c h)
  (hm:lastMarks [op,op'] [b,c]=false:=by with_unfolding_all rfl):DT X E (.Compare a [op,op'] [b,c] pos) (zgi o o' f g h):=by
 refine⟨?_⟩
 refine zlk (ztl ho ho' ha.o hb.o hc.o hm) fun σ H Q q=>?_
 have w:tD X.K E (zgi o o' f g h) σ H fun x H'=>∃ k,x=.bl k/\Q k H':=by
  obtain⟨H₀,ρ,hs,hr,q⟩:=q
  refine⟨H₀,ρ,hs,hr,?_⟩
  cases e1:zgi o o' f g h ρ with
  | stuck=>rw[e1] at q;exact q
  | exn x=>rw[e1] at q;exact q
  | ok d =>
   rw[e1] at q
   intro v H1 H01 g1 r1
   cases d with
   | bl b=>rw[Rep.bl_iff.mp r1];exact⟨b,rfl,q H1 H01 g1⟩
   | _=>exact q.elim
 exact zj4 p p' n n' σ H _ w
theorem zfm {c:Int->Int->Bool}{g:Int->Int->D}:zor (iop c g):=by
 intro x y z
 unfold iop
 cases x<;>cases y<;>simp<;>split<;>simp
end
def zic (i:Nat):Ev->Nat:=fun ρ=>match ρ[i]? with
 | some (.sh (.int j))=>j.natAbs+1
 | _=>0
section
variable {X:Cx}{E:XK}{a b:Expr}{f g:Ev->Res D}{pos:Pos}
def zdl (x y:D):Res D:=match x,y with
 | .int i,.int j=>if zeh i j=true then .ok (.int (i*j)) else .stuck
 | _,_=>.stuck
theorem zeN (ha:DE X E a f)(hb:DE X E b g):DE X E (.BinOp a .Mult b pos) (zac f g zdl):=znd zvD (by
 intro x y v u H H₀ Q hs r1 r2 q
 unfold zdl at q
 cases x with
 | int i =>
  cases y with
  | int j =>
   by_cases h:zeh i j=true
   ·simp only[if_pos h] at q
    exact⟨i,j,Rep.int_iff.mp r1,Rep.int_iff.mp r2,zeh.ok h,zbp hs q (ri _)⟩
   ·simp only[if_neg h] at q;exact q.elim
  | _=>exact q.elim
 | _=>exact q.elim) ha hb
end
def zzp (K:W.Frag)(tg:Ev->D->Res Ev):TG:=fun v σ H Q=>∃ He H0e,tG K He H0e tg v σ H Q
theorem Reps.rep {K:W.Frag}{H:Hp}{ds:List D}{vs:List V}(h:Reps K H ds vs):∀ k:Nat,Reps K H (List.replicate k ds).flatten (List.replicate k vs).flatten
 | 0=>by simp;exact Reps.nil
 | k+1=>by
  rw[List.replicate_succ,List.replicate_succ,List.flatten_cons,List.flatten_cons]
  exact h.app (Reps.rep h k)
section
variable {X:Cx}{E:XK}{a b:Expr}{f g:Ev->Res D}{pos:Pos}
def zuC (x y:D):Res D:=match x,y with
 | .lst ds,.int k=>if ds.length*k.toNat<=line/\-9223372036854775808<=k/\k < 9223372036854775808 then .ok (.lst (List.replicate k.toNat ds).flatten) else .stuck
 | _,_=>.stuck
def zq8 (f g:Ev->Res D):Ev->Res D:=fun ρ=>(f ρ).bind fun x=>match x with
 | .lst ds=>(g ρ).bind fun y=>zuC (.lst ds) y
 | _=>.stuck
theorem zpa (ha:DF X E a f)(hb:DE X E b g):DE X E (.BinOp a .Mult b pos) (zq8 f g):=by
 refine⟨?_⟩
 refine zaT (zvz zxG ha.o hb.o) fun σ H Q ⟨H₀,ρ,hs,hr,q⟩=>⟨H₀,ρ,hs,hr,?_⟩
 unfold zq8 at q
 cases e1:f ρ with
 | stuck=>rw[e1] at q;exact q
 | exn x=>rw[e1] at q;exact q
 | ok x =>
  rw[e1] at q
  cases x with
  | lst ds =>
   replace q:post X.K E H H₀ ((g ρ).bind fun y=>zuC (.lst ds) y) Q:=q
   intro p vs H1 H01 g1 hp h0 hv rp
   refine⟨H01,ρ,g1.sub,hr.mono g1.z,?_⟩
   replace q:=q.grow g1
   cases e2:g ρ with
   | stuck=>rw[e2] at q;exact q
   | exn x=>rw[e2] at q;exact q
   | ok y =>
    rw[e2] at q
    intro u H2 H02 g2 r2
    replace q:=post.grow (r:=zuC (.lst ds) y) q g2
    cases y with
    | int k =>
     unfold zuC at q
     by_cases c:ds.length*k.toNat<=line/\-9223372036854775808<=k/\k < 9223372036854775808
     ·simp only[if_pos c] at q
      refine⟨p,k,vs,rfl,Rep.int_iff.mp r2,g2.s _ _ hv,by omega,by omega,by rw[← rp.length];exact zdg c.1,fun n hn=>?_⟩
      exact q _ _ _ (zbn.alloc g2.sub hn) (Rep.lst_iff.mpr ⟨n,_,rfl,SqL.of zav,((rp.mono g2.z).rep _).mono (zbn.alloc g2.sub hn).z⟩)
     ·simp only[if_neg c] at q;exact q.elim
    | _=>exact q.elim
  | _=>exact q.elim
def zsc (x:D):Res D:=match x with
 | .lst ds=>.ok (.tup ds)
 | .tup ds=>.ok (.tup ds)
 | _=>.stuck
theorem zuc:zkz X E (fun xs H Q=>∃ p ys,xs=[.ref p]/\((SqL X.K H p ys/\∀ l,H l=none->Q (.ref l) (upd H l (.tup ys)))∨(SqT X.K H p ys/\Q (.ref p) H))) (m1 zsc):=zsr fun x v H H₀ Q hs r q=>by
 cases x with
 | lst ds =>
  obtain⟨p,vs,rfl,h1,h2⟩:=Rep.lst_iff.mp r
  exact⟨p,vs,rfl,.inl ⟨zaM.sqL hs h1,fun n hn=>q _ _ _ (zbn.alloc hs hn) (Rep.tup_iff.mpr ⟨n,_,rfl,SqT.of zav,h2.mono (zbn.alloc hs hn).z⟩)⟩⟩
 | tup ds =>
  obtain⟨p,vs,e,h1,h2⟩:=Rep.tup_iff.mp r
  subst e
  exact⟨p,vs,rfl,.inr ⟨zaM.sqT hs h1,zbp hs q r⟩⟩
 | _=>exact q.elim
end
def zgT:List D->Option (List Str)
 | []=>some []
 | .str x::r=>(zgT r).map (x::·)
 | _=>none
theorem zoB {K:W.Frag}{H:Hp}:∀ {ds:List D}{ys:List Str}{vs:List V}{us:List Value},zgT ds=some ys->Reps K H ds vs->zbT vs us->StrsAre us ys
 | [],ys,vs,us,h,r,q=>by
  cases h
  rw[Reps.nil_iff.mp r] at q
  cases q
  exact .nil
 | d::ds,ys,vs,us,h,r,q=>by
  obtain⟨v,r',rfl,h1,h2⟩:=Reps.cons_iff.mp r
  cases q with
  | cons q1 q2 =>
   cases d with
   | str x =>
    unfold zgT at h
    cases e:zgT ds with
    | none=>rw[e] at h;cases h
    | some zs =>
     rw[e] at h
     cases h
     rw[Rep.str_iff.mp h1] at q1
     obtain⟨t,rfl⟩:=q1
     exact .cons _ _ (zoB e h2 q2)
   | _=>cases h
section
variable {X:Cx}{E:XK}{o e:Expr}{fo:Ev->Res D}{fa:Ev->Res (List D)}
def zf6 (z:Str)(ys:List Str):Bool:=decide (z.length<=16)&&decide ((ys.map (·.length)).sum+ys.length<=1048576)
def zy0 (K:W.Frag):V->List V->Hp->VK->Prop:=fun x xs H Q=>∃ z p ds ys,x=.str z/\xs=[.ref p]/\Rep K H (.lst ds) (.ref p)/\zgT ds=some ys/\zf6 z ys=true/\Q (.str (Txt.join z ys)) H
theorem zvS:MtR X "str.join" (zy0 X.K):=by
 intro pins s σ H x xs v us Q I rx rs h
 obtain⟨z,p,ds,ys,rfl,rfl,hr,hy,hf,q⟩:=h
 obtain⟨t,rfl⟩:=rx
 obtain⟨u,rfl,ru⟩:=rs.one
 obtain⟨a,vs,its,ea,rfl,h1,h2,h3,h4,_⟩:=Rep.lst_get I hr ru
 unfold zf6 at hf
 rw[Bool.and_eq_true] at hf
 exact join_listW h4 (by simpa using zoB hy h2 h3) (of_decide_eq_true hf.1) (of_decide_eq_true hf.2) fun t' k=>⟨.str (Txt.join z ys),H,I.tok _,⟨_,rfl⟩,q⟩
def zob (z:Str)(xs:List D):Res D:=match xs with
 | [.lst ds]=>match zgT ds with
  | some ys=>if zf6 z ys=true then .ok (.str (Txt.join z ys)) else .stuck
  | none=>.stuck
 | _=>.stuck
def zsf (fo:Ev->Res D)(fa:Ev->Res (List D)):Ev->Res D:=fun ρ=>(fo ρ).bind fun x=>match x with
 | .str z=>(fa ρ).bind fun xs=>zob z xs
 | _=>.stuck
theorem zwf {apos cpos:Pos}(ho:DE X E o fo)(ha:DA X E [e] fa)
  (hbase:attributeBase o "join" X.env (eval o X.env)=eval o X.env:=by rfl)
  (hfew:((backTo cpos (starEach [e] X.env)).all (fun x=>!x.1)&&(backToKw cpos (keywordEach [] X.env)).all (fun x=>x.1.isSome)
  &&decide ([e].length+([]:List Keyword).length+(if([]:List Keyword).isEmpty then 0 else 1) < 30))=true:=by exact zo2 rfl)
  (hline:(apos.endLine==cpos.line)=true:=by rfl) (hs:starEach [e] X.env=(false,eval e X.env)::starEach [] X.env:=by exact zaO rfl) (hplain:(backTo cpos (starEach [] X.env)).any (·.1)=false:=by exact zb0 rfl) :
  DE X E (.Call (.Attribute o "join" apos) [e] [] cpos) (zsf fo fa):=by
 refine⟨?_⟩
 refine zaT (zxA PySem.F.plainAttrs_str PySem.F.slot_str_join PySem.F.type_str_join zvS ho.o ha.o hbase hfew hline hs hplain) fun σ H Q ⟨H₀,ρ,hs,hr,q⟩=>⟨H₀,ρ,hs,hr,?_⟩
 unfold zsf at q
 cases e1:fo ρ with
 | stuck=>rw[e1] at q;exact q
 | exn x=>rw[e1] at q;exact q
 | ok x =>
  rw[e1] at q
  intro v H1 H01 g1 r1
  cases x with
  | str z =>
   rw[Rep.str_iff.mp r1]
   refine⟨rfl,H01,ρ,g1.sub,hr.mono g1.z,?_⟩
   replace q:=post.grow (r:=(fa ρ).bind fun xs=>zob z xs) q g1
   cases e2:fa ρ with
   | stuck=>rw[e2] at q;exact q
   | exn x=>rw[e2] at q;exact q
   | ok xs =>
    rw[e2] at q
    intro us H2 H02 g2 r2
    replace q:=post.grow (r:=zob z xs) q g2
    unfold zob at q
    match xs,r2,q with
    | [.lst ds],r2,q =>
     obtain⟨w,r',rfl,k1,k2⟩:=Reps.cons_iff.mp r2
     rw[Reps.nil_iff.mp k2]
     obtain⟨p,vs,rfl,k3,k4⟩:=Rep.lst_iff.mp k1
     cases e3:zgT ds with
     | none=>simp only[e3] at q;exact q.elim
     | some ys =>
      simp only[e3] at q
      by_cases c:zf6 z ys=true
      ·rw[if_pos c] at q
       exact⟨z,p,ds,ys,rfl,rfl,k1.mono g2.sub,e3,c,zbp g2.sub q (Rep.str_iff.mpr rfl)⟩
      ·rw[if_neg c] at q;exact q.elim
    | [],_,q=>exact q.elim
    | d1::_::_,_,q=>cases d1<;>exact False.elim q
    | [.non],_,q=>exact q.elim
    | [.bl _],_,q=>exact q.elim
    | [.int _],_,q=>exact q.elim
    | [.str _],_,q=>exact q.elim
    | [.tup _],_,q=>exact q.elim
    | [.dic _ _],_,q=>exact q.elim
    | [.exc _],_,q=>exact q.elim
    | [.ob _ _],_,q=>exact q.elim
  | _=>exact q.elim
end
section
variable {X:Cx}{E:XK}{a:Expr}{f:Ev->Res D}{pos:Pos}
def zAp:V->Option Int->Option Int->Hp->VK->Prop:=fun x lo hi H Q=>∃ z,x=.str z/\z.length<=sizeLine/\Q (.str (Txt.slice z lo hi)) H
theorem zw6:SlR X zAp:=by
 intro pins s σ H x v vl vu lo hi sl Q I rx hs pl pu h
 obtain⟨z,rfl,hz,q⟩:=h
 obtain⟨t,rfl⟩:=rx
 have fin:∀ t' k,EP X pins σ Q (.str (Txt.slice z lo hi) t') { s with toks:=k }:=fun t' k=>⟨.str (Txt.slice z lo hi),H,I.tok _,⟨_,rfl⟩,q⟩
 refine⟨"str",_,PySem.F.slot_str_getitem.lookup,typeIs_str s z t,?_⟩
 cases pl with
 | none =>
  cases pu with
  | none=>exact wpAny_getItem_str_slice (l:=none) (u:=none) (st:=none) hs rfl (post_val_or_str ⟨Nat.le_trans (Txt.slice_le z _ _) hz,fin⟩)
  | int j uj=>exact wpAny_getItem_str_slice (l:=none) (u:=some (j,uj)) (st:=none) hs rfl (post_val_or_str ⟨Nat.le_trans (Txt.slice_le z _ _) hz,fin⟩)
 | int i ui =>
  cases pu with
  | none=>exact wpAny_getItem_str_slice (l:=some (i,ui)) (u:=none) (st:=none) hs rfl (post_val_or_str ⟨Nat.le_trans (Txt.slice_le z _ _) hz,fin⟩)
  | int j uj=>exact wpAny_getItem_str_slice (l:=some (i,ui)) (u:=some (j,uj)) (st:=none) hs rfl (post_val_or_str ⟨Nat.le_trans (Txt.slice_le z _ _) hz,fin⟩)
def zmy (x:D)(l h:Option Int):Res D:=match x with
 | .lst ds=>.ok (.lst (ze6 ds l h))
 | .str z=>if z.length<=line then .ok (.str (Txt.slice z l h)) else .stuck
 | .tup ds=>if HT.sIx ds.length 0 l=0/\HT.sIx ds.length ds.length h=ds.length then .stuck else .ok (.tup (ze6 ds l h))
 | _=>.stuck
def zgQ (f:Ev->Res D)(lo hi:Ev->Res (Option Int)):Ev->Res D:=fun ρ=>(f ρ).bind fun x=>(lo ρ).bind fun l=>(hi ρ).bind fun h=>zmy x l h
theorem zaS {lo hi:Option Expr}{p2:Pos}{fl fh:Ev->Res (Option Int)}(ha:DE X E a f)(hl:DO X E lo fl)(hh:DO X E hi fh):DE X E (.Subscript a (.Slice lo hi none p2) pos) (zgQ f fl fh) :=
 ⟨zaT (ztr (SlR.or zvc (SlR.or zw6 zw5)) ha.o hl.o hh.o) (znQ (m:=zmy) fun x v l h H H₀ Q hs r q=>by
  cases x with
  | lst ds =>
   obtain⟨p,vs,rfl,h1,h2⟩:=Rep.lst_iff.mp r
   exact .inl ⟨p,vs,rfl,zaM.sqL hs h1,fun n hn=>q _ _ _ (zbn.alloc hs hn) (Rep.lst_iff.mpr ⟨n,_,rfl,SqL.of zav,(h2.cut l h).mono (zbn.alloc hs hn).z⟩)⟩
  | str z =>
   unfold zmy at q
   by_cases c:z.length<=line
   ·simp only[if_pos c] at q
    exact .inr (.inl ⟨z,Rep.str_iff.mp r,zdg c,zbp hs q (Rep.str_iff.mpr rfl)⟩)
   ·simp only[if_neg c] at q;exact q.elim
  | tup ds =>
   unfold zmy at q
   by_cases c:HT.sIx ds.length 0 l=0/\HT.sIx ds.length ds.length h=ds.length
   ·simp only[if_pos c] at q;exact q.elim
   ·simp only[if_neg c] at q
    obtain⟨p,vs,rfl,h1,h2⟩:=Rep.tup_iff.mp r
    exact .inr (.inr ⟨p,vs,rfl,zaM.sqT hs h1,by rw[← h2.length];exact c,fun n hn=>q _ _ _ (zbn.alloc hs hn) (Rep.tup_iff.mpr ⟨n,_,rfl,SqT.of zav,(h2.cut l h).mono (zbn.alloc hs hn).z⟩)⟩)
  | _=>exact q.elim)⟩
end
def Its (z:Str):It:=⟨fun i _=>i < z.cps.size,fun i H x H'=>H'=H/\∃ c,z.cps[i]?=some c/\x=.str ⟨#[c]⟩,fun i _=>z.cps.size<=i⟩
theorem zpC {P:Program}{w:World}{K:W.Frag}{tg:Expr}(z:Str)(t:Tok)(it:Addr):zwF P w K tg (Its z) [it] it (fun i h=>h.IsStrIter it "str_ascii_iterator" z t i) where
 mem:=by simp
 obj:=fun i h st b hb=>by
  have e:b=it:=by simpa using hb
  subst e
  obtain⟨o,e,c,d⟩:=st
  exact⟨o,e,fun v z=>by rw[d] at z;cases z⟩
 keep:=fun i h h' st k=>let ⟨o,ho,r⟩:=st;⟨o,k it (by simp) o ho,r⟩
 item:=by
  intro X hP hw hK hc i pins s σ H E I hf st hg
  subst hP hw hK
  have hg':i < z.cps.size:=hg
  obtain⟨f0,f1,f2,f3,f4,f5⟩:=hf it (by simp)
  refine wpAny_pyNext_ascii_item st (c:=z.cps[i]) (by simp [hg']) fun h' st' sb=>?_
  have I1:Inv X pins σ H { s with heap:=h',toks:=s.toks+1 }:=I.turned (t':=s.toks+1) (fun b o hb e=>(sb.2 b hb).trans e) f0 f1 f3 f4 f5
  obtain⟨o,e,c,d⟩:=id st'
  exact⟨_,rfl,ztU (s:={ s with heap:=h',toks:=s.toks+1 }) e c d (by decide) ⟨.str ⟨#[z.cps[i]]⟩,H,I1,⟨_,rfl⟩,⟨rfl,_,by simp [hg'],rfl⟩,st',fun b hb=>(hf b hb).1⟩⟩
 done:=by
  intro X hP hw hK hc i pins s σ H E I hf st hg
  subst hP hw hK
  have hg':z.cps.size<=i:=hg
  obtain⟨f0,f1,f2,f3,f4,f5⟩:=hf it (by simp)
  exact wpAny_pyNext_ascii_end (I.ok.hd hc) st (by simp [hg']) fun h' eb=>⟨rfl,I.turned (t':=s.toks) (fun b o hb e=>eb b o hb e) f0 f1 f3 f4 f5⟩
 self:=fun _ _ _ _ _ st h=>wpAny_pyIter_striter_ascii st h
theorem zqF {P:Program}{w:World}{K:W.Frag}{tg:Expr}(z:Str)(t:Tok)(it:Addr):zwF P w K tg (Its z) [it] it (fun i h=>h.IsStrIter it "str_iterator" z t i) where
 mem:=by simp
 obj:=fun i h st b hb=>by
  have e:b=it:=by simpa using hb
  subst e
  obtain⟨o,e,c,d⟩:=st
  exact⟨o,e,fun v z=>by rw[d] at z;cases z⟩
 keep:=fun i h h' st k=>let ⟨o,ho,r⟩:=st;⟨o,k it (by simp) o ho,r⟩
 item:=by
  intro X hP hw hK hc i pins s σ H E I hf st hg
  subst hP hw hK
  have hg':i < z.cps.size:=hg
  obtain⟨f0,f1,f2,f3,f4,f5⟩:=hf it (by simp)
  refine wpAny_pyNext_wide_item st (c:=z.cps[i]) (by simp [hg']) fun h' st' sb=>?_
  have I1:Inv X pins σ H { s with heap:=h',toks:=s.toks+1 }:=I.turned (t':=s.toks+1) (fun b o hb e=>(sb.2 b hb).trans e) f0 f1 f3 f4 f5
  obtain⟨o,e,c,d⟩:=id st'
  exact⟨_,rfl,ztU (s:={ s with heap:=h',toks:=s.toks+1 }) e c d (by decide) ⟨.str ⟨#[z.cps[i]]⟩,H,I1,⟨_,rfl⟩,⟨rfl,_,by simp [hg'],rfl⟩,st',fun b hb=>(hf b hb).1⟩⟩
 done:=by
  intro X hP hw hK hc i pins s σ H E I hf st hg
  subst hP hw hK
  have hg':z.cps.size<=i:=hg
  obtain⟨f0,f1,f2,f3,f4,f5⟩:=hf it (by simp)
  exact wpAny_pyNext_wide_end (I.ok.hd hc) st (by simp [hg']) fun h' eb=>⟨rfl,I.turned (t':=s.toks) (fun b o hb e=>eb b o hb e) f0 f1 f3 f4 f5⟩
 self:=fun _ _ _ _ _ st h=>wpAny_pyIter_striter_wide st h
def zAx (tl:TE):TI:=fun σ H R=>tl σ H fun x H1=>∃ z,x=.str z/\R (Its z) H1
theorem zxp {X:Cx}{tg l:Expr}{tl:TE}(hl:PE X l tl):PI X tg l (zAx tl):=by
 intro pins s σ H R I h
 refine thn (hl pins s σ H _ I h) fun v s1 ⟨x,H1,I1,r1,q1⟩=>?_
 obtain⟨z,rfl,q⟩:=q1
 obtain⟨t,rfl⟩:=r1
 have fpo:∀ b∈[s1.heap.objs.size],zqe X pins H1 b:=fun b hb=>by
  have e:b=s1.heap.objs.size:=by simpa using hb
  subst e
  exact I1.fpOk (Nat.le_refl _) (I1.hok.fresh (Nat.le_refl _))
 cases ha:z.cps.all (· < 128) with
 | false=>exact wpAny_pyIter_wide ha ⟨s1.heap.objs.size,[s1.heap.objs.size],_,_,H1,rfl,I1.kept (t':=s1.toks) fun b o e=>Heap.get?_push_of_some _ e,zqF z t _,⟨_,Heap.get?_push_size _ rfl,rfl,rfl⟩,fpo,q⟩
 | true=>exact wpAny_pyIter_ascii ha ⟨s1.heap.objs.size,[s1.heap.objs.size],_,_,H1,rfl,I1.kept (t':=s1.toks) fun b o e=>Heap.get?_push_of_some _ e,zpC z t _,⟨_,Heap.get?_push_size _ rfl,rfl,rfl⟩,fpo,q⟩
def ziA (z:Str):List D:=z.cps.toList.map fun c=>.str ⟨#[c]⟩
theorem zh2 (z:Str):(ziA z).length=z.cps.size:=by unfold ziA;simp
section
variable {X:Cx}{E:XK}{He H0e:Hp}{f:Ev->Res D}{s:Ev->Res Fl}{pos:Pos}
end
section
variable {X:Cx}{E:XK}
def zzR (K:W.Frag):List V->Hp->VK->Prop:=fun xs H Q=>∃ (p:Addr) (bs:List Bool),xs=[.ref p]/\SqL K H p (bs.map V.bl)/\Q (.bl (bs.all id)) H
theorem zns:∀ bs:List Bool,(List.range bs.length).all (fun i=>bs.getD i false)=bs.all id
 | []=>rfl
 | b::r=>by
  rw[List.length_cons,List.range_succ_eq_map,List.all_cons,List.all_map,List.all_cons,← zns r]
  rfl
theorem zlQ (hc:X.calm=true):zkg X (.builtin "all") (zzR X.K):=by
 intro pins s σ H xs us Q I r h
 obtain⟨p,bs,rfl,hq,q⟩:=h
 obtain⟨u,rfl,rx⟩:=zqD r
 cases rx
 obtain⟨its,rv,pl,hz⟩:=I.list hq
 have hlen:=rv.length
 rw[List.length_map] at hlen
 have hne:p≠s.heap.objs.size:=Nat.ne_of_lt pl.lt
 refine call_all_walk (wpAny_pyIter_list pl.isList ?_)
 have pl2:(s.heap.push { cls:=.type "list_iterator",data:=.fields #[.ref p,.int 0 0] }).IsList p its.toArray:=by
  obtain⟨o,k1,k2⟩:=pl.isList
  exact⟨o,Heap.get?_push_of_some _ k1,k2⟩
 refine⟨s.heap.objs.size,_,_,_,_,_,fun i=>bs.getD i false,rfl,Walks.list (A:=X.A.in1) (I.ok.hd hc) s.heap.objs.size p hne its.toArray,⟨⟨_,Heap.get?_push_size _ rfl,rfl,rfl⟩,pl2⟩,?_,fun h' tk hk=>?_⟩
 ·intro i v s' Q' E' hv hQ
  have hv':its[i]?=some v:=by simpa using hv
  have hi:i < its.length:=(List.getElem?_eq_some_iff.mp hv').1
  obtain⟨w,e1,e2⟩:=rv.get (show(bs.map V.bl)[i]?=some (V.bl (bs.getD i false)) by
   rw[List.getElem?_map,List.getElem?_eq_getElem (by omega)]
   simp [List.getD,List.getElem?_eq_getElem (show i < bs.length by omega)])
  rw[hv'] at e1
  cases e1
  obtain rfl:v=Value.bool _:=e2
  exact wpAny_truthy_bool hQ
 ·have hall:(List.range its.toArray.size).all (fun i=>bs.getD i false)=bs.all id:=by
   rw[List.size_toArray,← hlen]
   exact zns bs
  rw[hall]
  exact⟨.bl _,H,I.kept (t':=tk) (fun b o e=>hk b o (by simp only[List.mem_singleton];exact Nat.ne_of_lt (Heap.lt_size e)) (Heap.get?_push_of_some _ e)),rfl,q⟩
def zet:List D->Option (List Bool)
 | []=>some []
 | .bl b::r=>(zet r).map (b::·)
 | _=>none
theorem znm {K:W.Frag}{H:Hp}:∀ {ds:List D}{bs:List Bool}{vs:List V},zet ds=some bs->Reps K H ds vs->vs=bs.map V.bl
 | [],bs,vs,h,r=>by cases h;exact Reps.nil_iff.mp r
 | d::ds,bs,vs,h,r=>by
  obtain⟨v,r',rfl,h1,h2⟩:=Reps.cons_iff.mp r
  cases d with
  | bl x =>
   unfold zet at h
   cases e:zet ds with
   | none=>rw[e] at h;cases h
   | some zs =>
    rw[e] at h
    cases h
    rw[Rep.bl_iff.mp h1,znm e h2]
    rfl
  | _=>cases h
def zwk (x:D):Res D:=match x with
 | .lst ds=>match zet ds with
  | some bs=>.ok (.bl (bs.all id))
  | none=>.stuck
 | _=>.stuck
theorem zso:zkz X E (zzR X.K) (m1 zwk):=zsr fun x v H H₀ Q hs r q=>by
 cases x with
 | lst ds =>
  unfold zwk at q
  obtain⟨p,vs,rfl,h1,h2⟩:=Rep.lst_iff.mp r
  cases e:zet ds with
  | none=>simp only[e] at q;exact q.elim
  | some bs =>
   simp only[e] at q
   exact⟨p,bs,rfl,by rw[← znm e h2];exact zaM.sqL hs h1,zbp hs q (rb _)⟩
 | _=>exact q.elim
end
theorem Rep.dic_iff {K:W.Frag}{H:Hp}{ks:List Str}{ds:List D}{v:V}:Rep K H (.dic ks ds) v↔∃ a kvs vs,v=.ref a/\Rd H a (.dK kvs)/\kvs=(ks.map Sum.inr).zip vs/\ks.length=vs.length/\Reps K H ds vs:=by rw[Rep]
section
variable {X:Cx}{E:XK}{e:Expr}{f:Ev->Res D}{pos p1:Pos}
theorem zwh:DE X E (.Dict [] [] pos) (dC (.dic [] [])):=by
 refine⟨?_⟩
 refine zaT zts fun σ H Q ⟨H₀,ρ,hs,hr,q⟩ p hp=>?_
 exact q _ _ _ (zbn.alloc hs hp) (Rep.dic_iff.mpr ⟨p,[],[],rfl,.inl zav,rfl,rfl,Reps.nil⟩)
def dOne (x:Str)(d:D):Res D:=.ok (.dic [x] [d])
end
def zky (cells:List (Str×Addr)):List (Str×NameKind)->List (Str×Addr)->List (Str×Addr)
 | [],acc=>acc
 | (n,k)::r,acc=>if(k==NameKind.free)=true then zky cells r ((n,(cells.lookup n).getD 0)::acc) else zky cells r acc
theorem zlL {scope:Scope}{env:PySem.Env}(h:∀ x∈scope.names,x.2=.free->∃ c,env.cells.lookup x.1=some c):closureFor scope env=pure (zky env.cells scope.names []):=by
 simp only[closureFor]
 have key:∀ (names:List (Str×NameKind)) (acc:List (Str×Addr)),(∀ x∈names,x.2=.free->∃ c,env.cells.lookup x.1=some c) ->
   (forIn names acc fun(x:Str×NameKind) (z:List (Str×Addr)) =>
      if(x.snd==NameKind.free)=true then do
       let y ← cellOf env x.fst
       pure (ForInStep.yield ((x.fst,y)::z))
      else(pure (ForInStep.yield z):Sem _))=pure (zky env.cells names acc):=by
  intro names
  induction names with
  | nil=>intro acc _;rfl
  | cons x r ih =>
   intro acc hh
   obtain⟨n,k⟩:=x
   rw[List.forIn_cons]
   by_cases hk:(k==NameKind.free)=true
   ·obtain⟨c,hc⟩:=hh (n,k) List.mem_cons_self (by simpa using hk)
    have hcell:cellOf env n=pure c:=by unfold cellOf;rw[show env.cells.lookup n=some c from hc]
    simp only[hk,if_true]
    rw[hcell]
    have:=ih ((n,c)::acc) (fun y hy=>hh y (List.mem_cons_of_mem _ hy))
    rw[show zky env.cells ((n,k)::r) acc=zky env.cells r ((n,c)::acc) by
     show(if(k==NameKind.free)=true then _ else _)=_
     rw[if_pos hk,show env.cells.lookup n=some c from hc];rfl]
    rw[← this]
    rfl
   ·have:=ih acc (fun y hy=>hh y (List.mem_cons_of_mem _ hy))
    rw[if_neg hk]
    rw[show zky env.cells ((n,k)::r) acc=zky env.cells r acc by
     show(if(k==NameKind.free)=true then _ else _)=_
     rw[if_neg hk]]
    rw[← this]
    rfl
 rw[key _ _ h]
 rfl
theorem zlM {cells:List (Str×Addr)}:∀ {names:List (Str×NameKind)}{acc:List (Str×Addr)}{x:Str}{c:Addr},(∀ y∈names,y.2=.free->∃ c,cells.lookup y.1=some c) ->
  (zky cells names acc).lookup x=some c->acc.lookup x=some c∨cells.lookup x=some c
 | [],acc,x,c,_,h=>.inl h
 | (n,k)::r,acc,x,c,hh,h=>by
  unfold zky at h
  by_cases hk:(k==NameKind.free)=true
  ·rw[if_pos hk] at h
   obtain⟨d,hd⟩:=hh (n,k) List.mem_cons_self (by simpa using hk)
   rcases zlM (fun y hy=>hh y (List.mem_cons_of_mem _ hy)) h with h | h
   ·rw[List.lookup_cons] at h
    cases e:x==n with
    | true =>
     rw[e] at h
     rw[show cells.lookup n=some d from hd] at h
     cases h
     rw[eq_of_beq e];exact .inr hd
    | false=>rw[e] at h;exact .inl h
   ·exact .inr h
  ·rw[if_neg hk] at h
   exact zlM (fun y hy=>hh y (List.mem_cons_of_mem _ hy)) h
theorem zjx {α:Type}{x:Str}:∀ {l:List (Str×α)},(∃ v,(x,v)∈l)->∃ v,l.lookup x=some v
 | [],⟨v,h⟩=>by cases h
 | (n,w)::r,⟨v,h⟩=>by
  rw[List.lookup_cons]
  cases e:x==n with
  | true=>exact⟨w,rfl⟩
  | false =>
   rcases List.mem_cons.mp h with h | h
   ·cases h;simp at e
   ·exact zjx ⟨v,h⟩
theorem zlO {cells:List (Str×Addr)}{x:Str}{c:Addr}:∀ {names:List (Str×NameKind)}{acc:List (Str×Addr)},(x,c)∈acc->(x,c)∈zky cells names acc
 | [],acc,h=>h
 | (n,k)::r,acc,h=>by
  unfold zky
  by_cases hk:(k==NameKind.free)=true
  ·rw[if_pos hk];exact zlO (List.mem_cons_of_mem _ h)
  ·rw[if_neg hk];exact zlO h
theorem zlN {cells:List (Str×Addr)}{x:Str}:∀ {names:List (Str×NameKind)}{acc:List (Str×Addr)},(x,NameKind.free)∈names->∃ c,(zky cells names acc).lookup x=some c:=by
 intro names
 induction names with
 | nil=>intro acc h;cases h
 | cons y r ih =>
  intro acc h
  obtain⟨n,k⟩:=y
  unfold zky
  rcases List.mem_cons.mp h with h | h
  ·cases h
   rw[if_pos (by rfl)]
   exact zjx ⟨_,zlO List.mem_cons_self⟩
  ·by_cases hk:(k==NameKind.free)=true
   ·rw[if_pos hk];exact ih h
   ·rw[if_neg hk];exact ih h
def zfs (X:Cx)(N:List Str)(scope:Scope)(s:Shared)(H:Hp)(C:Addr)(fp:List Addr)(pn:List (Addr×Obj)):Cx :=
 { X with N:=N,s₀:=s,H₀:=H,env:=compEnvC scope (zky X.env.cells scope.names []) C X.env,outer:=X.stack,stack:=X.stack,ex:=fp,fn:=fun _=>false,pn:=pn,xe:=fun _ _=>False }
def zlV (n:Nat)(fr:List Nat)(σ:L2.St):L2.St:=List.replicate n none++fr.map fun(i:Nat)=>(σ[i]?).getD none
def zyu (X:Cx)(N:List Str)(n:Nat)(fr:List Nat)(scope:Scope):Prop :=
 N.length=n+fr.length/\((N.drop n).zip fr).all (fun p=>X.N[p.2]?==some p.1&&X.env.scope.names.lookup p.1==some .cell&&scope.names.lookup p.1==some .free&&(relabel scope X.env).names.lookup p.1==some .cell)=true
theorem zyu.at {X:Cx}{N:List Str}{n:Nat}{fr:List Nat}{scope:Scope}(h:zyu X N n fr scope){k:Nat}{x:Str}{v:V}{σ:L2.St}(hx:N[k]?=some x)(hv:(zlV n fr σ)[k]?=some (some v)) :
  ∃ i:Nat,X.N[i]?=some x/\σ[i]?=some (some v)/\X.env.scope.names.lookup x=some .cell/\scope.names.lookup x=some .free/\(relabel scope X.env).names.lookup x=some .cell:=by
 unfold zlV at hv
 by_cases hk:k < n
 ·rw[List.getElem?_append_left (by simpa using hk),List.getElem?_replicate,if_pos hk] at hv
  cases hv
 ·rw[List.getElem?_append_right (by simpa using hk),List.length_replicate,List.getElem?_map] at hv
  cases hi:fr[k-n]? with
  | none=>rw[hi] at hv;cases hv
  | some i =>
   rw[hi] at hv
   have hz:((N.drop n).zip fr)[k-n]?=some (x,i):=by
    rw[List.getElem?_zip_eq_some]
    exact⟨by rw[List.getElem?_drop,show n+(k-n)=k by omega];exact hx,hi⟩
   have:=List.all_eq_true.mp h.2 _ (List.mem_of_getElem? hz)
   simp only[Bool.and_eq_true,beq_iff_eq] at this
   refine⟨i,this.1.1.1,?_,this.1.1.2,this.1.2,this.2⟩
   simp only[Option.map_some,Option.some.injEq] at hv
   cases hs:σ[i]? with
   | none=>rw[hs] at hv;cases hv
   | some u=>rw[hs] at hv;exact congrArg some hv
def PIf (X:Cx)(ifs:List Expr)(t:TT):Prop :=
 ∀ (pins:List (Addr×Obj)) (s:Shared) (σ:L2.St) (H:Hp) (Q:Bool->Hp->Prop),Inv X pins σ H s->t σ H Q ->
  wpAny (model X.prog X.w) X.A (forIn ifs true fun c r=>if r=true then do let ok ← isTrue c X.env (eval c X.env);pure (ForInStep.yield ok) else pure (ForInStep.yield r)) (TP X pins σ Q) X.xe s
def zz6:TT:=fun _ H Q=>Q true H
theorem zvv {X:Cx}:PIf X [] zz6:=fun _ _ _ H _ I h=>wpAny_tests_nil ⟨H,I,h⟩
theorem zvu {X:Cx}{c:Expr}{t:TT}(h:PT X c t):PIf X [c] t:=fun pins s σ H Q I q=>wpAny_tests_one (h pins s σ H Q I q)
theorem zkx {prog:Program}{w:World}{A:Around}{R:Result->Shared->Prop}{s:Shared}{elt target iter:Expr}{ifs:List Expr}{scope:Scope}{pos:Pos}{it acc:Value}{env:PySem.Env}(I:Nat->Shared->Prop)
  (turn:∀ n s,I n s->wpAny (model prog w) A (pyNext it) (fun r s₁=>match r with
   | none=>R (.ok .next) s₁
   | some v=>wpAny (model prog w) A (letOwnedTupleGo target it v) (fun _ s₁'=>wpAny (model prog w) A (assign target env v) (fun _ s₂ =>
     wpAny (model prog w) A (forIn ifs true fun c r=>if r=true then do let ok ← isTrue c env (eval c env);pure (ForInStep.yield ok) else pure (ForInStep.yield r)) (fun ok s₃ =>
      if ok=true then wpAny (model prog w) A (eval elt env) (fun x s₄ =>
       wpAny (model prog w) A (call (.builtin "list.append") [acc,x]) (fun _ s₅=>∃ m,m < n/\I m s₅) (fun _ _=>False) s₄) (fun _ _=>False) s₃
      else ∃ m,m < n/\I m s₃) (fun _ _=>False) s₂) (fun _ _=>False) s₁') (fun _ _=>False) s₁) (fun _ _=>False) s)
  (n:Nat) (h:I n s) :
  codeAny (model prog w) A (.compLoop (.ListComp elt [⟨target,iter,ifs,0⟩] scope pos) 0 it acc env) R s:=by
 refine codeAny_loop rfl I (fun n s hI=>?_) n h
 show wpAny _ A ((compTurn (.ListComp elt [⟨target,iter,ifs,0⟩] scope pos) 0 it acc env).onRaise (fun x=>do noteFrame x env;theTreesLotGoes x)) _ _ s
 refine wpAny_noted ?_
 rw[compTurn_list]
 refine wpAny_bind (wpAny_standAt (wpAny_bind (wpAny_mono (turn n s hI) (fun r s₁ h₁=>?_) fun _ _ h'=>h'.elim)))
 cases r with
 | none=>exact wpAny_pure h₁
 | some v =>
  refine wpAny_bind (wpAny_mono h₁ (fun _ s₁' h₁'=>?_) fun _ _ h'=>h'.elim)
  refine wpAny_bind (wpAny_mono h₁' (fun _ s₂ h₂=>wpAny_bind (wpAny_mono h₂ (fun ok s₃ h₃=>?_) fun _ _ h'=>h'.elim)) fun _ _ h'=>h'.elim)
  cases ok with
  | false=>exact wpAny_pure ⟨rfl,h₃⟩
  | true =>
   exact wpAny_bind (wpAny_bind (wpAny_mono h₃ (fun x s₄ h₄=>wpAny_bind (wpAny_mono h₄ (fun _ s₅ h₅=>wpAny_pure (wpAny_pure ⟨rfl,h₅⟩)) fun _ _ h'=>h'.elim)) fun _ _ h'=>h'.elim))
def zqO (n:Nat)(fr:List Nat)(g:TG)(tt:TT)(te:TE)(J:It)(σ:L2.St)(H1:Hp)(Q:VK):Prop:=∀ D,H1 D=none->∃ W:Nat->Nat->List V->L2.St->Hp->Prop,(∃ m,W 0 m [] (zlV n fr σ) (upd H1 D (.lst []))) /\
 ∀ i m ys σ' H',W i m ys σ' H'->H' D=some (.lst ys)/\((J.stop i H'/\Q (.ref D) H')∨(J.go i H'/\ys.length < sizeLine/\∀ x H2,J.yld i H' x H2->g x σ' H2 fun σ3 H3=>tt σ3 H3 fun b H4 =>
  if b=true then te σ3 H4 fun y H5=>H5 D=some (.lst ys)/\∃ m',m' < m/\W (i+1) m' (ys++[y]) σ3 (upd H5 D (.lst (ys++[y])))
  else ∃ m',m' < m/\W (i+1) m' ys σ3 H4))
theorem zsk {X:Cx}{tg iter elt:Expr}{ifs:List Expr}{scope:Scope}{pos:Pos}{N:List Str}{n:Nat}{fr:List Nat}{g:TG}{tt:TT}{te:TE}(hc:X.calm=true)(hfr:zyu X N n fr scope)
  (hcell:∀ x∈scope.names,x.2≠.cell)(hfree:∀ x∈scope.names,x.2=.free->X.env.scope.names.lookup x.1=some .cell)(hkind:scope.kind=.function)
  (blk:∀ s H C fp pn,PG (zfs X N scope s H C fp pn) tg g/\PIf (zfs X N scope s H C fp pn) ifs tt/\PE (zfs X N scope s H C fp pn) elt te)
  {pins:List (Addr×Obj)}{σ:L2.St}{s2:Shared}{Q:VK}{itv:Value}{RR:Value->Addr->Result->Shared->Prop}
  (h2:PIE X pins σ tg (fun J H1=>zqO n fr g tt te J σ H1 Q) itv s2)
  (fin:∀ (Da C:Addr) (s6:Shared) (H5:Hp) (m:Str->Option Value),Inv X pins σ H5 s6->s6.heap.Ns C m->zqe X pins H5 C->Q (.ref Da) H5->RR (.ref Da) C (.ok .next) s6) :
  wpAny (model X.prog X.w) X.A (newList []) (fun acc s₃=>wpAny (model X.prog X.w) X.A (newFunctionEnv scope X.env.globals (zky X.env.cells scope.names []) [] X.env.qual none .none (some X.env)) (fun cenv s₄ =>
   codeAny (model X.prog X.w) X.A (.compStart (.ListComp elt [⟨tg,iter,ifs,0⟩] scope pos) 0 itv acc { cenv with scope:=relabel scope X.env }) (RR acc cenv.locals) s₄) X.xe s₃) X.xe s2:=by
 obtain⟨it,fp,tn,J,H2,e,I2,T,st2,f2,q⟩:=h2
 subst e
 have hD:H2 s2.heap.objs.size=none:=I2.fresh
 refine wpAny_newObj_type ?_
 have I3:Inv X pins σ (upd H2 s2.heap.objs.size (.lst [])) { s2 with heap:=s2.heap.push { cls:=.type "list",data:=.seq ([]:List Value).toArray } }:=I2.lnew (t':=s2.toks) (its:=[]) .nil (Nat.zero_le _)
 obtain⟨W,⟨m0,w0⟩,turn⟩:=q s2.heap.objs.size hD
 generalize hs3:({ s2 with heap:=s2.heap.push { cls:=.type "list",data:=.seq ([]:List Value).toArray } }:Shared)=s3 at I3 ⊢
 have hs3h:s3.heap=s2.heap.push { cls:=.type "list",data:=.seq ([]:List Value).toArray }:=by rw[← hs3]
 have hDs:s2.heap.objs.size < s3.heap.objs.size:=by rw[hs3h,Heap.size_push];exact Nat.lt_succ_self _
 have fpl:∀ b∈fp,b < s2.heap.objs.size:=fun b hb=>by
  obtain⟨o,ho,_⟩:=T.obj _ _ st2 b hb
  exact Heap.lt_size ho
 have kept3:∀ b o,s2.heap.get? b=some o->s3.heap.get? b=some o:=fun b o e=>by rw[hs3h];exact Heap.get?_push_of_some _ e
 have st3:tn 0 s3.heap:=T.keep _ _ _ st2 fun b _ o e=>kept3 b o e
 generalize hDa:s2.heap.objs.size=Da at *
 generalize hH3:upd H2 Da (.lst [])=H3 at *
 have fr3:∀ b∈fp,H3 b=none:=fun b hb=>by rw[← hH3,zaw (Nat.ne_of_lt (fpl b hb))];exact(f2 b hb).1
 have cls:∀ x c,(zky X.env.cells scope.names []).lookup x=some c->X.env.cells.lookup x=some c:=fun x c e=>by
  rcases zlM (fun y hy hf=>I3.ok.has y.1 (.inl (hfree y hy hf))) e with e | e
  ·cases e
  ·exact e
 refine wpAny_newFunctionEnv hcell (by intro y hy;simp at hy) (fun h4 ns4 sb4=>?_) hkind
 have k4:∀ b o,s3.heap.get? b=some o->h4.get? b=some o:=fun b o e=>(sb4.2 b (Nat.ne_of_lt (Heap.lt_size e))).trans (Heap.get?_push_of_some _ e)
 generalize hC:s3.heap.objs.size=C at *
 have hCn:H3 C=none:=I3.hok.fresh (by rw[hC];exact Nat.le_refl _)
 have ltC:∀ b o,s3.heap.get? b=some o->b≠C:=fun b o e=>by rw[← hC];exact Nat.ne_of_lt (Heap.lt_size e)
 have cellC:∀ x c,X.env.cells.lookup x=some c->c≠C:=fun x c e=>by
  obtain⟨v,o,ho,_⟩:=I3.cell x c e
  exact ltC c o ho
 have fpC:∀ b∈fp,b≠C:=fun b hb=>by
  have:=fpl b hb
  exact Nat.ne_of_lt (Nat.lt_trans this hDs)
 show codeAny (model X.prog X.w) X.A (.compStart (.ListComp elt [⟨tg,iter,ifs,0⟩] scope pos) 0 (.ref it) (.ref Da) (compEnvC scope (zky X.env.cells scope.names []) C X.env)) _ _
 generalize hs4:({ s3 with heap:=h4,toks:=s3.toks+([]:List (Str×Value)).length }:Shared)=s4
 have hs4h:s4.heap=h4:=by rw[← hs4]
 have ok:(zfs X N scope s3 H3 C fp (X.pn++pins)).Ok:=by
  refine⟨I3.ok.mod,hkind,I3.ok.glob,I3.ok.blt,Nat.le_of_eq hC,fun x y c e1 e2=>I3.ok.inj x y c (cls x c e1) (cls y c e2),fun x e=>?_,fun x c e=>?_,fun _=>I3.ok.hd hc,I3.ok.frames,.inl rfl,fun b hb=>⟨fpC b hb,fun x c e=>(f2 b hb).2.2.2.2.1 x c (cls x c e)⟩,I3.bs,Nat.le_trans I3.ok.bsz I3.sz,fun b o e hb=>?_,fun b hb z=>?_,I3.stack,I3.stkFree⟩
  ·have mm:∀ k:NameKind,(relabel scope X.env).names.lookup x=some k->(k=.cell∨k=.free)->(x,NameKind.free)∈scope.names:=fun k hk hk2=>by
    have hm:=PySem.mem_of_lookup hk
    obtain⟨⟨n',k'⟩,hm1,hm2⟩:=List.mem_map.mp hm
    dsimp only at hm2
    split at hm2
    ·rename_i hcnd
     cases hm2
     simp only[Bool.and_eq_true,beq_iff_eq] at hcnd
     rw[hcnd.1.1] at hm1
     exact hm1
    ·cases hm2
     rcases hk2 with rfl | rfl
     ·exact absurd rfl (hcell _ hm1)
     ·exact hm1
   rcases e with e | e
   ·exact zlN (mm _ e (.inl rfl))
   ·exact zlN (mm _ e (.inr rfl))
  ·cases e
  ·rcases(f2 b hb).2.2.2.1 with z | z
   ·exact I3.ok.noex b o e z
   ·exact absurd (Nat.lt_of_lt_of_le (Heap.lt_size e) (Nat.le_trans I3.ok.bsz z)) (Nat.lt_irrefl _)
  ·rcases List.mem_cons.mp (I3.stkSub b z) with z | z
   ·exact(f2 b hb).2.1 z
   ·exact(f2 b hb).2.2.1 z
 have I4:Inv (zfs X N scope s3 H3 C fp (X.pn++pins)) [] (zlV n fr σ) H3 s4:=by
  refine⟨ok,by rw[← hs4];rfl,by rw[← hs4];exact I3.bare,by rw[hs4h];exact Un.kept k4,⟨_,by rw[hs4h];exact ns4,fun i x v h1 h2 h3=>?_⟩,fun x c e=>?_,hCn,fun x c e=>I3.freeC x c (cls x c e),fun p hp=>?_,by rw[hs4h];exact I3.hok.kept k4,?_⟩
  ·obtain⟨j,j1,j2,j3,j4,j5⟩:=hfr.at h1 h2
   obtain⟨m,hn,hl⟩:=I3.loc
   obtain⟨u,ru,l⟩:=hl j x v j1 j2 (.inr (.inl j3))
   refine⟨u,ru,.inr ⟨.inl j5,?_⟩⟩
   rcases l with⟨z,_⟩ | ⟨_,c,z1,z2⟩
   ·rw[show X.env.kindOf x=X.env.scope.names.lookup x from rfl,j3] at z;cases z
   ·obtain⟨c',hc'⟩:=zlN (cells:=X.env.cells) (names:=scope.names) (acc:=[]) (PySem.mem_of_lookup j4)
    have:=cls x c' hc'
    rw[z1] at this;cases this
    obtain⟨oc,q1,q2⟩:=z2
    exact⟨c,hc',oc,by rw[hs4h];exact k4 _ _ q1,q2⟩
  ·obtain⟨v,oc,q1,q2⟩:=I3.cell x c (cls x c e)
   exact⟨v,oc,by rw[hs4h];exact k4 _ _ q1,q2⟩
  ·rw[List.append_nil] at hp
   obtain⟨p1,p2,p3,p4,p5⟩:=I3.pin p hp
   refine⟨by rw[hs4h];exact k4 _ _ p1,p2,ltC _ _ p1,fun z=>?_,p5⟩
   rcases List.mem_cons.mp (I3.stkSub _ z) with z | z
   ·exact p3 z
   ·exact p4 z
  ·show(zlV n fr σ).length=N.length
   unfold zlV
   rw[List.length_append,List.length_replicate,List.length_map,hfr.1]
 have st4:tn 0 s4.heap:=by rw[hs4h];exact T.keep _ _ _ st3 fun b _ o e=>k4 b o e
 have stat:∀ {H':Hp},(∀ b∈fp,H' b=none)->∀ b∈fp,zqe (zfs X N scope s3 H3 C fp (X.pn++pins)) [] H' b:=fun hn b hb=>by
  refine⟨hn b hb,fpC b hb,fun z=>?_,.inl hb,fun x c e=>(f2 b hb).2.2.2.2.1 x c (cls x c e),fun p hp=>?_⟩
  ·rcases List.mem_cons.mp (I3.stkSub b z) with z | z
   ·exact(f2 b hb).2.1 z
   ·exact(f2 b hb).2.2.1 z
  ·rw[List.append_nil] at hp
   exact(f2 b hb).2.2.2.2.2 p hp
 have loop:codeAny (model X.prog X.w) X.A (.compLoop (.ListComp elt [⟨tg,iter,ifs,0⟩] scope pos) 0 (.ref it) (.ref Da) (compEnvC scope (zky X.env.cells scope.names []) C X.env)) (RR (.ref Da) C) s4:=by
  refine zkx (fun n s'=>∃ i ys σ' H',Inv (zfs X N scope s3 H3 C fp (X.pn++pins)) [] σ' H' s'/\tn i s'.heap/\(∀ b∈fp,H' b=none)/\W i n ys σ' H') ?_ m0 ⟨0,[],_,H3,I4,st4,fr3,w0⟩
  rintro k s5 ⟨i,ys,σ5,H5,I5,st5,fr5,w5⟩
  obtain⟨hDl,ways⟩:=turn i k ys σ5 H5 w5
  rcases ways with⟨stop,fin'⟩ | ⟨go,hz,step⟩
  ·refine thn (T.done (zfs X N scope s3 H3 C fp (X.pn++pins)) rfl rfl rfl hc i [] s5 σ5 H5 (fun _ _=>False) I5 (stat fr5) st5 stop) fun r s6 ⟨hr,I6⟩=>?_
   subst hr
   obtain⟨mm,nsm,_⟩:=I6.loc
   have free6:H5 C=none:=I6.free
   have hok:HOk X.prog X.w H5 s6.heap:=I6.hok
   have un:Un (frs X.stack) fp H3 H5 s3.heap s6.heap:=I6.base
   have IX:Inv X pins σ H5 s6:=I3.call' (s':=s6) (ch:=fp) I6.os un hok I6.bare (fun b hb=>⟨(f2 b hb).2.2.2.1,(f2 b hb).2.1,(f2 b hb).2.2.2.2.1,(f2 b hb).2.2.2.2.2⟩)
   have fC:zqe X pins H5 C:=I3.fpOk (b:=C) (H':=H5) (by rw[hC];exact Nat.le_refl _) free6
   exact fin Da C s6 H5 mm IX nsm fC fin'
  ·refine thn (T.item (zfs X N scope s3 H3 C fp (X.pn++pins)) rfl rfl rfl hc i [] s5 σ5 H5 (fun _ _=>False) I5 (stat fr5) st5 go) fun r s6 ⟨u,hr,h6⟩=>?_
   subst hr
   refine thn h6 fun _ s7 ⟨x,H7,I7,r7,y7,st7,fr7⟩=>?_
   have I7':=I7.pinned (stat fr7) (T.obj _ _ st7)
   refine thn ((blk s3 H3 C fp (X.pn++pins)).1 _ s7 σ5 H7 x u _ I7' r7 (step x H7 y7)) fun _ s8 ⟨σ8,H8,I8,q8⟩=>?_
   refine thn ((blk s3 H3 C fp (X.pn++pins)).2.1 _ s8 σ8 H8 _ I8 q8) fun b s8b ⟨H8b,I8b,q8b⟩=>?_
   have back:∀ {σ':L2.St}{H':Hp}{s':Shared},L2.Inv (zfs X N scope s3 H3 C fp (X.pn++pins)) (([]:List (Addr×Obj))++zmJ fp s7.heap) σ' H' s'->tn (i+1) s'.heap/\∀ b∈fp,H' b=none:=fun {σ' H' s'} I'=>by
    refine⟨T.keep _ _ _ st7 fun b hb o e=>(I'.pin (b,o) (List.mem_append_right _ (List.mem_append_right _ (zgH hb e)))).1,fun b hb=>?_⟩
    obtain⟨o,e,d⟩:=T.obj _ _ st7 b hb
    exact(I'.pin (b,o) (List.mem_append_right _ (List.mem_append_right _ (zgH hb e)))).2.1
   cases b with
   | false =>
    rw[if_neg Bool.false_ne_true] at q8b ⊢
    obtain⟨m',hm,w9⟩:=q8b
    exact⟨m',hm,i+1,ys,σ8,_,I8b.unpinned,(back I8b).1,(back I8b).2,w9⟩
   | true =>
    rw[if_pos rfl] at q8b ⊢
    refine thn ((blk s3 H3 C fp (X.pn++pins)).2.2 _ s8b σ8 H8b _ I8b q8b) fun y s9 ⟨yv,H9,I9,r9,hD9,m',hm,w9⟩=>?_
    refine thn (zmP (X:=zfs X N scope s3 H3 C fp (X.pn++pins)) _ s9 σ8 H9 (.ref Da) [yv] (.ref Da) [y] (fun v H'=>H'=upd H9 Da (.lst (ys++[yv]))) I9 rfl (.cons r9 .nil) ⟨Da,ys,yv,rfl,rfl,hD9,hz,rfl⟩) fun _ s10 ⟨v10,H10,I10,_,e10⟩=>?_
    subst e10
    exact⟨m',hm,i+1,ys++[yv],σ8,_,I10.unpinned,(back I10).1,(back I10).2,w9⟩
 exact codeAny_compStart_list loop (T.self _ 0 _ _ _ st4 loop)
structure ItD (K:W.Frag) (ds:List D) (J:It) (H₀:Hp):Prop where
 go:∀ (i:Nat) (H' H₀':Hp),zaM H₀ H₀'->zaM H₀' H'->i < ds.length->J.go i H'
 yld:∀ (i:Nat) (H' H₀':Hp) (x:V) (H2:Hp) (d:D),zaM H₀ H₀'->zaM H₀' H'->ds[i]?=some d->J.yld i H' x H2->∃ H₀2,zbn H' H₀' H2 H₀2/\Rep K H₀2 d x
 stop:∀ (i:Nat) (H' H₀':Hp),zaM H₀ H₀'->zaM H₀' H'->ds.length<=i->J.stop i H'
def tDI (K:W.Frag)(E:XK)(src:Ev->Res (List D)):TI:=fun σ H R=>∃ H₀ ρ,zaM H₀ H/\zgu K H₀ σ ρ/\match src ρ with
 | .ok ds=>∀ J H' H₀',zbn H H₀ H' H₀'->ItD K ds J H₀'->R J H'
 | .exn x=>∀ C ox H' H₀',zbn H H₀ H' H₀'->ExR K H₀' x C ox->E C ox H'
 | .stuck=>False
structure DI (X:Cx) (E:XK) (tg iter:Expr) (src:Ev->Res (List D)):Prop where
 o:PI X tg iter (tDI X.K E src)
theorem zll {X:Cx}{tg iter:Expr}{t t':TI}(h:PI X tg iter t)(w:∀ σ H R,t' σ H R->t σ H R):PI X tg iter t':=fun pins s σ H R I q=>h pins s σ H R I (w σ H R q)
def zsE (f:Ev->Res D):Ev->Res (List D):=fun ρ=>(f ρ).bind fun d=>match d with
 | .lst ds=>.ok ds
 | _=>.stuck
def zAl (f:Ev->Res D):Ev->Res (List D):=fun ρ=>(f ρ).bind fun d=>match d with
 | .tup ds=>.ok ds
 | _=>.stuck
def zyw (f:Ev->Res D):Ev->Res (List D):=fun ρ=>(f ρ).bind fun d=>match d with
 | .str z=>.ok (ziA z)
 | _=>.stuck
def zqW (f:Ev->Res D):Ev->Res (List D):=fun ρ=>(f ρ).bind fun d=>match d with
 | .int j=>if -4611686018427387904<=j/\j < 4611686018427387904 then .ok (intsFrom 0 j.toNat) else .stuck
 | _=>.stuck
section
variable {X:Cx}{E:XK}{tg e a b:Expr}{f g:Ev->Res D}
theorem zhc (h:DE X E e f):DI X E tg e (zsE f):=by
 refine⟨zll (zri h.o) fun σ H R ⟨H₀,ρ,hs,hr,q⟩=>⟨H₀,ρ,hs,hr,?_⟩⟩
 unfold zsE at q
 cases e1:f ρ with
 | stuck=>rw[e1] at q;exact q
 | exn x=>rw[e1] at q;exact q
 | ok d =>
  rw[e1] at q
  intro v H1 H01 g1 r1
  cases d with
  | lst ds =>
   obtain⟨p,vs,rfl,hv,hrv⟩:=Rep.lst_iff.mp r1
   refine⟨p,rfl,⟨vs,zaM.sqL g1.sub hv⟩,q _ H1 H01 g1 ⟨fun i H' H₀' s1 s2 hi=>?_,fun i H' H₀' x H2 d s1 s2 hd hy=>?_,fun i H' H₀' s1 s2 hi=>?_⟩⟩
   ·exact⟨vs,vs[i]'(by rw[← hrv.length];exact hi),zaM.sqL (s1.trans s2) hv,by simp⟩
   ·obtain⟨rfl,hy⟩:=hy
    obtain⟨u,k1,k2⟩:=hrv.get hd
    have:=hy vs (zaM.sqL (s1.trans s2) hv)
    rw[k1] at this;cases this
    exact⟨H₀',zbn.refl s2,k2.mono s1⟩
   ·exact⟨vs,zaM.sqL (s1.trans s2) hv,by rw[← hrv.length];exact hi⟩
  | _=>exact q.elim
theorem zye (h:DE X E e f):DI X E tg e (zyw f):=by
 refine⟨zll (zxp h.o) fun σ H R ⟨H₀,ρ,hs,hr,q⟩=>⟨H₀,ρ,hs,hr,?_⟩⟩
 unfold zyw at q
 cases e1:f ρ with
 | stuck=>rw[e1] at q;exact q
 | exn x=>rw[e1] at q;exact q
 | ok d =>
  rw[e1] at q
  intro v H1 H01 g1 r1
  cases d with
  | str z =>
   refine⟨z,Rep.str_iff.mp r1,q _ H1 H01 g1 ⟨fun i H' H₀' s1 s2 hi=>?_,fun i H' H₀' x H2 d s1 s2 hd hy=>?_,fun i H' H₀' s1 s2 hi=>?_⟩⟩
   ·rw[zh2] at hi;exact hi
   ·obtain⟨rfl,c,hc,rfl⟩:=hy
    have:d=.str ⟨#[c]⟩:=by
     unfold ziA at hd
     rw[List.getElem?_map] at hd
     have h2:z.cps.toList[i]?=some c:=by simpa using hc
     rw[h2] at hd;cases hd;rfl
    subst this
    exact⟨H₀',zbn.refl s2,Rep.str_iff.mpr rfl⟩
   ·rw[zh2] at hi;exact hi
  | _=>exact q.elim
theorem zrK {K:W.Frag}{lo:Int}{n:Nat}{H:Hp}:ItD K (intsFrom lo n) (Itr lo n) H:=by
 have hl:(intsFrom lo n).length=n:=by unfold intsFrom;simp
 refine⟨fun i H' H₀' _ _ hi=>?_,fun i H' H₀' x H2 d s1 s2 hd hy=>?_,fun i H' H₀' _ _ hi=>?_⟩
 ·rw[hl] at hi;exact hi
 ·obtain⟨rfl,rfl⟩:=hy
  have:d=.int (lo+i):=by
   unfold intsFrom at hd
   rw[List.getElem?_map] at hd
   cases e:(List.range n)[i]? with
   | none=>rw[e] at hd;cases hd
   | some k =>
    rw[e] at hd
    have hk:k=i:=by
     obtain⟨h1,h2⟩:=List.getElem?_eq_some_iff.mp e
     simpa using h2.symm
    subst hk;cases hd;rfl
  subst this
  exact⟨H₀',zbn.refl s2,Rep.int_iff.mpr rfl⟩
 ·rw[hl] at hi;exact hi
theorem zr6 {p pos:Pos}(hg:Gl X "range")(hm:X.mg "range"=none)(h:DE X E a f)(hn:nst a=true:=by exact rfl):DI X E tg (.Call (.Name "range" p) [a] [] pos) (zqW f):=by
 refine⟨zll (zmK hg hm (zeY h.o ziD (zgA hn)) (zgA hn)) fun σ H R ⟨H₀,ρ,hs,hr,q⟩=>⟨H₀,ρ,hs,hr,?_⟩⟩
 unfold zqW at q
 cases e1:f ρ with
 | stuck=>rw[e1] at q;exact q
 | exn x=>rw[e1] at q;exact q
 | ok d =>
  rw[e1] at q
  intro v H1 H01 g1 r1
  cases d with
  | int j =>
   replace q:match (if -4611686018427387904<=j/\j < 4611686018427387904 then Res.ok (intsFrom 0 j.toNat) else .stuck) with
    | .ok ds=>∀ J H' H₀',zbn H H₀ H' H₀'->ItD X.K ds J H₀'->R J H'
    | .exn x=>∀ C ox H' H₀',zbn H H₀ H' H₀'->ExR X.K H₀' x C ox->E C ox H'
    | .stuck=>False:=q
   by_cases hj:-4611686018427387904<=j/\j < 4611686018427387904
   ·rw[if_pos hj] at q
    rw[Rep.int_iff.mp r1]
    exact⟨j,rfl,hj.1,hj.2,q _ H1 H01 g1 zrK⟩
   ·rw[if_neg hj] at q;exact q.elim
  | _=>exact q.elim
end
def zi1 (src:Ev->Res (List D))(tg:Ev->D->Res Ev)(s:Ev->Res Fl):Ev->Res Fl:=fun ρ=>(src ρ).bind fun ds=>zdy tg s ds ρ
section
variable {X:Cx}{E:XK}{He H0e:Hp}{st:Stmt}{s:Ev->Res Fl}{pos:Pos}
theorem zgS.step2 {K:W.Frag}{H₁ H₀:Hp}{tg:Ev->D->Res Ev}{ds:List D}{D':zk3}{i:Nat}{σ:L2.St}{H:Hp}{d:D}{v:V}{ρ:Ev}(z:zaM H₁ H₀)(h:SRx K He H0e H₀ σ H ρ)(q:zcf K E He H0e H₀ (zdy tg s (ds.drop i) ρ) D')(hd:ds[i]?=some d)(rv:Rep K H₀ d v)
  (he:∀ ρ,tg ρ d=.stuck∨∃ ρ',tg ρ d=.ok ρ') :
  tG K He H0e tg v σ H fun σ2 H2=>tS K E He H0e s { D' with nx:=zgS K E He H0e H₁ tg s ds D' (i+1),ct:=zgS K E He H0e H₁ tg s ds D' (i+1),bk:=D'.nx } σ2 H2:=by
 have hi:i < ds.length:=(List.getElem?_eq_some_iff.mp hd).1
 have hdr:ds.drop i=d::ds.drop (i+1):=by
  rw[List.drop_eq_getElem_cons hi]
  rw[List.getElem?_eq_getElem hi] at hd
  cases hd;rfl
 rw[hdr] at q
 refine⟨H₀,ρ,d,h,rv,?_⟩
 unfold zdy at q
 rcases he ρ with e1 | ⟨ρ1,e1⟩
 ·rw[e1] at q;exact q.elim
 ·rw[e1] at q ⊢
  intro σ' H' H₀' z' h'
  refine⟨H₀',ρ1,h',?_⟩
  replace q:=zcf.grow (r:=(s ρ1).bind fun x=>match x with
   | .nx ρ2=>zdy tg s (ds.drop (i+1)) ρ2
   | .ct ρ2=>zdy tg s (ds.drop (i+1)) ρ2
   | .bk ρ2=>.ok (.nx ρ2)
   | .rt d=>.ok (.rt d)) q z'
  cases e2:s ρ1 with
  | stuck=>rw[e2] at q;exact q
  | exn x=>rw[e2] at q;exact q
  | ok r =>
   rw[e2] at q
   cases r with
   | nx ρ2=>exact fun σ3 H3 H03 z3 h3=>⟨H03,ρ2,(z.trans z').trans z3,h3,zcf.grow (r:=zdy tg s (ds.drop (i+1)) ρ2) q z3⟩
   | ct ρ2=>exact fun σ3 H3 H03 z3 h3=>⟨H03,ρ2,(z.trans z').trans z3,h3,zcf.grow (r:=zdy tg s (ds.drop (i+1)) ρ2) q z3⟩
   | bk ρ2=>exact q
   | rt d=>exact q
theorem zjR {tgt iter:Expr}{body:List Stmt}{tg:Ev->D->Res Ev}{src:Ev->Res (List D)}(hp:PassesOwn (model X.prog X.w) X.A X.env X.xe)(hc:X.calm=true)(hi:DI X E tgt iter src)(hg:DG X E He H0e tgt tg)(ht:zsy tg)(hb:DSs X E He H0e body s)
  (hs:∀ x,foldedSetIterable iter X.env x=pure x:=by intro _;rfl):DS X E He H0e (.For tgt iter body [] pos) (zi1 src tg s):=by
 refine⟨zcO (zrd hp hc hi.o hg.o hb.o hs) fun D' σ H ⟨H₀,ρ,h,q⟩=>⟨H₀,ρ,h.g.sub,h.rd,?_⟩⟩
 unfold zi1 at q
 cases e1:src ρ with
 | stuck=>rw[e1] at q;exact q
 | exn x=>rw[e1] at q;exact fun C ox H' H₀' g r=>q C ox H' H₀' (h.g.trans g) r
 | ok ds =>
  rw[e1] at q
  intro J H1 H01 g it
  have q1:zcf X.K E He H0e H01 (zdy tg s ds ρ) D':=zcf.grow (r:=zdy tg s ds ρ) q g.z
  refine⟨fun i m σ' H'=>m+i=ds.length/\zgS X.K E He H0e H01 tg s ds D' i σ' H',⟨ds.length,rfl,H01,ρ,zaM.refl _,h.grow g,q1⟩,?_⟩
  rintro i m σ' H' ⟨hm,H₀',ρ',z,h',hq⟩
  by_cases hlt:i < ds.length
  ·refine .inr ⟨it.go i H' H₀' z h'.g.sub hlt,fun σ2 H2=>zgS X.K E He H0e H01 tg s ds D' (i+1) σ2 H2,fun σ2 H2 hl=>⟨m-1,by omega,by omega,hl⟩,fun x H2 hy=>?_⟩
   obtain⟨H₀2,g2,rp⟩:=it.yld i H' H₀' x H2 ds[i] z h'.g.sub (List.getElem?_eq_getElem hlt) hy
   exact zgS.step2 (z.trans g2.z) (h'.grow g2) (zcf.grow (r:=zdy tg s (ds.drop i) ρ') hq g2.z) (List.getElem?_eq_getElem hlt) rp fun ρ=>ht ρ _
  ·have e:i=ds.length:=by omega
   refine .inl ⟨it.stop i H' H₀' z h'.g.sub (by omega),?_⟩
   subst e
   exact zgS.done ⟨H₀',ρ',z,h',hq⟩
end
def zjc (f:Ev->Res D):Prop:=∀ ρ d,f ρ=.ok d->∃ ds,d=.lst ds
theorem zoA {K:W.Frag}{E:XK}{f:Ev->Res D}(hf:zjc f){σ:L2.St}{H:Hp}{Q:VK}(h:tD K E f σ H Q):tF K E f σ H Q:=by
 obtain⟨H₀,ρ,hs,hr,q⟩:=h
 refine⟨H₀,ρ,hs,hr,?_⟩
 cases e1:f ρ with
 | stuck=>rw[e1] at q;exact q
 | exn x=>rw[e1] at q;exact q
 | ok d =>
  obtain⟨ds,rfl⟩:=hf ρ d e1
  rw[e1] at q
  intro p vs H' H₀' g hp h0 hv rp
  have n0:H₀ p=none:=hs.free hp
  refine q (.ref p) H' (upd H₀' p (.lst vs)) ⟨g.s,fun b o e=>?_,fun b o e=>?_,fun b k1 k2=>?_⟩ (Rep.lst_iff.mpr ⟨p,vs,rfl,SqL.of zav,rp.mono fun b o e=>?_⟩)
  ·rw[zaw (by intro z;subst z;rw[n0] at e;cases e)];exact g.z _ _ e
  ·by_cases hb:b=p
   ·subst hb;rw[zav] at e;cases e;exact hv
   ·rw[zaw hb] at e;exact g.sub _ _ e
  ·by_cases hb:b=p
   ·subst hb;exact hp
   ·rw[zaw hb] at k1;exact g.nw b k1 k2
  ·rw[zaw (by intro z;subst z;rw[h0] at e;cases e)];exact e
theorem zt5 {X:Cx}{E:XK}{e:Expr}{f:Ev->Res D}(hf:zjc f)(h:DF X E e f):DE X E e f:=⟨zaT h.o fun σ H Q q=>zoA hf q⟩
def zdX (n:Nat)(fr:List Nat)(ρ:Ev):Ev:=List.replicate n .no++fr.map fun(i:Nat)=>match ρ[i]? with
 | some (.sh d)=>.sh d
 | _=>.no
def zbY (b:Ev)(tg:Ev->D->Res Ev)(tt fe:Ev->Res D):List D->Res (List D)
 | []=>.ok []
 | d::r=>(tg b d).bind fun ρ1=>(tt ρ1).bind fun t=>match t with
  | .bl true=>(fe ρ1).bind fun x=>(zbY b tg tt fe r).bind fun xs=>.ok (x::xs)
  | .bl false=>zbY b tg tt fe r
  | _=>.stuck
def zdU (n:Nat)(fr:List Nat)(src:Ev->Res (List D))(tg:Ev->D->Res Ev)(tt fe:Ev->Res D):Ev->Res D:=fun ρ=>(src ρ).bind fun ds =>
 if ds.length<=line then match zbY (zdX n fr ρ) tg tt fe ds with
  | .ok es=>.ok (.lst es)
  | _=>.stuck
 else .stuck
theorem zjZ {n:Nat}{fr:List Nat}{src:Ev->Res (List D)}{tg:Ev->D->Res Ev}{tt fe:Ev->Res D}:zjc (zdU n fr src tg tt fe):=fun ρ d h=>by
 unfold zdU at h
 cases e1:src ρ with
 | stuck=>rw[e1] at h;cases h
 | exn x=>rw[e1] at h;cases h
 | ok ds =>
  rw[e1] at h
  replace h:(if ds.length<=line then match zbY (zdX n fr ρ) tg tt fe ds with
   | .ok es=>Res.ok (D.lst es)
   | _=>.stuck else .stuck)=.ok d:=h
  split at h
  ·split at h
   ·cases h;exact⟨_,rfl⟩
   ·cases h
  ·cases h
theorem zgM {b:Ev}{tg:Ev->D->Res Ev}{tt fe:Ev->Res D}{d:D}{r es:List D}(h:zbY b tg tt fe (d::r)=.ok es) :
  ∃ ρ1 t,tg b d=.ok ρ1/\tt ρ1=.ok (.bl t)/\((t=true/\∃ x xs,fe ρ1=.ok x/\zbY b tg tt fe r=.ok xs/\es=x::xs)∨(t=false/\zbY b tg tt fe r=.ok es)):=by
 unfold zbY at h
 cases e1:tg b d with
 | stuck=>rw[e1] at h;cases h
 | exn z=>rw[e1] at h;cases h
 | ok ρ1 =>
  rw[e1] at h
  replace h:((tt ρ1).bind fun t=>match t with
   | .bl true=>(fe ρ1).bind fun x=>(zbY b tg tt fe r).bind fun xs=>Res.ok (x::xs)
   | .bl false=>zbY b tg tt fe r
   | _=>.stuck)=.ok es:=h
  cases e2:tt ρ1 with
  | stuck=>rw[e2] at h;cases h
  | exn z=>rw[e2] at h;cases h
  | ok t =>
   rw[e2] at h
   cases t with
   | bl t =>
    cases t with
    | true =>
     replace h:((fe ρ1).bind fun x=>(zbY b tg tt fe r).bind fun xs=>Res.ok (x::xs))=.ok es:=h
     cases e3:fe ρ1 with
     | stuck=>rw[e3] at h;cases h
     | exn z=>rw[e3] at h;cases h
     | ok x =>
      rw[e3] at h
      replace h:((zbY b tg tt fe r).bind fun xs=>Res.ok (x::xs))=.ok es:=h
      cases e4:zbY b tg tt fe r with
      | stuck=>rw[e4] at h;cases h
      | exn z=>rw[e4] at h;cases h
      | ok xs=>rw[e4] at h;cases h;exact⟨ρ1,true,rfl,e2,.inl ⟨rfl,x,xs,e3,rfl,rfl⟩⟩
    | false=>exact⟨ρ1,false,rfl,e2,.inr ⟨rfl,h⟩⟩
   | _=>cases h
theorem zgk {b:Ev}{tg:Ev->D->Res Ev}{tt fe:Ev->Res D}{d x:D}{r:List D}{ρ1:Ev}(h1:tg b d=.ok ρ1)(h2:tt ρ1=.ok (.bl true))(h3:fe ρ1=.ok x):zbY b tg tt fe (d::r)=(zbY b tg tt fe r).bind fun xs=>.ok (x::xs):=by
 rw[zbY,h1]
 simp only[Res.bind,h2,h3]
theorem zlJ {b:Ev}{tg:Ev->D->Res Ev}{tt fe:Ev->Res D}{d:D}{r:List D}{ρ1:Ev}(h1:tg b d=.ok ρ1)(h2:tt ρ1=.ok (.bl false)):zbY b tg tt fe (d::r)=zbY b tg tt fe r:=by
 rw[zbY,h1]
 simp only[Res.bind,h2]
theorem zj3 {b:Ev}{tg:Ev->D->Res Ev}{tt fe:Ev->Res D}:∀ {r q es:List D},zbY b tg tt fe (r++q)=.ok es->∃ e1 e2,zbY b tg tt fe r=.ok e1/\zbY b tg tt fe q=.ok e2/\es=e1++e2
 | [],q,es,h=>⟨[],es,rfl,h,rfl⟩
 | d::r,q,es,h=>by
  obtain⟨ρ1,t,h1,h2,h3⟩:=zgM h
  rcases h3 with⟨rfl,x,xs,h3,h4,rfl⟩ | ⟨rfl,h4⟩
  ·obtain⟨e1,e2,k1,k2,rfl⟩:=zj3 h4
   refine⟨x::e1,e2,?_,k2,rfl⟩
   rw[zgk h1 h2 h3,k1];rfl
  ·obtain⟨e1,e2,k1,k2,rfl⟩:=zj3 h4
   refine⟨e1,e2,?_,k2,rfl⟩
   rw[zlJ h1 h2];exact k1
theorem zgL {b:Ev}{tg:Ev->D->Res Ev}{tt fe:Ev->Res D}:∀ {r q e1 e2:List D},zbY b tg tt fe r=.ok e1->zbY b tg tt fe q=.ok e2->zbY b tg tt fe (r++q)=.ok (e1++e2)
 | [],q,e1,e2,h,h'=>by cases h;exact h'
 | d::r,q,e1,e2,h,h'=>by
  obtain⟨ρ1,t,h1,h2,h3⟩:=zgM h
  show zbY b tg tt fe (d::(r++q))=_
  rcases h3 with⟨rfl,x,xs,h3,h4,rfl⟩ | ⟨rfl,h4⟩
  ·rw[zgk h1 h2 h3,zgL h4 h'];rfl
  ·rw[zlJ h1 h2];exact zgL h4 h'
theorem zlK {b:Ev}{tg:Ev->D->Res Ev}{tt fe:Ev->Res D}:∀ {r es:List D},zbY b tg tt fe r=.ok es->es.length<=r.length
 | [],es,h=>by cases h;exact Nat.le_refl _
 | d::r,es,h=>by
  obtain⟨ρ1,t,h1,h2,h3⟩:=zgM h
  rcases h3 with⟨rfl,x,xs,h3,h4,rfl⟩ | ⟨rfl,h4⟩
  ·exact Nat.succ_le_succ (zlK h4)
  ·exact Nat.le_succ_of_le (zlK h4)
def zyp (n:Nat)(tg:Ev->D->Res Ev):Prop:=∀ ρ d ρ',tg ρ d=.ok ρ'->ρ'.length=ρ.length/\∀ (k:Nat),n<=k->ρ'[k]?=ρ[k]?
theorem zeC {i n:Nat}(h:i < n):zyp n (zfD i):=fun ρ d ρ' e=>by
 cases e
 exact⟨by simp,fun k hk=>by rw[List.getElem?_set_ne (by omega)]⟩
theorem ziB {n:Nat}:∀ {is:List Nat}{ds:List D}{ρ:Ev},(is.all fun i=>decide (i < n))=true->(zcz ρ is ds).length=ρ.length/\∀ (k:Nat),n<=k->(zcz ρ is ds)[k]?=ρ[k]?
 | [],ds,ρ,_=>by unfold zcz;exact⟨rfl,fun _ _=>rfl⟩
 | i::is,[],ρ,_=>by unfold zcz;exact⟨rfl,fun _ _=>rfl⟩
 | i::is,d::ds,ρ,h=>by
  rw[List.all_cons,Bool.and_eq_true,decide_eq_true_eq] at h
  unfold zcz
  obtain⟨h1,h2⟩:=ziB (ds:=ds) (ρ:=ρ.set i (.sh d)) h.2
  exact⟨by rw[h1];simp,fun k hk=>by rw[h2 k hk,List.getElem?_set_ne (by omega)]⟩
theorem zi7 {n:Nat}{is:List Nat}(h:(is.all fun i=>decide (i < n))=true):zyp n (zf2 is):=fun ρ d ρ' e=>by
 unfold zf2 at e
 cases hp:zeX is.length d with
 | none=>rw[hp] at e;cases e
 | some ds=>rw[hp] at e;cases e;exact ziB h
theorem zqa {K:W.Frag}{H₀:Hp}{σ:L2.St}{ρ:Ev}{n:Nat}{fr:List Nat}(h:zgu K H₀ σ ρ):zgu K H₀ (zlV n fr σ) (zdX n fr ρ):=fun i d e=>by
 unfold zdX at e
 unfold zlV
 by_cases hi:i < n
 ·rw[List.getElem?_append_left (by simpa using hi),List.getElem?_replicate,if_pos hi] at e
  cases e
 ·rw[List.getElem?_append_right (by simpa using hi),List.length_replicate,List.getElem?_map] at e ⊢
  cases hf:fr[i-n]? with
  | none=>rw[hf] at e;cases e
  | some j =>
   rw[hf] at e
   simp only[Option.map_some,Option.some.injEq] at e ⊢
   cases hj:ρ[j]? with
   | none=>rw[hj] at e;cases e
   | some s =>
    rw[hj] at e
    cases s with
    | sh d' =>
     cases e
     obtain⟨v,h1,h2⟩:=h j d hj
     exact⟨v,by rw[h1];rfl,h2⟩
    | _=>cases e
theorem zws {n:Nat}{fr:List Nat}{ρ:Ev}{k:Nat}(h:k < n):(zdX n fr ρ)[k]?=some .no:=by
 unfold zdX
 rw[List.getElem?_append_left (by simpa using h),List.getElem?_replicate,if_pos h]
theorem zue {n:Nat}{fr:List Nat}{ρ:Ev}(i j:Nat)(es:List D):(zdX n fr ρ)[i]?≠some (.ox j es):=fun e=>by
 unfold zdX at e
 by_cases hj:i < n
 ·rw[List.getElem?_append_left (by simpa using hj),List.getElem?_replicate,if_pos hj] at e;cases e
 ·rw[List.getElem?_append_right (by simpa using hj),List.getElem?_map] at e
  cases hf:fr[i-(List.replicate n Sl.no).length]? with
  | none=>rw[hf] at e;cases e
  | some z =>
   rw[hf] at e
   simp only[Option.map_some,Option.some.injEq] at e
   split at e<;>cases e
theorem zpg {n:Nat}{fr:List Nat}{ρ:Ev}:(zdX n fr ρ).length=n+fr.length:=by unfold zdX;simp
theorem zp9 {K:W.Frag}{E:XK}{n:Nat}{fr:List Nat}{tg:Ev->D->Res Ev}{tt fe:Ev->Res D}{σ:L2.St}{ρ:Ev}{H H₀ H1 H01:Hp}{ds es:List D}{J:It}{Q:VK}(hsame:zaM H₀ H)(g1:zbn H H₀ H1 H01)(it:ItD K ds J H01)(hl:ds.length<=line)
  (e2:zbY (zdX n fr ρ) tg tt fe ds=.ok es)(hr:zgu K H01 σ ρ)(hok:zyp n tg)
  (q:∀ p vs H' H₀',zbn H H₀ H' H₀'->H p=none->H₀' p=none->H' p=some (.lst vs)->Reps K H₀' es vs->Q (.ref p) H') :
  zqO n fr (zzp K tg) (tDT K E tt) (tD K E fe) J σ H1 Q:=by
 intro Da hDa
 have h0D:H01 Da=none:=g1.sub.free hDa
 refine⟨fun i m ys σ' H'=>m=ds.length-i/\i<=ds.length/\σ'.length=n+fr.length/\∃ H₀',zbn H1 H01 H' H₀'/\H₀' Da=none/\H' Da=some (.lst ys)/\zgu K H₀' σ' (zdX n fr ρ)/\∃ es1,zbY (zdX n fr ρ) tg tt fe (ds.take i)=.ok es1/\Reps K H₀' es1 ys,
  ⟨ds.length,by simp,Nat.zero_le _,by unfold zlV;simp,H01,?_,h0D,zav,zqa hr,[],rfl,Reps.nil⟩,?_⟩
 ·refine⟨fun b o e=>by rw[zaw (zaL e hDa)];exact e,zaM.refl _,fun b o e=>?_,fun b k1 k2=>absurd k2 k1⟩
  rw[zaw (by intro z;subst z;rw[h0D] at e;cases e)];exact g1.sub _ _ e
 ·rintro i m ys σ' H' ⟨rfl,hile,hsl,H₀',gg,hD0,hDl,hrd,es1,hes1,hys⟩
  refine⟨hDl,?_⟩
  by_cases hlt:i < ds.length
  ·refine .inr ⟨it.go i H' H₀' gg.z gg.sub hlt,?_,?_⟩
   ·rw[← hys.length]
    have:=zlK hes1
    rw[List.length_take] at this
    have h2:line < sizeLine:=by decide
    omega
   ·intro x H2 hy
    obtain⟨H₀2,g2,rp⟩:=it.yld i H' H₀' x H2 ds[i] gg.z gg.sub (List.getElem?_eq_getElem hlt) hy
    have hsplit:ds=ds.take i++(ds[i]::ds.drop (i+1)):=by rw[← List.drop_eq_getElem_cons hlt,List.take_append_drop]
    rw[hsplit] at e2
    obtain⟨a1,a2,k1,k2,k3⟩:=zj3 e2
    rw[hes1] at k1;cases k1
    obtain⟨ρ1,t,t1,t2,t3⟩:=zgM k2
    have hn2:H₀2 Da=none:=by
     cases qq:H₀2 Da with
     | none=>rfl
     | some o=>have:=g2.nw Da (by rw[qq];simp) hD0;rw[hDl] at this;cases this
    have hD2:H2 Da=some (.lst ys):=g2.s _ _ hDl
    refine⟨H2,H₀2,H₀2,zdX n fr ρ,ds[i],⟨zbn.refl g2.sub,hrd.mono g2.z,fun j d' e=>?_,fun j k d1 d2 _ e=>?_,by rw[zpg,hsl],OX.none zue⟩,rp,?_⟩
    ·unfold zdX at e
     by_cases hj:j < n
     ·rw[List.getElem?_append_left (by simpa using hj),List.getElem?_replicate,if_pos hj] at e;cases e
     ·rw[List.getElem?_append_right (by simpa using hj),List.getElem?_map] at e
      cases hf:fr[j-(List.replicate n Sl.no).length]? with
      | none=>rw[hf] at e;cases e
      | some z =>
       rw[hf] at e
       simp only[Option.map_some,Option.some.injEq] at e
       split at e<;>cases e
    ·unfold zdX at e
     by_cases hj:j < n
     ·rw[List.getElem?_append_left (by simpa using hj),List.getElem?_replicate,if_pos hj] at e;cases e
     ·rw[List.getElem?_append_right (by simpa using hj),List.getElem?_map] at e
      cases hf:fr[j-(List.replicate n Sl.no).length]? with
      | none=>rw[hf] at e;cases e
      | some z =>
       rw[hf] at e
       simp only[Option.map_some,Option.some.injEq] at e
       split at e<;>cases e
    ·rw[t1]
     intro σ3 H3 H03 z3 s3
     have hrl:=hok _ _ _ t1
     have hσ3:σ3.length=n+fr.length:=by rw[← s3.ln,hrl.1,zpg]
     have back:∀ {Hx:Hp},zaM H03 Hx->zgu K Hx σ3 (zdX n fr ρ):=fun {Hx} sx k d e=>by
      by_cases hk:k < n
      ·rw[zws hk] at e;cases e
      ·rw[← hrl.2 k (by omega)] at e
       obtain⟨v,h1,h2⟩:=s3.rd k d e
       exact⟨v,h1,h2.mono sx⟩
     have n3:H03 Da=none:=by
      cases qq:H03 Da with
      | none=>rfl
      | some o=>have:=s3.g.nw Da (by rw[qq];simp) hn2;rw[hD2] at this;cases this
     have hD3:H3 Da=some (.lst ys):=s3.g.s _ _ hD2
     refine⟨H03,ρ1,s3.g.sub,s3.rd,?_⟩
     rw[t2]
     intro H4 H04 g4
     have hD4:H4 Da=some (.lst ys):=g4.s _ _ hD3
     have n4:H04 Da=none:=by
      cases qq:H04 Da with
      | none=>rfl
      | some o=>have:=g4.nw Da (by rw[qq];simp) n3;rw[hD3] at this;cases this
     have htake:ds.take (i+1)=ds.take i++[ds[i]]:=by rw[List.take_add_one,List.getElem?_eq_getElem hlt];rfl
     have g04:=(gg.trans g2).trans (s3.g.trans g4)
     rcases t3 with⟨rfl,y,xs,t3,t4,_⟩ | ⟨rfl,t4⟩
     ·rw[if_pos rfl]
      refine⟨H04,ρ1,g4.sub,s3.rd.mono g4.z,?_⟩
      rw[t3]
      intro yv H5 H05 g5 ry
      have hD5:H5 Da=some (.lst ys):=g5.s _ _ hD4
      have n5:H05 Da=none:=by
       cases qq:H05 Da with
       | none=>rfl
       | some o=>have:=g5.nw Da (by rw[qq];simp) n4;rw[hD4] at this;cases this
      have gall:=g04.trans g5
      refine⟨hD5,ds.length-(i+1),by omega,rfl,hlt,hσ3,H05,⟨fun b o e=>?_,gall.z,fun b o e=>?_,gall.nw⟩,n5,zav,back (g4.z.trans g5.z),es1++[y],?_,?_⟩
      ·rw[zaw (zaL e hDa)];exact gall.s _ _ e
      ·rw[zaw (by intro z;subst z;rw[n5] at e;cases e)];exact gall.sub _ _ e
      ·rw[htake]
       refine zgL hes1 ?_
       rw[zgk t1 t2 t3];rfl
      ·exact(hys.mono ((g2.z.trans s3.g.z).trans (g4.z.trans g5.z))).app (Reps.cons ry Reps.nil)
     ·rw[if_neg Bool.false_ne_true]
      refine⟨ds.length-(i+1),by omega,rfl,hlt,hσ3,H04,g04,n4,hD4,back g4.z,es1,?_,hys.mono ((g2.z.trans s3.g.z).trans g4.z)⟩
      rw[htake]
      rw[show es1=es1++[] by simp]
      refine zgL hes1 ?_
      rw[zlJ t1 t2];rfl
  ·have hi2:i=ds.length:=by omega
   refine .inl ⟨it.stop i H' H₀' gg.z gg.sub (by omega),?_⟩
   rw[hi2,List.take_length] at hes1
   rw[e2] at hes1;cases hes1
   exact q Da ys H' H₀' (g1.trans gg) (g1.s.free hDa) hD0 hDl hys
structure DIf (X:Cx) (E:XK) (ifs:List Expr) (f:Ev->Res D):Prop where
 o:PIf X ifs (tDT X.K E f)
def mYes:Ev->Res D:=fun _=>.ok (.bl true)
theorem zhb {X:Cx}{E:XK}:DIf X E [] mYes:=⟨fun pins s σ H Q I ⟨H₀,ρ,hs,hr,q⟩=>zvv pins s σ H Q I (q H H₀ (zbn.refl hs))⟩
theorem zjS {X:Cx}{E:XK}{c:Expr}{f:Ev->Res D}(h:DT X E c f):DIf X E [c] f:=⟨zvu h.o⟩
structure DCo (X:Cx) (E:XK) (e:Expr) (f:Ev->Res D):Prop where
 ev:PE X e (tF X.K E f)
 st:∀ {i:Nat}{x:Str}{pos' spos:Pos},X.N.Nodup->X.N[i]?=some x->X.env.scope.names.lookup x=some .local -> swapsWith e (some (.Name x pos')) spos.line X.env=pure true->PS X (.Assign [.Name x pos'] e spos) (zzJ (tF X.K E f) (zv5 i))
theorem dco {X:Cx}{E:XK}{tgt iter elt:Expr}{ifs:List Expr}{scope:Scope}{pos:Pos}(N:List Str)(n:Nat)(fr:List Nat){src:Ev->Res (List D)}{tg:Ev->D->Res Ev}{tt fe:Ev->Res D}(hc:X.calm=true)(hi:DI X E tgt iter src)(hok:zyp n tg)
  (blk:∀ s H C fp pn,(∀ He H0e,DG (zfs X N scope s H C fp pn) E He H0e tgt tg)/\DIf (zfs X N scope s H C fp pn) E ifs tt/\DE (zfs X N scope s H C fp pn) E elt fe)
  (hfr:zyu X N n fr scope)(hcell:∀ x∈scope.names,x.2≠.cell)(hfree:∀ x∈scope.names,x.2=.free->X.env.scope.names.lookup x.1=some .cell)(hkind:scope.kind=.function)(hnames:∀ x∈scope.names,x.2=.local -> scope.names.lookup x.1=some .local)
  (hs:∀ x,foldedSetIterable iter X.env x=pure x:=by intro _;rfl):DCo X E (.ListComp elt [⟨tgt,iter,ifs,0⟩] scope pos) (zdU n fr src tg tt fe):=by
 have blk':∀ s H C fp pn,PG (zfs X N scope s H C fp pn) tgt (zzp X.K tg)/\PIf (zfs X N scope s H C fp pn) ifs (tDT X.K E tt)/\PE (zfs X N scope s H C fp pn) elt (tD X.K E fe):=fun s H C fp pn =>
  ⟨fun pins s' σ' H' v u Q' I r ⟨He,H0e,q'⟩=>((blk s H C fp pn).1 He H0e).o pins s' σ' H' v u Q' I r q',(blk s H C fp pn).2.1.o,(blk s H C fp pn).2.2.o⟩
 have first:∀ {pins:List (Addr×Obj)}{s:Shared}{σ:L2.St}{H:Hp}{Q:VK}{RR:Value->Addr->Result->Shared->Prop},L2.Inv X pins σ H s->tF X.K E (zdU n fr src tg tt fe) σ H Q ->
   (∀ (Da C:Addr) (s6:Shared) (H5:Hp) (m:Str->Option Value),L2.Inv X pins σ H5 s6->s6.heap.Ns C m->zqe X pins H5 C->Q (.ref Da) H5->RR (.ref Da) C (.ok .next) s6) ->
   wpAny (model X.prog X.w) X.A (eval iter X.env) (fun x s₁=>wpAny (model X.prog X.w) X.A (pyIter x) (fun it s₂=>wpAny (model X.prog X.w) X.A (newList []) (fun acc s₃ =>
    wpAny (model X.prog X.w) X.A (newFunctionEnv scope X.env.globals (zky X.env.cells scope.names []) [] X.env.qual none .none (some X.env)) (fun cenv s₄ =>
     codeAny (model X.prog X.w) X.A (.compStart (.ListComp elt [⟨tgt,iter,ifs,0⟩] scope pos) 0 it acc { cenv with scope:=relabel scope X.env }) (RR acc cenv.locals) s₄) X.xe s₃) X.xe s₂) X.xe s₁) X.xe s:=by
  intro pins s σ H Q RR I ⟨H₀,ρ,hsame,hr,q⟩ fin
  refine thn (hi.o pins s σ H (fun J H1=>zqO n fr (zzp X.K tg) (tDT X.K E tt) (tD X.K E fe) J σ H1 Q) I ⟨H₀,ρ,hsame,hr,?_⟩) fun v s1 h1=>thn h1 fun itv s2 h2=>zsk (N:=N) hc hfr hcell hfree hkind blk' h2 fin
  unfold zdU at q
  cases e1:src ρ with
  | stuck=>rw[e1] at q;exact q
  | exn x=>rw[e1] at q;exact q
  | ok ds =>
   rw[e1] at q
   intro J H1 H01 g1 it
   replace q:match (if ds.length<=line then match zbY (zdX n fr ρ) tg tt fe ds with
     | .ok es=>Res.ok (D.lst es)
     | _=>.stuck else .stuck) with
    | .ok (.lst ds)=>∀ p vs H' H₀',zbn H H₀ H' H₀'->H p=none->H₀' p=none->H' p=some (.lst vs)->Reps X.K H₀' ds vs->Q (.ref p) H'
    | .ok _=>False
    | .exn x=>∀ C ox H' H₀',zbn H H₀ H' H₀'->ExR X.K H₀' x C ox->E C ox H'
    | .stuck=>False:=q
   by_cases hl:ds.length<=line
   ·rw[if_pos hl] at q
    cases e2:zbY (zdX n fr ρ) tg tt fe ds with
    | stuck=>rw[e2] at q;exact q.elim
    | exn x=>rw[e2] at q;exact q.elim
    | ok es =>
     rw[e2] at q
     exact zp9 hsame g1 it hl e2 (hr.mono g1.z) hok q
   ·rw[if_neg hl] at q;exact q.elim
 have hcl:∀ {pins:List (Addr×Obj)}{s:Shared}{σ:L2.St}{H:Hp},L2.Inv X pins σ H s->closureFor scope X.env=pure (zky X.env.cells scope.names []):=fun {pins s σ H} I=>zlL fun y hy hf=>I.ok.has y.1 (.inl (hfree y hy hf))
 refine⟨fun pins s σ H Q I h=>?_,fun {i x pos' spos} hN hi' hx hsw pins s σ H D' I h=>?_⟩
 ·rw[eval_ListComp]
  refine wpAny_comprehension_free (use:=none) rfl hs (hcl I) hkind hnames (first (RR:=fun acc C=>compPost (model X.prog X.w) X.A X.xe none (EP X pins σ Q) acc C) I h fun Da C s6 H5 m I6 ns fC q=>?_)
  refine⟨m,ns,fun h' sb=>⟨.ref Da,H5,?_,rfl,q⟩⟩
  exact I6.turned (t':=s6.toks) (it:=C) (fun b o hb e=>(sb.2 b hb).trans e) fC.1 fC.2.1 fC.2.2.2.1 fC.2.2.2.2.1 fC.2.2.2.2.2
 ·rw[exec_Assign_Name_used _ _ _ _ hsw]
  refine wpAny_bind (wpAny_standAt (wpAny_bind ?_))
  show wpAny _ X.A (do let _ ← comprehension (.ListComp elt [⟨tgt,iter,ifs,0⟩] scope pos) scope X.env _ (newList []) false (eval iter X.env) (some (assign (.Name x pos') X.env))) _ _ s
  refine wpAny_bind (wpAny_mono (wpAny_comprehension_free (use:=some (assign (.Name x pos') X.env)) (Q:=fun _ s'=>SP X pins D' .next s') rfl hs (hcl I) hkind hnames
   (first (RR:=fun acc C=>compPost (model X.prog X.w) X.A X.xe (some (assign (.Name x pos') X.env)) (fun _ s'=>SP X pins D' .next s') acc C) I h fun Da C s6 H5 m I6 ns fC q=>?_)) (fun _ s' hq=>wpAny_pure (wpAny_pure hq)) fun _ _ e=>e)
  show wpAny _ X.A (assign (.Name x pos') X.env (.ref Da)) _ _ _
  refine wpAny_assign_Name (zmu (v:=.ref Da) I6 hN hi' (.inl hx) rfl (fun s' I' ⟨a,sb,ha⟩=>?_) (.inr hx))
  have hCa:C≠a:=by
   rcases ha with rfl | ha
   ·exact fC.2.1
   ·exact fun z=>fC.2.2.2.2.1 x a ha z.symm
  refine⟨m,ns.sameBut sb hCa,fun h' sb'=>⟨_,H5,?_,q⟩⟩
  exact I'.turned (t':=s'.toks) (it:=C) (fun b o hb e=>(sb'.2 b hb).trans e) fC.1 fC.2.1 fC.2.2.2.1 fC.2.2.2.2.1 fC.2.2.2.2.2
theorem zzv {X:Cx}{E:XK}{e:Expr}{f:Ev->Res D}(h:DCo X E e f):DF X E e f:=⟨h.ev⟩
theorem zkw {X:Cx}{E:XK}{e:Expr}{n:Nat}{fr:List Nat}{src:Ev->Res (List D)}{tg:Ev->D->Res Ev}{tt fe:Ev->Res D}(h:DCo X E e (zdU n fr src tg tt fe)):DE X E e (zdU n fr src tg tt fe):=zt5 zjZ (zzv h)
section
variable {X:Cx}{E:XK}{He H0e:Hp}{e:Expr}{f:Ev->Res D}{s:Ev->Res Fl}{pos:Pos}{st:Stmt}
def unown (i:Nat)(ρ:Ev):Ev:=match ρ[i]? with
 | some (.ow d)=>ρ.set i (.sh d)
 | _=>ρ
def zq3 (i:Nat)(s:Ev->Res Fl):Ev->Res Fl:=fun ρ=>s (unown i ρ)
theorem SRx.unown {K:W.Frag}{H₀ H:Hp}{σ:L2.St}{ρ:Ev}(h:SRx K He H0e H₀ σ H ρ)(i:Nat):∃ H₀',zaM H₀ H₀'/\SRx K He H0e H₀' σ H (DL.unown i ρ):=by
 unfold DL.unown
 cases e:ρ[i]? with
 | none=>exact⟨H₀,zaM.refl _,h⟩
 | some s =>
  cases s with
  | no=>exact⟨H₀,zaM.refl _,h⟩
  | sh d=>exact⟨H₀,zaM.refl _,h⟩
  | ox j ds=>exact⟨H₀,zaM.refl _,h⟩
  | ow d =>
   obtain⟨a,k1,k2,k3,k4⟩:=h.ow i d e
   cases d with
   | lst ds =>
    obtain⟨vs,h5,h6⟩:=k4
    have z:zaM H₀ (upd H₀ a (.lst vs)):=fun b o q=>by rw[zaw (by intro z;subst z;rw[k3] at q;cases q)];exact q
    have h':SRx K He H0e (upd H₀ a (.lst vs)) σ H (ρ.set i .no):=by
     have nset:∀ (j:Nat) (s:Sl),(ρ.set i .no)[j]?=some s->s≠.no->j≠i/\ρ[j]?=some s:=fun j s q hs=>by
      by_cases hj:i=j
      ·subst hj
       rw[List.getElem?_set_self'] at q
       rw[e] at q;cases q;exact absurd rfl hs
      ·rw[List.getElem?_set_ne hj] at q;exact⟨fun z=>hj z.symm,q⟩
     refine⟨⟨h.g.s,h.g.z.trans z,fun b o q=>?_,fun b q1 q2=>?_⟩,fun j d' q=>?_,fun j d' q=>?_,fun j k d1 d2 hn q1 q2=>?_,by simp [h.ln],h.ex.upd (fun j s q=>?_) z (fun b us _ eb=>eb) fun q us _ q0 hq hd=>?_⟩
     rotate_left 5
     ·by_cases hs:s=.no
      ·exact .inr (.inr (.inl hs))
      ·exact .inl ⟨(nset j s q hs).2,rfl⟩
     ·have hq':q≠a:=by
       intro zz;subst zz
       exact hd i _ e k1
      exact⟨hq,by rw[zaw hq'];exact q0⟩
     ·by_cases hb:b=a
      ·subst hb;rw[zav] at q;cases q;exact h5
      ·rw[zaw hb] at q;exact h.g.sub _ _ q
     ·by_cases hb:b=a
      ·subst hb;exact k2
      ·rw[zaw hb] at q1;exact h.g.nw b q1 q2
     ·obtain⟨hj,q⟩:=nset j _ q (fun z=>nomatch z)
      obtain⟨v,q1,q2⟩:=h.rd j d' q
      exact⟨v,q1,q2.mono z⟩
     ·obtain⟨hj,q⟩:=nset j _ q (fun z=>nomatch z)
      obtain⟨b,q1,q2,q3,q4⟩:=h.ow j d' q
      have hb:b≠a:=by
       intro zz;subst zz
       exact h.ap j i d' (.lst ds) hj q e (by rw[q1,k1])
      refine⟨b,q1,q2,by rw[zaw hb];exact q3,?_⟩
      cases d' with
      | lst ds'=>obtain⟨vs',h7,h8⟩:=q4;exact⟨vs',h7,h8.mono z⟩
      | _=>exact q4.elim
     ·obtain⟨_,q1⟩:=nset j _ q1 (fun z=>nomatch z)
      obtain⟨_,q2⟩:=nset k _ q2 (fun z=>nomatch z)
      exact h.ap j k d1 d2 hn q1 q2
    refine⟨_,z,?_⟩
    have hp:=h'.put (i:=i) (d:=.lst ds) (v:=.ref a) (Rep.lst_iff.mpr ⟨a,vs,rfl,SqL.of zav,h6.mono z⟩)
    rw[List.set_set] at hp
    have hσ:σ.set i (some (V.ref a))=σ:=by
     apply List.ext_getElem?
     intro k
     by_cases hk:i=k
     ·subst hk
      obtain⟨hil,_⟩:=List.getElem?_eq_some_iff.mp k1
      rw[List.getElem?_set_self hil,k1]
     ·rw[List.getElem?_set_ne hk]
    rw[hσ] at hp
    exact hp
   | _=>exact k4.elim
theorem zhS (i:Nat)(h:DS X E He H0e st s):DS X E He H0e st (zq3 i s):=⟨zcO h.o fun D' σ H ⟨H₀,ρ,hr,q⟩=>by
 obtain⟨H₀',z,hr'⟩:=hr.unown i
 exact⟨H₀',DL.unown i ρ,hr',zcf.grow (r:=s (DL.unown i ρ)) q z⟩⟩
end
theorem zqg {X:Cx}{E:XK}{tgt iter elt:Expr}{ifs:List Expr}{scope:Scope}{pos:Pos}(N:List Str)(n:Nat)(fr:List Nat){src:Ev->Res (List D)}{tg:Ev->D->Res Ev}{tt fe:Ev->Res D}(hc:X.calm=true)(hi:DI X E tgt iter src)(hok:zyp n tg)
  (blk:∀ s H C fp pn,(∀ He H0e,DG (zfs X N scope s H C fp pn) E He H0e tgt tg)/\DIf (zfs X N scope s H C fp pn) E ifs tt/\DE (zfs X N scope s H C fp pn) E elt fe)
  (hfr:zyu X N n fr scope)(hcell:(scope.names.all fun x=>!(x.2==.cell))=true)(hfree:(scope.names.all fun x=>!(x.2==.free)||(X.env.scope.names.lookup x.1==some .cell))=true)(hkind:scope.kind=.function)
  (hnames:(scope.names.all fun x=>!(x.2==.local)||(scope.names.lookup x.1==some .local))=true)
  (hs:∀ x,foldedSetIterable iter X.env x=pure x:=by intro _;rfl):DCo X E (.ListComp elt [⟨tgt,iter,ifs,0⟩] scope pos) (zdU n fr src tg tt fe):=by
 refine dco N n fr hc hi hok blk hfr (fun x hx z=>?_) (fun x hx z=>?_) hkind (fun x hx z=>?_) hs
 ·have:=List.all_eq_true.mp hcell x hx
  rw[z] at this;simp at this
 ·have:=List.all_eq_true.mp hfree x hx
  rw[z] at this;simpa using this
 ·have:=List.all_eq_true.mp hnames x hx
  rw[z] at this;simpa using this
theorem zr4 {X:Cx}{E:XK}{He H0e:Hp}{e:Expr}{f:Ev->Res D}{pos:Pos}{i:Nat}{x:Str}{pos':Pos}(hN:X.N.Nodup)(hi:X.N[i]?=some x)(hx:X.env.scope.names.lookup x=some .local)(hl:zjc f)(he:DCo X E e f)(hs:swapsWith e (some (.Name x pos')) pos.line X.env=pure true:=by rfl):DS X E He H0e (.Assign [.Name x pos'] e pos) (zbb i f):=by
 refine⟨zcO (he.st hN hi hx hs) fun D σ H ⟨H₀,ρ,h,q⟩=>?_⟩
 refine zoA hl ⟨H₀,ρ,h.g.sub,h.rd,?_⟩
 refine plain h q fun d v H' H₀' _ g rp q'=>?_
 exact q' _ H' H₀' (zaM.refl _) ((h.grow g).put rp)
theorem zb8.there {P:Program}{w:World}{H:Hp}{h:Heap}{a:Addr}{o:HO}(x:zb8 P w H h a o):∃ u,h.get? a=some u:=by
 cases o with
 | lst xs=>obtain⟨_,_,_,_,e⟩:=x;exact⟨_,e⟩
 | tup xs=>obtain⟨_,_,_,ob,e,_⟩:=x;exact⟨_,e⟩
 | dK kvs=>obtain⟨_,_,_,_,o,_,_,e,_⟩:=x;exact⟨_,e⟩
 | dT kvs=>obtain⟨_,_,_,_,o,_,_,e,_⟩:=x;exact⟨_,e⟩
 | set S n=>obtain⟨o,_,_,_,e,_⟩:=x;exact⟨_,e⟩
 | ins C dx fs=>obtain⟨_,_,_,e,_⟩:=x;exact⟨_,e⟩
 | own y=>obtain⟨_,e⟩:=x;exact⟨_,e⟩
 | xd fs=>obtain⟨_,⟨_,_,_,e,_⟩,_⟩:=x;exact⟨_,e⟩
 | rng lo hi=>obtain⟨_,_,_,e⟩:=x;exact⟨_,e⟩
 | frz ob u=>obtain⟨e,_⟩:=x;exact⟨_,e⟩
 | tbl ps=>exact⟨_,show h.get? a=some _ from x⟩
 | met f y=>exact⟨_,show h.get? a=some _ from x⟩
 | ext φ=>obtain⟨_,⟨_,e⟩,_⟩:=x;exact⟨_,e⟩
def CXE (P:Program)(w:World):CXT:=fun outer H s E e s'=>∃ (ea C:Addr) (a0:Value) (B:Heap) (H':Hp),e=.ref ea/\s'.os=s.os/\AllBare s'.gens/\Un (frs outer) [] H H' s.heap s'.heap/\HOk P w H' s'.heap/\H' ea=none /\
 Heap.FlyingW B outer ea (.ref C) a0 s'.heap/\(∀ b,b∉frs outer->(H' b≠none∨∃ o,s.heap.get? b=some o)->∃ o,B.get? b=some o)/\E (.ref C) none H'
theorem zrS {l:List PySem.Env}:∀ env∈l,∀ a,env.frame=some a->a∈frs l:=fun env he a hf=>List.mem_filterMap.mpr ⟨env,he,hf⟩
section
variable {P:Program}{w:World}{K:W.Frag}{mg:Str->Option Value}{base:Heap}{N:List Str}{qual:Str}{scope:Scope}{f:Addr}{cd:Value}{A:Around}{outer:List PySem.Env}{s0:Shared}{H0:Hp}{E:XK}
 {pins:List (Addr×Obj)}{σ:L2.St}{H:Hp}{s:Shared}
theorem zfg {B h h':Heap}(k:B.StaysIn h)(k':B.StaysIn h'){b:Addr}{o:Obj}(hb:∃ u,B.get? b=some u)(e:h.get? b=some o):h'.get? b=some o:=by
 obtain⟨u,q⟩:=hb
 have:=k b u q
 rw[e] at this;cases this
 exact k' b o q
theorem zv7 {X:Cx}(hX:X=zg1 (CXE P w) P w K mg base N qual scope f cd A outer s0 H0 E)(I:Inv X pins σ H s){s1:Shared}{H1:Hp}{ea C:Addr}{a0:Value}{B h':Heap}(os:s1.os=s.os)(bare:AllBare s1.gens)
  (un:Un (frs X.stack) [] H H1 s.heap s1.heap)(hok:HOk P w H1 s1.heap)(hne:H1 ea=none)(hst:B.StaysIn s1.heap)(hfr:s1.heap.FunFrames B X.stack)
  (hB:∀ b,b∉frs X.stack->(H1 b≠none∨∃ o,s.heap.get? b=some o)->∃ o,B.get? b=some o)(fl:Heap.FlyingW B outer ea (.ref C) a0 h')(up:s1.heap.UpToSlots h')(hE:E (.ref C) none H1) :
  CXE P w outer H0 s0 E (.ref ea) { s1 with heap:=h' }:=by
 subst hX
 have hL:(envOfC qual scope s0.heap.objs.size f cd).frame=some (envOfC qual scope s0.heap.objs.size f cd).locals:=rfl
 have hstk:∀ b,b∈frs (envOfC qual scope s0.heap.objs.size f cd::outer)->b=(envOfC qual scope s0.heap.objs.size f cd).locals∨b∈frs outer:=fun b hb=>by
  unfold frs at hb;rw[List.filterMap_cons,hL] at hb;exact List.mem_cons.mp hb
 have hsub:∀ b,b∈frs outer->b∈frs (envOfC qual scope s0.heap.objs.size f cd::outer):=fun b hb=>by
  unfold frs;rw[List.filterMap_cons,hL];exact List.mem_cons_of_mem _ hb
 have old:∀ b o,s0.heap.get? b=some o->b≠(envOfC qual scope s0.heap.objs.size f cd).locals:=fun b o e=>Nat.ne_of_lt (Nat.lt_of_lt_of_le (Heap.lt_size e) I.ok.above)
 have nofr:∀ b o,s0.heap.get? b=some o->b∉frs outer->b∉frs (envOfC qual scope s0.heap.objs.size f cd::outer):=fun b o e hb hm=>(hstk b hm).elim (old b o e) hb
 have thr:∀ b o,s0.heap.get? b=some o->∃ o',s.heap.get? b=some o':=fun b o e=>I.base.there b o e (by intro z;exact nomatch z)
 have fst:∀ b,b∈frs outer->∀ o,s1.heap.get? b=some o->∃ sl,h'.get? b=some { o with slots:=sl }:=fun b hb o e=>by
  obtain⟨_,o',ho',hd⟩:=hfr.mem (hsub b hb)
  rw[e] at ho';cases ho'
  exact up b o e hd
 have free1:∀ b∈frs (envOfC qual scope s0.heap.objs.size f cd::outer),H1 b=none:=fun b hb=>by
  obtain⟨_,o,ho,_⟩:=I.stack.mem hb
  exact un.free b o ho (I.stkFree b hb) (by simp)
 have B0:∀ b o,s0.heap.get? b=some o->b∉frs outer->∃ u,B.get? b=some u:=fun b o e hb=>hB b (nofr b o e hb) (.inr (thr b o e))
 refine⟨ea,C,a0,B,H1,rfl,os.trans I.os,bare,⟨fun b o e n hb hx=>?_,fun b o e n hb hx=>?_,fun b o e n hx=>?_,fun b o e hx=>?_,fun b xs e=>un.tups b xs (I.base.tups b xs e),fun b o u e=>un.frzs b o u (I.base.frzs b o u e),fun b ps e=>?_⟩,fun a o e=>?_,hne,fl,fun b hb h=>?_,hE⟩
 ·have e1:=I.base.keep b o e n hb (by intro z;exact nomatch z)
  have n1:=I.base.free b o e n (by intro z;exact nomatch z)
  have e2:=un.keep b o e1 n1 (nofr b o e hb) (by simp)
  exact zfg hst fl.1 (B0 b o e hb) e2
 ·obtain⟨sl,e1⟩:=I.base.slot b o e n hb (by intro z;exact nomatch z)
  have n1:=I.base.free b o e n (by intro z;exact nomatch z)
  obtain⟨sl2,e2⟩:=un.any e1 n1 (by simp)
  obtain⟨sl3,e3⟩:=fst b hb _ e2
  exact⟨sl3,e3⟩
 ·obtain⟨o',e1⟩:=thr b o e
  exact un.free b o' e1 (I.base.free b o e n (by intro z;exact nomatch z)) (by simp)
 ·obtain⟨o',e1⟩:=thr b o e
  obtain⟨o2,e2⟩:=un.there b o' e1 (by simp)
  by_cases hb:b∈frs outer
  ·obtain⟨sl,e3⟩:=fst b hb _ e2
   exact⟨_,e3⟩
  ·exact⟨_,zfg hst fl.1 (B0 b o e hb) e2⟩
 ·obtain⟨m1,e1⟩:=I.base.tbls b ps e
  obtain⟨m2,e2⟩:=un.tbls b _ e1
  exact⟨m1++m2,by rw[e2,Array.append_assoc]⟩
 ·refine(hok a o e).stay (fun b u hb q=>?_) (fun _ q=>q) fun _ _ q=>q
  have hn:H1 b≠none:=by
   rcases hb with rfl | hb
   ·rw[e];simp
   ·rw[hb];simp
  exact zfg hst fl.1 (hB b (fun hm=>hn (free1 b hm)) (.inl hn)) q
 ·by_cases hm:b∈frs (envOfC qual scope s0.heap.objs.size f cd::outer)
  ·rcases hstk b hm with z | z
   ·rcases h with h | ⟨o,h⟩
    ·exact absurd (free1 b hm) h
    ·exact absurd z (old b o h)
   ·exact absurd z hb
  ·exact hB b hm (h.elim .inl fun⟨o,h⟩=>.inr (thr b o h))
theorem zmI (I:Inv (zg1 (CXE P w) P w K mg base N qual scope f cd A outer s0 H0 E) pins σ H s){h1:Heap}{e C:Addr}{vs:List Value}(hx:Heap.MadeExcOf s.heap h1 e (.ref C) vs)(hE:E (.ref C) none H) :
  (zg1 (CXE P w) P w K mg base N qual scope f cd A outer s0 H0 E).xe (.ref e) { s with heap:=h1 }:=by
 have hin:=zrS (l:=envOfC qual scope s0.heap.objs.size f cd::outer)
 have hl:s.heap.FunFrames (W.hideAll s.heap (frs (envOfC qual scope s0.heap.objs.size f cd::outer))) (envOfC qual scope s0.heap.objs.size f cd::outer):=W.funFrames_hide I.stack hin
 have hn:H e=none:=by
  cases q:H e with
  | none=>rfl
  | some o=>obtain⟨u,hu⟩:=zb8.there (I.hok e o q);rw[hx.new] at hu;cases hu
 refine wpAny_leaves_madeW (h:=s.heap) (base:=W.hideAll s.heap (frs (envOfC qual scope s0.heap.objs.size f cd::outer))) (cls:=.ref C) (args:=vs) I.ok.frames rfl (fun b o q=>W.of_hideAll _ q) hl hx fun h' t fl tup _ up=>?_
 refine zv7 rfl I (s1:={ s with heap:=h1 }) (H1:=H) rfl I.bare (Un.kept hx.keeps) (I.hok.kept hx.keeps) hn (fun b o q=>hx.keeps b o (W.of_hideAll _ q)) (hl.of_keeps fun b o hb _=>⟨o,hx.keeps b o hb,rfl⟩) (fun b hb h=>?_) fl up hE
 have:∃ o,s.heap.get? b=some o:=by
  rcases h with h | h
  ·cases q:H b with
   | none=>exact absurd q h
   | some o=>exact zb8.there (I.hok b o q)
  ·exact h
 obtain⟨o,q⟩:=this
 exact⟨o,W.hideAll_get _ q hb⟩
theorem zeW:zkZ (CXE P w) (zg1 (CXE P w) P w K mg base N qual scope f cd A outer s0 H0 E) E:=by
 intro pins σ H s e s' I h
 obtain⟨ea,C,a0,B,H',rfl,os,bare,un,hok,hne,fl,hB,hE⟩:=h
 refine wpAny_leaves_onW I.ok.frames rfl fl fun h' fl' up=>?_
 exact zv7 rfl I os bare un hok hne fl.1 fl.2.2.1 hB fl' up hE
end
theorem zf3 {X:Cx}{E:XK}:zkZ CX0 X E:=fun _ _ _ _ _ _ _ h=>h.elim
theorem zbX {P:Program}{w:World}{K:W.Frag}{mg:Str->Option Value}{base:Heap}{x qual:Str}{st:Stmt}{f:Addr}{fd:FuncData}{N ps:List Str}{k:Nat}{s:Ev->Res Fl}(F:Fun K x qual st f fd)(S:zay N ps (defScope st))
  (hbody:∀ (cdv:Value) (A:Around) (outer:List PySem.Env) (s0:Shared) (H H₀:Hp) (E:XK),zhz k (A.deeper (envOfC qual (defScope st) s0.heap.objs.size f cdv)) ->
   DSs (zg1 (CXE P w) P w K mg base N qual (defScope st) f cdv A outer s0 H E) E H H₀ (defBody st) s):zcL P w K mg base (CXE P w) (k+1) f fd ps (spD K ps.length (zcH N.length s)):=by
 have hpl:ps.length<=N.length:=by have:=congrArg List.length S.pre;rw[List.length_take] at this;omega
 obtain⟨oc,od,kV,doc,pm,an,cdv,ct,osl,rfl,lk,hcd⟩:=F.ex
 refine zx5 lk hcd S (fun vs H Q E h=>h.1) fun A outer s0 H vs Q E hr h=>?_
 obtain⟨hn,H₀,ds,hs,hv,q⟩:=h
 refine⟨_,(hbody cdv A outer s0 H H₀ E hr).o,H₀,ds.map Sl.sh++List.replicate (N.length-ds.length) .no,?_,?_⟩
 ·refine⟨zbn.refl hs,zjh hv,fun i d e=>?_,fun i j d d' hij e=>?_,?_,OX.none zmv⟩
  ·by_cases hi:i < ds.length
   ·rw[List.getElem?_append_left (by simpa using hi),List.getElem?_map] at e
    cases q:ds[i]? with
    | none=>rw[q] at e;cases e
    | some d'=>rw[q] at e;cases e
   ·rw[List.getElem?_append_right (by simpa using hi),List.getElem?_replicate] at e
    split at e<;>cases e
  ·by_cases hi:i < ds.length
   ·rw[List.getElem?_append_left (by simpa using hi),List.getElem?_map] at e
    cases q:ds[i]? with
    | none=>rw[q] at e;cases e
    | some d'=>rw[q] at e;cases e
   ·rw[List.getElem?_append_right (by simpa using hi),List.getElem?_replicate] at e
    split at e<;>cases e
  ·unfold L2.start
   have:=hv.length
   simp only[List.length_append,List.length_map,List.length_replicate]
   omega
 ·unfold zcH at q
  cases e1:s (ds.map Sl.sh++List.replicate (N.length-ds.length) .no) with
  | stuck=>rw[e1] at q;exact q
  | exn x=>rw[e1] at q;exact q
  | ok r =>
   rw[e1] at q
   cases r with
   | nx ρ'=>exact fun σ' H' H₀' _ h'=>q .non H' H₀' h'.g (Rep.non_iff.mpr rfl)
   | rt d=>exact fun v H' H₀' g rp=>q v H' H₀' g rp
   | bk ρ'=>exact q.elim
   | ct ρ'=>exact q.elim
structure zyD (K:W.Frag) (x:Str) (C:Addr):Prop where
 xc:XC K x C
 ex:W.excIn K C [.type "ValueError",.type "Exception",.type "BaseException",.type "object"] "ValueError.__new__"=true
theorem zyD.obj {K:W.Frag}{x:Str}{C:Addr}(c:zyD K x C){h:Heap}(X:K.In h):∃ bm N nm q bs hdct sn sub ab col dd k0 k1 k2 k3 k5 mN,h.get? C=some (excClassObj nm q C N bs bm hdct sn sub ab col dd k0 k1 k2 k3 k5 "ValueError.__new__")/\h.Ns N mN/\mN "__init__"=none /\
  OwnTail h [.type "ValueError",.type "Exception",.type "BaseException",.type "object"] bm:=by
 have q:=c.ex
 unfold W.excIn at q
 split at q
 ·rename_i dd cd sl ho
  split at q
  ·rename_i C' bm k0 k1 k2 k3 n k5 hm hs
   simp only[Bool.and_eq_true,beq_iff_eq,Bool.not_eq_true'] at q
   obtain⟨⟨⟨⟨⟨rfl,rfl⟩,hdel⟩,ht⟩,hok⟩,hni⟩:=q
   obtain⟨nm,bs,mro,ns,qn,hd,sn,sub,ab,col,del⟩:=cd
   dsimp only at hm hdel hok hni
   subst hm hdel
   have hsl:sl=#[k0,k1,k2,k3,some (.builtin "ValueError.__new__"),k5]:=by
    obtain⟨l⟩:=sl
    simp only at hs
    rw[hs]
   subst hsl
   exact⟨bm,ns,nm,qn,bs,hd,sn,sub,ab,col,dd,k0,k1,k2,k3,k5,_,X _ _ ho,.of_isNs (W.isNs_of_in X hok),W.nsMap_none_of_in X hok hni,W.tail_of_in X ht⟩
  ·cases q
 ·cases q
def zfT (x:Str)(fa:Ev->Res (List D)):Ev->Res Fl:=fun ρ=>(fa (shr ρ)).bind fun ds=>if ds.length<=line then .exn ⟨x,[]⟩ else .stuck
section
variable {P:Program}{w:World}{K:W.Frag}{mg:Str->Option Value}{base:Heap}{N:List Str}{qual:Str}{scope:Scope}{f:Addr}{cd:Value}{A:Around}{outer:List PySem.Env}{s0:Shared}{H0:Hp}{E:XK}{He H0e:Hp}
theorem zdT {x:Str}{C:Addr}{np cpos pos:Pos}{e:Expr}{es:List Expr}{fa:Ev->Res (List D)}(c:zyD K x C)(hm:mg x=some (.ref C))(hh:A.handled=none)
  (hg:Gl (zg1 (CXE P w) P w K mg base N qual scope f cd A outer s0 H0 E) x)(ha:DA (zg1 (CXE P w) P w K mg base N qual scope f cd A outer s0 H0 E) E (e::es) fa)
  (hdb:(x==("__debug__" : Str))=false:=by decide)(he:starEach (e::es) (zg1 (CXE P w) P w K mg base N qual scope f cd A outer s0 H0 E).env=(false,eval e (zg1 (CXE P w) P w K mg base N qual scope f cd A outer s0 H0 E).env)::starEach es (zg1 (CXE P w) P w K mg base N qual scope f cd A outer s0 H0 E).env:=by exact zaO rfl)
  (hpl:(backTo cpos (starEach es (zg1 (CXE P w) P w K mg base N qual scope f cd A outer s0 H0 E).env)).any (·.1)=false:=by exact zb0 rfl) :
  DS (zg1 (CXE P w) P w K mg base N qual scope f cd A outer s0 H0 E) E He H0e (.Raise (some (.Call (.Name x np) (e::es) [] cpos)) none pos) (zfT x fa):=by
 refine⟨?_⟩
 intro pins s σ H D I ⟨H₀,ρ,hr,q⟩
 obtain⟨bm,Nn,nm,qn,bs,hdct,sn,sub,ab,col,dd,k0,k1,k2,k3,k5,mN,hC,hN,hni,T⟩:=c.obj I.ok.mod.kin
 refine wpAny_Raise_call_subT (C:=C) (nm:=nm) (q:=qn) (N:=Nn) (bs:=bs) (bm:=bm) (hdct:=hdct) (sn:=sn) (sub:=sub) (ab:=ab) (col:=col) (dd:=dd) (k0:=k0) (k1:=k1) (k2:=k2) (k3:=k3) (k5:=k5)
  PySem.F.excBase_ValueError (mN:=mN) (T.hasType PySem.F.excBase_ValueError.hasBase) hh (by rw[he];show(false||(backTo cpos (starEach es (zg1 (CXE P w) P w K mg base N qual scope f cd A outer s0 H0 E).env)).any (·.1))=false;rw[hpl];rfl) hni (zg6 I hg hm ⟨rfl,?_⟩ hdb)
 have hq:znZ K E H (frz He H₀ H) (fa (shr ρ)) (fun vs H1=>vs.length<=sizeLine/\E (.ref C) none H1):=by
  unfold zfT at q
  cases e1:fa (shr ρ) with
  | stuck=>rw[e1] at q;exact q
  | exn z=>rw[e1] at q;exact fun C ox H' H₀' g ex=>q C ox H' H₀' (hr.frz_grow.trans g) ex
  | ok ds =>
   rw[e1] at q
   intro vs H1 H01 g rp
   have q:zcf K E He H0e H₀ (if ds.length<=line then Res.exn ⟨x,[]⟩ else .stuck) D:=q
   by_cases hl:ds.length<=line
   ·rw[if_pos hl] at q
    exact⟨by rw[← rp.length];exact zdg hl,q (.ref C) none H1 H01 (hr.frz_grow.trans g) ⟨⟨C,rfl,c.xc⟩,rfl⟩⟩
   ·rw[if_neg hl] at q;exact q.elim
 have h1:=ha.o cpos pins s σ H _ I ⟨frz He H₀ H,shr ρ,hr.frz_le,hr.looks,hq⟩
 rw[he] at h1 ⊢
 refine Calls.evalArgs_plain (wpAny_mono h1 (fun vs s2 h2=>?_) fun _ _ y=>y)
 obtain⟨vs',H1,I1,rv,hl,hE⟩:=h2
 exact⟨rfl,by rw[← rv.length];exact hl,I1.bk _ _ hC,hN.keeps I1.bk,T.keeps I1.bk,fun h' ee hx=>zmI I1 hx hE⟩
end
section
variable {P:Program}{w:World}{st:List PySem.Env}{H H':Hp}{h g g' B:Heap}
theorem Un.fly (un:Un (frs st) [] H H' h g)(k:B.StaysIn g)(hfr:g.FunFrames B st)(hB:∀ b,b∉frs st->(H' b≠none∨∃ o,h.get? b=some o)->∃ o,B.get? b=some o)(k':B.StaysIn g')(up:g.UpToSlots g'):Un (frs st) [] H H' h g':=by
 have fst:∀ b,b∈frs st->∀ o,g.get? b=some o->∃ sl,g'.get? b=some { o with slots:=sl }:=fun b hb o e=>by
  obtain⟨_,o',ho',hd⟩:=hfr.mem hb
  rw[e] at ho';cases ho'
  exact up b o e hd
 refine⟨fun b o e n hb hx=>?_,fun b o e n hb hx=>?_,un.free,fun b o e hx=>?_,un.tups,un.frzs,un.tbls⟩
 ·exact zfg k k' (hB b hb (.inr ⟨o,e⟩)) (un.keep b o e n hb hx)
 ·obtain⟨sl,e1⟩:=un.slot b o e n hb hx
  obtain⟨sl2,e2⟩:=fst b hb _ e1
  exact⟨sl2,e2⟩
 ·obtain⟨o',e1⟩:=un.there b o e hx
  by_cases hb:b∈frs st
  ·obtain⟨sl,e2⟩:=fst b hb _ e1
   exact⟨_,e2⟩
  ·exact⟨_,zfg k k' (hB b hb (.inr ⟨o,e⟩)) e1⟩
theorem HOk.fly (ok:HOk P w H' g)(hf:∀ b∈frs st,H' b=none)(k:B.StaysIn g)(hB:∀ b,b∉frs st->(H' b≠none∨∃ o,h.get? b=some o)->∃ o,B.get? b=some o)(k':B.StaysIn g'):HOk P w H' g':=fun a o e=>by
 refine(ok a o e).stay (fun b u hb q=>?_) (fun _ q=>q) fun _ _ q=>q
 have hn:H' b≠none:=by
  rcases hb with rfl | hb
  ·rw[e];simp
  ·rw[hb];simp
 exact zfg k k' (hB b (fun hm=>hn (hf b hm)) (.inl hn)) q
theorem HOk.ext (ok:HOk P w H g){a:Addr}{φ:Heap->Prop}(hn:H a=none)(p:φ g)(ht:∃ o,g.get? a=some o)(hm:∀ h1 h2:Heap,φ h1->(∀ o,h1.get? a=some o->h2.get? a=some o)->φ h2):HOk P w (upd H a (.ext φ)) g:=fun b u e=>by
 by_cases hb:b=a
 ·subst hb;rw[zav] at e;cases e;exact⟨p,ht,hm⟩
 ·rw[zaw hb] at e
  exact(ok b u e).stay (fun c v _ q=>q) (fun c q=>by rw[zaw (zaL q hn)];exact q) fun c xs q=>by rw[zaw (zaL q hn)];exact q
theorem Un.ext {fs:List Addr}(un:Un fs [] H H' h g){a:Addr}{o:HO}(hn:H' a=none)(ha:h.get? a=none):Un fs [] H (upd H' a o) h g :=
 ⟨un.keep,un.slot,fun b ob e n hx=>by rw[zaw (fun z=>by subst z;rw[ha] at e;cases e)];exact un.free b ob e n hx,un.there,fun b xs q=>by rw[zaw (zaL (un.tups b xs q) hn)];exact un.tups b xs q,
  fun b ob u q=>by rw[zaw (zaL (un.frzs b ob u q) hn)];exact un.frzs b ob u q,fun b ps q=>by
   obtain⟨m,e⟩:=un.tbls b ps q
   exact⟨m,by rw[zaw (zaL e hn)];exact e⟩⟩
theorem zrY {a C:Addr}:∀ h1 h2:Heap,zsC a C h1->(∀ o,h1.get? a=some o->h2.get? a=some o)->zsC a C h2:=fun h1 h2 ⟨o,vs,e,c,d⟩ k=>⟨o,vs,k o e,c,d⟩
end
def hand (X:Cx)(e:Addr):Cx:={ X with A:=X.A.mark (some (.ref e)),calm:=false,xe:=fun _ _=>False }
section
variable {X:Cx}{pins:List (Addr×Obj)}{σ:L2.St}{H:Hp}{s:Shared}{e:Addr}
theorem zv3 (ok:X.Ok):(hand X e).Ok :=
 ⟨ok.mod,ok.kind,ok.glob,ok.blt,ok.above,ok.inj,ok.has,ok.cab,fun z=>Bool.noConfusion z,ok.frames,ok.stk,ok.exf,ok.bs,ok.bsz,ok.noex,ok.exfs,ok.funs,ok.frf⟩
theorem Inv.hand (I:Inv X pins σ H s):Inv (DL.hand X e) pins σ H s:=⟨zv3 I.ok,I.os,I.bare,I.base,I.loc,I.cell,I.free,I.freeC,I.pin,I.hok,I.len⟩
theorem Inv.unhand (ok:X.Ok)(I:Inv (DL.hand X e) pins σ H s):Inv X pins σ H s:=⟨ok,I.os,I.bare,I.base,I.loc,I.cell,I.free,I.freeC,I.pin,I.hok,I.len⟩
theorem Inv.gone {i:Nat}{x:Str}{m:Str->Option Value}{v:Option Value}{h':Heap}{t':Nat}(I:Inv X pins σ H s)(hN:X.N.Nodup)(hi:X.N[i]?=some x)
  (hm:∀ (j:Nat) (y:Str) (v:V),X.N[j]?=some y->σ[j]?=some (some v)->Vis X.env.scope y->∃ u,zct v u/\zz2 X.env s.heap m y u)(hn:h'.Ns X.env.locals (fun y=>if y=x then v else m y))(hs:Heap.SameBut X.env.locals s.heap h') :
  Inv X pins (σ.set i none) H { s with heap:=h',toks:=t' }:=by
 have cne:=I.cne
 obtain⟨m0,⟨oL,_,_,hoL,_⟩,_⟩:=id I.loc
 have tracked:HOk X.prog X.w H h':=fun b ob e=>by
  refine(I.hok b ob e).stay (fun c w' hc q=>(hs.2 c ?_).trans q) (fun _ q=>q) fun _ _ q=>q
  rintro rfl
  have hfree:=I.free
  rcases hc with rfl | hc
  ·rw[hfree] at e;cases e
  ·rw[hfree] at hc;cases hc
 refine⟨I.ok,I.os,I.bare,⟨fun b o e n hb hx=>?_,fun b o e n hb hx=>?_,I.base.free,fun b o e hx=>?_,I.base.tups,I.base.frzs,I.base.tbls⟩,⟨_,hn,fun j y v' e1 e2 e3=>?_⟩,fun y c e=>?_,I.free,I.freeC,fun p hp=>?_,tracked,by simpa using I.len⟩
 ·exact(hs.2 b (Nat.ne_of_lt (Nat.lt_of_lt_of_le (Heap.lt_size e) I.ok.above))).trans (I.base.keep b o e n hb hx)
 ·obtain⟨sl,e1⟩:=I.base.slot b o e n hb hx
  exact⟨sl,(hs.2 b (Nat.ne_of_lt (Nat.lt_of_lt_of_le (Heap.lt_size e) I.ok.above))).trans e1⟩
 ·obtain⟨o',e1⟩:=I.base.there b o e hx
  exact⟨o',(hs.2 b (Nat.ne_of_lt (Nat.lt_of_lt_of_le (Heap.lt_size e) I.ok.above))).trans e1⟩
 ·by_cases hj:j=i
  ·subst hj
   have hiσ:j < σ.length:=by rw[I.len];exact(List.getElem?_eq_some_iff.mp hi).1
   rw[List.getElem?_set_self hiσ] at e2;cases e2
  ·rw[List.getElem?_set_ne (Ne.symm hj)] at e2
   obtain⟨u',r',q⟩:=hm j y v' e1 e2 e3
   refine⟨u',r',?_⟩
   rcases q with⟨k,e⟩ | ⟨k,c,e,z⟩
   ·refine .inl ⟨k,?_⟩
    have:y≠x:=fun e=>hj (zlr hN e1 (e▸hi))
    simp [this,e]
   ·exact .inr ⟨k,c,e,z.sameBut hs (cne y c e)⟩
 ·obtain⟨w',z⟩:=I.cell y c e
  exact⟨w',z.sameBut hs (cne y c e)⟩
 ·obtain⟨e,n,ne,nf,d⟩:=I.pin p hp
  exact⟨(hs.2 p.1 ne).trans e,n,ne,nf,d⟩
theorem zyn {H1:Hp}{s1 s':Shared}{Ex:XK}{ev:Value}{c n:Str}{np hpos:Pos}{b₀:Stmt}{suite:List Stmt}{rest:List ExceptHandler}{cv:Value}{ni:Nat}{D:zk3}(hstk:X.stack=X.env::X.outer/\X.env.frame=some X.env.locals)(I:Inv X pins σ H1 s1)
  (h:CXE X.prog X.w X.stack H1 s1 Ex ev s')(hg:Gl X c)(hm:X.mg c=some cv)(hx:∀ C H',Ex (.ref C) none H'->W.exmOne X.K (.ref C) cv=some true)
  (hN:X.N.Nodup)(hi:X.N[ni]?=some n)(hlo:X.env.scope.names.lookup n=some .local)
  (hs:∀ ea C H' s2,Ex (.ref C) none H'->H' ea=none->Inv (DL.hand X ea) pins (σ.set ni (some (.ref ea))) (upd H' ea (.ext (zsC ea C))) s2 ->
   wpAny (model X.prog X.w) (X.A.mark (some (.ref ea))) (execs (b₀::suite) X.env) (SP (DL.hand X ea) pins { nx:=fun σ' H=>D.nx (σ'.set ni none) H,rt:=D.rt,bk:=fun σ' H=>D.bk (σ'.set ni none) H,ct:=fun σ' H=>D.ct (σ'.set ni none) H }) (fun _ _=>False) s2)
  (hdb:(c==("__debug__" : Str))=false:=by decide) :
  wpAny (model X.prog X.w) X.A (noteFrame ev X.env) (fun _ s₂=>wpAny (model X.prog X.w) X.A (setFlight ev none) (fun _ s₃ =>
   wpAny (model X.prog X.w) X.A (handleBy ev X.env (.ExceptHandler (some (.Name c np)) (some n) (b₀::suite) hpos::rest)) (SP X pins D) X.xe s₃) X.xe s₂) X.xe s':=by
 obtain⟨ea,C,a0,B,H',rfl,os,bare,un,hok,hne,fl,hB,hE⟩:=h
 have hA:X.A.frames=some (X.env::X.outer):=by rw[← hstk.1];exact I.ok.frames
 have fl0:=fl
 rw[hstk.1] at fl
 have hf1:∀ b∈frs X.stack,H' b=none:=fun b hb=>by
  obtain⟨_,o,ho,_⟩:=I.stack.mem hb
  exact un.free b o ho (I.stkFree b hb) (by simp)
 have hnew:s1.heap.get? ea=none:=by
  cases q:s1.heap.get? ea with
  | none=>rfl
  | some o =>
   by_cases hb:ea∈frs X.stack
   ·obtain⟨_,o',ho',hd⟩:=fl0.2.2.1.mem hb
    obtain⟨oe,vs,he,_,hd',_⟩:=fl0.first
    rw[ho'] at he;cases he
    exact absurd hd' (hd vs)
   ·obtain⟨u,hu⟩:=hB ea hb (.inr ⟨o,q⟩)
    rw[fl.2.1] at hu;cases hu
 have inv:∀ g,B.StaysIn g->s'.heap.UpToSlots g->Inv X pins σ H' { s' with heap:=g }:=fun g k up =>
  I.call' (ch:=[]) os (Un.fly un fl0.1 fl0.2.2.1 hB k up) (HOk.fly hok hf1 fl0.1 hB k) bare (fun _ z=>nomatch z)
 have invx:∀ g,B.StaysIn g->s'.heap.UpToSlots g->zsC ea C g->Inv X pins σ (upd H' ea (.ext (zsC ea C))) { s' with heap:=g }:=fun g k up p =>
  I.call' (ch:=[]) os (Un.ext (Un.fly un fl0.1 fl0.2.2.1 hB k up) hne hnew) (HOk.ext (HOk.fly hok hf1 fl0.1 hB k) hne p (let ⟨o,_,e,_⟩:=p;⟨o,e⟩) zrY) bare (fun _ z=>nomatch z)
 refine wpAny_looks_onW hA hstk.2 fl fun h4 held4 up4=>?_
 refine wpAny_landsW held4 fun h5 fl5 up5=>?_
 have I5:Inv (DL.hand X ea) pins σ H' { s' with heap:=h5 }:=Inv.hand (inv h5 fl5.1 (up4.trans up5))
 refine wpAny_handleBy_cons (codeAny_handlers_test ?_) (by intro q;cases q)
 refine zg6 I5 hg hm ?_ hdb
 obtain⟨ob,hob,hoc⟩:=fl5.there
 have LT:W.Looks (model X.prog X.w) h5 (typeOf (.ref ea)) (.ref C):=hoc▸(W.Looks.ld hob).andThen .now
 refine(W.exm_one I5.kIn LT (hx C H' hE)).here ?_
 refine codeAny_handlers_suite_as ?_
 refine lands_againW fl5 fun h6 fl6 up6=>?_
 obtain⟨oe,vs,he,hc,hd,_⟩:=fl6.first
 have I6:Inv (DL.hand X ea) pins σ (upd H' ea (.ext (zsC ea C))) { s' with heap:=h6 }:=Inv.hand (invx h6 fl6.1 ((up4.trans up5).trans up6) ⟨oe,vs,he,hc,hd⟩)
 refine zgz (X:=DL.hand X ea) (v:=.ref ea) I6 hN hi (.inl hlo) rfl (fun s7 I7=>?_) (.inr hlo)
 refine wpAny_mono (hs ea C H' s7 hE hne I7) (fun f s8 h8=>?_) fun _ _ z=>z.elim
 have hcls:(X.env.scope.kind==.class||(X.env.scope.kind==.module&&X.env.locals != X.env.globals))=false:=by rw[I.ok.kind];rfl
 have fin:∀ {σ':L2.St}{H2:Hp}{Q:Unit->Shared->Prop},Inv (DL.hand X ea) pins σ' H2 s8->(∀ s9,Inv X pins (σ'.set ni none) H2 s9->Q () s9) ->
   wpAny (model X.prog X.w) X.A (do bindName X.env n .none;unbindBehindTheSuite X.env n hpos) Q X.xe s8:=fun {σ' H2 Q} J q=>by
  have J':=Inv.unhand I.ok J
  obtain⟨m,hn,hl⟩:=id J'.loc
  exact wpAny_nameGoes_keeps hlo hn hcls fun h' v hn' hs'=>q _ (Inv.gone J' hN hi hl hn' hs')
 cases f with
 | next=>obtain⟨σ',H2,J,q⟩:=h8;exact fin J fun s9 J9=>⟨_,H2,J9,q⟩
 | brk=>obtain⟨σ',H2,J,q⟩:=h8;exact fin J fun s9 J9=>⟨_,H2,J9,q⟩
 | cont=>obtain⟨σ',H2,J,q⟩:=h8;exact fin J fun s9 J9=>⟨_,H2,J9,q⟩
 | ret u=>obtain⟨v,σ',H2,J,r,q⟩:=h8;exact fin J fun s9 J9=>⟨v,_,H2,J9,r,q⟩
end
theorem PA.nox {X:Cx}{es:List Expr}{t:TA}(h:PA X.nox es t):PA X es t:=fun pos pins s σ H Q I hw =>
 wpAny_mono (h pos pins s σ H Q (I.wish _) hw) (fun _ _ ⟨v,H',I',r,q⟩=>⟨v,H',I'.unwish,r,q⟩) fun _ _ z=>False.elim z
section
variable {X:Cx}{pins:List (Addr×Obj)}{σ:L2.St}{H:Hp}{s:Shared}{CX:CXT}{k:Nat}{f:Addr}{fd:FuncData}{ps:List Str}{sp:Sp}{Ex:XK}{x:Str}{p pos:Pos}{e:Expr}{es:List Expr}{t:TA}
theorem zwq {Q:VK}{XE:Value->Shared->Prop}(F:zcL X.prog X.w X.K X.mg X.base CX k f fd ps sp)(hr:zhz k X.A)(hg:Gl X x)(hm:X.mg x=some (.ref f))(hk:W.keepIn X.K (.ref f)=true)(hb:zbg X.K fd ps [])(ha:PA X.nox (e::es) t)
  (I:Inv X pins σ H s)(h:t σ H fun vs H1=>sp vs H1 Q Ex)(hx:∀ H1 s1 e s',Inv X pins σ H1 s1->CX X.stack H1 s1 Ex e s'->XE e s')
  (hdb:(x==("__debug__" : Str))=false:=by decide)(he:starEach (e::es) X.env=(false,eval e X.env)::starEach es X.env:=by exact zaO rfl)(hpl:(backTo pos (starEach es X.env)).any (·.1)=false:=by exact zb0 rfl) :
  wpAny (model X.prog X.w) X.A (eval (.Call (.Name x p) (e::es) [] pos) X.env) (EP X pins σ Q) XE s:=by
 refine wpAny_Call_Name_kw (zg6 I hg hm ?_ hdb)
 have ha':PA (X.wish XE) (e::es) t:=PA.nox (X:=X.wish XE) ha
 refine W.callWith_K (h₀:=X.base) I.ok.mod.kin hk (thn (ha' pos pins s σ H _ (I.wish XE) h) fun us s1 ⟨vs,H1,I1,r,q⟩=>⟨I1.unwish.kIn,?_⟩) he hpl
 have I1:=I1.unwish
 have hl:us.length=ps.length:=by rw[← r.length];exact F.len _ _ _ _ q
 have hb1:=hb s1 us I1.kIn (by simpa using hl)
 rw[List.append_nil] at hb1
 refine wpAny_call (codeAny_mono (F.run X.A X.stack s1 H1 ⟨us,[]⟩ us vs Q Ex hr I1.env0 hb1 r q) fun r s' hq=>?_)
 cases r with
 | error e=>exact hx H1 s1 e s' I1 hq
 | ok fl =>
  cases fl with
  | ret u=>exact I1.after hq
  | next=>exact False.elim hq
  | brk=>exact False.elim hq
  | cont=>exact False.elim hq
end
def zuo (K:W.Frag)(He H0e H₀:Hp)(r:Res Fl)(D:zk3):Prop:=match r with
 | .exn _=>True
 | r=>zcf K E0 He H0e H₀ r D
def zz5 (K:W.Frag)(He H0e H₀:Hp)(σ:L2.St)(ρ:Ev)(r:Res Fl):XK:=fun C ox H'=>∃ x H₀',r=.exn x/\zaM H₀ H₀'/\SRx K He H0e H₀' σ H' ρ/\ExR K H₀' x C ox
structure TB (X:Cx) (st:Stmt) (g:Ev->Res Fl):Prop where
 o:∀ (pins:List (Addr×Obj)) (s:Shared) (σ:L2.St) (H He H0e H₀:Hp) (ρ:Ev) (D:zk3) (XE:Value->Shared->Prop),Inv X pins σ H s->SRx X.K He H0e H₀ σ H ρ->zuo X.K He H0e H₀ (g ρ) D ->
  (∀ H1 s1 e s',Inv X pins σ H1 s1->CXE X.prog X.w X.stack H1 s1 (zz5 X.K He H0e H₀ σ ρ (g ρ)) e s'->XE e s')->wpAny (model X.prog X.w) X.A (exec st X.env) (SP X pins D) XE s
def zs9 (i:Nat)(fa:Ev->Res (List D))(m:List D->Res D):Ev->Res Fl:=fun ρ=>match fa ρ with
 | .ok ds=>(m ds).bind fun d=>.ok (.nx (ρ.set i (.sh d)))
 | _=>.stuck
section
variable {X:Cx}{E:XK}{e:Expr}{es:List Expr}{fa:Ev->Res (List D)}{pos:Pos}
theorem zwS {i:Nat}{y:Str}{pos':Pos}{k n:Nat}{fn:Addr}{fd:FuncData}{ps:List Str}{m:List D->Res D}{x:Str}{p cpos:Pos}(hN:X.N.Nodup)(hi:X.N[i]?=some y)(hy:Loc X.env.scope y)
  (F:zcL X.prog X.w X.K X.mg X.base (CXE X.prog X.w) k fn fd ps (spD X.K n m))(hr:zhz k X.A)(hg:Gl X x)(hm:X.mg x=some (.ref fn))
  (hk:W.keepIn X.K (.ref fn)=true)(hb:zbg X.K fd ps [])(ha:DA X.nox E0 (e::es) fa)(hn:(e::es).length=n:=by rfl)(hl:∀ ρ ds,fa ρ=.ok ds->ds.length=(e::es).length)
  (hdb:(x==("__debug__" : Str))=false:=by decide)(he:starEach (e::es) X.env=(false,eval e X.env)::starEach es X.env:=by exact zaO rfl)(hpl:(backTo cpos (starEach es X.env)).any (·.1)=false:=by exact zb0 rfl)
  (hs:swapsWith (.Call (.Name x p) (e::es) [] cpos) (some (.Name y pos')) pos.line X.env=pure false:=by rfl)
  (hf:X.fn y=true∨X.env.scope.names.lookup y=some .local := by first | exact .inl rfl | exact .inr rfl | assumption):TB X (.Assign [.Name y pos'] (.Call (.Name x p) (e::es) [] cpos) pos) (zs9 i fa m):=by
 refine⟨fun pins s σ H He H0e H₀ ρ D XE I h q hx=>?_⟩
 refine wpAny_Assign_Name (thn (zwq (Q:=fun v H1=>D.nx (σ.set i (some v)) H1) F hr hg hm hk hb ha.o I ?_ hx hdb he hpl) fun v s1 ⟨y,H1,I1,r1,q1⟩=>?_) hs
 ·refine⟨H₀,ρ,h.g.sub,h.rd,?_⟩
  unfold zs9 at q ⊢
  cases e1:fa ρ with
  | stuck=>rw[e1] at q;exact q
  | exn x=>rw[e1] at q;exact q.elim
  | ok ds =>
   rw[e1] at q
   intro vs H1 H01 g1 r1
   refine⟨?_,H01,ds,g1.sub,r1,?_⟩
   ·have:=r1.length
    have:=hl ρ ds e1
    omega
   ·show post _ _ _ _ (m ds) _
    cases e2:m ds with
    | stuck=>simp only[e2] at q;exact q
    | exn x=>exact fun C ox H' H₀' g ex=>⟨x,H₀',by simp only[e2];rfl,g1.z.trans g.z,h.grow (g1.trans g),ex⟩
    | ok d =>
     simp only[e2] at q
     exact fun v H' H₀' g rp=>q _ H' H₀' (g1.z.trans g.z) ((h.grow (g1.trans g)).put rp)
 ·exact zgz I1 hN hi hy r1 (fun s2 I2=>⟨_,H1,I2,q1⟩) hf
theorem SRx.drop {K:W.Frag}{He H0e H₀ H:Hp}{σ:L2.St}{ρ:Ev}(h:SRx K He H0e H₀ σ H ρ){i:Nat}:SRx K He H0e H₀ (σ.set i none) H (ρ.set i .no):=by
 have key:∀ (j:Nat) (s:Sl),(ρ.set i .no)[j]?=some s->s≠.no->j≠i/\ρ[j]?=some s:=fun j s e hs=>by
  by_cases hj:i=j
  ·subst hj
   rw[List.getElem?_set_self'] at e
   cases q:ρ[i]? with
   | none=>rw[q] at e;cases e
   | some s'=>rw[q] at e;cases e;exact absurd rfl hs
  ·rw[List.getElem?_set_ne hj] at e
   exact⟨fun z=>hj z.symm,e⟩
 refine⟨h.g,fun j d' e=>?_,fun j d' e=>?_,fun j k d1 d2 hn e1 e2=>?_,by simp [h.ln],h.ex.upd (fun j s e=>?_) (zaM.refl _) (fun a vs _ e=>e) fun p us _ h0 hp _=>⟨hp,h0⟩⟩
 rotate_left 3
 ·by_cases hs:s=.no
  ·exact .inr (.inr (.inl hs))
  ·obtain⟨hj,e'⟩:=key j s e hs
   exact .inl ⟨e',by rw[List.getElem?_set_ne (Ne.symm hj)]⟩
 ·obtain⟨hj,e'⟩:=key j _ e (by simp)
  obtain⟨v',h1,h2⟩:=h.rd j d' e'
  exact⟨v',by rw[List.getElem?_set_ne (Ne.symm hj)];exact h1,h2⟩
 ·obtain⟨hj,e'⟩:=key j _ e (by simp)
  obtain⟨a,h1,h2⟩:=h.ow j d' e'
  exact⟨a,by rw[List.getElem?_set_ne (Ne.symm hj)];exact h1,h2⟩
 ·obtain⟨hj,e1'⟩:=key j _ e1 (by simp)
  obtain⟨hk,e2'⟩:=key k _ e2 (by simp)
  rw[List.getElem?_set_ne (Ne.symm hj),List.getElem?_set_ne (Ne.symm hk)]
  exact h.ap j k d1 d2 hn e1' e2'
def zyz (ni:Nat)(r:Fl):Res Fl:=match r with
 | .nx ρ=>.ok (.nx (ρ.set ni .no))
 | .rt d=>.ok (.rt d)
 | .bk ρ=>.ok (.bk (ρ.set ni .no))
 | .ct ρ=>.ok (.ct (ρ.set ni .no))
def zwB (g:Ev->Res Fl)(hit:Str->Bool)(ni:Nat)(sh:Ev->Res Fl):Ev->Res Fl:=fun ρ=>match g ρ with
 | .exn x=>if hit x.cls=true then(sh (ρ.set ni (.sh (.exc x.cls)))).bind (zyz ni) else .stuck
 | r=>r
theorem zyb {He H0e:Hp}{st b₀:Stmt}{suite:List Stmt}{g sh:Ev->Res Fl}{hit:Str->Bool}{ni:Nat}{c n:Str}{np hpos:Pos}{cv:Value}(hstk:X.stack=X.env::X.outer/\X.env.frame=some X.env.locals)(hb:TB X st g)
  (hg:Gl X c)(hm:X.mg c=some cv)(hhit:∀ x C,hit x=true->XC X.K x C->W.exmOne X.K (.ref C) cv=some true)(hN:X.N.Nodup)(hi:X.N[ni]?=some n)(hlo:X.env.scope.names.lookup n=some .local)
  (hh:∀ ea,DSs (DL.hand X ea) E He H0e (b₀::suite) sh)(hdb:(c==("__debug__" : Str))=false:=by decide) :
  DS X E He H0e (.Try [st] [.ExceptHandler (some (.Name c np)) (some n) (b₀::suite) hpos] [] [] pos) (zwB g hit ni sh):=by
 refine⟨?_⟩
 intro pins s σ H D I ⟨H₀,ρ,h,q⟩
 have hq:zuo X.K He H0e H₀ (g ρ) D:=by
  unfold zwB at q
  cases e1:g ρ with
  | exn x=>trivial
  | stuck=>rw[e1] at q;exact q
  | ok r=>rw[e1] at q;cases r<;>exact q
 refine wpAny_Try_except (wpAny_execs_cons (thn (hb.o pins s σ H He H0e H₀ ρ D _ I h hq fun H1 s1 e s' I1 hc=>?_) fun f s1 hf=>?_))
 ·have hit1:∀ x,g ρ=.exn x->hit x.cls=true:=fun x e1=>by
   unfold zwB at q
   rw[e1] at q
   by_cases z:hit x.cls=true
   ·exact z
   ·simp only[if_neg z] at q;exact q.elim
  refine zyn hstk I1 hc hg hm (fun C H' ⟨x,H₀',e1,_,_,⟨⟨c',ec,xc⟩,_⟩⟩=>?_) hN hi hlo (fun ea C H' s2 ⟨x,H₀',e1,sm,srx,⟨⟨c',ec,xc⟩,_⟩⟩ hne I2=>?_) hdb
  ·cases ec;exact hhit _ _ (hit1 x e1) xc
  ·cases ec
   refine(hh ea).o pins s2 _ _ _ I2 ⟨upd H₀' ea (.ext (zsC ea C)),ρ.set ni (.sh (.exc x.cls)),(srx.grow (zbn.alloc srx.g.sub hne)).put (Rep.exc_iff.mpr ⟨ea,C,rfl,xc,.inl zav⟩),?_⟩
   have sm2:zaM H₀ (upd H₀' ea (.ext (zsC ea C))):=sm.trans (zbn.alloc srx.g.sub hne).z
   unfold zwB at q
   rw[e1] at q
   simp only[if_pos (hit1 x e1)] at q
   cases e2:sh (ρ.set ni (.sh (.exc x.cls))) with
   | stuck=>rw[e2] at q;exact q
   | exn z=>rw[e2] at q;exact q
   | ok r =>
    rw[e2] at q
    cases r with
    | nx ρ'=>exact fun σ' H2 H02 s2 h2=>q _ H2 H02 (sm2.trans s2) (SRx.drop h2)
    | rt d=>exact q
    | bk ρ'=>exact fun σ' H2 H02 s2 h2=>q _ H2 H02 (sm2.trans s2) (SRx.drop h2)
    | ct ρ'=>exact fun σ' H2 H02 s2 h2=>q _ H2 H02 (sm2.trans s2) (SRx.drop h2)
 ·cases f with
  | next=>exact wpAny_execs_nil (wpAny_execs_nil hf)
  | brk=>exact hf
  | cont=>exact hf
  | ret u=>exact hf
end
structure zyr (k:Nat) (A:Around):Prop where
 dp:A.depth+3*k+5 < recursionLimit
 un:A.units+16*k+200 < cLine
theorem zhz.h {k:Nat}{A:Around}(r:zhz k A):zyr k A:=⟨r.dp,r.un⟩
structure FnH (P:Program) (w:World) (K:W.Frag) (mg:Str->Option Value) (base:Heap) (k:Nat) (f:Addr) (fd:FuncData) (ps:List Str) (sp:Sp):Prop where
 len:∀ vs H Q E,sp vs H Q E->vs.length=ps.length
 run:∀ (A:Around) (outer:List PySem.Env) (s:Shared) (H:Hp) (args:Args) (us:List Value) (vs:List V) (Q:VK) (E:XK),zyr k A->zuH P w K mg base A outer s H->BindsTo s fd args (ps.zip us)->zbT vs us->sp vs H Q E ->
  codeAny (model P w) A (.call (.ref f) args) (CR CX0 outer P w H s Q E) s
theorem FnH.ok {P:Program}{w:World}{K:W.Frag}{mg:Str->Option Value}{base:Heap}{k:Nat}{f:Addr}{fd:FuncData}{ps:List Str}{sp:Sp}(F:FnH P w K mg base k f fd ps sp):zcL P w K mg base CX0 k f fd ps sp :=
 ⟨F.len,fun A outer s H args us vs Q E hr=>F.run A outer s H args us vs Q E (zhz.h hr)⟩
section
variable {X:Cx}{E:XK}{e a:Expr}{es:List Expr}{f:Ev->Res D}{fa:Ev->Res (List D)}{pos:Pos}
end
def zqi (tab:Str->Option Bool)(x:D):Res D:=match x with
 | .exc c=>(match tab c with
  | some b=>.ok (.bl b)
  | none=>.stuck)
 | _=>.stuck
def znu (K:W.Frag)(tab:Str->Option Bool)(cv:Value):Prop:=∀ c C b,tab c=some b->XC K c C->W.kitOne K (.ref C) cv=some b
section
variable {X:Cx}{E:XK}{e a:Expr}{es:List Expr}{f:Ev->Res D}{pos:Pos}{tab:Str->Option Bool}
theorem zvZ {cV:V}{cv:Value}(hrel:∀ u,zct cV u->u=cv)(ht:znu X.K tab cv):zkg X (.builtin "isinstance") (fun vs H Q=>∃ c v b,vs=[v,cV]/\Rep X.K H (.exc c) v/\tab c=some b/\Q (.bl b) H):=by
 intro pins s σ H xs us Q I r h
 obtain⟨c,v,b,rfl,h1,h2,q⟩:=h
 cases r with
 | cons r1 r2 =>
  cases r2 with
  | cons r3 r4 =>
   cases r4
   rename_i u1 u2
   obtain rfl:=hrel _ r3
   obtain⟨ad,C,rfl,hc,hr⟩:=Rep.exc_iff.mp h1
   cases (show u1=Value.ref ad from r1)
   obtain⟨p,_,_⟩:=hr.ok I.hok
   exact W.kia_one (zoX hc.ek hc.ek.isCls) I.kIn p (ht c C b h2 hc) (fun z=>nomatch z) fun tk=>⟨.bl b,H,I.tok _,rfl,q⟩
theorem ztN {cV:V}{σ:L2.St}{H:Hp}{Q:VK}(h:tD X.K E (za2 f (zqi tab)) σ H Q):tD X.K E f σ H fun v H1=>∃ c v' b,[v,cV]=[v',cV]/\Rep X.K H1 (.exc c) v'/\tab c=some b/\Q (.bl b) H1:=by
 obtain⟨H₀,ρ,hs,hr,q⟩:=h
 refine⟨H₀,ρ,hs,hr,?_⟩
 unfold za2 at q
 cases e1:f ρ with
 | stuck=>rw[e1] at q;exact q
 | exn x=>rw[e1] at q;exact q
 | ok d =>
  rw[e1] at q
  intro v H1 H01 g1 r1
  have q:post X.K E H H₀ (zqi tab d) Q:=q
  cases d with
  | exc c =>
   unfold zqi at q
   cases e2:tab c with
   | none=>simp only[e2] at q;exact q.elim
   | some b=>simp only[e2] at q;exact⟨c,v,b,rfl,r1.mono g1.sub,e2,q _ H1 H01 g1 (rb _)⟩
  | _=>exact q.elim
theorem zuB {x:Str}{p1 p2:Pos}{cV:V}{cv:Value}(hrel:∀ u,zct cV u->u=cv)(ht:znu X.K tab cv)(hc:PE X (.Name x p2) (tC cV))(hgi:Gl X "isinstance")(hmi:X.mg "isinstance"=none)(ha:DE X E a f)
  (he:starEach [a,.Name x p2] X.env=(false,eval a X.env)::starEach [.Name x p2] X.env:=by exact zaO rfl)(he2:starEach [.Name x p2] X.env=(false,eval (.Name x p2) X.env)::starEach [] X.env:=by exact zaO rfl)(hpl:(backTo pos (starEach [.Name x p2] X.env)).any (·.1)=false:=by exact zb0 rfl) :
  DE X E (.Call (.Name "isinstance" p1) [a,.Name x p2] [] pos) (za2 f (zqi tab)):=by
 refine⟨?_⟩
 exact zaT (zlm (zvZ hrel ht) hgi hmi PyProof.Rows.Boot.«isinstance» (zeY ha.o (zeY hc ziD he2) he) (by decide) (by decide) he hpl) fun σ H Q h=>ztN h
theorem zjU {x:Str}{p1 p2:Pos}{C:Addr}(hg:Gl X x)(hm:X.mg x=some (.ref C))(ht:znu X.K tab (.ref C))(hgi:Gl X "isinstance")(hmi:X.mg "isinstance"=none)(ha:DE X E a f)(hdb:(x==("__debug__" : Str))=false:=by decide)
  (he:starEach [a,.Name x p2] X.env=(false,eval a X.env)::starEach [.Name x p2] X.env:=by exact zaO rfl):DE X E (.Call (.Name "isinstance" p1) [a,.Name x p2] [] pos) (za2 f (zqi tab)) :=
 zuB (cV:=.ref C) (fun u h=>h) ht (zrk hg hm rfl hdb) hgi hmi ha he
theorem zr8 {x:Str}{p1 p2:Pos}{T:String}(hg:Gl X x)(hm:X.mg x=none)(hv:bootBuiltins x=some (.type T))(ht:znu X.K tab (.type T))(hgi:Gl X "isinstance")(hmi:X.mg "isinstance"=none)(ha:DE X E a f)(hn:x≠"__name__":=by decide)(hdb:(x==("__debug__" : Str))=false:=by decide)
  (he:starEach [a,.Name x p2] X.env=(false,eval a X.env)::starEach [.Name x p2] X.env:=by exact zaO rfl):DE X E (.Call (.Name "isinstance" p1) [a,.Name x p2] [] pos) (za2 f (zqi tab)) :=
 zuB (cV:=.ty T) (fun u h=>h) ht (zrm hg hm hv rfl hn hdb) hgi hmi ha he
end
end DL
namespace DL
open PySem PySem.Spec PyProof.Rows L2 PySem.W
structure znw (K:Frag) (x:Str) (C:Addr):Prop where
 ns:nsIn K mainGlobals x=some (some (.ref C))
 ty:typeIn K (.ref C)=some (.type "type")
 ob:mroIn K C (.type "object")=some true
 be:subIn K (.ref C) (.type "BaseException")=some true
theorem znw.isCls {K:Frag}{x:Str}{C:Addr}(Z:znw K x C):(clsIn K C).isSome=true:=by
 obtain⟨cd,a,b⟩:=Option.bind_eq_some_iff.mp Z.ob
 rw[a];rfl
theorem znw.kitCls {K:Frag}{x:Str}{C:Addr}(Z:znw K x C){t:Value}:W.kitCls K t (.ref C)=subIn K t (.ref C):=by
 show(if((clsIn K C).isSome&&typeIn K (.ref C)==some (.type "type"))=true then subIn K t (.ref C) else none)=_
 rw[Z.isCls,Z.ty];rfl
theorem znw.exm {K:Frag}{x:Str}{C:Addr}(Z:znw K x C){t:Value}{b:Bool}(h:subIn K t (.ref C)=some b):exmOne K t (.ref C)=some b:=by
 unfold exmOne
 rw[Z.be,if_pos (by decide),Z.kitCls,h]
theorem znw.kit {K:Frag}{x:Str}{C R:Addr}(Z:znw K x C){b:Bool}(hR:subIn K (.ref R) (.ref R)=some true)(h:subIn K (.ref R) (.ref C)=some b):kitOne K (.ref R) (.ref C)=some b:=by
 unfold kitOne
 by_cases e:(Value.ref R==Value.ref C)=true
 ·rw[if_pos e]
  cases (Value.ref.inj (beq_iff_eq.mp e))
  rw[← hR,h]
 ·rw[if_neg e,Z.kitCls,h]
theorem zjC {K:Frag}{C:Addr}{T:String}{b:Bool}(hm:kitMeta T=true)(h:subIn K (.ref C) (.type T)=some b):kitOne K (.ref C) (.type T)=some b:=by
 unfold kitOne
 rw[if_neg (by intro z;cases beq_iff_eq.mp z)]
 show(if kitMeta T=true then subIn K (.ref C) (.type T) else none)=_
 rw[if_pos hm,h]
theorem zjE:∀ T∈zgl,kitMeta T=true:=by decide +kernel
theorem zfn:kitMeta "ValueError"=true:=by decide +kernel
structure zqd (K:Frag) (x:Str) (C:Addr):Prop where
 i:znw K x C
 cls:findIn K (.ref C) "__class__"=some (some (.builtin "object.__class__"))
 ga:findIn K (.ref C) "__getattribute__"=some (some (.builtin "BaseException.__getattribute__"))
 gt:findIn K (.ref C) "__getattr__"=some none
 t1:subIn K (.ref C) (.type "NoneType")=some false
 t2:subIn K (.ref C) (.type "bool")=some false
 t3:subIn K (.ref C) (.type "int")=some false
 t4:subIn K (.ref C) (.type "str")=some false
 t5:subIn K (.ref C) (.type "tuple")=some false
 t6:subIn K (.ref C) (.type "list")=some false
 t7:subIn K (.ref C) (.type "dict")=some false
 ve:subIn K (.ref C) (.type "ValueError")=some true
 self:subIn K (.ref C) (.ref C)=some true
 ex:excIn K C [.type "ValueError",.type "Exception",.type "BaseException",.type "object"] "ValueError.__new__"=true
theorem zqd.xcls {K:Frag}{x:Str}{C:Addr}(Z:zqd K x C):zyD K x C where
 xc:=⟨Z.i.ns,⟨Z.cls,Z.ga,Z.gt,Z.i.ob,Z.i.be⟩,fun T hT=>by
  refine zjC (zjE T hT) ?_
  simp only[zgl,List.mem_cons,List.not_mem_nil,or_false] at hT
  rcases hT with rfl | rfl | rfl | rfl | rfl | rfl | rfl
  ·exact Z.t1
  ·exact Z.t2
  ·exact Z.t3
  ·exact Z.t4
  ·exact Z.t5
  ·exact Z.t6
  ·exact Z.t7⟩
 ex:=Z.ex
theorem XC.inj {K:Frag}{x:Str}{C C':Addr}(a:XC K x C)(b:XC K x C'):C=C':=by
 have:=a.ns.symm.trans b.ns
 simpa using this
def zmt:List (Str×Bool)->Str->Option Bool
 | [],_=>none
 | (x,b)::r,c=>if x=c then some b else zmt r c
theorem zff {K:Frag}{p:Str->Addr->Bool->Prop}:∀ {l:List (Str×Bool)},(∀ q∈l,∃ C,XC K q.1 C/\p q.1 C q.2)->∀ c C b,zmt l c=some b->XC K c C->p c C b
 | [],_,c,C,b,h,_=>by cases h
 | (x,v)::r,H,c,C,b,h,xc=>by
  unfold zmt at h
  by_cases e:x=c
  ·subst e
   rw[if_pos rfl] at h;cases h
   obtain⟨C',xc',q⟩:=H _ List.mem_cons_self
   obtain rfl:=XC.inj xc xc'
   exact q
  ·rw[if_neg e] at h
   exact zff (fun q hq=>H q (List.mem_cons_of_mem _ hq)) c C b h xc
def zrO (l:List (Str×Bool))(c:Str):Bool:=zmt l c==some true
theorem ztR {K:Frag}{l:List (Str×Bool)}{cv:Value}(H:∀ q∈l,∃ C,XC K q.1 C/\exmOne K (.ref C) cv=some q.2):∀ x C,zrO l x=true->XC K x C->exmOne K (.ref C) cv=some true:=fun x C h xc =>
 zff (p:=fun _ C b=>exmOne K (.ref C) cv=some b) H x C true (by unfold zrO at h;exact beq_iff_eq.mp h) xc
end DL
namespace DL
open PySem PySem.Spec PyProof.Rows L2
section
variable {X:Cx}{E:XK}{tg a b c:Expr}{f g:Ev->Res D}
end
section
variable {X:Cx}{pins:List (Addr×Obj)}{σ:L2.St}{H:Hp}{s:Shared}{h':Heap}
theorem zqE {t':Nat}{fp:List Addr}{T:Addr}{xs:List V}(I:Inv X pins σ H s)(k:∀ b o,b∉fp->s.heap.get? b=some o->h'.get? b=some o)(hf:∀ b∈fp,zqe X pins H b)(hT:s.heap.objs.size<=T)
  (new:zb8 X.prog X.w (upd H T (.tup xs)) h' T (.tup xs)):Inv X pins σ (upd H T (.tup xs)) { s with heap:=h',toks:=t' }:=by
 have hn:H T=none:=I.hok.fresh hT
 have nit:∀ b u,H b=some u->b∉fp:=fun b u e z=>by rw[(hf b z).1] at e;cases e
 refine I.step (g':=s.gens) (d':=s.drawn) (ch:=fp) (fun b hb=>?_) (fun b o _ _ hc e _=>k b o hc e) (fun b o _ _ hc e _=>⟨o.slots,k b o hc e⟩) (fun b o _ e n=>?_)
  (fun b o hc e=>⟨o,k b o hc e⟩) (fun b xs e=>by rw[zaw (zaL e hn)];exact e) (fun b o u e=>by rw[zaw (zaL e hn)];exact e) (fun b ps e=>⟨#[],by rw[zaw (zaL e hn),e];simp⟩) (fun m hm=>?_) (fun b u e=>?_) I.bare
 ·obtain⟨_,f1,_,f3,f4,f5⟩:=hf b hb
  exact⟨f3,f1,f4,f5⟩
 ·rw[zaw (Nat.ne_of_lt (Nat.lt_of_lt_of_le (Heap.lt_size e) hT))];exact n
 ·obtain⟨o,es,ep,ho,r⟩:=hm
  exact⟨o,es,ep,k _ o (fun z=>(hf _ z).2.1 rfl) ho,r⟩
 ·by_cases hb:b=T
  ·subst hb;rw[zav] at e;cases e;exact new
  ·rw[zaw hb] at e
   refine(I.hok b u e).stay (fun c v hc q=>k c v ?_ q) (fun c q=>by rw[zaw (zaL q hn)];exact q) fun c xs q=>by rw[zaw (zaL q hn)];exact q
   rcases hc with z | z
   ·rw[z];exact nit b u e
   ·exact nit c _ z
theorem zuX {t':Nat}{fp:List Addr}(I:Inv X pins σ H s)(k:∀ b o,b∉fp->s.heap.get? b=some o->h'.get? b=some o)(hf:∀ b∈fp,zqe X pins H b):Inv X pins σ H { s with heap:=h',toks:=t' }:=by
 have nit:∀ b u,H b=some u->b∉fp:=fun b u e z=>by rw[(hf b z).1] at e;cases e
 refine I.step (g':=s.gens) (d':=s.drawn) (ch:=fp) (fun b hb=>?_) (fun b o _ _ hc e _=>k b o hc e) (fun b o _ _ hc e _=>⟨o.slots,k b o hc e⟩) (fun b o _ e n=>n)
  (fun b o hc e=>⟨o,k b o hc e⟩) (fun b xs e=>e) (fun b o u e=>e) (fun b ps e=>⟨#[],by rw[e];simp⟩) (fun m hm=>?_) (fun b u e=>?_) I.bare
 ·obtain⟨_,f1,_,f3,f4,f5⟩:=hf b hb
  exact⟨f3,f1,f4,f5⟩
 ·obtain⟨o,es,ep,ho,r⟩:=hm
  exact⟨o,es,ep,k _ o (fun z=>(hf _ z).2.1 rfl) ho,r⟩
 ·refine(I.hok b u e).stay (fun c v hc q=>k c v ?_ q) (fun _ q=>q) fun _ _ q=>q
  rcases hc with z | z
  ·rw[z];exact nit b u e
  ·exact nit c _ z
end
def Ite (K:W.Frag)(a:Addr):It :=
 ⟨fun i H=>∃ xs x,SqL K H a xs/\xs[i]?=some x,fun i H x H'=>∃ p y,H p=none/\x=.ref p/\(∀ xs,SqL K H a xs->xs[i]?=some y)/\H'=upd H p (.tup [.int i,y]),fun i H=>∃ xs,SqL K H a xs/\xs.length<=i⟩
theorem zqH {P:Program}{w:World}{K:W.Frag}{elts:List Expr}{k:Nat}{pos:Pos}(a it e:Addr)(hne:e≠it)(hae:a≠e)(hai:a≠it) :
  zwF P w K (.Tuple elts k pos) (Ite K a) [e,it] e (fun i h=>(∃ old,IsEnum h e it i old)/\h.IsListIter it a i) where
 mem:=by simp
 obj:=fun i h st b hb=>by
  obtain⟨⟨old,he⟩,o,h1,h2,h3⟩:=st
  rcases List.mem_cons.mp hb with rfl | hb
  ·exact⟨_,he,fun v z=>by cases z⟩
  ·rcases List.mem_cons.mp hb with rfl | hb
   ·exact⟨o,h1,fun v z=>by rw[h3] at z;cases z⟩
   ·cases hb
 keep:=fun i h h' st k=>by
  obtain⟨⟨old,he⟩,hi⟩:=st
  exact⟨⟨old,k e (by simp) _ he⟩,hi.at fun o y=>k it (by simp) o y⟩
 item:=by
  intro X hP hw hK hc i pins s σ H E I hf st hg
  subst hP hw hK
  obtain⟨xs,x,hq,hx⟩:=hg
  obtain⟨its,rv,p,hz⟩:=I.list hq
  obtain⟨u,hu,ru⟩:=rv.get hx
  have W:=WalksT.enumerate (prog:=X.prog) (w:=X.w) (I.ok.hd hc) e it a hne hae hai its.toArray
  have hil:i < its.toArray.size:=by simpa using (List.getElem?_eq_some_iff.mp hu).1
  refine W.item i s _ _ hil ⟨st.1,st.2,p.isList⟩ fun T vals h' tk hPt hT hTup hMid hk=>?_
  refine⟨_,rfl,W.go elts k pos i T _ _ _ hMid fun h'' st'' hk''=>?_⟩
  obtain⟨t,y,hy,rfl⟩:=hPt
  have hyu:y=u:=by
   have:its[i]?=some y:=by simpa using hy
   rw[hu] at this;cases this;rfl
  subst hyu
  obtain⟨o,ho,hr⟩:=hTup
  have ho':=hk'' T o (W.apart i T _ hMid) ho
  refine⟨.ref T,upd H T (.tup [.int i,x]),zqE (s:=s) (h':=h'') (t':=tk) I (fun b o hb e=>hk'' b o hb (hk b o hb e)) hf hT ⟨by show 2<=sizeLine;decide,[.int i t,y],.cons ⟨t,rfl⟩ (.cons ru .nil),o,ho',hr⟩,rfl,⟨T,x,I.hok.fresh hT,rfl,fun ys hy=>by rw[I.list_inj hy hq];exact hx,rfl⟩,⟨st''.1,st''.2.1⟩,fun b hb=>?_⟩
  have hb0:=(hf b hb).1
  obtain⟨ob,hob,_⟩:∃ o,s.heap.get? b=some o/\∀ v,o.data≠.cell v:=by
   obtain⟨⟨old,he⟩,o,h1,h2,h3⟩:=st
   rcases List.mem_cons.mp hb with rfl | hb
   ·exact⟨_,he,fun v z=>by cases z⟩
   ·rcases List.mem_cons.mp hb with rfl | hb
    ·exact⟨o,h1,fun v z=>by rw[h3] at z;cases z⟩
    ·cases hb
  rw[zaw (Nat.ne_of_lt (Nat.lt_of_lt_of_le (Heap.lt_size hob) hT))];exact hb0
 done:=by
  intro X hP hw hK hc i pins s σ H E I hf st hg
  subst hP hw hK
  obtain⟨xs,hq,hx⟩:=hg
  obtain⟨its,rv,p,hz⟩:=I.list hq
  have hl:=rv.length
  obtain⟨⟨old,he⟩,hi⟩:=st
  exact wpAny_pyNext_enum_end (I.ok.hd hc) he hi p.isList (by simp;omega) fun h' hx=>⟨rfl,zuX (t':=s.toks) I (fun b o hb e=>hx b o (fun z=>hb (by simp [z])) e) hf⟩
 self:=fun _ _ _ _ _ st h=>by
  obtain⟨⟨old,he⟩,_⟩:=st
  exact wpAny_pyIter_enum he h
section
variable {X:Cx}{E:XK}{elts:List Expr}{k:Nat}{tp:Pos}{e a b:Expr}{f g:Ev->Res D}
def zzm (K:W.Frag)(ta:TA):TI:=fun σ H R=>ta σ H fun vs H1=>∃ a,vs=[.ref a]/\(∃ xs,SqL K H1 a xs)/\R (Ite K a) H1
theorem zvw {ta:TA}{p pos:Pos}(hg:Gl X "enumerate")(hm:X.mg "enumerate"=none)(ha:PA X [a] ta)(hs:starEach [a] X.env=[(false,eval a X.env)]:=by rfl):PI X (.Tuple elts k tp) (.Call (.Name "enumerate" p) [a] [] pos) (zzm X.K ta):=by
 intro pins s σ H R I h
 refine Call_ (zmU I hg hm PyProof.Rows.Boot.«enumerate» (PyProof.Rows.callWith_type1 (thn (ha pos pins s σ H _ I h) fun us s1 ⟨vs,H1,I1,r1,q1⟩=>?_) hs rfl))
 obtain⟨l,e,⟨xs,hq⟩,q⟩:=q1
 subst e
 cases r1 with
 | cons r rr =>
  cases rr
  cases r
  obtain⟨its,rv,p,hz⟩:=I1.list hq
  have hlt:l < s1.heap.objs.size:=by obtain⟨o,n,e,_⟩:=p;exact Heap.lt_size e
  refine call_enumerate_list p.isList fun h' he hi hsz hk=>?_
  refine wpAny_pyIter_enum he ?_
  refine⟨s1.heap.objs.size+1,[s1.heap.objs.size+1,s1.heap.objs.size],_,_,H1,rfl,I1.kept (t':=s1.toks) hk,zqH l s1.heap.objs.size (s1.heap.objs.size+1) (Nat.succ_ne_self _) (Nat.ne_of_lt (Nat.lt_succ_of_lt hlt)) (Nat.ne_of_lt hlt),⟨⟨_,he⟩,hi⟩,fun b hb=>?_,q⟩
  have hb':s1.heap.objs.size<=b:=by
   rcases List.mem_cons.mp hb with rfl | hb
   ·omega
   ·rcases List.mem_cons.mp hb with rfl | hb
    ·exact Nat.le_refl _
    ·cases hb
  exact I1.fpOk hb' (I1.hok.fresh hb')
def zaP (n:Nat):List D->List D
 | []=>[]
 | d::ds=>.tup [.int n,d]::zaP (n+1) ds
theorem zbM:∀ (ds:List D) (n:Nat),(zaP n ds).length=ds.length
 | [],_=>rfl
 | d::ds,n=>by simp [zaP,zbM ds]
theorem zb3:∀ (ds:List D) (n i:Nat),(zaP n ds)[i]?=(ds[i]?).map fun d=>D.tup [.int (n+i:Nat),d]
 | [],_,_=>by simp [zaP]
 | d::ds,n,0=>by simp [zaP]
 | d::ds,n,i+1=>by simp only[zaP,List.getElem?_cons_succ];rw[zb3 ds (n+1) i,show n+1+i=n+(i+1) by omega]
def zpE (f:Ev->Res D):Ev->Res (List D):=fun ρ=>(f ρ).bind fun d=>match d with
 | .lst ds=>.ok (zaP 0 ds)
 | _=>.stuck
theorem zuY {K:W.Frag}{H H₀:Hp}{p:Addr}{vs:List V}{ds:List D}(hs:zaM H₀ H)(hp:H p=none)(r:Reps K H₀ ds vs):∃ H₀2,zbn H H₀ (upd H p (.tup vs)) H₀2/\Rep K H₀2 (.tup ds) (.ref p) :=
 ⟨upd H₀ p (.tup vs),zbn.alloc hs hp,Rep.tup_iff.mpr ⟨p,vs,rfl,SqT.of zav,r.mono (zbn.alloc (o:=.tup vs) hs hp).z⟩⟩
theorem zgb {p pos:Pos}(hg:Gl X "enumerate")(hm:X.mg "enumerate"=none)(h:DE X E a f)(hn:nst a=true:=by exact rfl):DI X E (.Tuple elts k tp) (.Call (.Name "enumerate" p) [a] [] pos) (zpE f):=by
 refine⟨zll (zvw hg hm (zeY h.o ziD (zgA hn)) (zgA hn)) fun σ H R ⟨H₀,ρ,hs,hr,q⟩=>⟨H₀,ρ,hs,hr,?_⟩⟩
 unfold zpE at q
 cases e1:f ρ with
 | stuck=>rw[e1] at q;exact q
 | exn x=>rw[e1] at q;exact q
 | ok d =>
  rw[e1] at q
  intro v H1 H01 g1 r1
  cases d with
  | lst ds =>
   obtain⟨l,vs,rfl,hv,hrv⟩:=Rep.lst_iff.mp r1
   refine⟨l,rfl,⟨vs,zaM.sqL g1.sub hv⟩,q _ H1 H01 g1 ⟨fun i H' H₀' s1 s2 hi=>?_,fun i H' H₀' x H2 d s1 s2 hd hy=>?_,fun i H' H₀' s1 s2 hi=>?_⟩⟩
   ·rw[zbM] at hi
    exact⟨vs,vs[i]'(by rw[← hrv.length];exact hi),zaM.sqL (s1.trans s2) hv,by simp⟩
   ·obtain⟨p,y,hp,rfl,hy,rfl⟩:=hy
    rw[zb3] at hd
    cases ei:ds[i]? with
    | none=>rw[ei] at hd;cases hd
    | some d' =>
     rw[ei] at hd
     cases hd
     obtain⟨u,k1,k2⟩:=hrv.get ei
     have:=hy vs (zaM.sqL (s1.trans s2) hv)
     rw[k1] at this;cases this
     exact zuY s2 hp (Reps.cons (Rep.int_iff.mpr (by simp)) (Reps.cons (k2.mono s1) Reps.nil))
   ·rw[zbM] at hi
    exact⟨vs,zaM.sqL (s1.trans s2) hv,by rw[← hrv.length];exact hi⟩
  | _=>exact q.elim
end
section
variable {X:Cx}{E:XK}{elts:List Expr}{k:Nat}{tp:Pos}{e a b:Expr}{f g:Ev->Res D}
end
def zv8 (f:Str):List Str->List D->Option D
 | k::ks,d::ds=>if f=k then some d else zv8 f ks ds
 | _,_=>none
def zAB (f:Str)(x:D):Res D:=match x with
 | .ob (.ins c ks) ds=>match zv8 f ks ds with
  | some d=>.ok d
  | none=>.stuck
 | _=>.stuck
section
variable {X:Cx}{E:XK}{e a b o:Expr}{es:List Expr}{fe fo:Ev->Res D}{fa:Ev->Res (List D)}{pos:Pos}
def putAll:List Str->List V->List (Str×V)->List (Str×V)
 | f::fs,v::vs,l=>putAll fs vs (znx f v l)
 | _,_,l=>l
theorem zoz {H:Hp}{a:Addr}{o:HO}(h:H a=some o):upd H a o=H:=by
 funext b
 by_cases hb:b=a
 ·subst hb;rw[zav,h]
 ·rw[zaw hb]
theorem zjf {H:Hp}{a:Addr}{o u:HO}:upd (upd H a o) a u=upd H a u:=by
 funext b
 by_cases hb:b=a
 ·subst hb;rw[zav,zav]
 ·rw[zaw hb,zaw hb,zaw hb]
theorem zoM {f:Str}{v:V}:∀ {l:List (Str×V)},(znx f v l).length<=l.length+1
 | []=>by simp [znx]
 | (k,x)::l=>by
  unfold znx
  split
  ·simp
  ·have:=zoM (f:=f) (v:=v) (l:=l)
   simp;omega
def zAt (c:Str)(ks:List Str)(ds:List D):Res D:=if ds.length=ks.length then .ok (.ob (.ins c ks) ds) else .stuck
def zAw (x:D)(ds:List D):Option Nat:=ds.findIdx? fun d=>eqD d x
def zsg (x y:D):Res D:=match x with
 | .lst ds=>if za0 40 y=true/\ds.all (za0 40)=true then match zAw y ds with
   | some j=>.ok (.int j)
   | none=>.stuck
  else .stuck
 | _=>.stuck
def zwj (fo:Ev->Res D)(fe:Ev->Res D):Ev->Res D:=fun ρ=>(fo ρ).bind fun x=>match x with
 | .lst ds=>(fe ρ).bind fun y=>zsg (.lst ds) y
 | _=>.stuck
end
theorem zvN {K:W.Frag}{C:Addr}:∀ f∈([]:List Str),zk0 K C f:=fun _ h=>nomatch h
theorem zoT {K:W.Frag}{C:Addr}{f:Str}{ks:List Str}(h:W.findIn K (.ref C) f=some none)(r:∀ f∈ks,zk0 K C f):∀ g∈f::ks,zk0 K C g:=fun g hg=>by
 rcases List.mem_cons.mp hg with rfl | hg
 ·exact h
 ·exact r g hg
section
variable {X:Cx}{E:XK}{He H0e:Hp}{e:Expr}{es:List Expr}{f:Ev->Res D}{fa:Ev->Res (List D)}{pos:Pos}
def aFr (f:Ev->Res D)(fa:Ev->Res (List D)):Ev->Res (List D):=fun ρ=>(f ρ).bind fun x=>match x with
 | .lst ds=>(fa ρ).bind fun xs=>.ok (.lst ds::xs)
 | _=>.stuck
def zAv:Sl->Bool
 | .ox _ _=>true
 | _=>false
def zAs (i:Nat)(ρ:Ev):Bool:=(ρ.set i .no).all fun s=>!(zAv s)
def zzU (i j:Nat)(ρ:Ev)(ds:List D):Res Fl:=match ds[j]? with
 | some (.lst _)=>if ds.length<=line/\zAs i ρ=true then .ok (.nx (ρ.set i (.ox j ds))) else .stuck
 | _=>.stuck
def zyW (i j:Nat)(fa:Ev->Res (List D)):Ev->Res Fl:=fun ρ=>(fa ρ).bind (zzU i j ρ)
def zwo (i j:Nat)(ρ:Ev)(s:Option Sl):Res Fl:=match s with
 | some (.ox j' ds)=>if j'=j then .ok (.nx (ρ.set i (.ox j (ds.set j (.lst []))))) else .stuck
 | _=>.stuck
def zxc (i j:Nat):Ev->Res Fl:=fun ρ=>zwo i j ρ ρ[i]?
end
section
variable {X:Cx}{E:XK}{He H0e:Hp}{st:Stmt}{rest:List Stmt}{e:Expr}{es:List Expr}{f:Ev->Res D}{fa:Ev->Res (List D)}{s t:Ev->Res Fl}{pos:Pos}
end
section
variable {X:Cx}{E:XK}{He H0e:Hp}{e:Expr}{es:List Expr}{f:Ev->Res D}{fa:Ev->Res (List D)}{pos:Pos}
end
section
variable {X:Cx}{E:XK}{He H0e:Hp}{e a b:Expr}{es:List Expr}{f g:Ev->Res D}{fa:Ev->Res (List D)}{pos:Pos}
def zzA (x y:D):Res D:=match x,y with
 | .int i,.int j=>.ok (.int (if j < i then j else i))
 | _,_=>.stuck
theorem zym:zkz X E (fun xs H Q=>∃ i j,xs=[.int i,.int j]/\Q (.int (if j < i then j else i)) H) (m2 zzA):=zzC fun x y v u H H₀ Q hs r r' q=>by
 cases x with
 | int i =>
  cases y with
  | int j=>exact⟨i,j,by rw[Rep.int_iff.mp r,Rep.int_iff.mp r'],zbp hs q (ri _)⟩
  | _=>exact q.elim
 | _=>exact q.elim
def zwi:D->D->Res D:=iop (fun _ j=>decide (0<=j)) fun i j=>.int (i / 2 ^ j.toNat)
theorem zuz (ha:DE X E a f)(hb:DE X E b g):DE X E (.BinOp a .RShift b pos) (zac f g zwi):=znd zxF (zoO (fun _ _ h=>of_decide_eq_true h) fun _ _ _ _=>ri _) ha hb
def zqj (x y:D):Res D:=match x,y with
 | .lst ds,.lst es=>if ds.length+es.length<=line then .ok (.lst (ds++es)) else .stuck
 | _,_=>.stuck
theorem zo8 (ha:DE X E a f)(hb:DE X E b g):DF X E (.BinOp a .Add b pos) (zac f g zqj):=by
 refine⟨?_⟩
 refine zaT (zvz zrs ha.o hb.o) fun σ H Q ⟨H₀,ρ,hs,hr,q⟩=>⟨H₀,ρ,hs,hr,?_⟩
 unfold zac at q
 cases e1:f ρ with
 | stuck=>rw[e1] at q;exact q
 | exn x=>rw[e1] at q;exact q
 | ok x =>
  rw[e1] at q
  intro v H1 H01 g1 r1
  refine⟨H01,ρ,g1.sub,hr.mono g1.z,?_⟩
  cases e2:g ρ with
  | stuck=>simp only[Res.bind,e2] at q
  | exn y=>simp only[Res.bind,e2] at q;exact fun C ox H' H₀' g' ex=>q C ox H' H₀' (g1.trans g') ex
  | ok y =>
   simp only[Res.bind,e2] at q
   intro u H2 H02 g2 r2
   cases x with
   | lst ds =>
    cases y with
    | lst es =>
     by_cases h:ds.length+es.length<=line
     ·simp only[zqj,if_pos h] at q
      obtain⟨l,vs,rfl,h1,h2⟩:=Rep.lst_iff.mp (r1.mono g2.z)
      obtain⟨m,us,rfl,k1,k2⟩:=Rep.lst_iff.mp r2
      refine⟨l,m,vs,us,rfl,rfl,zaM.sqL g2.sub h1,zaM.sqL g2.sub k1,by rw[← h2.length,← k2.length];exact zdg h,fun p hp=>?_⟩
      have sm:zaM H2 (upd H2 p (.lst (vs++us))):=fun b o eb=>by rw[zaw (by intro z;subst z;rw[hp] at eb;cases eb)];exact eb
      refine q p (vs++us) _ H02 ⟨(g1.s.trans g2.s).trans sm,g1.z.trans g2.z,g2.sub.trans sm,(g1.trans g2).nw⟩ ((g1.s.trans g2.s).free hp) ?_ zav (h2.app k2)
      cases qq:H02 p with
      | none=>rfl
      | some o=>have:=g2.sub _ _ qq;rw[hp] at this;cases this
     ·simp only[zqj,if_neg h] at q
    | _=>simp only[zqj] at q
   | _=>simp only[zqj] at q
end
section
variable {X:Cx}{c e:Expr}{es:List Expr}{fc:Ev->Res D}{fa:Ev->Res (List D)}{ga gb:Ev->Res Fl}{sa sb:Stmt}{pos:Pos}
end
section
variable {X:Cx}{E:XK}{e a b o:Expr}{es:List Expr}{fe fo:Ev->Res D}{fa:Ev->Res (List D)}{pos:Pos}
end
section
variable {prog:Program}{w:World}{A:Around}{E:Value->Shared->Prop}{h:Heap}{g:Array GenState}{d:Drawn}{t:Nat}{os:OsState}
variable {nm q:Str}{C N:Addr}{bs bm bmB:List Value}{hdct:Bool}{sn:List Str}{sub:List Value}{ab:Bool}{col:Option Bool}{dd:Option Addr}{k0 k1 k2 k3 k5:Option Value}{B newId initId:String}{mN:Str->Option Value}{rest:List Value}{fI:Addr}{oI:Obj}
theorem zuN {Q:Fin->Shared->Prop}(F:ExcBaseFacts B newId initId bmB)(T:OwnTail h bmB bm)(hC:h.get? C=some (excClassObj nm q C N bs bm hdct sn sub ab col dd k0 k1 k2 k3 k5 newId))(hn:h.Ns N mN)(hi:mN "__init__"=some (.ref fI))(hfI:h.get? fI=some oI)(hfc:oI.cls=.type "function")(hrest:rest.length<=sizeLine)
  (hq:∀ h' e,Heap.MadeExcOf h h' e (.ref C) rest->wpAny (model prog w) A (call (.ref fI) (.ref e::rest)) (fun r s'=>r=.none/\Q (.done (.ret (.ref e))) s') E ⟨h',g,d,t,os⟩):wpAny (model prog w) A (Builtin.«type.__call__» ⟨.ref C::rest,[]⟩) Q E ⟨h,g,d,t,os⟩:=by
 repeat (first | with_reducible refine wpAny_loadPart_at hC ?_ | with_reducible refine wpAny_madeBy_exc hC ?_ | wp_step)
 refine codeAny_call_builtin_code (Code.quiet_builtin _ F.quiet) (wpAny_check_new_subT F T hC (codeAny_exc_new_subT F T hC ?_ hrest))
 generalize hT0:({ cls:=.type "tuple",data:=.seq rest.toArray }:Obj)=o0
 generalize hX0:({ cls:=.ref C,data:=.fields #[.ref h.objs.size,.none,.none,.none,.bool false,.none] }:Obj)=o1
 have kp:∀ b o,h.get? b=some o->((h.push o0).push o1).get? b=some o:=fun b o hb=>Heap.get?_push_of_some o1 (Heap.get?_push_of_some o0 hb)
 have hget:((h.push o0).push o1).get? (h.objs.size+1)=some o1:=by subst hX0 hT0;heap_get
 have hc1:o1.cls=.ref C:=by subst hX0;rfl
 have hcC:(Value.ref C::bm).contains (.ref C)=true:=by simp
 show wpAny _ _ _ _ _ _
 unfold isInstance
 repeat (first | (with_reducible refine wpAny_loadPart_at hget ?_;try rw[hc1]) | (with_reducible refine wpAny_isSubtype_exc (kp _ _ hC) ?_;rw[hcC]) | wp_step)
 show wpAny _ _ (typeLookup (.ref C) _) _ _ _
 refine wpAny_typeLookup_tail (kp _ _ hC) (hn.keeps kp) (T.keeps kp) F.mroIs F.init.lookup ?_
 rw[hi]
 refine wpAny_holding (wpAny_bind (show wpAny _ _ (bindSpecial _ _) _ _ _ from ?_))
 unfold bindSpecial
 refine wpAny_bind (wpAny_typeOf (T:="function") ⟨_,kp _ _ hfI,hfc⟩ ?_);rw[if_pos (by decide)]
 refine wpAny_pure (wpAny_bind (wpAny_mono (hq _ (h.objs.size+1) ⟨kp,Heap.get?_none_of_le (Nat.le_succ _),h.objs.size,by rw[hX0];exact hget,Heap.get?_none_of_le (Nat.le_refl _),?_⟩) (fun r s' hr=>?_) fun _ _ x=>x))
 ·subst hT0;exact Heap.get?_push_of_some _ (Heap.get?_push_at rfl rfl)
 ·obtain⟨rfl,hQ⟩:=hr
  wp_walk
  exact hQ
theorem zuQ {Q:Value->Shared->Prop}(F:ExcBaseFacts B newId initId bmB)(T:OwnTail h bmB bm)(hC:h.get? C=some (excClassObj nm q C N bs bm hdct sn sub ab col dd k0 k1 k2 k3 k5 newId))(hn:h.Ns N mN)(hi:mN "__init__"=some (.ref fI))(hfI:h.get? fI=some oI)(hfc:oI.cls=.type "function")(hrest:rest.length<=sizeLine)
  (hq:∀ h' e,Heap.MadeExcOf h h' e (.ref C) rest->wpAny (model prog w) (A.under (.builtin "type.__call__" ⟨.ref C::rest,[]⟩)) (call (.ref fI) (.ref e::rest)) (fun r s'=>r=.none/\Q (.ref e) s') E ⟨h',g,d,t,os⟩):wpAny (model prog w) A (call (.ref C) rest) Q E ⟨h,g,d,t,os⟩:=by
 have f1:=tc_lookup;have f2:=tc_bind (.ref C)
 have hT:(⟨h,g,d,t,os⟩:Shared).TypeIs (.ref C) "type":=⟨_,hC,rfl⟩
 refine wpAny_call (codeAny_of_tree (show wpAny _ _ (callAny (.ref C) _) _ _ _ from ?_))
 repeat (any_goals (first | assumption | with_reducible refine wpAny_loadPart_at hC ?_ | wp_step))
 exact⟨rfl,codeAny_call_builtin_at (Code.quiet_builtin _ (by decide +kernel)) entry_typeCall (wpAny_check_type_call_sub hC (zuN F T hC hn hi hfI hfc hrest fun h' e hm=>hq h' e hm))⟩
end
section
variable {M:Model}{A:Around}{E:Value->Shared->Prop}{env:PySem.Env}
variable {nm q:Str}{C N:Addr}{bs bm:List Value}{hdct:Bool}{sn:List Str}{sub:List Value}{ab:Bool}{col:Option Bool}{dd:Option Addr}{k0 k1 k2 k3 k5:Option Value}{newId:String}
theorem zsL {s:Shared}{x:Sem Value}{Q:Flow->Shared->Prop}(hbase:bm.contains (.type "BaseException")=true)(hh:A.handled=none)
  (h:wpAny M A x (fun v s₁=>∃ e dc t,v=.ref e/\s₁.heap.get? C=some (excClassObj nm q C N bs bm hdct sn sub ab col dd k0 k1 k2 k3 k5 newId)/\s₁.heap.get? e=some ⟨.ref C,dc,.fields #[.ref t,.none,.none,.none,.bool false,.none],#[]⟩/\E (.ref e) s₁) E s):wpAny M A (raiseStmt env (some x) none) Q E s:=by
 have hcB:(Value.ref C::bm).contains (.type "BaseException")=true:=by rw[List.contains_cons,hbase,Bool.or_true]
 unfold raiseStmt
 refine wpAny_bind (wpAny_mono h (fun v s₁ ⟨e,dc,t,hv,hC,he,hE⟩=>?_) fun _ _ x=>x)
 subst hv
 obtain⟨hp,g,d,tk,os⟩:=s₁
 repeat (first | with_reducible refine wpAny_loadPart_at he ?_ | with_reducible refine wpAny_loadPart_at hC ?_ | (with_reducible refine wpAny_isSubtype_exc hC ?_;rw[hcB]) | wp_step)
 exact wpAny_raiseNew_none hh hE
end
def ziz:List Value->Bool
 | .ref _::r=>ziz r
 | l=>l==[.type "ValueError",.type "Exception",.type "BaseException",.type "object"]
theorem zmG (self:Value):∀ {l:List Value},ziz l=true->refuseLoop self "__setattr__" l=pure ()
 | [],e=>by cases e
 | x::r,e=>by
  cases x with
  | ref c=>rw[refuseLoop_ref];exact zmG self (l:=r) (by unfold ziz at e;exact e)
  | _=>unfold ziz at e;rw[beq_iff_eq.mp e];exact PySem.F.store_ValueError.passes self
theorem zul:∀ {l:List Value},ziz l=true->l.contains (.type "object")=true
 | [],e=>by cases e
 | x::r,e=>by
  cases x with
  | ref c=>rw[List.contains_cons,zul (l:=r) (by unfold ziz at e;exact e),Bool.or_true]
  | _=>unfold ziz at e;rw[beq_iff_eq.mp e];decide
structure XSt (K:W.Frag) (C:Addr) (ks:List Str):Prop where
 sa:W.findIn K (.ref C) "__setattr__"=some (some (.builtin "object.__setattr__"))
 hd:W.hasDictIn K C=true
 mr:(W.clsIn K C).any (fun cd=>ziz cd.mro)=true
 no:∀ f∈ks,zk0 K C f
section
variable {prog:Program}{w:World}{A:Around}{K:W.Frag}{C x:Addr}{s:Shared}{R:Result->Shared->Prop}
theorem zqw {ox:Obj}{od:Option Obj}{name:Str}{tk:Tok}{v:Value}{ks:List Str}(X:K.In s.heap)(I:W.InstAt s.heap x ox C od)(c:XSt K C ks)(hf:name∈ks)
  (h:∀ b,wpAny (model prog w) A.in1 (Builtin.ObjectAttr.storeInOwnDict (.ref x) (.ref C) (.str name tk) name v b) (fun fin s'=>match fin with | .done f=>R (.ok f) s' | .again c'=>c'.quiet=true/\codeAny (model prog w) A c' R s') (fun e s'=>R (.error e) s') s) :
  codeAny (model prog w) A (.call (.builtin "object.__setattr__") ⟨[.ref x,.str name tk,v],[]⟩) R s:=by
 have SF:=PySem.F.store_object
 obtain⟨cd,hc,ho⟩:=W.any_some c.mr
 have ne:cd.mro.isEmpty=false:=by cases q:cd.mro with | nil=>rw[q] at ho;cases ho | cons _ _=>rfl
 have sub:W.Looks (model prog w) s.heap (isInstance (.ref x) (.type "object")) true:=I.type.andThen (W.looks_mroIn X (by unfold W.mroIn;rw[hc,Option.bind_some,if_neg (by rw[ne];decide),zul ho]))
 refine codeAny_call_builtin SF.slot.plain SF.entry (@W.check_slot (model prog w) _ _ s "object.__setattr__" "object" "__setattr__" (.ref x) [.str name tk,v] [] _ SF.kind SF.split sub (SF.args (.ref x) (.str name tk) v) ?_)
 have hm:W.Looks (model prog w) s.heap (mroOf (.ref C)) cd.mro:=(W.looks_clsIn X hc).andThen .now
 rw[W.osa_eq,refuse_eq]
 refine wpAny_bind (wpAny_bind (I.type.here (wpAny_bind (hm.here ?_))));rw[zmG _ ho];refine wpAny_pure ?_
 have L3:W.Looks (model prog w) s.heap (Builtin.ObjectAttr.storeTaker? none) none:=.now
 have L2:W.Looks (model prog w) s.heap (typeLookup (.ref C) name) none:=W.looks_findIn X (c.no name hf)
 refine wpAny_bind (I.type.here (wpAny_bind (L2.here (wpAny_bind (L3.here ?_)))))
 exact h _
theorem zuP {E:Value->Shared->Prop}{Q:Unit->Shared->Prop}{name:Str}{v:Value}{ks:List Str}{fs:Array Value}(X:K.In s.heap)(hx:s.heap.get? x=some ⟨.ref C,none,.fields fs,#[]⟩)(c:XSt K C ks)(hf:name∈ks)
  (h:∀ h',h'.get? x=some ⟨.ref C,some s.heap.objs.size,.fields fs,#[]⟩->h'.Ns1 s.heap.objs.size (fun y=>if y=name then some v else none)->(∀ b o,b≠x->s.heap.get? b=some o->h'.get? b=some o)->Q () { s with heap:=h',toks:=s.toks+2 }) :
  wpAny (model prog w) A (setAttr (.ref x) name v) Q E s:=by
 have J:W.InstAt s.heap x ⟨.ref C,none,.fields fs,#[]⟩ C none:=⟨hx,rfl,rfl,trivial⟩
 refine W.set_plain X J c.sa (zqw (s:={ s with toks:=s.toks+1 }) X J c hf fun b=>?_)
 obtain⟨cd,hc,hd'⟩:=W.any_some c.hd
 refine wpAny_bind (wpAny_pure (wpAny_bind (wpAny_bind (wpAny_loadPart hx (wpAny_bind (W.Looks.here (s:={ s with toks:=s.toks+1 }) (W.looks_clsIn X hc) ?_))))))
 rw[hd']
 have hx₁:(s.heap.push W.emptyDict).get? x=some ⟨.ref C,none,.fields fs,#[]⟩:=Heap.get?_push_of_some _ hx
 have hxs:x≠s.heap.objs.size:=Nat.ne_of_lt (Heap.lt_size hx)
 have hgd:((s.heap.push W.emptyDict).update x fun o=>{ o with dict:=some s.heap.objs.size }).get? s.heap.objs.size=some W.emptyDict:=(Heap.get?_update_ne _ _ _ _ hxs.symm).trans (Heap.get?_push_at rfl rfl)
 have hnd:((s.heap.push W.emptyDict).update x fun o=>{ o with dict:=some s.heap.objs.size }).Ns s.heap.objs.size (fun _=>none):=⟨_,#[],_,hgd,rfl,fun e he=>absurd he (by simp),fun _=>rfl⟩
 have hx2:((s.heap.push W.emptyDict).update x fun o=>{ o with dict:=some s.heap.objs.size }).get? x=some ⟨.ref C,some s.heap.objs.size,.fields fs,#[]⟩:=Heap.get?_update_self _ hx₁ rfl
 refine wpAny_bind (wpAny_alloc' (wpAny_bind (wpAny_update' hx₁ (wpAny_pure ?_))))
 refine wpAny_bind (wpAny_pure (wpAny_bind (wpAny_nsSet1 (Heap.Ns1.of_empty hnd) fun h' hn' hs=>?_)))
 obtain⟨oD,esD,epD,hoD,hdD,hcD⟩:=hn'.count (PySem.Within.cons name v PySem.Within.nil)
 refine wpAny_bind (wpAny_lookBehind hoD (by rw[hdD];exact pastItsLine_dict (Nat.le_trans hcD (by rw[List.length_cons,List.length_nil,sizeLine_eq];omega))) (wpAny_pure (h h' ?_ hn' fun b o hb e=>?_)))
 ·exact(hs.2 x hxs).trans hx2
 ·exact(hs.2 b (Nat.ne_of_lt (Heap.lt_size e))).trans ((Heap.get?_update_ne _ _ _ _ hb).trans (Heap.get?_push_of_some _ e))
theorem zuO {E:Value->Shared->Prop}{Q:Unit->Shared->Prop}{name:Str}{v:Value}{ks ns:List Str}{fs:Array Value}{dx:Addr}{mA:Str->Option Value}(X:K.In s.heap)(hx:s.heap.get? x=some ⟨.ref C,some dx,.fields fs,#[]⟩)(hn:s.heap.Ns1 dx mA)(hne:dx≠x)(hw:PySem.Within mA ns)(hsz:ns.length<=sizeLine)(c:XSt K C ks)(hf:name∈ks)
  (h:∀ h',h'.Ns1 dx (fun y=>if y=name then some v else mA y)->Heap.SameBut dx s.heap h'->Q () { s with heap:=h',toks:=s.toks+2 }):wpAny (model prog w) A (setAttr (.ref x) name v) Q E s:=by
 obtain⟨od,hod,hl⟩:=zmS hn
 have J:W.InstAt s.heap x ⟨.ref C,some dx,.fields fs,#[]⟩ C (some od):=⟨hx,rfl,rfl,hod⟩
 refine W.set_plain X J c.sa (zqw (s:={ s with toks:=s.toks+1 }) X J c hf fun b=>?_)
 obtain⟨cd,hc,hd'⟩:=W.any_some c.hd
 refine wpAny_bind (wpAny_pure (wpAny_bind (wpAny_bind (wpAny_loadPart hx (wpAny_bind (W.Looks.here (s:={ s with toks:=s.toks+1 }) (W.looks_clsIn X hc) ?_))))))
 rw[hd']
 refine wpAny_pure (a:=some dx) (wpAny_bind (wpAny_pure (wpAny_bind (wpAny_nsSet1 (s:={ s with toks:=s.toks+1 }) hn fun h' hn2 hs2=>?_))))
 obtain⟨oD,esD,epD,hoD,hdD,hcD⟩:=hn2.count (PySem.Within.cons name v hw)
 exact wpAny_bind (wpAny_lookBehind hoD (by rw[hdD];exact pastItsLine_dict (Nat.le_trans hcD (by rw[List.length_cons];omega))) (wpAny_pure (h _ hn2 hs2)))
end
def ExN (a C:Addr)(dc:Option Addr)(h:Heap):Prop:=∃ t,h.get? a=some ⟨.ref C,dc,.fields #[.ref t,.none,.none,.none,.bool false,.none],#[]⟩
def XDs (a:Addr)(fs:List (Str×V))(h:Heap):Prop:=∃ mA,h.Ns1 a mA/\(∀ f,zys (fs.lookup f) (mA f))/\PySem.Within mA (fs.map (·.1))
theorem zlB {a C:Addr}{dc:Option Addr}:∀ h1 h2:Heap,ExN a C dc h1->(∀ o,h1.get? a=some o->h2.get? a=some o)->ExN a C dc h2:=fun _ _ ⟨t,e⟩ k=>⟨t,k _ e⟩
theorem zox {a:Addr}{fs:List (Str×V)}:∀ h1 h2:Heap,XDs a fs h1->(∀ o,h1.get? a=some o->h2.get? a=some o)->XDs a fs h2:=fun _ _ ⟨m,n,r⟩ k=>⟨m,n.at k,r⟩
theorem zje {a:Addr}{fs:List (Str×V)}{h:Heap}(x:XDs a fs h):∃ o,h.get? a=some o:=let ⟨_,⟨o,_,_,e,_⟩,_⟩:=x;⟨o,e⟩
theorem zk6 {a:Addr}{fs:List (Str×V)}{h:Heap}{mA:Str->Option Value}{f:Str}{y:V}{u:Value}(ry:zct y u)(r:∀ f,zys (fs.lookup f) (mA f))(wi:PySem.Within mA (fs.map (·.1)))(n:h.Ns1 a (fun z=>if z=f then some u else mA z)):XDs a (znx f y fs) h:=by
 refine⟨_,n,fun g=>?_,fun g hg=>?_⟩
 ·rw[zjw]
  by_cases q:g=f
  ·rw[if_pos q];simp only[if_pos q];exact ry
  ·rw[if_neg q];simp only[if_neg q];exact r g
 ·by_cases q:g=f
  ·rw[q];exact(zjF f y fs).1
  ·exact(zjF f y fs).2 g (wi g fun z=>hg (by simp only[if_neg q];exact z))
section
variable {X:Cx}{o value:Expr}{f:Str}{pos pos':Pos}{ta tv:TE}
def sX2 (K:W.Frag)(ta tv:TE)(f:Str):TS:=fun D σ H=>tv σ H fun y H1=>ta σ H1 fun x H2=>∃ a C dx l ks,x=.ref a/\H2 a=some (.ext (ExN a C (some dx)))/\H2 dx=some (.ext (XDs dx l))/\dx≠a/\XSt K C ks/\f∈ks/\l.length < 1000/\D.nx σ (upd H2 dx (.ext (XDs dx (znx f y l))))
def sX1 (K:W.Frag)(ta tv:TE)(f:Str):TS:=fun D σ H=>tv σ H fun y H1=>ta σ H1 fun x H2=>∃ a C ks,x=.ref a/\H2 a=some (.ext (ExN a C none))/\XSt K C ks/\f∈ks/\∀ dx,H2 dx=none->D.nx σ (upd (upd H2 a (.ext (ExN a C (some dx)))) dx (.ext (XDs dx [(f,y)])))
theorem zy4 (ha:PE X o ta)(hv:PE X value tv)(hs:swapsWith value (some (.Attribute o f pos')) pos.line X.env=pure false):PS X (.Assign [.Attribute o f pos'] value pos) (sX2 X.K ta tv f):=by
 intro pins s σ H D I h
 refine plainObj_wpAny_Assign_Attribute (thn (hv pins s σ H _ I h) fun u s1 ⟨y,H1,I1,ry,q⟩=>thn (ha pins s1 σ H1 _ I1 q) fun ov s2 ⟨x,H2,I2,rx,a,C,dx,l,ks,ex,ea,ed,hne,c,hf,hl,q2⟩=>?_) hs
 subst ex
 obtain rfl:ov=Value.ref a:=rx
 obtain⟨⟨t,hx⟩,_,_⟩:=(show zb8 X.prog X.w H2 s2.heap a (.ext _) from I2.hok a _ ea)
 obtain⟨⟨mA,n,r,wi⟩,_,_⟩:=(show zb8 X.prog X.w H2 s2.heap dx (.ext _) from I2.hok dx _ ed)
 refine zuO I2.kIn hx n hne wi (by rw[List.length_map,sizeLine_eq];omega) c hf fun h' n' sb=>⟨σ,_,I2.write (o:=.ext (XDs dx (znx f y l))) (x:=dx) (e:=dx) (by rw[ed];exact True.intro) (.inl rfl) (fun b q hb z=>(sb.2 b hb).trans z) (zje (zk6 ry r wi n')) ⟨zk6 ry r wi n',zje (zk6 ry r wi n'),zox⟩,q2⟩
theorem zy5 (ha:PE X o ta)(hv:PE X value tv)(hs:swapsWith value (some (.Attribute o f pos')) pos.line X.env=pure false):PS X (.Assign [.Attribute o f pos'] value pos) (sX1 X.K ta tv f):=by
 intro pins s σ H D I h
 refine plainObj_wpAny_Assign_Attribute (thn (hv pins s σ H _ I h) fun u s1 ⟨y,H1,I1,ry,q⟩=>thn (ha pins s1 σ H1 _ I1 q) fun ov s2 ⟨x,H2,I2,rx,a,C,ks,ex,ea,c,hf,q2⟩=>?_) hs
 subst ex
 obtain rfl:ov=Value.ref a:=rx
 obtain⟨⟨t,hx⟩,_,_⟩:=(show zb8 X.prog X.w H2 s2.heap a (.ext _) from I2.hok a _ ea)
 have fr:H2 s2.heap.objs.size=none:=I2.hok.fresh (Nat.le_refl _)
 have hne:s2.heap.objs.size≠a:=fun z=>Nat.lt_irrefl _ (z▸Heap.lt_size hx)
 refine zuP I2.kIn hx c hf fun h' e' n' k'=>⟨σ,_,?_,q2 s2.heap.objs.size fr⟩
 have p:XDs s2.heap.objs.size [(f,y)] h':=zk6 (fs:=[]) (mA:=fun _=>none) ry (fun _=>True.intro) (fun _ z=>absurd rfl z) n'
 have mu:Mut (H2 a):=by rw[ea];exact True.intro
 have fr':(upd H2 a (.ext (ExN a C (some s2.heap.objs.size)))) s2.heap.objs.size=none:=by rw[zaw hne];exact fr
 exact I2.un (Un.ext (Un.write mu (.inl rfl) (fun b q hb z=>k' b q hb z) ⟨_,e'⟩) fr' (Heap.get?_none_of_le (Nat.le_refl _))) (HOk.ext (I2.hok.write (o':=.ext (ExN a C (some s2.heap.objs.size))) mu (.inl rfl) (fun b q hb z=>k' b q hb z) ⟨_,e'⟩ ⟨⟨t,e'⟩,⟨_,e'⟩,zlB⟩) fr' p (zje p) zox)
end
def zyL (is:List Nat):TA:=fun σ H Q=>∃ vs,is.map (fun i=>σ[i]?)=vs.map (fun v=>some (some v))/\Q vs H
structure PV (X:Cx) (es:List Expr) (is:List Nat):Prop where
 o:PA X es (zyL is)
section
variable {X:Cx}
theorem zxj:PV X [] []:=⟨fun pos pins s σ H Q I ⟨vs,e,h⟩=>by
 cases vs with
 | nil=>exact ziD pos pins s σ H Q I h
 | cons v vs=>simp at e⟩
theorem znX {es:List Expr}{is:List Nat}{i:Nat}{y:Str}{p:Pos}(hN:X.N[i]?=some y)(hv:Vis X.env.scope y)(h:PV X es is)(hd:(y==("__debug__" : Str))=false:=by decide)(hcd:(y==("__classdict__" : Str))=false:=by decide):PV X (.Name y p::es) (i::is) :=
 ⟨fun pos pins s σ H Q I ⟨vs,e,q⟩=>by
  cases vs with
  | nil=>simp at e
  | cons v vs =>
   simp only[List.map_cons,List.cons.injEq] at e
   exact zeY (zjl hN hv hd hcd) h.o (zaO rfl) pos pins s σ H Q I ⟨v,e.1,vs,e.2,q⟩⟩
structure zwy (K:W.Frag) (CE:Addr):Prop where
 rd:W.readsIn K CE (.type "type")=true
 fc:W.findCls K (.ref CE) (.type "type") "__init__"=some (.val (.builtin "ValueError.__init__"))
 sp:W.specialIn K (.ref CE) "__getattribute__"=some (some (.builtin "type.__getattribute__"))
structure XIn (K:W.Frag) (C fn:Addr):Prop where
 ex:∃ CE nm q N bs hdct sn sub ab col dd k0 k1 k2 k3 k5,K.lookup C=some (excClassObj nm q C N bs [.ref CE,.type "ValueError",.type "Exception",.type "BaseException",.type "object"] hdct sn sub ab col dd k0 k1 k2 k3 k5 "ValueError.__new__")/\W.nsOkIn K N=true/\W.nsIn K N "__init__"=some (some (.ref fn)) /\
  W.excIn K CE [.type "ValueError",.type "Exception",.type "BaseException",.type "object"] "ValueError.__new__"=true
theorem zvM {K:W.Frag}{h:Heap}{N:Addr}{mg:Str->Option Value}{n:Str}{v:Value}(X:K.In h)(G:h.Ns N mg)(e:W.nsIn K N n=some (some v)):mg n=some v:=by
 obtain⟨o,es,ep,ho,hd,_,hf⟩:=G
 unfold W.nsIn at e
 split at e
 ·rename_i c d es' n' sl q
  have:=X _ _ q
  rw[ho] at this;cases this
  cases hd
  split at e
  ·rename_i en he
   rw[← hf];unfold nsFind findBy
   rw[← Array.find?_toList,he]
   simpa using e
  ·split at e<;>cases e
 ·cases e
structure zAD (h:Heap) (C fn:Addr):Prop where
 ex:∃ bm N nm q bs hdct sn sub ab col dd k0 k1 k2 k3 k5 mN,h.get? C=some (excClassObj nm q C N bs bm hdct sn sub ab col dd k0 k1 k2 k3 k5 "ValueError.__new__")/\h.Ns N mN/\mN "__init__"=some (.ref fn)/\OwnTail h [.type "ValueError",.type "Exception",.type "BaseException",.type "object"] bm
theorem zsV {K:W.Frag}{CE:Addr}{h:Heap}(X:K.In h)(q:W.excIn K CE [.type "ValueError",.type "Exception",.type "BaseException",.type "object"] "ValueError.__new__"=true):OwnTail h [.type "ValueError",.type "Exception",.type "BaseException",.type "object"] [.ref CE,.type "ValueError",.type "Exception",.type "BaseException",.type "object"]:=by
 unfold W.excIn at q
 split at q
 ·rename_i dd cd sl ho
  split at q
  ·simp only[Bool.and_eq_true,beq_iff_eq,Bool.not_eq_true'] at q
   obtain⟨⟨⟨⟨_,_⟩,_⟩,hok⟩,hni⟩:=q
   exact .own (X _ _ ho) (.of_isNs (W.isNs_of_in X hok)) (W.nsMap_none_of_in X hok hni) .base
  ·cases q
 ·cases q
theorem zqv {K:W.Frag}{C fn:Addr}{h:Heap}(X:K.In h)(q:XIn K C fn):zAD h C fn:=by
 obtain⟨CE,nm,qn,N,bs,hdct,sn,sub,ab,col,dd,k0,k1,k2,k3,k5,ho,hok,hi,he⟩:=q.ex
 exact⟨_,N,nm,qn,bs,hdct,sn,sub,ab,col,dd,k0,k1,k2,k3,k5,_,X _ _ ho,.of_isNs (W.isNs_of_in X hok),zvM X (.of_isNs (W.isNs_of_in X hok)) hi,zsV X he⟩
def sXI (K:W.Frag)(t:TA):TE:=fun σ H Q=>t σ H fun vs H1=>∃ a C rest fn,vs=.ref a::rest/\rest.length<=line/\H1 a=some (.ext (ExN a C none))/\XIn K C fn/\Q .non (upd H1 a (.ext (ExN a C none)))
theorem zy8 {ce:Str}{CE:Addr}{np apos cpos:Pos}{e:Expr}{es:List Expr}{t:TA}{pl:Sem Bool}(b:zwy X.K CE)(hg:Gl X ce)(hm:X.mg ce=some (.ref CE))(ha:PA X (e::es) t)(hdb:(ce==("__debug__" : Str))=false:=by decide)
  (he:starEach (e::es) X.env=(false,eval e X.env)::starEach es X.env:=by exact zaO rfl)(hpl:(backTo cpos (starEach es X.env)).any (·.1)=false:=by exact zb0 rfl)
  (ht:eval (.Call (.Attribute (.Name ce np) "__init__" apos) (e::es) [] cpos) X.env=(do
   let ov ← eval (.Name ce np) X.env
   standAt apos.atName
   let (f,first) ← holding [ov] (getMethod ov "__init__" pl)
   callWith cpos f first (backTo cpos (starEach (e::es) X.env)) (backToKw cpos (keywordEach [] X.env))):=by rfl) :
  PE X (.Call (.Attribute (.Name ce np) "__init__" apos) (e::es) [] cpos) (sXI X.K t):=by
 intro pins s σ H Q I h
 refine W.methodCall_KW (pl:=pl) (zg6 I hg hm (W.method_cls I.kIn b.sp (W.cls_value I.kIn b.rd b.fc rfl ?_)) hdb) ht
 have I0:=I.tok (s.toks+1)
 have hA:=ha cpos pins _ σ H _ I0 h
 rw[he] at hA ⊢
 refine Calls.callWith_builtin (by show(false||(backTo cpos (starEach es X.env)).any (·.1))=false;rw[hpl];rfl) (Calls.evalArgs_plain (thn hA fun us s1 ⟨vs,H1,I1,r,a,C,rest,fn,ev,hl,ea,hx,q⟩=>?_))
 subst ev
 obtain⟨_,us',rfl,ra,r'⟩:∃ u us',us=u::us'/\zct (.ref a) u/\zbT rest us':=by cases r with | cons r1 r2=>exact⟨_,_,rfl,r1,r2⟩
 obtain rfl:_=Value.ref a:=ra
 obtain⟨bm,N,nm,qn,bs,hdct,sn,sub,ab,col,dd,k0,k1,k2,k3,k5,mN,hC,hn,hi,T⟩:=(zqv I1.kIn hx).ex
 obtain⟨⟨t0,hae⟩,_,_⟩:=(show zb8 X.prog X.w H1 s1.heap a (.ext _) from I1.hok a _ ea)
 have F:=PySem.F.excBase_ValueError
 have hz:us'.length<=sizeLine:=by rw[← r'.length];exact zdg hl
 obtain⟨hp,g,d,tk,os⟩:=s1
 refine wpAny_call (codeAny_call_builtin F.init.plain F.initEntry (wpAny_check_init_subT F T hC hae rfl ?_))
 wp_walk
 have mu:Mut (H1 a):=by rw[ea];exact True.intro
 have hne:a≠hp.objs.size:=Nat.ne_of_lt (Heap.lt_size hae)
 refine⟨.non,upd H1 a (.ext (ExN a C none)),I1.write (o:=.ext (ExN a C none)) (x:=a) (e:=a) mu (.inl rfl) (fun b u hb e=>(Heap.get?_update_other _ _ (Ne.symm hb)).trans (Heap.get?_push_of_some _ e)) ⟨_,Heap.get?_update_self _ (Heap.get?_push_of_some _ hae) rfl⟩ ⟨⟨hp.objs.size,?_⟩,⟨_,Heap.get?_update_self _ (Heap.get?_push_of_some _ hae) rfl⟩,zlB⟩,rfl,q⟩
 rw[Heap.get?_update_self _ (Heap.get?_push_of_some _ hae) rfl];rfl
end
section
variable {X:Cx}
def tXR (K:W.Frag)(fs:List Str)(is:List Nat):TS:=fun D σ H=>∃ a C dx l ks vs,σ[0]?=some (some (V.ref a))/\H a=some (.ext (ExN a C (some dx)))/\H dx=some (.ext (XDs dx l))/\dx≠a/\XSt K C ks/\(∀ f∈fs,f∈ks)/\l.length+fs.length < 1000/\fs.length=vs.length /\
 is.map (fun i=>σ[i]?)=vs.map (fun v=>some (some v))/\D.nx σ (upd H dx (.ext (XDs dx (putAll fs vs l))))
structure XR (X:Cx) (sts:List Stmt) (fs:List Str) (is:List Nat):Prop where
 o:PSs X sts (tXR X.K fs is)
theorem zwK:XR X [] [] []:=⟨zhF zrb fun D σ H ⟨a,C,dx,l,ks,vs,h1,h2,h3,h4,h5,h6,h7,h8,h9,q⟩=>by
 cases vs with
 | nil=>unfold putAll at q;rw[zoz h3] at q;exact q
 | cons v vs=>simp at h8⟩
theorem zuM {sts:List Stmt}{fs:List Str}{is:List Nat}{f:Str}{i:Nat}{x y:Str}{p1 p2 p3 pos:Pos}(hN:X.N[i]?=some y)(hN0:X.N[0]?=some x)(hv:Vis X.env.scope y)(hv0:Vis X.env.scope x)(h:XR X sts fs is)
  (hd:(y==("__debug__" : Str))=false:=by decide)(hcd:(y==("__classdict__" : Str))=false:=by decide)(hd0:(x==("__debug__" : Str))=false:=by decide)(hcd0:(x==("__classdict__" : Str))=false:=by decide)
  (hs:swapsWith (.Name y p3) (some (.Attribute (.Name x p1) f p2)) pos.line X.env=pure false:=by rfl):XR X (.Assign [.Attribute (.Name x p1) f p2] (.Name y p3) pos::sts) (f::fs) (i::is):=by
 refine⟨zhF (zi8 (zy4 (zjl hN0 hv0 hd0 hcd0) (zjl hN hv hd hcd) hs) h.o) fun D σ H ⟨a,C,dx,l,ks,vs,h1,h2,h3,h4,h5,h6,h7,h8,h9,q⟩=>?_⟩
 cases vs with
 | nil=>simp at h8
 | cons v vs =>
  simp only[List.map_cons,List.cons.injEq] at h9
  simp only[List.length_cons] at h7 h8
  refine⟨v,h9.1,.ref a,h1,a,C,dx,l,ks,rfl,h2,h3,h4,h5,h6 f List.mem_cons_self,by omega,a,C,dx,_,ks,vs,h1,?_,zav,h4,h5,fun g hg=>h6 g (List.mem_cons_of_mem _ hg),?_,by omega,h9.2,?_⟩
  ·rw[zaw h4.symm];exact h2
  ·have:=zoM (f:=f) (v:=v) (l:=l);omega
  ·rw[zjf];exact q
def tXB (K:W.Frag)(ks:List Str)(is:List Nat):TS:=fun D σ H=>∃ a C fn vs,σ[0]?=some (some (V.ref a))/\H a=some (.ext (ExN a C none))/\XSt K C ks/\XIn K C fn/\ks.length=vs.length/\ks.length<=60 /\
 is.map (fun i=>σ[i]?)=vs.map (fun v=>some (some v))/\∀ dx,H dx=none->D.nx σ (upd (upd H a (.ext (ExN a C (some dx)))) dx (.ext (XDs dx (putAll ks vs []))))
structure XB (X:Cx) (sts:List Stmt) (ks:List Str) (is:List Nat):Prop where
 o:PSs X sts (tXB X.K ks is)
theorem zyH {sts:List Stmt}{fs:List Str}{is:List Nat}{f:Str}{i:Nat}{x y ce:Str}{CE:Addr}{p1 p2 p3 pos np apos cpos spos sp0:Pos}{es:List Expr}{pl:Sem Bool}(b:zwy X.K CE)(hg:Gl X ce)(hm:X.mg ce=some (.ref CE))(hpv:PV X es (i::is))(hN:X.N[i]?=some y)(hN0:X.N[0]?=some x)(hv:Vis X.env.scope y)(hv0:Vis X.env.scope x)(h:XR X sts fs is)
  (hd:(y==("__debug__" : Str))=false:=by decide)(hcd:(y==("__classdict__" : Str))=false:=by decide)(hd0:(x==("__debug__" : Str))=false:=by decide)(hcd0:(x==("__classdict__" : Str))=false:=by decide)(hdb:(ce==("__debug__" : Str))=false:=by decide)
  (hs:swapsWith (.Name y p3) (some (.Attribute (.Name x p1) f p2)) pos.line X.env=pure false:=by rfl)(hs0:swapsWith (.Call (.Attribute (.Name ce np) "__init__" apos) (.Name x sp0::es) [] cpos) none spos.line X.env=pure false:=by rfl)(hpl:(backTo cpos (starEach es X.env)).any (·.1)=false:=by exact zb0 rfl)
  (ht:eval (.Call (.Attribute (.Name ce np) "__init__" apos) (.Name x sp0::es) [] cpos) X.env=(do
   let ov ← eval (.Name ce np) X.env
   standAt apos.atName
   let (f,first) ← holding [ov] (getMethod ov "__init__" pl)
   callWith cpos f first (backTo cpos (starEach (.Name x sp0::es) X.env)) (backToKw cpos (keywordEach [] X.env))):=by rfl) :
  XB X (.Expr (.Call (.Attribute (.Name ce np) "__init__" apos) (.Name x sp0::es) [] cpos) spos::.Assign [.Attribute (.Name x p1) f p2] (.Name y p3) pos::sts) (f::fs) (i::is):=by
 refine⟨zhF (zi8 (znY (zy8 b hg hm (znX (p:=sp0) hN0 hv0 hpv hd0 hcd0).o hdb (zaO rfl) hpl ht) hs0) (zi8 (zy5 (zjl hN0 hv0 hd0 hcd0) (zjl hN hv hd hcd) hs) h.o)) fun D σ H ⟨a,C,fn,vs,h1,h2,h3,h4,h5,h6,h7,q⟩=>?_⟩
 refine⟨.ref a::vs,(show σ[0]?::(i::is).map (fun i=>σ[i]?)=some (some (V.ref a))::vs.map (fun v=>some (some v)) by rw[h1,h7]),a,C,vs,fn,rfl,?_,h2,h4,?_⟩
 ·have:vs.length<=60:=by omega
  exact Nat.le_trans this (by decide)
 ·cases vs with
  | nil=>simp at h5
  | cons v vs =>
   simp only[List.map_cons,List.cons.injEq] at h7
   simp only[List.length_cons] at h5 h6
   rw[zoz h2]
   refine⟨v,h7.1,.ref a,h1,a,C,f::fs,rfl,h2,h3,List.mem_cons_self,fun dx hdx=>?_⟩
   have hne:dx≠a:=fun z=>by subst z;rw[h2] at hdx;cases hdx
   refine⟨a,C,dx,[(f,v)],f::fs,vs,h1,?_,zav,hne,h3,fun g hg=>List.mem_cons_of_mem _ hg,?_,by omega,h7.2,?_⟩
   ·rw[zaw hne.symm,zav]
   ·simp only[List.length_cons,List.length_nil];omega
   ·rw[zjf]
    have:=q dx hdx
    unfold putAll at this
    exact this
end
def zyx (K:W.Frag)(ks:List Str):Sp:=fun vs H Q _=>∃ a C fn args,vs=.ref a::args/\args.length=ks.length/\H a=some (.ext (ExN a C none))/\XSt K C ks/\XIn K C fn/\∀ dx,H dx=none->Q .non (upd (upd H a (.ext (ExN a C (some dx)))) dx (.ext (XDs dx (putAll ks args []))))
theorem zzq {P:Program}{w:World}{K:W.Frag}{mg:Str->Option Value}{base:Heap}{x qual:Str}{st:Stmt}{f:Addr}{fd:FuncData}{ps:List Str}{ks:List Str}(F:Fun K x qual st f fd)(S:zay ps ps (defScope st))(hps:ps.length=ks.length+1)(hf:ks.length<=60)
  (hbody:∀ (cdv:Value) (A:Around) (outer:List PySem.Env) (s0:Shared) (H:Hp) (E:XK),XB (zg1 CX0 P w K mg base ps qual (defScope st) f cdv A outer s0 H E).nox (defBody st) ks ((List.range ks.length).map (· + 1))):zcL P w K mg base CX0 1 f fd ps (zyx K ks):=by
 refine F.ok S (fun vs H Q E h=>?_) fun cdv A outer s0 H vs Q E hr h=>?_
 ·obtain⟨a,C,fn,args,rfl,hl,_⟩:=h
  simp [hl,hps]
 ·obtain⟨a,C,fn,args,rfl,hl,hH,hC,hn,q⟩:=h
  refine⟨_,(hbody cdv A outer s0 H E).o,a,C,fn,args,?_,hH,hC,hn,hl.symm,hf,?_,q⟩
  ·unfold L2.start;simp
  ·unfold L2.start
   apply List.ext_getElem?
   intro i
   simp only[List.getElem?_map,List.map_map]
   by_cases hi:i < ks.length
   ·have hia:i < args.length:=by omega
    simp [hi,hia,List.getElem?_append_left,List.getElem?_cons_succ]
   ·have hia:¬ i < args.length:=by omega
    simp [hi,hia]
section
variable {prog:Program}{w:World}{A:Around}{E:Value->Shared->Prop}{s:Shared}{env:PySem.Env}
variable {nm q:Str}{C N:Addr}{bs bm bmB:List Value}{hdct:Bool}{sn:List Str}{sub:List Value}{ab:Bool}{col:Option Bool}{dd:Option Addr}{k0 k1 k2 k3 k5:Option Value}{B newId initId:String}{mN:Str->Option Value}{fI:Addr}{oI:Obj}
theorem zsM (F:ExcBaseFacts B newId initId bmB){x:Str}{np cpos pos:Pos}{args:List Expr}{Q:Flow->Shared->Prop}(hbase:bm.contains (.type "BaseException")=true)(hh:A.handled=none)(hplain:(backTo cpos (starEach args env)).any (·.1)=false)(hi:mN "__init__"=some (.ref fI))
  (h:wpAny (model prog w) A (eval (.Name x np) env) (fun f s₁=>f=.ref C/\wpAny (model prog w) A (evalArgs (.ref C) true (backTo cpos (starEach args env)) []) (fun a s₂=>a.kw=[]/\a.pos.length<=sizeLine/\s₂.heap.get? C=some (excClassObj nm q C N bs bm hdct sn sub ab col dd k0 k1 k2 k3 k5 newId)/\s₂.heap.Ns N mN/\OwnTail s₂.heap bmB bm/\s₂.heap.get? fI=some oI/\oI.cls=.type "function" /\
    ∀ h' e,Heap.MadeExcOf s₂.heap h' e (.ref C) a.pos->wpAny (model prog w) (A.under (.builtin "type.__call__" ⟨.ref C::a.pos,[]⟩)) (call (.ref fI) (.ref e::a.pos)) (fun r s'=>r=.none/\s'.heap.get? C=some (excClassObj nm q C N bs bm hdct sn sub ab col dd k0 k1 k2 k3 k5 newId)/\(∃ dc t,s'.heap.get? e=some ⟨.ref C,dc,.fields #[.ref t,.none,.none,.none,.bool false,.none],#[]⟩)/\E (.ref e) s') E { s₂ with heap:=h' }) E s₁) E s) :
  wpAny (model prog w) A (exec (.Raise (some (.Call (.Name x np) args [] cpos)) none pos) env) Q E s:=by
 rw[arm_exec_Raise]
 refine wpAny_bind (wpAny_standAt (zsL (C:=C) (nm:=nm) (q:=q) (N:=N) (bs:=bs) (bm:=bm) (hdct:=hdct) (sn:=sn) (sub:=sub) (ab:=ab) (col:=col) (dd:=dd) (k0:=k0) (k1:=k1) (k2:=k2) (k3:=k3) (k5:=k5) (newId:=newId) hbase hh (wpAny_bind (wpAny_mono (wpAny_Call_ofName (wpAny_mono h (fun f s₁ h₁=>?_) fun _ _ x=>x)) (fun v s₃ h₃=>wpAny_bind (wpAny_standAt (wpAny_pure h₃))) fun _ _ x=>x))))
 obtain⟨rfl,h₁⟩:=h₁
 unfold callWith
 refine wpAny_bind (wpAny_holding (wpAny_mono h₁ (fun⟨apos,akw⟩ s₂ ⟨hkw,hlen,hC,hn,T,hf,hfc,h₂⟩=>wpAny_bind (wpAny_standAt ?_)) fun _ _ x=>x))
 obtain rfl:akw=[]:=hkw
 obtain⟨hp,g,d,tk,os⟩:=s₂
 simp only[hplain]
 refine wpAny_bind (wpAny_keeperOf_exc hC (wpAny_bind (zuQ F T hC hn hi hf hfc hlen fun h' e hm=>wpAny_mono (h₂ h' e hm) (fun r s' hr=>?_) fun _ _ z=>z)))
 obtain⟨rfl,hC',⟨dc,t,he⟩,hE⟩:=hr
 exact⟨rfl,wpAny_bind (wpAny_holding (wpAny_point (wpAny_pure ⟨e,dc,t,rfl,hC',he,hE⟩)))⟩
end
structure zwx (K:W.Frag) (x:Str) (C:Addr):Prop where
 i:znw K x C
 cls:W.findIn K (.ref C) "__class__"=some (some (.builtin "object.__class__"))
 ga:W.findIn K (.ref C) "__getattribute__"=some (some (.builtin "BaseException.__getattribute__"))
 gt:W.findIn K (.ref C) "__getattr__"=some none
 t1:W.subIn K (.ref C) (.type "NoneType")=some false
 t2:W.subIn K (.ref C) (.type "bool")=some false
 t3:W.subIn K (.ref C) (.type "int")=some false
 t4:W.subIn K (.ref C) (.type "str")=some false
 t5:W.subIn K (.ref C) (.type "tuple")=some false
 t6:W.subIn K (.ref C) (.type "list")=some false
 t7:W.subIn K (.ref C) (.type "dict")=some false
 ve:W.subIn K (.ref C) (.type "ValueError")=some true
 self:W.subIn K (.ref C) (.ref C)=some true
theorem zwx.xc {K:W.Frag}{x:Str}{C:Addr}(Z:zwx K x C):XC K x C :=
 ⟨Z.i.ns,⟨Z.cls,Z.ga,Z.gt,Z.i.ob,Z.i.be⟩,fun T hT=>by
  refine zjC (zjE T hT) ?_
  simp only[zgl,List.mem_cons,List.not_mem_nil,or_false] at hT
  rcases hT with rfl | rfl | rfl | rfl | rfl | rfl | rfl
  all_goals first | exact Z.t1 | exact Z.t2 | exact Z.t3 | exact Z.t4 | exact Z.t5 | exact Z.t6 | exact Z.t7⟩
theorem zwJ {K:W.Frag}{C fn:Addr}{ks:List Str}(z:XIn K C fn)(sa:W.findIn K (.ref C) "__setattr__"=some (some (.builtin "object.__setattr__")))(hd:W.hasDictIn K C=true)(no:∀ f∈ks,zk0 K C f):XSt K C ks:=by
 obtain⟨CE,nm,qn,N,bs,hdct,sn,sub,ab,col,dd,k0,k1,k2,k3,k5,ho,_⟩:=z.ex
 refine⟨sa,hd,?_,no⟩
 unfold W.clsIn;rw[ho];rfl
def zfA (x:Str)(n:Nat)(fa:Ev->Res (List D)):Ev->Res Fl:=fun ρ=>(fa (shr ρ)).bind fun ds=>if ds.length=n then .exn ⟨x,[]⟩ else .stuck
section
variable {P:Program}{w:World}{K:W.Frag}{mg:Str->Option Value}{base:Heap}{N:List Str}{qual:Str}{scope:Scope}{f:Addr}{cd:Value}{A:Around}{outer:List PySem.Env}{s0:Shared}{H0:Hp}{E:XK}{He H0e:Hp}
theorem ztQ {H:Hp}{h:Heap}{e dx:Addr}{o1 o2:HO}(ok:HOk P w (upd (upd H e o1) dx o2) h)(he:H e=none)(hd:H dx=none)(n1:∀ b,o1≠.own b)(n2:∀ b,o2≠.own b)(m1:∀ b,o1≠.tup b)(m2:∀ b,o2≠.tup b):HOk P w H h:=fun a o q=>by
 have a1:a≠e:=fun z=>by subst z;rw[he] at q;cases q
 have a2:a≠dx:=fun z=>by subst z;rw[hd] at q;cases q
 refine(ok a o (by rw[zaw a2,zaw a1];exact q)).stay (fun b u _ z=>z) (fun b z=>?_) fun b xs z=>?_
 ·by_cases b2:b=dx
  ·subst b2;rw[zav] at z;exact absurd (Option.some.inj z) (n2 _)
  ·rw[zaw b2] at z
   by_cases b1:b=e
   ·subst b1;rw[zav] at z;exact absurd (Option.some.inj z) (n1 _)
   ·rw[zaw b1] at z;exact z
 ·by_cases b2:b=dx
  ·subst b2;rw[zav] at z;exact absurd (Option.some.inj z) (m2 _)
  ·rw[zaw b2] at z
   by_cases b1:b=e
   ·subst b1;rw[zav] at z;exact absurd (Option.some.inj z) (m1 _)
   ·rw[zaw b1] at z;exact z
theorem Un.forget {fs:List Addr}{H H2:Hp}{h h2:Heap}(u:Un fs [] H H2 h h2):Un fs [] H H h h2:=⟨u.keep,u.slot,fun _ _ _ n _=>n,u.there,fun _ _ q=>q,fun _ _ _ q=>q,fun _ ps q=>⟨#[],by rw[q];simp⟩⟩
theorem zen {x:Str}{C fn:Addr}{np cpos pos:Pos}{e:Expr}{es:List Expr}{fa:Ev->Res (List D)}{k:Nat}{fd:FuncData}{ps ks:List Str}(xc:XC K x C)(z:XIn K C fn)(st:XSt K C ks)(hfn:W.isFn K (.ref fn)=true)(F:zcL P w K mg base CX0 k fn fd ps (zyx K ks))(hb:zbg K fd ps [])(hks:ks.length<=60)(hr:zhz (k+1) (zg1 (CXE P w) P w K mg base N qual scope f cd A outer s0 H0 E).A)(hm:mg x=some (.ref C))(hh:A.handled=none)
  (hg:Gl (zg1 (CXE P w) P w K mg base N qual scope f cd A outer s0 H0 E) x)(ha:DA (zg1 (CXE P w) P w K mg base N qual scope f cd A outer s0 H0 E) E (e::es) fa)
  (hdb:(x==("__debug__" : Str))=false:=by decide)(he:starEach (e::es) (zg1 (CXE P w) P w K mg base N qual scope f cd A outer s0 H0 E).env=(false,eval e (zg1 (CXE P w) P w K mg base N qual scope f cd A outer s0 H0 E).env)::starEach es (zg1 (CXE P w) P w K mg base N qual scope f cd A outer s0 H0 E).env:=by exact zaO rfl)
  (hpl:(backTo cpos (starEach es (zg1 (CXE P w) P w K mg base N qual scope f cd A outer s0 H0 E).env)).any (·.1)=false:=by exact zb0 rfl) :
  DS (zg1 (CXE P w) P w K mg base N qual scope f cd A outer s0 H0 E) E He H0e (.Raise (some (.Call (.Name x np) (e::es) [] cpos)) none pos) (zfA x ks.length fa):=by
 refine⟨?_⟩
 intro pins s σ H D I ⟨H₀,ρ,hr',q⟩
 obtain⟨bm,Nn,nm,qn,bs,hdct,sn,sub,ab,col,dd,k0,k1,k2,k3,k5,mN,hC,hN,hi,T⟩:=(zqv I.ok.mod.kin z).ex
 obtain⟨oI,hoI,hoc⟩:∃ oI,base.get? fn=some oI/\oI.cls=.type "function":=by
  have:=beq_iff_eq.mp hfn
  obtain⟨o,ho,hc⟩:=Option.map_eq_some_iff.mp this
  exact⟨o,I.ok.mod.kin _ _ ho,hc⟩
 refine zsM (C:=C) (nm:=nm) (q:=qn) (N:=Nn) (bs:=bs) (bm:=bm) (hdct:=hdct) (sn:=sn) (sub:=sub) (ab:=ab) (col:=col) (dd:=dd) (k0:=k0) (k1:=k1) (k2:=k2) (k3:=k3) (k5:=k5)
  PySem.F.excBase_ValueError (mN:=mN) (oI:=oI) (T.hasType PySem.F.excBase_ValueError.hasBase) hh (by rw[he];show(false||(backTo cpos (starEach es (zg1 (CXE P w) P w K mg base N qual scope f cd A outer s0 H0 E).env)).any (·.1))=false;rw[hpl];rfl) hi (zg6 I hg hm ⟨rfl,?_⟩ hdb)
 have hq:znZ K E H (frz He H₀ H) (fa (shr ρ)) (fun vs H1=>vs.length=ks.length/\E (.ref C) none H1):=by
  unfold zfA at q
  cases e1:fa (shr ρ) with
  | stuck=>rw[e1] at q;exact q
  | exn z=>rw[e1] at q;exact fun C ox H' H₀' g ex=>q C ox H' H₀' (hr'.frz_grow.trans g) ex
  | ok ds =>
   rw[e1] at q
   intro vs H1 H01 g rp
   have q:zcf K E He H0e H₀ (if ds.length=ks.length then Res.exn ⟨x,[]⟩ else .stuck) D:=q
   by_cases hl:ds.length=ks.length
   ·rw[if_pos hl] at q
    exact⟨by rw[← rp.length];exact hl,q (.ref C) none H1 H01 (hr'.frz_grow.trans g) ⟨⟨C,rfl,xc⟩,rfl⟩⟩
   ·rw[if_neg hl] at q;exact q.elim
 have h1:=ha.o cpos pins s σ H _ I ⟨frz He H₀ H,shr ρ,hr'.frz_le,hr'.looks,hq⟩
 rw[he] at h1 ⊢
 refine Calls.evalArgs_plain (wpAny_mono h1 (fun us s2 h2=>?_) fun _ _ y=>y)
 obtain⟨vs,H1,I1,rv,hl,hE⟩:=h2
 have hz:us.length<=sizeLine:=by rw[← rv.length,hl,sizeLine_eq];omega
 refine⟨rfl,hz,I1.bk _ _ hC,hN.keeps I1.bk,T.keeps I1.bk,I1.bk _ _ hoI,hoc,fun h' ee hx=>?_⟩
 have hn:H1 ee=none:=by
  cases q:H1 ee with
  | none=>rfl
  | some o=>obtain⟨u,hu⟩:=zb8.there (I1.hok ee o q);rw[hx.new] at hu;cases hu
 obtain⟨t,ht,_,_⟩:=hx.there
 have hxn:ExN ee C none h':=⟨t,ht⟩
 have un1:Un (frs (zg1 (CXE P w) P w K mg base N qual scope f cd A outer s0 H0 E).stack) [] H1 (upd H1 ee (.ext (ExN ee C none))) s2.heap h':=Un.ext (Un.kept hx.keeps) hn hx.new
 have I2:Inv (zg1 (CXE P w) P w K mg base N qual scope f cd A outer s0 H0 E) pins σ (upd H1 ee (.ext (ExN ee C none))) { s2 with heap:=h' } :=
  I1.call' (ch:=[]) rfl un1 (HOk.ext (I1.hok.kept hx.keeps) hn hxn ⟨_,ht⟩ zlB) I1.bare (fun _ z=>nomatch z)
 have rv2:zbT (V.ref ee::vs) (Value.ref ee::us):=.cons rfl rv
 have hsp:zyx K ks (V.ref ee::vs) (upd H1 ee (.ext (ExN ee C none))) (fun v H2=>v=.non/\∃ dx,H1 dx=none/\dx≠ee/\H2=upd (upd (upd H1 ee (.ext (ExN ee C none))) ee (.ext (ExN ee C (some dx)))) dx (.ext (XDs dx (putAll ks vs [])))) E :=
  ⟨ee,C,fn,vs,rfl,hl,zav,st,z,fun dx hdx=>by
   have c:dx≠ee:=fun c=>by rw[c,zav] at hdx;cases hdx
   rw[zaw c] at hdx
   exact⟨rfl,dx,hdx,c,rfl⟩⟩
 have hl2:(Value.ref ee::us).length=ps.length:=by rw[← rv2.length];exact F.len _ _ _ _ hsp
 have hbb:=hb { s2 with heap:=h' } (Value.ref ee::us) I2.kIn (by simpa using hl2)
 rw[List.append_nil] at hbb
 refine wpAny_call (codeAny_mono (F.run _ _ { s2 with heap:=h' } _ ⟨Value.ref ee::us,[]⟩ (Value.ref ee::us) _ _ E (hr.make C us []) (I2.env0.make C us []) hbb rv2 hsp) fun r s3 hq3=>?_)
 cases r with
 | error e=>exact False.elim hq3
 | ok fl =>
  cases fl with
  | next=>exact False.elim hq3
  | brk=>exact False.elim hq3
  | cont=>exact False.elim hq3
  | ret u =>
   obtain⟨v,H2,os3,bare3,un3,hok3,rel3,rfl,dx,hdx,hdne,rfl⟩:=hq3
   obtain rfl:u=Value.none:=rel3
   rw[zjf] at hok3 un3
   have un4:=Un.forget (un1.trans un3)
   have hok4:HOk P w H1 s3.heap:=ztQ hok3 hn hdx (fun _ z=>by cases z) (fun _ z=>by cases z) (fun _ z=>by cases z) (fun _ z=>by cases z)
   obtain⟨⟨t3,ht3⟩,_,_⟩:=(show zb8 P w _ s3.heap ee (.ext (ExN ee C (some dx))) from hok3 ee _ (by rw[zaw hdne.symm,zav]))
   have I3:=I1.call' (ch:=[]) os3 un4 hok4 bare3 (fun _ z=>nomatch z)
   refine⟨rfl,I3.bk _ _ hC,⟨_,t3,ht3⟩,?_⟩
   have hin:=zrS (l:=envOfC qual scope s0.heap.objs.size f cd::outer)
   have hfr:s3.heap.FunFrames (W.hideAll s3.heap (ee::frs (envOfC qual scope s0.heap.objs.size f cd::outer))) (envOfC qual scope s0.heap.objs.size f cd::outer):=W.funFrames_hide I3.stack fun env he a hf=>List.mem_cons_of_mem _ (hin env he a hf)
   have hst:(W.hideAll s3.heap (ee::frs (envOfC qual scope s0.heap.objs.size f cd::outer))).StaysIn s3.heap:=fun b o q=>W.of_hideAll _ q
   have hen:(W.hideAll s3.heap (ee::frs (envOfC qual scope s0.heap.objs.size f cd::outer))).get? ee=none:=W.hideAll_none _ (.head _)
   refine wpAny_leaving_firstW (a0:=.ref t3) I3.ok.frames hfr rfl ht3 hst hen rfl rfl rfl fun h4 hL=>?_
   obtain⟨l1,⟨_,_,l2⟩,l3,l4⟩:=hL
   refine zv7 rfl I1 (s1:=s3) (H1:=H1) os3 bare3 un4 hok4 hn hst hfr (fun b hb hy=>?_) ⟨l1,hen,l2,l3⟩ l4 hE
   have hbe:b≠ee:=fun c=>by
    subst c
    rcases hy with hy | ⟨o,hy⟩
    ·exact hy hn
    ·rw[hx.new] at hy;cases hy
   have hth:∃ o,s3.heap.get? b=some o:=by
    rcases hy with hy | ⟨o,hy⟩
    ·cases q:H1 b with
     | none=>exact absurd q hy
     | some o=>exact zb8.there (hok4 b o q)
    ·exact un4.there b o hy (by simp)
   obtain⟨o,q⟩:=hth
   exact⟨o,W.hideAll_get _ q (List.not_mem_cons_of_ne_of_not_mem hbe hb)⟩
end
def zxO (e:DictEntry):Bool:=match e.key with
 | .str _ _=>true
 | _=>false
theorem zuj {K:W.Frag}{C CE fn N:Addr}{nm q:Str}{bs sub:List Value}{hdct ab:Bool}{sn:List Str}{col:Option Bool}{dd dn:Option Addr}{k0 k1 k2 k3 k5:Option Value}{cn:Value}{es:Array DictEntry}{ep:Nat}{st:Array (Option Value)}
  (xl:K.lookup C=some (excClassObj nm q C N bs [.ref CE,.type "ValueError",.type "Exception",.type "BaseException",.type "object"] hdct sn sub ab col dd k0 k1 k2 k3 k5 "ValueError.__new__"))(xn:K.lookup N=some ⟨cn,dn,.dict es ep,st⟩)(xk:es.toList.all zxO=true)(xv:W.nsIn K N "__init__"=some (some (.ref fn)))
  (xb:W.excIn K CE [.type "ValueError",.type "Exception",.type "BaseException",.type "object"] "ValueError.__new__"=true):XIn K C fn:=by
 refine⟨CE,nm,q,N,bs,hdct,sn,sub,ab,col,dd,k0,k1,k2,k3,k5,xl,?_,xv,xb⟩
 unfold W.nsOkIn;rw[xn]
 rw[Array.all_toList] at xk
 exact xk
theorem zo0 {α β:Type}{f g:α->Option β}:∀ {l:List α},(∀ x∈l,f x=g x)->l.filterMap f=l.filterMap g
 | [],_=>rfl
 | a::l,h=>by
  rw[List.filterMap_cons,List.filterMap_cons,h a List.mem_cons_self,zo0 fun x hx=>h x (List.mem_cons_of_mem _ hx)]
theorem zto (its:List Value):slicePick its.toArray none none (some (-1))=its.reverse.toArray:=by
 have h1:(sliceBounds none none (some (-1)) its.toArray.size)=((its.length:Int)-1,-1,-1):=by
  unfold sliceBounds
  simp
 unfold slicePick
 rw[h1]
 congr 1
 unfold sliceRange
 simp only[show ¬ ((-1:Int) > 0) by decide,if_false]
 have hc:((if(its.length:Int)-1 > -1 then((its.length:Int)-1 - -1 - -1-1) / (- -1) else 0)).toNat=its.length:=by
  rw[show(- -1:Int)=1 from rfl,Int.ediv_one]
  split<;>omega
 rw[hc]
 rw[List.filterMap_map]
 have hall:∀ k∈List.range its.length,((fun x=>its.toArray[x]?)∘fun(k:Nat)=>((its.length:Int)-1 + -1*(k:Int)).toNat) k=its.reverse[k]?:=fun k hk=>by
  have hk:=List.mem_range.mp hk
  show its.toArray[((its.length:Int)-1 + -1*(k:Int)).toNat]?=_
  rw[List.getElem?_reverse hk,show((its.length:Int)-1 + -1*(k:Int)).toNat=its.length-1-k by omega]
  simp
 rw[zo0 hall]
 have hr:(List.range its.length).filterMap (fun k=>its.reverse[k]?)=its.reverse:=by
  have hh:=List.length_reverse (as:=its)
  generalize its.reverse=r at hh ⊢
  rw[← hh]
  clear hh hall hc h1
  induction r with
  | nil=>rfl
  | cons a r ih =>
   rw[List.length_cons,List.range_succ_eq_map,List.filterMap_cons]
   simp only[List.getElem?_cons_zero,List.filterMap_map]
   congr 1
 exact hr
def zzz (x:D):Res D:=match x with
 | .lst ds=>.ok (.lst ds.reverse)
 | _=>.stuck
theorem Reps.rev {K:W.Frag}{H:Hp}:∀ {ds:List D}{vs:List V},Reps K H ds vs->Reps K H ds.reverse vs.reverse
 | [],vs,h=>by rw[Reps.nil_iff.mp h];exact Reps.nil
 | d::ds,vs,h=>by
  obtain⟨v,r,rfl,h1,h2⟩:=Reps.cons_iff.mp h
  rw[List.reverse_cons,List.reverse_cons]
  exact(Reps.rev h2).app (Reps.cons h1 Reps.nil)
theorem zbT.rev:∀ {vs:List V}{us:List Value},zbT vs us->zbT vs.reverse us.reverse
 | _,_,.nil=>.nil
 | _,_,.cons h t=>by rw[List.reverse_cons,List.reverse_cons];exact(zbT.rev t).append (.cons h .nil)
section
variable {X:Cx}{E:XK}{e a st:Expr}{f:Ev->Res D}{te:TE}{pos p2:Pos}
def zAa (K:W.Frag)(te:TE):TE:=fun σ H Q=>te σ H fun x H1=>∃ a xs,x=.ref a/\SqL K H1 a xs/\∀ p,H1 p=none->Q (.ref p) (upd H1 p (.lst xs.reverse))
theorem zxv (he:PE X e te)(hst:∀ (pins:List (Addr×Obj)) (s:Shared) (σ:L2.St) (H:Hp) (Q:VK),Inv X pins σ H s->Q (.int (-1)) H->wpAny (model X.prog X.w) X.A (eval st X.env) (EP X pins σ Q) X.xe s):PE X (.Subscript e (.Slice none none (some st) p2) pos) (zAa X.K te):=by
 intro pins s σ H Q I h
 refine Subscript_ (thn (he pins s σ H _ I h) fun v s1 ⟨x,H1,I1,r1,a,xs,ex,hx,q⟩=>?_)
 subst ex
 cases r1
 refine wpAny_Slice (wpAny_evalPart_none (wpAny_evalPart_none ?_))
 show wpAny _ _ (eval st X.env) _ _ _
 refine thn (hst pins s1 σ H1 (fun v H2=>v=.int (-1)/\H2=H1) I1 ⟨rfl,rfl⟩) fun vs s3 ⟨u,H3,I3,pu,eu,eh⟩=>?_
 subst eu eh
 obtain⟨t,rfl⟩:=pu
 have I4:Inv X pins σ H3 { s3 with heap:=s3.heap.push { cls:=.type "slice",data:=.fields #[.none,.none,.int (-1) t] } }:=I3.kept (t':=s3.toks) fun b ob q=>Heap.get?_push_of_some _ q
 obtain⟨its,r,ht,hz⟩:=I4.list hx
 have hg:wpAny (model X.prog X.w) X.A (getItem (.ref a) (.ref s3.heap.objs.size)) (EP X pins σ Q) X.xe { s3 with heap:=s3.heap.push { cls:=.type "slice",data:=.fields #[.none,.none,.int (-1) t] } }:=by
  refine wpAny_getItem_list_slice ht.isList (Heap.IsSliceOf.new ..) .none .none (.int (-1) t) (by simp) ?_ (by rw[List.size_toArray,← r.length];exact hz)
  rw[zto]
  refine⟨.ref _,_,I4.laid (t':=s3.toks) (o:=.lst xs.reverse) (fun b ob q=>Heap.get?_push_of_some _ q) (Nat.le_refl _) ?_,rfl,q _ (I4.hok.fresh (Nat.le_refl _))⟩
  exact⟨by rw[List.length_reverse];exact hz,_,0,zbT.rev r,Heap.get?_push_size _ rfl⟩
 exact tail_any (ops:=[.ref a,.ref s3.heap.objs.size]) ht.isList.typeIs slot_list_getitem.lookup hg (by with_unfolding_all rfl)
theorem zyg {p3 p4:Pos}{k:Nat}(ha:DE X E a f):DE X E (.Subscript a (.Slice none none (some (.UnaryOp .USub (.Constant (.int 1) k p3) p4)) p2) pos) (za2 f zzz):=by
 refine⟨zaT (zxv ha.o fun pins s σ H Q I q=>zxs (pos:=p4) zum (zuv (i:=1) (j:=k) (pos:=p3)) pins s σ H Q I ⟨1,rfl,q⟩) fun σ H Q ⟨H₀,ρ,hs,hr,q⟩=>⟨H₀,ρ,hs,hr,?_⟩⟩
 unfold za2 at q
 cases e1:f ρ with
 | stuck=>rw[e1] at q;exact q
 | exn x=>rw[e1] at q;exact q
 | ok d =>
  rw[e1] at q
  intro v H1 H01 g1 r1
  cases d with
  | lst ds =>
   obtain⟨p,vs,rfl,h1,h2⟩:=Rep.lst_iff.mp r1
   exact⟨p,vs,rfl,zaM.sqL g1.sub h1,fun n hn=>q _ _ _ (g1.trans (zbn.alloc g1.sub hn)) (Rep.lst_iff.mpr ⟨n,_,rfl,SqL.of zav,(Reps.rev h2).mono (zbn.alloc g1.sub hn).z⟩)⟩
  | _=>exact q.elim
end
section
variable {X:Cx}{E:XK}{a:Expr}{f:Ev->Res D}{pos p2:Pos}
end
def zyh (x y:D):Res D:=match x,y with
 | .dic [] [],.dic [] []=>.ok (.bl false)
 | x,y=>dNe x y
def zyY (K:W.Frag):R2:=fun v u H Q=>zyZ K v u H Q∨∃ a b,v=.ref a/\u=.ref b/\Rd H a (.dK [])/\Rd H b (.dK [])/\Q (.bl false) H
theorem zxI {X:Cx}(hu:X.A.units+64 < cLine):OpR X (compareOp .NotEq) (zyY X.K):=OpR.or (zeD hu) (by
 intro pins s σ H x y v u Q I rx ry h
 obtain⟨a,b,rfl,rfl,ha,hb,q⟩:=h
 cases rx
 cases ry
 obtain⟨_,n1,vs,k1,d1⟩:=(show zb8 X.prog X.w H s.heap a (.dK []) from ha.ok I.hok)
 obtain⟨_,n2,us,k2,d2⟩:=(show zb8 X.prog X.w H s.heap b (.dK []) from hb.ok I.hok)
 obtain rfl:vs=[]:=by cases k1;rfl
 obtain rfl:us=[]:=by cases k2;rfl
 exact W.keq_ne n1 n2 d1 d2 (by omega) (fun _=>.nil) ⟨.bl false,H,I,rfl,q⟩)
theorem zxN {X:Cx}{E:XK}:OpD X.K E (zyY X.K) zyh:=by
 intro x y v u H H₀ Q hs r1 r2 q
 have old:post X.K E H H₀ (dNe x y) Q->zyY X.K v u H Q:=fun q=>.inl (zhH x y v u H H₀ Q hs r1 r2 q)
 unfold zyh at q
 split at q
 ·have e1:∃ a,v=.ref a/\Rd H₀ a (.dK []):=by
   rw[Rep] at r1
   obtain⟨a,kvs,vs,h1,h2,h3,h4,h5⟩:=r1
   have:kvs=[]:=by rw[h3];rfl
   subst this
   exact⟨a,h1,h2⟩
  have e2:∃ a,u=.ref a/\Rd H₀ a (.dK []):=by
   rw[Rep] at r2
   obtain⟨a,kvs,vs,h1,h2,h3,h4,h5⟩:=r2
   have:kvs=[]:=by rw[h3];rfl
   subst this
   exact⟨a,h1,h2⟩
  obtain⟨a,ea,ha⟩:=e1
  obtain⟨b,eb,hb⟩:=e2
  exact .inr ⟨a,b,ea,eb,zaM.rd hs ha,zaM.rd hs hb,zbp hs q (Rep.bl_iff.mpr rfl)⟩
 ·exact old q
section
variable {X:Cx}{E:XK}{a b o:Expr}{f g fo:Ev->Res D}{pos:Pos}
def zoj:D->D->Res D:=iop (fun _ _=>true) fun i j=>.int (Builtin.bitAnd i j)
theorem zr9 (ha:DE X E a f)(hb:DE X E b g):DE X E (.BinOp a .BitAnd b pos) (zac f g zoj):=znd zxK (zdH fun _ _ _ _=>ri _) ha hb
def znf (x:D):Res D:=match x with
 | .str z=>if z.length<=1000000 then .ok (.str (Txt.upper z)) else .stuck
 | _=>.stuck
def zxf:V->List V->Hp->VK->Prop:=fun x vs H Q=>∃ z,x=.str z/\vs=[]/\z.length<=1000000/\Q (.str (Txt.upper z)) H
theorem ztB:MtR X "str.upper" zxf:=by
 intro pins s σ H x vs v us Q I rx rv h
 obtain⟨z,rfl,rfl,hl,q⟩:=h
 cases rv
 obtain⟨t,rfl⟩:=rx
 exact SCL.upper (by omega) fun _=>⟨.str (Txt.upper z),H,I.tok _,⟨_,rfl⟩,q⟩
theorem zt4 {apos cpos:Pos}(ho:DE X E o fo)(hbase:attributeBase o "upper" X.env (eval o X.env)=eval o X.env:=by rfl)(hline:(apos.endLine==cpos.line)=true:=by rfl):DE X E (.Call (.Attribute o "upper" apos) [] [] cpos) (za2 fo znf):=by
 refine⟨zaT (zxz PySem.F.plainAttrs_str PySem.F.slot_str_upper PySem.F.type_str_upper ztB ho.o hbase hline) fun σ H Q ⟨H₀,ρ,hs,hr,q⟩=>⟨H₀,ρ,hs,hr,?_⟩⟩
 unfold za2 at q
 cases e1:fo ρ with
 | stuck=>rw[e1] at q;exact q
 | exn x=>rw[e1] at q;exact q
 | ok d =>
  rw[e1] at q
  intro v H1 H01 g1 r1
  replace q:post X.K E H H₀ (znf d) Q:=q
  cases d with
  | str z =>
   unfold znf at q
   by_cases c:z.length<=1000000
   ·simp only[if_pos c] at q
    have ev:=Rep.str_iff.mp r1
    subst ev
    exact⟨(rfl:("str" : String)="str"),z,rfl,rfl,c,q _ _ _ g1 (Rep.str_iff.mpr rfl)⟩
   ·simp only[if_neg c] at q;exact q.elim
  | _=>exact q.elim
end
end DL
namespace Com
open PySem L2 DL
def zdr:Ev->Res Fl :=
 (zan (zgV (zic 1) (zac (zaf 1) (dC (.int 0)) dNe)
 (zan (zsF 0 1 (zad (zaf 1) (zad (zac (zaf 0) (zaf 1) zeA) zau)))
 zak))
 (zan (zcp (zal (zad (zaf 0) zau) (m1 zt8)))
 zak))
def zgZ:List D->Res D:=zcH 2 zdr
def zd1:Ev->Res Fl :=
 (zan (zbb 2 (zal (zad (zaf 0) (zad (zaf 1) zau)) zgZ))
 (zan (zcp (zal (zad (zac (zaf 0) (zaf 2) zp8) (zad (zac (zaf 1) (zaf 2) zp8) zau)) zi9))
 zak))
def zls:List D->Res D:=zcH 3 zd1
def zeR:Ev->Res Fl :=
 (zan (zcp (zhT (za2 (zaf 0) (zcj "int")) (zdk (za2 (zaf 0) (zcj "bool")))))
 zak)
def zcI:List D->Res D:=zcH 1 zeR
def zdm:Ev->Res Fl :=
 (zan (zcp (zhT (za2 (zaf 0) (zcj "int")) (zdk (za2 (zaf 0) (zcj "bool")))))
 zak)
def zbI:List D->Res D:=zcH 1 zdm
def zbf:Ev->Res Fl :=
 (zan (zbb 2 (zal (zad (zaf 0) zau) (m1 zt8)))
 (zan (zbb 3 (zal (zad (zaf 1) zau) (m1 zt8)))
 (zan (zgV (zic 3) (zac (zaf 3) (dC (.int 0)) dNe)
 (zan (zbb 4 (zac (zaf 2) (zaf 3) zeA))
 (zan (zbb 2 (zaf 3))
 (zan (zbb 3 (zaf 4))
 zak))))
 (zan (zcp (zaf 2))
 zak))))
def zbc:List D->Res D:=zcH 5 zbf
def ze8:Ev->Res Fl :=
 (zan (sIf (dOr (zdk (zal (zad (zaf 0) zau) zbI)) (zdk (zal (zad (zaf 1) zau) zbI)))
 (zan zdt
 zak)
 zak)
 (zan (sIf (zac (zaf 1) (dC (.int 0)) dEq)
 (zan zdt
 zak)
 zak)
 (zan (zbb 2 (zal (zad (zaf 0) (zad (zaf 1) zau)) zbc))
 (zan (sIf (zac (zaf 1) (dC (.int 0)) dLt)
 (zan (zbb 2 (za2 (zaf 2) zsd))
 zak)
 zak)
 (zan (zcp (zal (zad (zac (zaf 0) (zaf 2) zp8) (zad (zac (zaf 1) (zaf 2) zp8) zau)) zi9))
 zak)))))
def ze1:List D->Res D:=zcH 3 ze8
def zhV:Ev->Res Fl :=
 (zan (zcp (zal (zad (zac (zac (zac (zaf 0) (dC (.int 0)) dIx) (zac (zaf 1) (dC (.int 1)) dIx) zdl) (zac (zac (zaf 1) (dC (.int 0)) dIx) (zac (zaf 0) (dC (.int 1)) dIx) zdl) zbR) (zad (zac (zac (zaf 0) (dC (.int 1)) dIx) (zac (zaf 1) (dC (.int 1)) dIx) zdl) zau)) ze1))
 zak)
def zgY:List D->Res D:=zcH 2 zhV
def zdY:Ev->Res Fl :=
 (zan (zbb 1 (dC (.tup [(.int 0),(.int 1)])))
 (zan (zoG (zaf 0) (zfD 2)
 (zan (zbb 1 (zal (zad (zaf 1) (zad (zaf 2) zau)) zgY))
 zak))
 (zan (zcp (zaf 1))
 zak)))
def zeF:List D->Res D:=zcH 3 zdY
theorem bok {α β:Type}{a:α}{f:α->Res β}:(Res.ok a).bind f=f a:=rfl
theorem zfR {s t:Ev->Res Fl}{ρ ρ':Ev}(h:s ρ=.ok (.nx ρ')):zan s t ρ=t ρ':=by unfold zan;rw[h];rfl
theorem zkB {s t:Ev->Res Fl}{ρ:Ev}{d:D}(h:s ρ=.ok (.rt d)):zan s t ρ=.ok (.rt d):=by unfold zan;rw[h];rfl
theorem zoF {s:Ev->Res Fl}{ρ ρ':Ev}(h:s ρ=.ok (.nx ρ')):zan s zak ρ=.ok (.nx ρ'):=by unfold zan;rw[h];rfl
theorem zoE {i:Nat}{f:Ev->Res D}{ρ:Ev}{d:D}(h:f ρ=.ok d):zbb i f ρ=.ok (.nx (ρ.set i (.sh d))):=by unfold zbb;rw[h];rfl
theorem zkE {f:Ev->Res D}{ρ:Ev}{d:D}(h:f (shr ρ)=.ok d):zcp f ρ=.ok (.rt d):=by unfold zcp;rw[h];rfl
theorem zzi {c:Ev->Res D}{s t:Ev->Res Fl}{ρ:Ev}(h:c (shr ρ)=.ok (.bl false)):sIf c s t ρ=t ρ:=by unfold sIf;rw[h];rfl
theorem ne_int {i j:Int}:dNe (.int i) (.int j)=.ok (.bl (!(i==j))):=by unfold dNe;rw[if_pos ⟨rfl,rfl⟩,eqD]
theorem eq_int {i j:Int}:dEq (.int i) (.int j)=.ok (.bl (i==j)):=by unfold dEq;rw[if_pos ⟨rfl,rfl⟩,eqD]
theorem zuq {n:Nat}{s:Ev->Res Fl}{ds:List D}{d:D}(h:s (ds.map Sl.sh++List.replicate (n-ds.length) .no)=.ok (.rt d)):zcH n s ds=.ok d:=by unfold zcH;rw[h];rfl
theorem zeU {f:Ev->Res D}{fa:Ev->Res (List D)}{ρ:Ev}{x:D}{xs:List D}(h:f ρ=.ok x)(h':fa ρ=.ok xs):zad f fa ρ=.ok (x::xs):=by unfold zad;rw[h,bok,h'];rfl
theorem zdV {f g:Ev->Res D}{op:D->D->Res D}{ρ:Ev}{x y:D}(h:f ρ=.ok x)(h':g ρ=.ok y):zac f g op ρ=op x y:=by unfold zac;rw[h,bok,h'];rfl
theorem zgN {fa:Ev->Res (List D)}{m:List D->Res D}{ρ:Ev}{xs:List D}(h:fa ρ=.ok xs):zal fa m ρ=m xs:=by unfold zal;rw[h];rfl
theorem zmQ {a b:Int}(h:b≠0):zeA (.int a) (.int b)=.ok (.int (a.fmod b)):=by
 show(if decide (b≠0)=true then Res.ok (D.int (a.fmod b)) else .stuck)=_
 rw[if_pos (decide_eq_true h)]
theorem zo7 {a b:Int}(h:zha a b=true):zp8 (.int a) (.int b)=.ok (.int (a.fdiv b)):=by
 show(if zha a b=true then Res.ok (D.int (a.fdiv b)) else .stuck)=_
 rw[if_pos h]
theorem zrE {a b:Int}(h:zeh a b=true):zdl (.int a) (.int b)=.ok (.int (a*b)):=by
 show(if zeh a b=true then Res.ok (D.int (a*b)) else .stuck)=_
 rw[if_pos h]
theorem zlv (a b:Int):Int.gcd b (a.fmod b)=Int.gcd a b:=by
 rw[Int.fmod_def,Int.gcd_sub_mul_left_right,Int.gcd_comm]
theorem zrW {a b:Int}(h:b≠0):(a.fmod b).natAbs < b.natAbs:=by
 rcases Int.lt_or_gt_of_ne h with hb | hb
 ·have h1:=Int.fmod_lt_of_pos (-a) (show 0 < -b by omega)
  have h2:=Int.fmod_nonneg_of_pos (-a) (show 0 < -b by omega)
  rw[Int.neg_fmod_neg] at h1 h2
  omega
 ·have h1:=Int.fmod_lt_of_pos a hb
  have h2:=Int.fmod_nonneg_of_pos a hb
  omega
theorem ziQ:∀ (n:Nat) (a b:Int),b.natAbs < n->∃ g:Int,g.natAbs=Int.gcd a b /\
  zbZ (zac (zaf 1) (dC (.int 0)) dNe) (zan (zsF 0 1 (zad (zaf 1) (zad (zac (zaf 0) (zaf 1) zeA) zau))) zak) n [.sh (.int a),.sh (.int b)]=.ok (.nx [.sh (.int g),.sh (.int 0)])
 | 0,a,b,h=>absurd h (Nat.not_lt_zero _)
 | n+1,a,b,h=>by
  unfold zbZ
  have c:(zac (zaf 1) (dC (.int 0)) dNe) (shr [.sh (.int a),.sh (.int b)])=.ok (.bl (!(b==0))):=ne_int
  rw[c]
  by_cases hb:b=0
  ·subst hb
   exact⟨a,by simp,rfl⟩
  ·have e:(!(b==0))=true:=by simp [hb]
   obtain⟨g,h1,h2⟩:=ziQ n b (a.fmod b) (by have:=zrW (a:=a) hb;omega)
   refine⟨g,by rw[h1,zlv],?_⟩
   rw[← h2]
   rw[e]
   have st:(zan (zsF 0 1 (zad (zaf 1) (zad (zac (zaf 0) (zaf 1) zeA) zau))) zak) [.sh (.int a),.sh (.int b)]=.ok (.nx [.sh (.int b),.sh (.int (a.fmod b))]):=by
    refine zoF ?_
    unfold zsF
    have:(zad (zaf 1) (zad (zac (zaf 0) (zaf 1) zeA) zau)) [.sh (.int a),.sh (.int b)]=.ok [.int b,.int (a.fmod b)]:=by
     exact zeU rfl (zeU (zmQ hb) rfl)
    rw[this]
    rfl
   show(Res.bind _ _)=_
   rw[st]
   rfl
theorem zp6 (a b:Int):zgZ [.int a,.int b]=.ok (.int (Int.gcd a b)):=by
 obtain⟨g,h1,h2⟩:=ziQ (b.natAbs+1) a b (Nat.lt_succ_self _)
 have w:zgV (zic 1) (zac (zaf 1) (dC (.int 0)) dNe) (zan (zsF 0 1 (zad (zaf 1) (zad (zac (zaf 0) (zaf 1) zeA) zau))) zak) [.sh (.int a),.sh (.int b)]=.ok (.nx [.sh (.int g),.sh (.int 0)]):=h2
 have r:zdr [.sh (.int a),.sh (.int b)]=.ok (.rt (.int (if g < 0 then -g else g))):=by
  unfold zdr
  rw[zfR w]
  exact zkB (zkE rfl)
 show(zdr [.sh (.int a),.sh (.int b)]).bind _=_
 rw[r]
 show Res.ok (D.int (if g < 0 then -g else g))=_
 congr 2
 rw[← h1]
 split<;>omega
theorem zj0:∀ (n:Nat) (x y:D) (a b:Int) (r:Sl),0<=a->0<=b->b.natAbs < n->∃ r',
  zbZ (zac (zaf 3) (dC (.int 0)) dNe) (zan (zbb 4 (zac (zaf 2) (zaf 3) zeA)) (zan (zbb 2 (zaf 3)) (zan (zbb 3 (zaf 4)) zak))) n [.sh x,.sh y,.sh (.int a),.sh (.int b),r]=.ok (.nx [.sh x,.sh y,.sh (.int (Int.gcd a b)),.sh (.int 0),r'])
 | 0,_,_,a,b,_,_,_,h=>absurd h (Nat.not_lt_zero _)
 | n+1,x,y,a,b,r,ha,hb0,h=>by
  unfold zbZ
  have c:∀ r,(zac (zaf 3) (dC (.int 0)) dNe) (shr [.sh x,.sh y,.sh (.int a),.sh (.int b),r])=.ok (.bl (!(b==0))):=fun r=>ne_int
  rw[c]
  by_cases hb:b=0
  ·subst hb
   refine⟨r,?_⟩
   have e:((Int.gcd a 0:Nat):Int)=a:=by simp;omega
   rw[e]
   rfl
  ·have e:(!(b==0))=true:=by simp [hb]
   have hp:0 < b:=by omega
   obtain⟨r',h2⟩:=zj0 n x y b (a.fmod b) (.sh (.int (a.fmod b))) hb0 (Int.fmod_nonneg_of_pos a hp) (by have:=zrW (a:=a) hb;omega)
   refine⟨r',?_⟩
   rw[zlv] at h2
   rw[← h2,e]
   have st:(zan (zbb 4 (zac (zaf 2) (zaf 3) zeA)) (zan (zbb 2 (zaf 3)) (zan (zbb 3 (zaf 4)) zak))) [.sh x,.sh y,.sh (.int a),.sh (.int b),r]=.ok (.nx [.sh x,.sh y,.sh (.int b),.sh (.int (a.fmod b)),.sh (.int (a.fmod b))]):=by
    have m:(zac (zaf 2) (zaf 3) zeA) [.sh x,.sh y,.sh (.int a),.sh (.int b),r]=.ok (.int (a.fmod b)):=by
     exact zmQ hb
    rw[zfR (zoE m)]
    rfl
   show(Res.bind _ _)=_
   rw[st]
   rfl
theorem zj1 (a b:Int):zbc [.int a,.int b]=.ok (.int (Int.gcd a b)):=by
 have e:∀ i:Int,(if i < 0 then -i else i)=(i.natAbs:Int):=fun i=>by split<;>omega
 obtain⟨r',h⟩:=zj0 ((b.natAbs:Int).natAbs+1) (.int a) (.int b) a.natAbs b.natAbs .no (Int.natCast_nonneg _) (Int.natCast_nonneg _) (Nat.lt_succ_self _)
 have hg:Int.gcd (a.natAbs:Int) (b.natAbs:Int)=Int.gcd a b:=by simp [Int.gcd]
 rw[hg] at h
 have r:zbf [.sh (.int a),.sh (.int b),.no,.no,.no]=.ok (.rt (.int (Int.gcd a b))):=by
  unfold zbf
  rw[zfR (ρ':=[.sh (.int a),.sh (.int b),.sh (.int (a.natAbs:Int)),.no,.no]) (by rw[← e a];rfl)]
  rw[zfR (ρ':=[.sh (.int a),.sh (.int b),.sh (.int (a.natAbs:Int)),.sh (.int (b.natAbs:Int)),.no]) (by rw[← e b];rfl)]
  have w:zgV (zic 3) (zac (zaf 3) (dC (.int 0)) dNe) (zan (zbb 4 (zac (zaf 2) (zaf 3) zeA)) (zan (zbb 2 (zaf 3)) (zan (zbb 3 (zaf 4)) zak))) [.sh (.int a),.sh (.int b),.sh (.int (a.natAbs:Int)),.sh (.int (b.natAbs:Int)),.no]=.ok (.nx [.sh (.int a),.sh (.int b),.sh (.int (Int.gcd a b)),.sh (.int 0),r']):=h
  rw[zfR w]
  exact zkB (zkE rfl)
 show(zbf [.sh (.int a),.sh (.int b),.no,.no,.no]).bind _=_
 rw[r]
 rfl
theorem zpJ:(2:Nat) ^ 64<=B60:=by rw[zpl];exact Nat.pow_le_pow_right (by decide) (by decide)
theorem zzX {i:Int}(h:i.natAbs < 18446744073709551616):i.natAbs < B60:=Nat.lt_of_lt_of_le h zpJ
theorem zgG {i j:Int}(h:i.natAbs < 18446744073709551616)(h':j.natAbs < 18446744073709551616):zeh i j=true:=by
 unfold zeh
 rw[Bool.and_eq_true]
 exact⟨decide_eq_true (zzX h),decide_eq_true (zzX h')⟩
theorem zjv {i j:Int}(h:i.natAbs < B60)(h':j.natAbs < B60):zeh i j=true:=by
 unfold zeh
 rw[Bool.and_eq_true]
 exact⟨decide_eq_true h,decide_eq_true h'⟩
theorem zzu {i j:Int}(h0:j≠0)(h:j.natAbs < B9):zha i j=true:=by
 unfold zha
 rw[Bool.and_eq_true,Bool.or_eq_true]
 exact⟨decide_eq_true h0,.inl (decide_eq_true h)⟩
theorem zkX {i j:Int}(h0:j≠0)(h:i.natAbs < B13):zha i j=true:=by
 unfold zha
 rw[Bool.and_eq_true,Bool.or_eq_true]
 exact⟨decide_eq_true h0,.inr (decide_eq_true h)⟩
theorem zfo {ds:List D}{k:Nat}{d:D}(h:ds[k]?=some d):dIx (.lst ds) (.int (k:Int))=.ok d:=by
 unfold dIx
 simp only[zbq h]
theorem zf1 {a b:Int}(hb:0 < b):0<=a.fmod b/\a.fmod b < b:=⟨Int.fmod_nonneg_of_pos a hb,Int.fmod_lt_of_pos a hb⟩
theorem zrM {n k:Nat}(h:k < n):(DL.intsFrom 0 n).drop k=.int (k:Int)::(DL.intsFrom 0 n).drop (k+1):=by
 have hl:(DL.intsFrom 0 n).length=n:=by unfold DL.intsFrom;simp
 rw[List.drop_eq_getElem_cons (by rw[hl];exact h)]
 congr 1
 unfold DL.intsFrom
 simp
theorem ztO {n:Nat}:(DL.intsFrom 0 n).drop n=[]:=by
 have hl:(DL.intsFrom 0 n).length=n:=by unfold DL.intsFrom;simp
 exact List.drop_eq_nil_of_le (by omega)
theorem zlA {tg:Ev->D->Res Ev}{s:Ev->Res Fl}{d:D}{r:List D}{ρ ρ1 ρ2:Ev}(h1:tg ρ d=.ok ρ1)(h2:s ρ1=.ok (.nx ρ2)):zdy tg s (d::r) ρ=zdy tg s r ρ2:=by
 rw[zdy,h1,bok,h2,bok]
def isI:D->Bool
 | .int _=>true
 | _=>false
theorem zek (d:D):zbI [d]=.ok (.bl (isI d)):=by cases d<;>first | rfl | (rename_i k _;cases k<;>rfl)
theorem zgJ {a g:Int}(hg:0 < g):a.fdiv g=a / g:=Int.fdiv_eq_ediv_of_nonneg a (by omega)
theorem zlw {a b:Int}(h:b≠0):0 < (Int.gcd a b:Int):=by
 have:=Int.gcd_pos_of_ne_zero_right a h
 omega
theorem zxQ {a b:Int}(hb:0 < b)(h1:a.natAbs < B13)(h2:b.natAbs < B13):zls [.int a,.int b]=.ok (.tup [.int (a / Int.gcd a b),.int (b / Int.gcd a b)]):=by
 have hg:=zlw (a:=a) (b:=b) (by omega)
 have r:zd1 [.sh (.int a),.sh (.int b),.no]=.ok (.rt (.tup [.int (a / Int.gcd a b),.int (b / Int.gcd a b)])):=by
  unfold zd1
  rw[zfR (ρ':=[.sh (.int a),.sh (.int b),.sh (.int (Int.gcd a b))]) (zoE ((zgN (xs:=[.int a,.int b]) rfl).trans (zp6 a b)))]
  refine zkB (zkE ?_)
  refine(zgN (xs:=[.int (a / Int.gcd a b),.int (b / Int.gcd a b)]) (zeU ?_ (zeU ?_ rfl))).trans rfl
  ·rw[← zgJ hg]
   exact(zdV (x:=.int a) (y:=.int (Int.gcd a b)) rfl rfl).trans (zo7 (zkX (by omega) h1))
  ·rw[← zgJ hg]
   exact(zdV (x:=.int b) (y:=.int (Int.gcd a b)) rfl rfl).trans (zo7 (zkX (by omega) h2))
 show(zd1 [.sh (.int a),.sh (.int b),.no]).bind _=_
 rw[r]
 rfl
theorem zth {a b:Int}(hb:0 < b)(h1:a.natAbs < B13)(h2:b.natAbs < B13):ze1 [.int a,.int b]=.ok (.tup [.int (a / Int.gcd a b),.int (b / Int.gcd a b)]):=by
 have hg:=zlw (a:=a) (b:=b) (by omega)
 have r:ze8 [.sh (.int a),.sh (.int b),.no]=.ok (.rt (.tup [.int (a / Int.gcd a b),.int (b / Int.gcd a b)])):=by
  unfold ze8
  rw[zfR (ρ':=[.sh (.int a),.sh (.int b),.no]) (zzi (t:=zak) rfl)]
  rw[zfR (ρ':=[.sh (.int a),.sh (.int b),.no]) (zzi (t:=zak) ((zdV (x:=.int b) (y:=.int 0) rfl rfl).trans (eq_int.trans (by rw[beq_eq_false_iff_ne.mpr (by omega)]))))]
  rw[zfR (ρ':=[.sh (.int a),.sh (.int b),.sh (.int (Int.gcd a b))]) (zoE ((zgN (xs:=[.int a,.int b]) rfl).trans (zj1 a b)))]
  rw[zfR (ρ':=[.sh (.int a),.sh (.int b),.sh (.int (Int.gcd a b))]) (zzi (t:=zak) (by
   show Res.ok (D.bl (decide (b < 0)))=_
   rw[decide_eq_false (by omega)]))]
  refine zkB (zkE ?_)
  refine(zgN (xs:=[.int (a / Int.gcd a b),.int (b / Int.gcd a b)]) (zeU ?_ (zeU ?_ rfl))).trans rfl
  ·rw[← zgJ hg]
   exact(zdV (x:=.int a) (y:=.int (Int.gcd a b)) rfl rfl).trans (zo7 (zkX (by omega) h1))
  ·rw[← zgJ hg]
   exact(zdV (x:=.int b) (y:=.int (Int.gcd a b)) rfl rfl).trans (zo7 (zkX (by omega) h2))
 show(ze8 [.sh (.int a),.sh (.int b),.no]).bind _=_
 rw[r]
 rfl
def zyB (p q:Int):D:=.tup [.int p,.int q]
abbrev Fra:=Int×Int
def fr (x:Fra):D:=zyB x.1 x.2
def N60:Nat:=1000000000000000000000000000000000000000000000000000000000000
theorem zwA:N60<=B13:=by rw[zpm];exact Nat.le_trans (show N60<=2 ^ 200 by decide) (Nat.pow_le_pow_right (by decide) (by decide))
theorem zhu:N60<=B60:=by rw[zpl];exact Nat.le_trans (show N60<=2 ^ 200 by decide) (Nat.pow_le_pow_right (by decide) (by decide))
theorem zsD:B13<=B60:=by rw[zpm,zpl];exact Nat.pow_le_pow_right (by decide) (by decide)
structure Low (x:Fra):Prop where
 q1:1<=x.2
 g1:Int.gcd x.1 x.2=1
structure zcZ (x:Fra):Prop extends Low x where
 pN:x.1.natAbs < N60
 qN:x.2.natAbs < N60
def low (a b:Int):Fra:=(a / Int.gcd a b,b / Int.gcd a b)
theorem zh8 {a b:Int}(hb:0 < b):Low (low a b):=by
 have hg:=zlw (a:=a) (b:=b) (by omega)
 refine⟨?_,Int.gcd_ediv_gcd_ediv_gcd (by omega)⟩
 have:=Int.ediv_gcd_ne_zero_if_ne_zero_right a (show b≠0 by omega)
 have h2:0<=b / (Int.gcd a b:Int):=Int.ediv_nonneg (by omega) (by omega)
 show 1<=b / (Int.gcd a b:Int)
 omega
theorem zn8 {a b:Int}:(low a b).1*b=a*(low a b).2:=by
 unfold low
 obtain⟨x,hx⟩:=Int.gcd_dvd_left a b
 obtain⟨y,hy⟩:=Int.gcd_dvd_right a b
 by_cases hg:(Int.gcd a b:Int)=0
 ·simp only[hg,Int.ediv_zero,Int.zero_mul,Int.mul_zero]
 ·generalize hG:(Int.gcd a b:Int)=G at *
  have e1:a / G=x:=by rw[hx];exact Int.mul_ediv_cancel_left x hg
  have e2:b / G=y:=by rw[hy];exact Int.mul_ediv_cancel_left y hg
  show a / G*b=a*(b / G)
  rw[e1,e2]
  calc x*b=x*(G*y):=by rw[← hy]
   _=G*x*y:=by grind
   _=a*y:=by rw[← hx]
theorem zoa {a b:Int}:(low a b).1.natAbs<=a.natAbs:=Int.natAbs_ediv_le_natAbs _ _
theorem zn9 {a b:Int}:(low a b).2.natAbs<=b.natAbs:=Int.natAbs_ediv_le_natAbs _ _
theorem ztC {x y:Fra}(hx:Low x)(hy:Low y)(h:x.1*y.2=y.1*x.2):x=y:=by
 have d1:x.2∣y.2:=by
  have:x.2∣x.1*y.2:=⟨y.1,by rw[h];exact Int.mul_comm _ _⟩
  rw[← Int.dvd_gcd_mul_iff_dvd_mul,Int.gcd_comm,hx.g1] at this
  simpa using this
 have d2:y.2∣x.2:=by
  have:y.2∣y.1*x.2:=⟨x.1,by rw[← h];exact Int.mul_comm _ _⟩
  rw[← Int.dvd_gcd_mul_iff_dvd_mul,Int.gcd_comm,hy.g1] at this
  simpa using this
 have e:x.2=y.2:=Int.dvd_antisymm (by have:=hx.q1;omega) (by have:=hy.q1;omega) d1 d2
 have e1:x.1=y.1:=by
  rw[e] at h
  exact Int.eq_of_mul_eq_mul_right (by have:=hy.q1;omega) h
 exact Prod.ext e1 e
theorem ztg {a b:Int}(hb:0 < b)(h1:a.natAbs < B13)(h2:b.natAbs < B13):ze1 [.int a,.int b]=.ok (fr (low a b)):=zth hb h1 h2
theorem zzg {a b:Int}(hb:0 < b)(h1:a.natAbs < N60)(h2:b.natAbs < N60):zcZ (low a b):=⟨zh8 hb,Nat.lt_of_le_of_lt zoa h1,Nat.lt_of_le_of_lt zn9 h2⟩
theorem znS {n:Nat}(x:Fra):za0 (n+1) (fr x)=true:=by
 cases n<;>rfl
theorem zs6 {n:Nat}(fs:List Fra):(fs.map fr).all (za0 (n+1))=true:=by
 rw[List.all_map]
 exact List.all_eq_true.mpr fun x _=>znS x
theorem zzr {x y:Fra}:eqD (fr x) (fr y)=(x.1==y.1&&x.2==y.2):=by
 unfold fr zyB
 simp [eqD,eqDs]
theorem zp4 {x:Fra}:eqD (fr x) (fr x)=true:=by rw[zzr];simp
def bnd (k:Nat):Nat:=2 ^ (201*k)
theorem zlU {k:Nat}(h:k<=62):bnd k < B13:=by
 rw[zpm];unfold bnd
 exact Nat.pow_lt_pow_right (by decide) (by omega)
theorem zsz:N60<=2 ^ 200:=by decide
theorem zpf (k:Nat):bnd (k+1)=bnd k*2 ^ 200+2 ^ 200*bnd k:=by
 unfold bnd
 rw[show 201*(k+1)=201*k+201 by omega,Nat.pow_add]
 generalize 2 ^ (201*k)=z
 omega
def un (s x:Fra):Fra:=(s.1*x.2+x.1*s.2,s.2*x.2)
structure Acc (k:Nat) (s:Fra):Prop where
 pos:0 < s.2
 b1:s.1.natAbs<=bnd k
 b2:s.2.natAbs<=bnd k
theorem Acc.step {k:Nat}{s x:Fra}(h:Acc k s)(hx:zcZ x):Acc (k+1) (un s x):=by
 have h1:x.1.natAbs<=2 ^ 200:=Nat.le_trans (Nat.le_of_lt hx.pN) zsz
 have h2:x.2.natAbs<=2 ^ 200:=Nat.le_trans (Nat.le_of_lt hx.qN) zsz
 have m1:=Nat.mul_le_mul h.b1 h2
 have m2:=Nat.mul_le_mul h1 h.b2
 have m3:=Nat.mul_le_mul h.b2 h2
 refine⟨Int.mul_pos h.pos (by have:=hx.q1;omega),?_,?_⟩
 ·show(s.1*x.2+x.1*s.2).natAbs<=_
  rw[zpf]
  refine Nat.le_trans (Int.natAbs_add_le _ _) ?_
  rw[Int.natAbs_mul,Int.natAbs_mul]
  exact Nat.add_le_add m1 m2
 ·show(s.2*x.2).natAbs<=_
  rw[zpf,Int.natAbs_mul]
  exact Nat.le_trans m3 (Nat.le_add_right _ _)
theorem Acc.start:Acc 0 (0,1):=⟨by decide,by decide,by decide⟩
theorem zoU {s x:Fra}(hs:0 < s.2)(hx:1<=x.2):low ((low s.1 s.2).1*x.2+x.1*(low s.1 s.2).2) ((low s.1 s.2).2*x.2)=low (un s x).1 (un s x).2:=by
 have ht:=zh8 (a:=s.1) hs
 have hr:=zn8 (a:=s.1) (b:=s.2)
 generalize low s.1 s.2=t at *
 have hq:0 < t.2*x.2:=Int.mul_pos (by have:=ht.q1;omega) (by omega)
 have hq2:0 < (un s x).2:=Int.mul_pos hs (by omega)
 have l1:=zh8 (a:=t.1*x.2+x.1*t.2) hq
 have r1:=zn8 (a:=t.1*x.2+x.1*t.2) (b:=t.2*x.2)
 have l2:=zh8 (a:=(un s x).1) hq2
 have r2:=zn8 (a:=(un s x).1) (b:=(un s x).2)
 generalize low (t.1*x.2+x.1*t.2) (t.2*x.2)=u at *
 generalize low (un s x).1 (un s x).2=v at *
 refine ztC l1 l2 ?_
 have r2':v.1*(s.2*x.2)=(s.1*x.2+x.1*s.2)*v.2:=r2
 have hk:0 < t.2*x.2*(s.2*x.2):=Int.mul_pos hq hq2
 have:u.1*v.2*(t.2*x.2*(s.2*x.2))=v.1*u.2*(t.2*x.2*(s.2*x.2)):=by
  have e1:u.1*v.2*(t.2*x.2*(s.2*x.2))=(u.1*(t.2*x.2))*v.2*(s.2*x.2):=by grind
  have e2:v.1*u.2*(t.2*x.2*(s.2*x.2))=(v.1*(s.2*x.2))*u.2*(t.2*x.2):=by grind
  rw[e1,e2,r1,r2']
  grind
 exact Int.eq_of_mul_eq_mul_right (by omega) this
theorem zvt {k:Nat}{s x:Fra}(h:Acc k s)(hk:k<=61)(hx:zcZ x):zgY [fr (low s.1 s.2),fr x]=.ok (fr (low (un s x).1 (un s x).2)):=by
 have ht:=zh8 (a:=s.1) h.pos
 have a1:(low s.1 s.2).1.natAbs<=bnd k:=Nat.le_trans zoa h.b1
 have a2:(low s.1 s.2).2.natAbs<=bnd k:=Nat.le_trans zn9 h.b2
 have hst:=zoU h.pos hx.q1
 have hA:Acc k (low s.1 s.2):=⟨by have:=ht.q1;omega,a1,a2⟩
 have hB:=hA.step hx
 rw[← hst]
 generalize low s.1 s.2=t at *
 have b60:bnd k < B60:=Nat.lt_of_lt_of_le (zlU (by omega)) zsD
 have bb:bnd (k+1) < B13:=zlU (by omega)
 have x1:x.1.natAbs < B60:=Nat.lt_of_lt_of_le hx.pN zhu
 have x2:x.2.natAbs < B60:=Nat.lt_of_lt_of_le hx.qN zhu
 refine zuq (n:=2) (ds:=[fr t,fr x]) ?_
 show zhV [.sh (fr t),.sh (fr x)]=_
 unfold zhV
 refine zkB (zkE ?_)
 refine(zgN (xs:=[.int (t.1*x.2+x.1*t.2),.int (t.2*x.2)]) (zeU ?_ (zeU ?_ rfl))).trans ?_
 ·refine(zdV (x:=.int (t.1*x.2)) (y:=.int (x.1*t.2)) ?_ ?_).trans rfl
  ·exact(zdV (x:=.int t.1) (y:=.int x.2) rfl rfl).trans (zrE (zjv (Nat.lt_of_le_of_lt a1 b60) x2))
  ·exact(zdV (x:=.int x.1) (y:=.int t.2) rfl rfl).trans (zrE (zjv x1 (Nat.lt_of_le_of_lt a2 b60)))
 ·exact(zdV (x:=.int t.2) (y:=.int x.2) rfl rfl).trans (zrE (zjv (Nat.lt_of_le_of_lt a2 b60) x2))
 ·exact ztg hB.pos (Nat.lt_of_le_of_lt hB.b1 bb) (Nat.lt_of_le_of_lt hB.b2 bb)
theorem zlc {L:Sl}:∀ (xs:List Fra) (k:Nat) (s:Fra) (z:Sl),Acc k s->k+xs.length<=61->(∀ x∈xs,zcZ x)->∃ z',zdy (zfD 2) (zan (zbb 1 (zal (zad (zaf 1) (zad (zaf 2) zau)) zgY)) zak) (xs.map fr) [L,.sh (fr (low s.1 s.2)),z] =
  .ok (.nx [L,.sh (fr (low (xs.foldl un s).1 (xs.foldl un s).2)),z'])/\Acc (k+xs.length) (xs.foldl un s)
 | [],k,s,z,h,_,_=>⟨z,rfl,h⟩
 | x::xs,k,s,z,h,hk,hx=>by
  have hx0:=hx x List.mem_cons_self
  simp only[List.length_cons] at hk
  obtain⟨z',e,a⟩:=zlc xs (k+1) (un s x) (.sh (fr x)) (h.step hx0) (by omega) fun y hy=>hx y (List.mem_cons_of_mem _ hy)
  refine⟨z',?_,by rw[List.length_cons,show k+(xs.length+1)=k+1+xs.length by omega];exact a⟩
  rw[List.map_cons,zlA (ρ1:=[L,.sh (fr (low s.1 s.2)),.sh (fr x)]) (ρ2:=[L,.sh (fr (low (un s x).1 (un s x).2)),.sh (fr x)]) rfl]
  ·exact e
  ·exact zoF (zoE ((zgN (xs:=[fr (low s.1 s.2),fr x]) rfl).trans (zvt h (by omega) hx0)))
theorem zx3 {f:Ev->Res D}{tg:Ev->D->Res Ev}{s:Ev->Res Fl}{ρ:Ev}{ds:List D}(h:f ρ=.ok (.lst ds)):zoG f tg s ρ=zdy tg s ds ρ:=by unfold zoG;rw[h];rfl
def tot (xs:List Fra):Fra:=xs.foldl un (0,1)
theorem zqQ {xs:List Fra}(hl:xs.length<=61)(hx:∀ x∈xs,zcZ x):zeF [.lst (xs.map fr)]=.ok (fr (low (tot xs).1 (tot xs).2)):=by
 obtain⟨z',e,a⟩:=zlc (L:=.sh (.lst (xs.map fr))) xs 0 (0,1) .no Acc.start (by omega) hx
 refine zuq (n:=3) (ds:=[.lst (xs.map fr)]) ?_
 show zdY [.sh (.lst (xs.map fr)),.no,.no]=_
 unfold zdY
 rw[zfR (ρ':=[.sh (.lst (xs.map fr)),.sh (fr (low 0 1)),.no]) rfl]
 refine(zfR ((zx3 (ds:=xs.map fr) rfl).trans e)).trans ?_
 exact zkB (zkE rfl)
theorem zqI {xs:List Fra}(hl:xs.length<=61)(hx:∀ x∈xs,zcZ x):Acc xs.length (tot xs):=by
 obtain⟨z',e,a⟩:=zlc (L:=.no) xs 0 (0,1) .no Acc.start (by omega) hx
 rw[Nat.zero_add] at a
 exact a
theorem zrV {tg:Ev->D->Res Ev}{body:Ev->Res Fl}(P:Ev->Prop):∀ {ds:List D},(∀ d∈ds,∀ ρ,P ρ->∃ ρ1 ρ2,tg ρ d=.ok ρ1/\body ρ1=.ok (.nx ρ2)/\P ρ2)->∀ ρ,P ρ->∃ ρ',zdy tg body ds ρ=.ok (.nx ρ')/\P ρ'
 | [],_,ρ,h=>⟨ρ,rfl,h⟩
 | d::r,hs,ρ,h=>by
  obtain⟨ρ1,ρ2,h1,h2,h3⟩:=hs d List.mem_cons_self ρ h
  obtain⟨ρ',h4,h5⟩:=zrV P (fun e he=>hs e (List.mem_cons_of_mem _ he)) ρ2 h3
  exact⟨ρ',by rw[zlA h1 h2];exact h4,h5⟩
theorem zax {α:Type}{a b:α}(h:a=b):a=b:=h
def zxa (t:Ev->Res Fl)(r:Fl):Res Fl:=match r with
 | .nx ρ'=>t ρ'
 | r=>.ok r
def zyy (i:Nat)(ρ:Ev)(d:D):Res Fl:=.ok (.nx (ρ.set i (.sh d)))
def zzL (d:D):Res Fl:=.ok (.rt d)
def zyd (ρ:Ev)(_:D):Res Fl:=.ok (.nx ρ)
def ifK (s t:Ev->Res Fl)(ρ:Ev)(x:D):Res Fl:=match x with
 | .bl b=>if b=true then s ρ else t ρ
 | _=>.stuck
def zzV (i:Nat)(ρ:Ev)(d:D):Res Fl:=match d with
 | .lst ds=>.ok (.nx (ρ.set i (.ow (.lst ds))))
 | _=>.stuck
def zxC (s:Option Sl)(k:List D->Res Fl):Res Fl:=match s with
 | some (.ow (.lst ds))=>k ds
 | _=>.stuck
def zz1 (i:Nat)(ρ:Ev)(ds:List D)(d:D):Res Fl:=if ds.length < line then .ok (.nx (ρ.set i (.ow (.lst (ds++[d]))))) else .stuck
def zyo (i:Nat)(ρ:Ev)(ds:List D)(d:D):Res Fl:=if zog d=true/\ds.length < line then .ok (.nx (ρ.set i (.ow (.lst (ds++[d]))))) else .stuck
def zy3 (i:Nat)(ρ:Ev)(k:Ev->Res D)(ds:List D)(d:D):Res Fl:=(k ρ).bind (DL.putAt ρ i ds d)
def zut (i:Nat)(ρ:Ev)(ds:List D)(d j:D):Res Fl:=if zog d=true then DL.putAt ρ i ds d j else .stuck
def zxk (i:Nat)(ρ:Ev)(k:Ev->Res D)(ds:List D)(d:D):Res Fl:=(k (shr ρ)).bind (zut i ρ ds d)
def zwN (is:List Nat)(ρ:Ev)(d:D):Res Fl:=match zeX is.length d with
 | some ds=>.ok (.nx (zcz ρ is ds))
 | none=>.stuck
def zzT (i j:Nat)(ρ:Ev)(ds:List D):Res Fl:=match ds with
 | [x,y]=>.ok (.nx ((ρ.set i (.sh x)).set j (.sh y)))
 | _=>.stuck
def k2 (g:Ev->Res D)(op:D->D->Res D)(ρ:Ev)(x:D):Res D:=(g ρ).bind (op x)
def zsi (x:D)(xs:List D):Res (List D):=.ok (x::xs)
def zyl (fa:Ev->Res (List D))(ρ:Ev)(x:D):Res (List D):=(fa ρ).bind (zsi x)
def zzE (g:Ev->Res D)(ρ:Ev)(x:D):Res D:=match x with
 | .bl true=>g ρ
 | .bl false=>.ok (.bl false)
 | _=>.stuck
def orK (g:Ev->Res D)(ρ:Ev)(x:D):Res D:=match x with
 | .bl true=>.ok (.bl true)
 | .bl false=>g ρ
 | _=>.stuck
def zzW (x:D):Res D:=match x with
 | .bl b=>.ok (.bl (!b))
 | _=>.stuck
def zzh (f g:Ev->Res D)(ρ:Ev)(x:D):Res D:=match x with
 | .bl true=>f ρ
 | .bl false=>g ρ
 | _=>.stuck
def zzH (s:Option Sl):Res D:=match s with
 | some (.sh d)=>.ok d
 | _=>.stuck
def zw7 (s:Sl):Sl:=match s with
 | .ow d=>.sh d
 | .ox _ ds=>.sh (.tup ds)
 | x=>x
def zxe (r:Fl):Res D:=match r with
 | .nx _=>.ok .non
 | .rt d=>.ok d
 | _=>.stuck
def osK (x:D):Res (Option Int):=match x with
 | .int i=>.ok (some i)
 | _=>.stuck
def zvd (x:D)(l:Option Int)(h:Option Int):Res D:=zmy x l h
def slK (hi:Ev->Res (Option Int))(ρ:Ev)(x:D)(l:Option Int):Res D:=(hi ρ).bind (zvd x l)
def zzK (lo hi:Ev->Res (Option Int))(ρ:Ev)(x:D):Res D:=(lo ρ).bind (slK hi ρ x)
def zzZ (tg:Ev->D->Res Ev)(s:Ev->Res Fl)(ρ:Ev)(d:D):Res Fl:=match d with
 | .lst ds=>zdy tg s ds ρ
 | _=>.stuck
def zyC (op':D->D->Res D)(h:Ev->Res D)(ρ:Ev)(y z:D):Res D:=match z with
 | .bl true=>(h ρ).bind (op' y)
 | .bl false=>.ok (.bl false)
 | _=>.stuck
def zzB (op op':D->D->Res D)(h:Ev->Res D)(ρ:Ev)(x y:D):Res D:=(op x y).bind (zyC op' h ρ y)
def chK (op op':D->D->Res D)(g h:Ev->Res D)(ρ:Ev)(x:D):Res D:=(g ρ).bind (zzB op op' h ρ x)
section
variable {s t:Ev->Res Fl}{f g h:Ev->Res D}{fa:Ev->Res (List D)}{ρ r:Ev}{i j:Nat}{d x y:D}{ds xs:List D}{op op':D->D->Res D}{a b:Int}
theorem ev_ok {α β:Type}{a:α}{k:α->Res β}:(Res.ok a).bind k=k a:=zax rfl
theorem ev_seq:zan s t ρ=(s ρ).bind (zxa t):=zax rfl
theorem ev_seq1:zxa t (.nx ρ)=t ρ:=zax rfl
theorem ev_seq2:zxa t (.rt d)=.ok (.rt d):=zax rfl
theorem ev_seq3:zxa t (.bk ρ)=.ok (.bk ρ):=zax rfl
theorem ev_seq4:zxa t (.ct ρ)=.ok (.ct ρ):=zax rfl
theorem ev_next:zak ρ=.ok (.nx ρ):=zax rfl
theorem ev_set:zbb i f ρ=(f ρ).bind (zyy i ρ):=zax rfl
theorem ev_set1:zyy i ρ d=.ok (.nx (ρ.set i (.sh d))):=zax rfl
theorem ev_ret:zcp f ρ=(f (shr ρ)).bind zzL:=zax rfl
theorem ev_ret1:zzL d=.ok (.rt d):=zax rfl
theorem ev_retN:zyU ρ=.ok (.rt .non):=zax rfl
theorem ev_drop:zhE f ρ=(f (shr ρ)).bind (zyd ρ):=zax rfl
theorem ev_drop1:zyd ρ d=.ok (.nx ρ):=zax rfl
theorem ev_if:sIf f s t ρ=(f (shr ρ)).bind (ifK s t ρ):=zax rfl
theorem ev_if1:ifK s t ρ (.bl true)=s ρ:=zax rfl
theorem ev_if2:ifK s t ρ (.bl false)=t ρ:=zax rfl
theorem ev_own:zsG i f ρ=(f ρ).bind (zzV i ρ):=zax rfl
theorem ev_own1:zzV i ρ (.lst ds)=.ok (.nx (ρ.set i (.ow (.lst ds)))):=zax rfl
theorem ev_app:zb2 i f ρ=zxC ρ[i]? fun ds=>(f ρ).bind (zz1 i ρ ds):=zax rfl
theorem ev_ownS {k:List D->Res Fl}:zxC (some (.ow (.lst ds))) k=k ds:=zax rfl
theorem ev_app1 (h:decide (ds.length<=999)=true):zz1 i ρ ds d=.ok (.nx (ρ.set i (.ow (.lst (ds++[d]))))):=if_pos (Nat.lt_of_le_of_lt (of_decide_eq_true h) (by decide))
theorem ev_appL:ztb i f ρ=zxC ρ[i]? fun ds=>(f (shr ρ)).bind (zyo i ρ ds):=zax rfl
theorem ev_appL1 (hf:zog d=true)(h:decide (ds.length<=999)=true):zyo i ρ ds d=.ok (.nx (ρ.set i (.ow (.lst (ds++[d]))))):=if_pos ⟨hf,Nat.lt_of_le_of_lt (of_decide_eq_true h) (by decide)⟩
theorem ev_put:zAn i f g ρ=zxC ρ[i]? fun ds=>(f ρ).bind (zy3 i ρ g ds):=zax rfl
theorem ev_put1:zy3 i ρ g ds d=(g ρ).bind (DL.putAt ρ i ds d):=zax rfl
theorem ev_putL:zyV i f g ρ=zxC ρ[i]? fun ds=>(f (shr ρ)).bind (zxk i ρ g ds):=zax rfl
theorem ev_putL1:zxk i ρ g ds d=(g (shr ρ)).bind (zut i ρ ds d):=zax rfl
theorem ev_frz:zq3 i s ρ=s (unown i ρ):=zax rfl
theorem ev_unp {is:List Nat}:zAm is f ρ=(f ρ).bind (zwN is ρ):=zax rfl
theorem ev_par:zsF i j fa ρ=(fa ρ).bind (zzT i j ρ):=zax rfl
theorem ev_par1:zzT i j ρ [x,y]=.ok (.nx ((ρ.set i (.sh x)).set j (.sh y))):=zax rfl
theorem ev_b1 {o:D->Res D}:za2 f o ρ=(f ρ).bind o:=zax rfl
theorem ev_b2:zac f g op ρ=(f ρ).bind (k2 g op ρ):=zax rfl
theorem ev_b21:k2 g op ρ x=(g ρ).bind (op x):=zax rfl
theorem ev_bA {m:List D->Res D}:zal fa m ρ=(fa ρ).bind m:=zax rfl
theorem ev_nil:zau ρ=.ok []:=zax rfl
theorem ev_cons:zad f fa ρ=(f ρ).bind (zyl fa ρ):=zax rfl
theorem ev_cons1:zyl fa ρ x=(fa ρ).bind (zsi x):=zax rfl
theorem ev_cons2:zsi x xs=.ok (x::xs):=zax rfl
theorem ev_and:zhT f g ρ=(f ρ).bind (zzE g ρ):=zax rfl
theorem ev_and1:zzE g ρ (.bl true)=g ρ:=zax rfl
theorem ev_and2:zzE g ρ (.bl false)=.ok (.bl false):=zax rfl
theorem ev_or:dOr f g ρ=(f ρ).bind (orK g ρ):=zax rfl
theorem ev_or1:orK g ρ (.bl true)=.ok (.bl true):=zax rfl
theorem ev_or2:orK g ρ (.bl false)=g ρ:=zax rfl
theorem ev_not:zdk f ρ=(f ρ).bind zzW:=zax rfl
theorem ev_not1 {c:Bool}:zzW (.bl c)=.ok (.bl (!c)):=zax rfl
theorem ev_ifx:dIf h f g ρ=(h ρ).bind (zzh f g ρ):=zax rfl
theorem ev_ifx1:zzh f g ρ (.bl true)=f ρ:=zax rfl
theorem ev_ifx2:zzh f g ρ (.bl false)=g ρ:=zax rfl
theorem ev_var:zaf i ρ=zzH ρ[i]?:=zax rfl
theorem ev_var1:zzH (some (.sh d))=.ok d:=zax rfl
theorem ev_C:dC d ρ=.ok d:=zax rfl
theorem ev_shr0:shr []=[]:=zax rfl
theorem ev_shr {c:Sl}:shr (c::r)=zw7 c::shr r:=zax rfl
theorem ev_shr1:zw7 (.ow d)=.sh d:=zax rfl
theorem ev_shr4:zw7 (.ox j ds)=.sh (.tup ds):=zax rfl
theorem ev_shr2:zw7 (.sh d)=.sh d:=zax rfl
theorem ev_shr3:zw7 .no=.no:=zax rfl
theorem ev_run {n:Nat}:zcH n s ds=(s (ds.map Sl.sh++List.replicate (n-ds.length) .no)).bind zxe:=zax rfl
theorem ev_run1:zxe (.rt d)=.ok d:=zax rfl
theorem ev_run2:zxe (.nx ρ)=.ok .non:=zax rfl
theorem ev_os:zbL f ρ=(f ρ).bind osK:=zax rfl
theorem ev_os1:osK (.int a)=.ok (some a):=zax rfl
theorem ev_on:zde ρ=.ok none:=zax rfl
theorem ev_sl {lo hi:Ev->Res (Option Int)}:zgQ f lo hi ρ=(f ρ).bind (zzK lo hi ρ):=zax rfl
theorem ev_sl0 {lo hi:Ev->Res (Option Int)}:zzK lo hi ρ x=(lo ρ).bind (slK hi ρ x):=zax rfl
theorem ev_sl1 {hi:Ev->Res (Option Int)}{l:Option Int}:slK hi ρ x l=(hi ρ).bind (zvd x l):=zax rfl
theorem ev_sl2 {l l':Option Int}:zvd (.lst ds) l l'=.ok (.lst (ze6 ds l l')):=zax rfl
theorem ev_for {tg:Ev->D->Res Ev}:zoG f tg s ρ=(f ρ).bind (zzZ tg s ρ):=zax rfl
theorem ev_for1 {tg:Ev->D->Res Ev}:zzZ tg s ρ (.lst ds)=zdy tg s ds ρ:=zax rfl
theorem ev_chain:zgi op op' f g h ρ=(f ρ).bind (chK op op' g h ρ):=zax rfl
theorem ev_ch:chK op op' g h ρ x=(g ρ).bind (zzB op op' h ρ x):=zax rfl
theorem ev_ch1:zzB op op' h ρ x y=(op x y).bind (zyC op' h ρ y):=zax rfl
theorem ev_ch2:zyC op' h ρ y (.bl true)=(h ρ).bind (op' y):=zax rfl
theorem ev_ch3:zyC op' h ρ y (.bl false)=.ok (.bl false):=zax rfl
theorem ev_iop {o:Int->Int->D}:iop (fun _ _=>true) o (.int a) (.int b)=.ok (o a b):=zax rfl
theorem ev_add:zbR (.int a) (.int b)=.ok (.int (a+b)):=zax rfl
theorem ev_addL {es:List D}(h:decide (ds.length+es.length<=1000)=true):zbR (.lst ds) (.lst es)=.ok (.lst (ds++es)):=if_pos (Nat.le_trans (of_decide_eq_true h) (by decide))
theorem ev_neg:zsd (.int a)=.ok (.int (-a)):=zax rfl
theorem ev_m1 {m:D->Res D}:m1 m [x]=m x:=zax rfl
theorem ev_m2 {m:D->D->Res D}:m2 m [x,y]=m x y:=zax rfl
theorem ev_lenL:zgR (.lst ds)=.ok (.int ds.length):=zax rfl
theorem ev_lenT:zgR (.tup ds)=.ok (.int ds.length):=zax rfl
theorem ev_tup (h:decide (ds.length<=1000)=true):zi9 ds=.ok (.tup ds):=if_pos (Nat.le_trans (of_decide_eq_true h) (by decide))
theorem ev_lst (h:decide (ds.length<=1000)=true):zdw ds=.ok (.lst ds):=if_pos (Nat.le_trans (of_decide_eq_true h) (by decide))
theorem ev_is_bool_non:zcj "bool" (.non)=.ok (.bl false):=zax rfl
theorem ev_is_bool_bl {c:Bool}:zcj "bool" (.bl c)=.ok (.bl true):=zax rfl
theorem ev_is_bool_int:zcj "bool" (.int a)=.ok (.bl false):=zax rfl
theorem ev_is_bool_str {z:Str}:zcj "bool" (.str z)=.ok (.bl false):=zax rfl
theorem ev_is_bool_tup:zcj "bool" (.tup ds)=.ok (.bl false):=zax rfl
theorem ev_is_bool_lst:zcj "bool" (.lst ds)=.ok (.bl false):=zax rfl
theorem ev_is_bool_dic {ks:List Str}:zcj "bool" (.dic ks ds)=.ok (.bl false):=zax rfl
theorem ev_is_int_non:zcj "int" (.non)=.ok (.bl false):=zax rfl
theorem ev_is_int_bl {c:Bool}:zcj "int" (.bl c)=.ok (.bl true):=zax rfl
theorem ev_is_int_int:zcj "int" (.int a)=.ok (.bl true):=zax rfl
theorem ev_is_int_str {z:Str}:zcj "int" (.str z)=.ok (.bl false):=zax rfl
theorem ev_is_int_tup:zcj "int" (.tup ds)=.ok (.bl false):=zax rfl
theorem ev_is_int_lst:zcj "int" (.lst ds)=.ok (.bl false):=zax rfl
theorem ev_is_int_dic {ks:List Str}:zcj "int" (.dic ks ds)=.ok (.bl false):=zax rfl
theorem ev_is_str_non:zcj "str" (.non)=.ok (.bl false):=zax rfl
theorem ev_is_str_bl {c:Bool}:zcj "str" (.bl c)=.ok (.bl false):=zax rfl
theorem ev_is_str_int:zcj "str" (.int a)=.ok (.bl false):=zax rfl
theorem ev_is_str_str {z:Str}:zcj "str" (.str z)=.ok (.bl true):=zax rfl
theorem ev_is_str_tup:zcj "str" (.tup ds)=.ok (.bl false):=zax rfl
theorem ev_is_str_lst:zcj "str" (.lst ds)=.ok (.bl false):=zax rfl
theorem ev_is_str_dic {ks:List Str}:zcj "str" (.dic ks ds)=.ok (.bl false):=zax rfl
theorem ev_is_tuple_non:zcj "tuple" (.non)=.ok (.bl false):=zax rfl
theorem ev_is_tuple_bl {c:Bool}:zcj "tuple" (.bl c)=.ok (.bl false):=zax rfl
theorem ev_is_tuple_int:zcj "tuple" (.int a)=.ok (.bl false):=zax rfl
theorem ev_is_tuple_str {z:Str}:zcj "tuple" (.str z)=.ok (.bl false):=zax rfl
theorem ev_is_tuple_tup:zcj "tuple" (.tup ds)=.ok (.bl true):=zax rfl
theorem ev_is_tuple_lst:zcj "tuple" (.lst ds)=.ok (.bl false):=zax rfl
theorem ev_is_tuple_dic {ks:List Str}:zcj "tuple" (.dic ks ds)=.ok (.bl false):=zax rfl
theorem ev_is_list_non:zcj "list" (.non)=.ok (.bl false):=zax rfl
theorem ev_is_list_bl {c:Bool}:zcj "list" (.bl c)=.ok (.bl false):=zax rfl
theorem ev_is_list_int:zcj "list" (.int a)=.ok (.bl false):=zax rfl
theorem ev_is_list_str {z:Str}:zcj "list" (.str z)=.ok (.bl false):=zax rfl
theorem ev_is_list_tup:zcj "list" (.tup ds)=.ok (.bl false):=zax rfl
theorem ev_is_list_lst:zcj "list" (.lst ds)=.ok (.bl true):=zax rfl
theorem ev_is_list_dic {ks:List Str}:zcj "list" (.dic ks ds)=.ok (.bl false):=zax rfl
theorem ev_is_dict_non:zcj "dict" (.non)=.ok (.bl false):=zax rfl
theorem ev_is_dict_bl {c:Bool}:zcj "dict" (.bl c)=.ok (.bl false):=zax rfl
theorem ev_is_dict_int:zcj "dict" (.int a)=.ok (.bl false):=zax rfl
theorem ev_is_dict_str {z:Str}:zcj "dict" (.str z)=.ok (.bl false):=zax rfl
theorem ev_is_dict_tup:zcj "dict" (.tup ds)=.ok (.bl false):=zax rfl
theorem ev_is_dict_lst:zcj "dict" (.lst ds)=.ok (.bl false):=zax rfl
theorem ev_is_dict_dic {ks:List Str}:zcj "dict" (.dic ks ds)=.ok (.bl true):=zax rfl
theorem ev_isN_non:zpc (.non) .non=.ok (.bl true):=zax rfl
theorem ev_notN_non:zjX (.non) .non=.ok (.bl false):=zax rfl
theorem ev_isN_bl {c:Bool}:zpc (.bl c) .non=.ok (.bl false):=zax rfl
theorem ev_notN_bl {c:Bool}:zjX (.bl c) .non=.ok (.bl true):=zax rfl
theorem ev_isN_int:zpc (.int a) .non=.ok (.bl false):=zax rfl
theorem ev_notN_int:zjX (.int a) .non=.ok (.bl true):=zax rfl
theorem ev_isN_str {z:Str}:zpc (.str z) .non=.ok (.bl false):=zax rfl
theorem ev_notN_str {z:Str}:zjX (.str z) .non=.ok (.bl true):=zax rfl
theorem ev_isN_tup:zpc (.tup ds) .non=.ok (.bl false):=zax rfl
theorem ev_notN_tup:zjX (.tup ds) .non=.ok (.bl true):=zax rfl
theorem ev_isN_lst:zpc (.lst ds) .non=.ok (.bl false):=zax rfl
theorem ev_notN_lst:zjX (.lst ds) .non=.ok (.bl true):=zax rfl
theorem ev_isN_dic {ks:List Str}:zpc (.dic ks ds) .non=.ok (.bl false):=zax rfl
theorem ev_notN_dic {ks:List Str}:zjX (.dic ks ds) .non=.ok (.bl true):=zax rfl
theorem zfW (h:zeh a b=true):zdl (.int a) (.int b)=.ok (.int (a*b)):=if_pos h
theorem ev_mod (h:(b==0)=false):zeA (.int a) (.int b)=.ok (.int (a.fmod b)):=zmQ (fun z=>by rw[z] at h;cases h)
theorem zr0 (h:zha a b=true):zp8 (.int a) (.int b)=.ok (.int (a.fdiv b)):=if_pos h
theorem ev_unpL {is:List Nat}(h:(ds.length==is.length)=true):zwN is ρ (.lst ds)=.ok (.nx (zcz ρ is ds)):=by
 unfold zwN zeX
 simp only[if_pos (eq_of_beq h)]
theorem ev_unpT {is:List Nat}(h:(ds.length==is.length)=true):zwN is ρ (.tup ds)=.ok (.nx (zcz ρ is ds)):=by
 unfold zwN zeX
 simp only[if_pos (eq_of_beq h)]
theorem ev_sa {is:List Nat}:zcz ρ (i::is) (d::ds)=zcz (ρ.set i (.sh d)) is ds:=zax rfl
theorem ev_sa0:zcz ρ [] ds=ρ:=zax rfl
def unK (i:Nat)(ρ:Ev)(s:Option Sl):Ev:=match s with
 | some (.ow d)=>ρ.set i (.sh d)
 | _=>ρ
theorem ev_un:unown i ρ=unK i ρ ρ[i]?:=zax rfl
theorem ev_un1:unK i ρ (some (.ow d))=ρ.set i (.sh d):=zax rfl
theorem ev_un2:unK i ρ (some (.sh d))=ρ:=zax rfl
theorem ev_un3:unK i ρ (some .no)=ρ:=zax rfl
theorem zhR {n:Nat}{j:Int}(h:ixN ds.length j=some n):DL.putAt ρ i ds d (.int j)=.ok (.nx (ρ.set i (.ow (.lst (ds.set n d))))):=by
 unfold DL.putAt
 simp only[h]
theorem ev_ixL0 {x0:D}:dIx (.lst (x0::xs)) (.int 0)=.ok x0:=by
 unfold dIx
 simp only[show atI (x0::xs) 0=some x0 from zbq (j:=0) rfl]
theorem ev_ixT0 {x0:D}:dIx (.tup (x0::xs)) (.int 0)=.ok x0:=by
 unfold dIx
 simp only[show atI (x0::xs) 0=some x0 from zbq (j:=0) rfl]
theorem ev_ixL1 {x0 x1:D}:dIx (.lst (x0::x1::xs)) (.int 1)=.ok x1:=by
 unfold dIx
 simp only[show atI (x0::x1::xs) 1=some x1 from zbq (j:=1) rfl]
theorem ev_ixT1 {x0 x1:D}:dIx (.tup (x0::x1::xs)) (.int 1)=.ok x1:=by
 unfold dIx
 simp only[show atI (x0::x1::xs) 1=some x1 from zbq (j:=1) rfl]
theorem ev_ixL2 {x0 x1 x2:D}:dIx (.lst (x0::x1::x2::xs)) (.int 2)=.ok x2:=by
 unfold dIx
 simp only[show atI (x0::x1::x2::xs) 2=some x2 from zbq (j:=2) rfl]
theorem ev_ixT2 {x0 x1 x2:D}:dIx (.tup (x0::x1::x2::xs)) (.int 2)=.ok x2:=by
 unfold dIx
 simp only[show atI (x0::x1::x2::xs) 2=some x2 from zbq (j:=2) rfl]
theorem ev_ixL3 {x0 x1 x2 x3:D}:dIx (.lst (x0::x1::x2::x3::xs)) (.int 3)=.ok x3:=by
 unfold dIx
 simp only[show atI (x0::x1::x2::x3::xs) 3=some x3 from zbq (j:=3) rfl]
theorem ev_ixT3 {x0 x1 x2 x3:D}:dIx (.tup (x0::x1::x2::x3::xs)) (.int 3)=.ok x3:=by
 unfold dIx
 simp only[show atI (x0::x1::x2::x3::xs) 3=some x3 from zbq (j:=3) rfl]
theorem ev_ixL4 {x0 x1 x2 x3 x4:D}:dIx (.lst (x0::x1::x2::x3::x4::xs)) (.int 4)=.ok x4:=by
 unfold dIx
 simp only[show atI (x0::x1::x2::x3::x4::xs) 4=some x4 from zbq (j:=4) rfl]
theorem ev_ixT4 {x0 x1 x2 x3 x4:D}:dIx (.tup (x0::x1::x2::x3::x4::xs)) (.int 4)=.ok x4:=by
 unfold dIx
 simp only[show atI (x0::x1::x2::x3::x4::xs) 4=some x4 from zbq (j:=4) rfl]
theorem ev_ixL5 {x0 x1 x2 x3 x4 x5:D}:dIx (.lst (x0::x1::x2::x3::x4::x5::xs)) (.int 5)=.ok x5:=by
 unfold dIx
 simp only[show atI (x0::x1::x2::x3::x4::x5::xs) 5=some x5 from zbq (j:=5) rfl]
theorem ev_ixT5 {x0 x1 x2 x3 x4 x5:D}:dIx (.tup (x0::x1::x2::x3::x4::x5::xs)) (.int 5)=.ok x5:=by
 unfold dIx
 simp only[show atI (x0::x1::x2::x3::x4::x5::xs) 5=some x5 from zbq (j:=5) rfl]
theorem ev_ixL6 {x0 x1 x2 x3 x4 x5 x6:D}:dIx (.lst (x0::x1::x2::x3::x4::x5::x6::xs)) (.int 6)=.ok x6:=by
 unfold dIx
 simp only[show atI (x0::x1::x2::x3::x4::x5::x6::xs) 6=some x6 from zbq (j:=6) rfl]
theorem ev_ixL7 {x0 x1 x2 x3 x4 x5 x6 x7:D}:dIx (.lst (x0::x1::x2::x3::x4::x5::x6::x7::xs)) (.int 7)=.ok x7:=by
 unfold dIx
 simp only[show atI (x0::x1::x2::x3::x4::x5::x6::x7::xs) 7=some x7 from zbq (j:=7) rfl]
theorem ev_ixL8 {x0 x1 x2 x3 x4 x5 x6 x7 x8:D}:dIx (.lst (x0::x1::x2::x3::x4::x5::x6::x7::x8::xs)) (.int 8)=.ok x8:=by
 unfold dIx
 simp only[show atI (x0::x1::x2::x3::x4::x5::x6::x7::x8::xs) 8=some x8 from zbq (j:=8) rfl]
theorem ev_ixL9 {x0 x1 x2 x3 x4 x5 x6 x7 x8 x9:D}:dIx (.lst (x0::x1::x2::x3::x4::x5::x6::x7::x8::x9::xs)) (.int 9)=.ok x9:=by
 unfold dIx
 simp only[show atI (x0::x1::x2::x3::x4::x5::x6::x7::x8::x9::xs) 9=some x9 from zbq (j:=9) rfl]
theorem ev_ixL10 {x0 x1 x2 x3 x4 x5 x6 x7 x8 x9 x10:D}:dIx (.lst (x0::x1::x2::x3::x4::x5::x6::x7::x8::x9::x10::xs)) (.int 10)=.ok x10:=by
 unfold dIx
 simp only[show atI (x0::x1::x2::x3::x4::x5::x6::x7::x8::x9::x10::xs) 10=some x10 from zbq (j:=10) rfl]
theorem ev_ixL11 {x0 x1 x2 x3 x4 x5 x6 x7 x8 x9 x10 x11:D}:dIx (.lst (x0::x1::x2::x3::x4::x5::x6::x7::x8::x9::x10::x11::xs)) (.int 11)=.ok x11:=by
 unfold dIx
 simp only[show atI (x0::x1::x2::x3::x4::x5::x6::x7::x8::x9::x10::x11::xs) 11=some x11 from zbq (j:=11) rfl]
theorem ev_ixL12 {x0 x1 x2 x3 x4 x5 x6 x7 x8 x9 x10 x11 x12:D}:dIx (.lst (x0::x1::x2::x3::x4::x5::x6::x7::x8::x9::x10::x11::x12::xs)) (.int 12)=.ok x12:=by
 unfold dIx
 simp only[show atI (x0::x1::x2::x3::x4::x5::x6::x7::x8::x9::x10::x11::x12::xs) 12=some x12 from zbq (j:=12) rfl]
theorem ev_ixL13 {x0 x1 x2 x3 x4 x5 x6 x7 x8 x9 x10 x11 x12 x13:D}:dIx (.lst (x0::x1::x2::x3::x4::x5::x6::x7::x8::x9::x10::x11::x12::x13::xs)) (.int 13)=.ok x13:=by
 unfold dIx
 simp only[show atI (x0::x1::x2::x3::x4::x5::x6::x7::x8::x9::x10::x11::x12::x13::xs) 13=some x13 from zbq (j:=13) rfl]
theorem ev_c0:((0:Nat):Int)=0:=zax rfl
theorem ev_c1:((1:Nat):Int)=1:=zax rfl
theorem ev_c2:((2:Nat):Int)=2:=zax rfl
theorem ev_c3:((3:Nat):Int)=3:=zax rfl
theorem ev_c4:((4:Nat):Int)=4:=zax rfl
theorem ev_c5:((5:Nat):Int)=5:=zax rfl
theorem ev_c6:((6:Nat):Int)=6:=zax rfl
theorem ev_c7:((7:Nat):Int)=7:=zax rfl
theorem ev_c8:((8:Nat):Int)=8:=zax rfl
theorem ev_c9:((9:Nat):Int)=9:=zax rfl
theorem ev_c10:((10:Nat):Int)=10:=zax rfl
theorem ev_c11:((11:Nat):Int)=11:=zax rfl
theorem ev_pt0 {x0:D}:DL.putAt ρ i (x0::xs) d (.int 0)=.ok (.nx (ρ.set i (.ow (.lst (d::xs))))):=by
 refine(zhR (n:=0) ?_).trans rfl
 unfold ixN
 rw[if_pos (by decide),if_pos (by simp only[List.length_cons];omega)]
 rfl
theorem ev_pt1 {x0 x1:D}:DL.putAt ρ i (x0::x1::xs) d (.int 1)=.ok (.nx (ρ.set i (.ow (.lst (x0::d::xs))))):=by
 refine(zhR (n:=1) ?_).trans rfl
 unfold ixN
 rw[if_pos (by decide),if_pos (by simp only[List.length_cons];omega)]
 rfl
theorem ev_pt2 {x0 x1 x2:D}:DL.putAt ρ i (x0::x1::x2::xs) d (.int 2)=.ok (.nx (ρ.set i (.ow (.lst (x0::x1::d::xs))))):=by
 refine(zhR (n:=2) ?_).trans rfl
 unfold ixN
 rw[if_pos (by decide),if_pos (by simp only[List.length_cons];omega)]
 rfl
theorem ev_pt3 {x0 x1 x2 x3:D}:DL.putAt ρ i (x0::x1::x2::x3::xs) d (.int 3)=.ok (.nx (ρ.set i (.ow (.lst (x0::x1::x2::d::xs))))):=by
 refine(zhR (n:=3) ?_).trans rfl
 unfold ixN
 rw[if_pos (by decide),if_pos (by simp only[List.length_cons];omega)]
 rfl
theorem ev_pt4 {x0 x1 x2 x3 x4:D}:DL.putAt ρ i (x0::x1::x2::x3::x4::xs) d (.int 4)=.ok (.nx (ρ.set i (.ow (.lst (x0::x1::x2::x3::d::xs))))):=by
 refine(zhR (n:=4) ?_).trans rfl
 unfold ixN
 rw[if_pos (by decide),if_pos (by simp only[List.length_cons];omega)]
 rfl
theorem ev_p60:zqh (.int 10) (.int 60)=.ok (.int (N60:Int)):=by
 have e:(10:Int) ^ (60:Int).toNat=(N60:Int):=by decide
 rw[← e]
 rfl
end
def zxX (fa:Ev->Res (List D))(ρ:Ev)(x:D):Res D:=match x with
 | .str z=>(fa ρ).bind (zob z)
 | _=>.stuck
theorem ev_join {f:Ev->Res D}{fa:Ev->Res (List D)}{ρ:Ev}:zsf f fa ρ=(f ρ).bind (zxX fa ρ):=zax rfl
theorem ev_join1 {fa:Ev->Res (List D)}{ρ:Ev}{z:Str}:zxX fa ρ (.str z)=(fa ρ).bind (zob z):=zax rfl
def zzM (g:Ev->Res D)(ρ:Ev)(x:D):Res D:=match x with
 | .lst ds=>(g ρ).bind (zuC (.lst ds))
 | _=>.stuck
theorem ev_rep {f g:Ev->Res D}{ρ:Ev}:zq8 f g ρ=(f ρ).bind (zzM g ρ):=zax rfl
theorem ev_rep1 {g:Ev->Res D}{ρ:Ev}{ds:List D}:zzM g ρ (.lst ds)=(g ρ).bind (zuC (.lst ds)):=zax rfl
theorem zo1 {α:Type}{x:α}:∀ {n:Nat},(List.replicate n [x]).flatten=List.replicate n x
 | 0=>rfl
 | n+1=>by rw[List.replicate_succ,List.flatten_cons,zo1,List.replicate_succ];rfl
theorem ev_rep2 {x:D}{k:Int}(h:(decide (0<=k)&&decide (k<=1000))=true):zuC (.lst [x]) (.int k)=.ok (.lst (List.replicate k.toNat x)):=by
 simp only[Bool.and_eq_true,decide_eq_true_eq] at h
 unfold zuC
 have:([x]:List D).length*k.toNat<=line/\-9223372036854775808<=k/\k < 9223372036854775808:=⟨by
  have h2:k.toNat<=1000:=by omega
  show 1*k.toNat<=line
  have:(1000:Nat)<=line:=by decide
  omega,by omega,by omega⟩
 simp only[if_pos this,zo1]
def zcr:Ev->Res Fl :=
 (zan (sIf (dOr (zdk (za2 (zaf 0) (zcj "str"))) (zdk (zgi dLe dLe (dC (.int 1)) (zal (zad (zaf 0) zau) (m1 zgR)) (dC (.int 8)))))
 (zan (zcp (dC (.bl false)))
 zak)
 zak)
 (zan (zcp (zal (zad (zdU 1 [] (zyw (zaf 0)) (zfD 0) mYes (zac (zaf 0) (dC (.str "abcdefghijklmnopqrstuvwxyz")) dIn)) zau) (m1 zwk)))
 zak))
def zb4:List D->Res D:=zcH 1 zcr
def zbJ:Ev->Res Fl :=
 (zan (sIf (dOr (zdk (za2 (zaf 0) (zcj "tuple"))) (zac (zal (zad (zaf 0) zau) (m1 zgR)) (dC (.int 2)) dNe))
 (zan (zcp (dC (.bl false)))
 zak)
 zak)
 (zan (sIf (dOr (zdk (zal (zad (zac (zaf 0) (dC (.int 0)) dIx) zau) zbI)) (zdk (zal (zad (zac (zaf 0) (dC (.int 1)) dIx) zau) zbI)))
 (zan (zcp (dC (.bl false)))
 zak)
 zak)
 (zan (zcp (zhT (zac (zac (zaf 0) (dC (.int 1)) dIx) (dC (.int 1)) dGe) (zac (zal (zad (zac (zaf 0) (dC (.int 0)) dIx) (zad (zac (zaf 0) (dC (.int 1)) dIx) zau)) zbc) (dC (.int 1)) dEq)))
 zak)))
def zdf:List D->Res D:=zcH 1 zbJ
def abc:Str:="abcdefghijklmnopqrstuvwxyz"
def zoc (c:Nat):Bool:=occ ⟨#[c]⟩ abc
def nameB (z:Str):Bool:=decide (1<=z.length)&&(decide (z.length<=8)&&z.cps.toList.all zoc)
def zvR:D->Bool
 | .str z=>nameB z
 | _=>false
def fit:D->Bool
 | .str z=>decide (z.length<=line)
 | _=>true
theorem znh {b:Ev}{tg:Ev->D->Res Ev}{tt fe:Ev->Res D}{F:D->D}:∀ {ds:List D},(∀ d∈ds,∃ ρ1,tg b d=.ok ρ1/\tt ρ1=.ok (.bl true)/\fe ρ1=.ok (F d))->zbY b tg tt fe ds=.ok (ds.map F)
 | [],_=>rfl
 | d::r,h=>by
  obtain⟨ρ1,h1,h2,h3⟩:=h d List.mem_cons_self
  rw[zgk h1 h2 h3,znh (fun e he=>h e (List.mem_cons_of_mem _ he))]
  rfl
theorem zj9 {α:Type}(F:α->Bool):∀ (cs:List α),zet (cs.map fun c=>D.bl (F c))=some (cs.map F)
 | []=>rfl
 | c::r=>by
  show(zet (r.map fun c=>D.bl (F c))).map (F c::·)=_
  rw[zj9 F r];rfl
theorem zpR {z:Str}(hz:z.length<=line):zdU 1 [] (zyw (zaf 0)) (zfD 0) mYes (zac (zaf 0) (dC (.str "abcdefghijklmnopqrstuvwxyz")) dIn) [.sh (.str z)]=.ok (.lst (z.cps.toList.map fun c=>.bl (zoc c))):=by
 have hl:(ziA z).length<=line:=by rw[zh2];exact hz
 unfold zdU
 show(if(ziA z).length<=line then _ else _)=_
 rw[if_pos hl]
 have:zbY (zdX 1 [] [.sh (.str z)]) (zfD 0) mYes (zac (zaf 0) (dC (.str "abcdefghijklmnopqrstuvwxyz")) dIn) (ziA z)=.ok (z.cps.toList.map fun c=>D.bl (zoc c)):=by
  unfold ziA
  induction z.cps.toList with
  | nil=>rfl
  | cons c r ih =>
   rw[List.map_cons,zgk (x:=.bl (zoc c)) rfl rfl rfl,ih]
   rfl
 rw[this]
theorem zkP {d:D}(h:fit d=true):zb4 [d]=.ok (.bl (zvR d)):=by
 cases d with
 | str z =>
  have hz:z.length<=line:=of_decide_eq_true h
  have hlen:zgR (.str z)=.ok (.int z.length):=if_pos hz
  show zcH 1 zcr _=.ok (.bl (nameB z))
  unfold nameB
  by_cases h1:1<=z.length
  ·by_cases h8:z.length<=8
   ·have e1:decide ((1:Int)<=(z.length:Int))=true:=decide_eq_true (by omega)
    have e2:decide ((z.length:Int)<=8)=true:=decide_eq_true (by omega)
    simp only[zcr,ev_ok,ev_seq,ev_seq1,ev_seq2,ev_seq3,ev_seq4,ev_next,ev_set,ev_set1,ev_ret,ev_ret1,ev_retN,ev_drop,ev_drop1,ev_if,ev_if1,ev_if2,ev_own,ev_own1,ev_app,ev_ownS,ev_appL,ev_put,ev_put1,ev_putL,ev_putL1,ev_frz,ev_unp,ev_par,ev_par1,ev_b1,ev_b2,ev_b21,ev_bA,ev_nil,ev_cons,ev_cons1,ev_cons2,ev_and,ev_and1,ev_and2,ev_or,ev_or1,ev_or2,ev_not,ev_not1,ev_ifx,ev_ifx1,ev_ifx2,ev_var,ev_var1,ev_C,ev_shr0,ev_shr,ev_shr1,ev_shr2,ev_shr3,ev_run,ev_run1,ev_run2,ev_os,ev_os1,ev_on,ev_sl,ev_sl0,ev_sl1,ev_sl2,ev_for,ev_for1,ev_chain,ev_ch,ev_ch1,ev_ch2,ev_ch3,ev_iop,ev_add,ev_neg,ev_m1,ev_m2,ev_lenL,ev_lenT,ev_p60,eq_int,ne_int,List.map_cons,List.map_nil,List.length_cons,List.length_nil,List.replicate_succ,List.replicate_zero,List.nil_append,List.cons_append,List.getElem?_cons_zero,List.getElem?_cons_succ,List.set_cons_zero,List.set_cons_succ,Nat.sub_zero,Nat.reduceSub,Nat.reduceAdd,Nat.add_zero,Nat.zero_add,Bool.not_true,Bool.not_false,ev_tup,ev_lst,ev_addL,ev_app1,ev_appL1,ev_mod,ev_unpL,ev_unpT,ev_sa,ev_sa0,ev_un,ev_un1,ev_un2,ev_un3,ev_ixL0,ev_ixL1,ev_ixL2,ev_ixL3,ev_ixL4,ev_ixL5,ev_ixL6,ev_ixL7,ev_ixL8,ev_ixL9,ev_ixL10,ev_ixL11,ev_ixL12,ev_ixL13,ev_ixT0,ev_ixT1,ev_ixT2,ev_ixT3,ev_ixT4,ev_ixT5,decide_true,decide_false,Nat.reduceLeDiff,Nat.reduceBEq,Int.reduceBEq,beq_self_eq_true,dOne,mYes,ev_is_bool_non,ev_is_bool_bl,ev_is_bool_int,ev_is_bool_str,ev_is_bool_tup,ev_is_bool_lst,ev_is_bool_dic,ev_is_int_non,ev_is_int_bl,ev_is_int_int,ev_is_int_str,ev_is_int_tup,ev_is_int_lst,ev_is_int_dic,ev_is_str_non,ev_is_str_bl,ev_is_str_int,ev_is_str_str,ev_is_str_tup,ev_is_str_lst,ev_is_str_dic,ev_is_tuple_non,ev_is_tuple_bl,ev_is_tuple_int,ev_is_tuple_str,ev_is_tuple_tup,ev_is_tuple_lst,ev_is_tuple_dic,ev_is_list_non,ev_is_list_bl,ev_is_list_int,ev_is_list_str,ev_is_list_tup,ev_is_list_lst,ev_is_list_dic,ev_is_dict_non,ev_is_dict_bl,ev_is_dict_int,ev_is_dict_str,ev_is_dict_tup,ev_is_dict_lst,ev_is_dict_dic,ev_isN_non,ev_notN_non,ev_isN_bl,ev_notN_bl,ev_isN_int,ev_notN_int,ev_isN_str,ev_notN_str,ev_isN_tup,ev_notN_tup,ev_isN_lst,ev_notN_lst,ev_isN_dic,ev_notN_dic,ev_c0,ev_c1,ev_c2,ev_c3,ev_c4,ev_c5,ev_c6,ev_c7,ev_c8,ev_c9,ev_c10,ev_c11,Int.reduceLT,Int.reduceLE,Int.reduceSub,Int.reduceAdd,Int.reduceMul,Int.reduceNeg,ev_join,ev_join1,ev_pt0,ev_pt1,ev_pt2,ev_pt3,ev_pt4,ev_rep,ev_rep1,ev_rep2,Int.reduceToNat,Bool.and_self,hlen,e1,e2,zpR hz,zwk,zj9,decide_eq_true h1,decide_eq_true h8,Bool.true_and]
    simp [List.all_map,Function.comp_def]
   ·have e1:decide ((1:Int)<=(z.length:Int))=true:=decide_eq_true (by omega)
    have e2:decide ((z.length:Int)<=8)=false:=decide_eq_false (by omega)
    simp only[zcr,ev_ok,ev_seq,ev_seq1,ev_seq2,ev_seq3,ev_seq4,ev_next,ev_set,ev_set1,ev_ret,ev_ret1,ev_retN,ev_drop,ev_drop1,ev_if,ev_if1,ev_if2,ev_own,ev_own1,ev_app,ev_ownS,ev_appL,ev_put,ev_put1,ev_putL,ev_putL1,ev_frz,ev_unp,ev_par,ev_par1,ev_b1,ev_b2,ev_b21,ev_bA,ev_nil,ev_cons,ev_cons1,ev_cons2,ev_and,ev_and1,ev_and2,ev_or,ev_or1,ev_or2,ev_not,ev_not1,ev_ifx,ev_ifx1,ev_ifx2,ev_var,ev_var1,ev_C,ev_shr0,ev_shr,ev_shr1,ev_shr2,ev_shr3,ev_run,ev_run1,ev_run2,ev_os,ev_os1,ev_on,ev_sl,ev_sl0,ev_sl1,ev_sl2,ev_for,ev_for1,ev_chain,ev_ch,ev_ch1,ev_ch2,ev_ch3,ev_iop,ev_add,ev_neg,ev_m1,ev_m2,ev_lenL,ev_lenT,ev_p60,eq_int,ne_int,List.map_cons,List.map_nil,List.length_cons,List.length_nil,List.replicate_succ,List.replicate_zero,List.nil_append,List.cons_append,List.getElem?_cons_zero,List.getElem?_cons_succ,List.set_cons_zero,List.set_cons_succ,Nat.sub_zero,Nat.reduceSub,Nat.reduceAdd,Nat.add_zero,Nat.zero_add,Bool.not_true,Bool.not_false,ev_tup,ev_lst,ev_addL,ev_app1,ev_appL1,ev_mod,ev_unpL,ev_unpT,ev_sa,ev_sa0,ev_un,ev_un1,ev_un2,ev_un3,ev_ixL0,ev_ixL1,ev_ixL2,ev_ixL3,ev_ixL4,ev_ixL5,ev_ixL6,ev_ixL7,ev_ixL8,ev_ixL9,ev_ixL10,ev_ixL11,ev_ixL12,ev_ixL13,ev_ixT0,ev_ixT1,ev_ixT2,ev_ixT3,ev_ixT4,ev_ixT5,decide_true,decide_false,Nat.reduceLeDiff,Nat.reduceBEq,Int.reduceBEq,beq_self_eq_true,dOne,mYes,ev_is_bool_non,ev_is_bool_bl,ev_is_bool_int,ev_is_bool_str,ev_is_bool_tup,ev_is_bool_lst,ev_is_bool_dic,ev_is_int_non,ev_is_int_bl,ev_is_int_int,ev_is_int_str,ev_is_int_tup,ev_is_int_lst,ev_is_int_dic,ev_is_str_non,ev_is_str_bl,ev_is_str_int,ev_is_str_str,ev_is_str_tup,ev_is_str_lst,ev_is_str_dic,ev_is_tuple_non,ev_is_tuple_bl,ev_is_tuple_int,ev_is_tuple_str,ev_is_tuple_tup,ev_is_tuple_lst,ev_is_tuple_dic,ev_is_list_non,ev_is_list_bl,ev_is_list_int,ev_is_list_str,ev_is_list_tup,ev_is_list_lst,ev_is_list_dic,ev_is_dict_non,ev_is_dict_bl,ev_is_dict_int,ev_is_dict_str,ev_is_dict_tup,ev_is_dict_lst,ev_is_dict_dic,ev_isN_non,ev_notN_non,ev_isN_bl,ev_notN_bl,ev_isN_int,ev_notN_int,ev_isN_str,ev_notN_str,ev_isN_tup,ev_notN_tup,ev_isN_lst,ev_notN_lst,ev_isN_dic,ev_notN_dic,ev_c0,ev_c1,ev_c2,ev_c3,ev_c4,ev_c5,ev_c6,ev_c7,ev_c8,ev_c9,ev_c10,ev_c11,Int.reduceLT,Int.reduceLE,Int.reduceSub,Int.reduceAdd,Int.reduceMul,Int.reduceNeg,ev_join,ev_join1,ev_pt0,ev_pt1,ev_pt2,ev_pt3,ev_pt4,ev_rep,ev_rep1,ev_rep2,Int.reduceToNat,Bool.and_self,hlen,e1,e2,decide_eq_true h1,decide_eq_false h8,Bool.false_and,Bool.and_false]
  ·have e1:decide ((1:Int)<=(z.length:Int))=false:=decide_eq_false (by omega)
   simp only[zcr,ev_ok,ev_seq,ev_seq1,ev_seq2,ev_seq3,ev_seq4,ev_next,ev_set,ev_set1,ev_ret,ev_ret1,ev_retN,ev_drop,ev_drop1,ev_if,ev_if1,ev_if2,ev_own,ev_own1,ev_app,ev_ownS,ev_appL,ev_put,ev_put1,ev_putL,ev_putL1,ev_frz,ev_unp,ev_par,ev_par1,ev_b1,ev_b2,ev_b21,ev_bA,ev_nil,ev_cons,ev_cons1,ev_cons2,ev_and,ev_and1,ev_and2,ev_or,ev_or1,ev_or2,ev_not,ev_not1,ev_ifx,ev_ifx1,ev_ifx2,ev_var,ev_var1,ev_C,ev_shr0,ev_shr,ev_shr1,ev_shr2,ev_shr3,ev_run,ev_run1,ev_run2,ev_os,ev_os1,ev_on,ev_sl,ev_sl0,ev_sl1,ev_sl2,ev_for,ev_for1,ev_chain,ev_ch,ev_ch1,ev_ch2,ev_ch3,ev_iop,ev_add,ev_neg,ev_m1,ev_m2,ev_lenL,ev_lenT,ev_p60,eq_int,ne_int,List.map_cons,List.map_nil,List.length_cons,List.length_nil,List.replicate_succ,List.replicate_zero,List.nil_append,List.cons_append,List.getElem?_cons_zero,List.getElem?_cons_succ,List.set_cons_zero,List.set_cons_succ,Nat.sub_zero,Nat.reduceSub,Nat.reduceAdd,Nat.add_zero,Nat.zero_add,Bool.not_true,Bool.not_false,ev_tup,ev_lst,ev_addL,ev_app1,ev_appL1,ev_mod,ev_unpL,ev_unpT,ev_sa,ev_sa0,ev_un,ev_un1,ev_un2,ev_un3,ev_ixL0,ev_ixL1,ev_ixL2,ev_ixL3,ev_ixL4,ev_ixL5,ev_ixL6,ev_ixL7,ev_ixL8,ev_ixL9,ev_ixL10,ev_ixL11,ev_ixL12,ev_ixL13,ev_ixT0,ev_ixT1,ev_ixT2,ev_ixT3,ev_ixT4,ev_ixT5,decide_true,decide_false,Nat.reduceLeDiff,Nat.reduceBEq,Int.reduceBEq,beq_self_eq_true,dOne,mYes,ev_is_bool_non,ev_is_bool_bl,ev_is_bool_int,ev_is_bool_str,ev_is_bool_tup,ev_is_bool_lst,ev_is_bool_dic,ev_is_int_non,ev_is_int_bl,ev_is_int_int,ev_is_int_str,ev_is_int_tup,ev_is_int_lst,ev_is_int_dic,ev_is_str_non,ev_is_str_bl,ev_is_str_int,ev_is_str_str,ev_is_str_tup,ev_is_str_lst,ev_is_str_dic,ev_is_tuple_non,ev_is_tuple_bl,ev_is_tuple_int,ev_is_tuple_str,ev_is_tuple_tup,ev_is_tuple_lst,ev_is_tuple_dic,ev_is_list_non,ev_is_list_bl,ev_is_list_int,ev_is_list_str,ev_is_list_tup,ev_is_list_lst,ev_is_list_dic,ev_is_dict_non,ev_is_dict_bl,ev_is_dict_int,ev_is_dict_str,ev_is_dict_tup,ev_is_dict_lst,ev_is_dict_dic,ev_isN_non,ev_notN_non,ev_isN_bl,ev_notN_bl,ev_isN_int,ev_notN_int,ev_isN_str,ev_notN_str,ev_isN_tup,ev_notN_tup,ev_isN_lst,ev_notN_lst,ev_isN_dic,ev_notN_dic,ev_c0,ev_c1,ev_c2,ev_c3,ev_c4,ev_c5,ev_c6,ev_c7,ev_c8,ev_c9,ev_c10,ev_c11,Int.reduceLT,Int.reduceLE,Int.reduceSub,Int.reduceAdd,Int.reduceMul,Int.reduceNeg,ev_join,ev_join1,ev_pt0,ev_pt1,ev_pt2,ev_pt3,ev_pt4,ev_rep,ev_rep1,ev_rep2,Int.reduceToNat,Bool.and_self,hlen,e1,decide_eq_false h1,Bool.false_and]
 | ob k _=>cases k<;>rfl
 | _=>rfl
def zmH:D->Bool
 | .tup [.int p,.int q]=>decide (1<=q)&&(Int.gcd p q==1)
 | _=>false
theorem zx9 {g:Nat}:((g:Int)==1)=(g==1):=by
 cases h:(g==1) with
 | true=>rw[eq_of_beq h];rfl
 | false =>
  have:g≠1:=fun z=>by rw[z] at h;cases h
  exact beq_eq_false_iff_ne.mpr (by omega)
theorem zwO {xs:List D}:(∃ x y,xs=[x,y])∨xs.length≠2:=by
 match xs with
 | []=>exact .inr (by decide)
 | [x]=>exact .inr (by simp)
 | [x,y]=>exact .inl ⟨x,y,rfl⟩
 | x::y::z::r=>exact .inr (by simp)
theorem ztf:∀ {xs:List D},xs.length≠2->zmH (.tup xs)=false
 | [],_=>rfl
 | [x],_=>by cases x<;>rfl
 | [x,y],h=>absurd rfl h
 | x::y::z::r,_=>by cases x<;>cases y<;>rfl
theorem zpI {x y:D}:zmH (.tup [x,y])=(isI x&&(isI y&&zmH (.tup [x,y]))):=by
 cases x<;>cases y<;>rfl
theorem zm2 (d:D):zdf [d]=.ok (.bl (zmH d)):=by
 cases d with
 | tup xs =>
  rcases zwO (xs:=xs) with⟨x,y,rfl⟩ | h
  ·rw[zpI]
   show zcH 1 zbJ _=_
   cases hx:isI x with
   | false=>simp only[zbJ,ev_ok,ev_seq,ev_seq1,ev_seq2,ev_seq3,ev_seq4,ev_next,ev_set,ev_set1,ev_ret,ev_ret1,ev_retN,ev_drop,ev_drop1,ev_if,ev_if1,ev_if2,ev_own,ev_own1,ev_app,ev_ownS,ev_appL,ev_put,ev_put1,ev_putL,ev_putL1,ev_frz,ev_unp,ev_par,ev_par1,ev_b1,ev_b2,ev_b21,ev_bA,ev_nil,ev_cons,ev_cons1,ev_cons2,ev_and,ev_and1,ev_and2,ev_or,ev_or1,ev_or2,ev_not,ev_not1,ev_ifx,ev_ifx1,ev_ifx2,ev_var,ev_var1,ev_C,ev_shr0,ev_shr,ev_shr1,ev_shr2,ev_shr3,ev_run,ev_run1,ev_run2,ev_os,ev_os1,ev_on,ev_sl,ev_sl0,ev_sl1,ev_sl2,ev_for,ev_for1,ev_chain,ev_ch,ev_ch1,ev_ch2,ev_ch3,ev_iop,ev_add,ev_neg,ev_m1,ev_m2,ev_lenL,ev_lenT,ev_p60,eq_int,ne_int,List.map_cons,List.map_nil,List.length_cons,List.length_nil,List.replicate_succ,List.replicate_zero,List.nil_append,List.cons_append,List.getElem?_cons_zero,List.getElem?_cons_succ,List.set_cons_zero,List.set_cons_succ,Nat.sub_zero,Nat.reduceSub,Nat.reduceAdd,Nat.add_zero,Nat.zero_add,Bool.not_true,Bool.not_false,ev_tup,ev_lst,ev_addL,ev_app1,ev_appL1,ev_mod,ev_unpL,ev_unpT,ev_sa,ev_sa0,ev_un,ev_un1,ev_un2,ev_un3,ev_ixL0,ev_ixL1,ev_ixL2,ev_ixL3,ev_ixL4,ev_ixL5,ev_ixL6,ev_ixL7,ev_ixL8,ev_ixL9,ev_ixL10,ev_ixL11,ev_ixL12,ev_ixL13,ev_ixT0,ev_ixT1,ev_ixT2,ev_ixT3,ev_ixT4,ev_ixT5,decide_true,decide_false,Nat.reduceLeDiff,Nat.reduceBEq,Int.reduceBEq,beq_self_eq_true,dOne,mYes,ev_is_bool_non,ev_is_bool_bl,ev_is_bool_int,ev_is_bool_str,ev_is_bool_tup,ev_is_bool_lst,ev_is_bool_dic,ev_is_int_non,ev_is_int_bl,ev_is_int_int,ev_is_int_str,ev_is_int_tup,ev_is_int_lst,ev_is_int_dic,ev_is_str_non,ev_is_str_bl,ev_is_str_int,ev_is_str_str,ev_is_str_tup,ev_is_str_lst,ev_is_str_dic,ev_is_tuple_non,ev_is_tuple_bl,ev_is_tuple_int,ev_is_tuple_str,ev_is_tuple_tup,ev_is_tuple_lst,ev_is_tuple_dic,ev_is_list_non,ev_is_list_bl,ev_is_list_int,ev_is_list_str,ev_is_list_tup,ev_is_list_lst,ev_is_list_dic,ev_is_dict_non,ev_is_dict_bl,ev_is_dict_int,ev_is_dict_str,ev_is_dict_tup,ev_is_dict_lst,ev_is_dict_dic,ev_isN_non,ev_notN_non,ev_isN_bl,ev_notN_bl,ev_isN_int,ev_notN_int,ev_isN_str,ev_notN_str,ev_isN_tup,ev_notN_tup,ev_isN_lst,ev_notN_lst,ev_isN_dic,ev_notN_dic,ev_c0,ev_c1,ev_c2,ev_c3,ev_c4,ev_c5,ev_c6,ev_c7,ev_c8,ev_c9,ev_c10,ev_c11,Int.reduceLT,Int.reduceLE,Int.reduceSub,Int.reduceAdd,Int.reduceMul,Int.reduceNeg,ev_join,ev_join1,ev_pt0,ev_pt1,ev_pt2,ev_pt3,ev_pt4,ev_rep,ev_rep1,ev_rep2,Int.reduceToNat,Bool.and_self,zek,hx,Bool.false_and]
   | true =>
    cases hy:isI y with
    | false=>simp only[zbJ,ev_ok,ev_seq,ev_seq1,ev_seq2,ev_seq3,ev_seq4,ev_next,ev_set,ev_set1,ev_ret,ev_ret1,ev_retN,ev_drop,ev_drop1,ev_if,ev_if1,ev_if2,ev_own,ev_own1,ev_app,ev_ownS,ev_appL,ev_put,ev_put1,ev_putL,ev_putL1,ev_frz,ev_unp,ev_par,ev_par1,ev_b1,ev_b2,ev_b21,ev_bA,ev_nil,ev_cons,ev_cons1,ev_cons2,ev_and,ev_and1,ev_and2,ev_or,ev_or1,ev_or2,ev_not,ev_not1,ev_ifx,ev_ifx1,ev_ifx2,ev_var,ev_var1,ev_C,ev_shr0,ev_shr,ev_shr1,ev_shr2,ev_shr3,ev_run,ev_run1,ev_run2,ev_os,ev_os1,ev_on,ev_sl,ev_sl0,ev_sl1,ev_sl2,ev_for,ev_for1,ev_chain,ev_ch,ev_ch1,ev_ch2,ev_ch3,ev_iop,ev_add,ev_neg,ev_m1,ev_m2,ev_lenL,ev_lenT,ev_p60,eq_int,ne_int,List.map_cons,List.map_nil,List.length_cons,List.length_nil,List.replicate_succ,List.replicate_zero,List.nil_append,List.cons_append,List.getElem?_cons_zero,List.getElem?_cons_succ,List.set_cons_zero,List.set_cons_succ,Nat.sub_zero,Nat.reduceSub,Nat.reduceAdd,Nat.add_zero,Nat.zero_add,Bool.not_true,Bool.not_false,ev_tup,ev_lst,ev_addL,ev_app1,ev_appL1,ev_mod,ev_unpL,ev_unpT,ev_sa,ev_sa0,ev_un,ev_un1,ev_un2,ev_un3,ev_ixL0,ev_ixL1,ev_ixL2,ev_ixL3,ev_ixL4,ev_ixL5,ev_ixL6,ev_ixL7,ev_ixL8,ev_ixL9,ev_ixL10,ev_ixL11,ev_ixL12,ev_ixL13,ev_ixT0,ev_ixT1,ev_ixT2,ev_ixT3,ev_ixT4,ev_ixT5,decide_true,decide_false,Nat.reduceLeDiff,Nat.reduceBEq,Int.reduceBEq,beq_self_eq_true,dOne,mYes,ev_is_bool_non,ev_is_bool_bl,ev_is_bool_int,ev_is_bool_str,ev_is_bool_tup,ev_is_bool_lst,ev_is_bool_dic,ev_is_int_non,ev_is_int_bl,ev_is_int_int,ev_is_int_str,ev_is_int_tup,ev_is_int_lst,ev_is_int_dic,ev_is_str_non,ev_is_str_bl,ev_is_str_int,ev_is_str_str,ev_is_str_tup,ev_is_str_lst,ev_is_str_dic,ev_is_tuple_non,ev_is_tuple_bl,ev_is_tuple_int,ev_is_tuple_str,ev_is_tuple_tup,ev_is_tuple_lst,ev_is_tuple_dic,ev_is_list_non,ev_is_list_bl,ev_is_list_int,ev_is_list_str,ev_is_list_tup,ev_is_list_lst,ev_is_list_dic,ev_is_dict_non,ev_is_dict_bl,ev_is_dict_int,ev_is_dict_str,ev_is_dict_tup,ev_is_dict_lst,ev_is_dict_dic,ev_isN_non,ev_notN_non,ev_isN_bl,ev_notN_bl,ev_isN_int,ev_notN_int,ev_isN_str,ev_notN_str,ev_isN_tup,ev_notN_tup,ev_isN_lst,ev_notN_lst,ev_isN_dic,ev_notN_dic,ev_c0,ev_c1,ev_c2,ev_c3,ev_c4,ev_c5,ev_c6,ev_c7,ev_c8,ev_c9,ev_c10,ev_c11,Int.reduceLT,Int.reduceLE,Int.reduceSub,Int.reduceAdd,Int.reduceMul,Int.reduceNeg,ev_join,ev_join1,ev_pt0,ev_pt1,ev_pt2,ev_pt3,ev_pt4,ev_rep,ev_rep1,ev_rep2,Int.reduceToNat,Bool.and_self,zek,hx,hy,Bool.false_and,Bool.true_and]
    | true =>
     cases x<;>first | (cases hx;done) | skip
     cases y<;>first | (cases hy;done) | skip
     rename_i p q
     show _=Res.ok (D.bl (decide (1<=q)&&(Int.gcd p q==1)))
     by_cases hq:1<=q
     ·simp only[zbJ,ev_ok,ev_seq,ev_seq1,ev_seq2,ev_seq3,ev_seq4,ev_next,ev_set,ev_set1,ev_ret,ev_ret1,ev_retN,ev_drop,ev_drop1,ev_if,ev_if1,ev_if2,ev_own,ev_own1,ev_app,ev_ownS,ev_appL,ev_put,ev_put1,ev_putL,ev_putL1,ev_frz,ev_unp,ev_par,ev_par1,ev_b1,ev_b2,ev_b21,ev_bA,ev_nil,ev_cons,ev_cons1,ev_cons2,ev_and,ev_and1,ev_and2,ev_or,ev_or1,ev_or2,ev_not,ev_not1,ev_ifx,ev_ifx1,ev_ifx2,ev_var,ev_var1,ev_C,ev_shr0,ev_shr,ev_shr1,ev_shr2,ev_shr3,ev_run,ev_run1,ev_run2,ev_os,ev_os1,ev_on,ev_sl,ev_sl0,ev_sl1,ev_sl2,ev_for,ev_for1,ev_chain,ev_ch,ev_ch1,ev_ch2,ev_ch3,ev_iop,ev_add,ev_neg,ev_m1,ev_m2,ev_lenL,ev_lenT,ev_p60,eq_int,ne_int,List.map_cons,List.map_nil,List.length_cons,List.length_nil,List.replicate_succ,List.replicate_zero,List.nil_append,List.cons_append,List.getElem?_cons_zero,List.getElem?_cons_succ,List.set_cons_zero,List.set_cons_succ,Nat.sub_zero,Nat.reduceSub,Nat.reduceAdd,Nat.add_zero,Nat.zero_add,Bool.not_true,Bool.not_false,ev_tup,ev_lst,ev_addL,ev_app1,ev_appL1,ev_mod,ev_unpL,ev_unpT,ev_sa,ev_sa0,ev_un,ev_un1,ev_un2,ev_un3,ev_ixL0,ev_ixL1,ev_ixL2,ev_ixL3,ev_ixL4,ev_ixL5,ev_ixL6,ev_ixL7,ev_ixL8,ev_ixL9,ev_ixL10,ev_ixL11,ev_ixL12,ev_ixL13,ev_ixT0,ev_ixT1,ev_ixT2,ev_ixT3,ev_ixT4,ev_ixT5,decide_true,decide_false,Nat.reduceLeDiff,Nat.reduceBEq,Int.reduceBEq,beq_self_eq_true,dOne,mYes,ev_is_bool_non,ev_is_bool_bl,ev_is_bool_int,ev_is_bool_str,ev_is_bool_tup,ev_is_bool_lst,ev_is_bool_dic,ev_is_int_non,ev_is_int_bl,ev_is_int_int,ev_is_int_str,ev_is_int_tup,ev_is_int_lst,ev_is_int_dic,ev_is_str_non,ev_is_str_bl,ev_is_str_int,ev_is_str_str,ev_is_str_tup,ev_is_str_lst,ev_is_str_dic,ev_is_tuple_non,ev_is_tuple_bl,ev_is_tuple_int,ev_is_tuple_str,ev_is_tuple_tup,ev_is_tuple_lst,ev_is_tuple_dic,ev_is_list_non,ev_is_list_bl,ev_is_list_int,ev_is_list_str,ev_is_list_tup,ev_is_list_lst,ev_is_list_dic,ev_is_dict_non,ev_is_dict_bl,ev_is_dict_int,ev_is_dict_str,ev_is_dict_tup,ev_is_dict_lst,ev_is_dict_dic,ev_isN_non,ev_notN_non,ev_isN_bl,ev_notN_bl,ev_isN_int,ev_notN_int,ev_isN_str,ev_notN_str,ev_isN_tup,ev_notN_tup,ev_isN_lst,ev_notN_lst,ev_isN_dic,ev_notN_dic,ev_c0,ev_c1,ev_c2,ev_c3,ev_c4,ev_c5,ev_c6,ev_c7,ev_c8,ev_c9,ev_c10,ev_c11,Int.reduceLT,Int.reduceLE,Int.reduceSub,Int.reduceAdd,Int.reduceMul,Int.reduceNeg,ev_join,ev_join1,ev_pt0,ev_pt1,ev_pt2,ev_pt3,ev_pt4,ev_rep,ev_rep1,ev_rep2,Int.reduceToNat,Bool.and_self,zek,hx,hy,zj1,Bool.true_and,decide_eq_true hq,zx9]
     ·simp only[zbJ,ev_ok,ev_seq,ev_seq1,ev_seq2,ev_seq3,ev_seq4,ev_next,ev_set,ev_set1,ev_ret,ev_ret1,ev_retN,ev_drop,ev_drop1,ev_if,ev_if1,ev_if2,ev_own,ev_own1,ev_app,ev_ownS,ev_appL,ev_put,ev_put1,ev_putL,ev_putL1,ev_frz,ev_unp,ev_par,ev_par1,ev_b1,ev_b2,ev_b21,ev_bA,ev_nil,ev_cons,ev_cons1,ev_cons2,ev_and,ev_and1,ev_and2,ev_or,ev_or1,ev_or2,ev_not,ev_not1,ev_ifx,ev_ifx1,ev_ifx2,ev_var,ev_var1,ev_C,ev_shr0,ev_shr,ev_shr1,ev_shr2,ev_shr3,ev_run,ev_run1,ev_run2,ev_os,ev_os1,ev_on,ev_sl,ev_sl0,ev_sl1,ev_sl2,ev_for,ev_for1,ev_chain,ev_ch,ev_ch1,ev_ch2,ev_ch3,ev_iop,ev_add,ev_neg,ev_m1,ev_m2,ev_lenL,ev_lenT,ev_p60,eq_int,ne_int,List.map_cons,List.map_nil,List.length_cons,List.length_nil,List.replicate_succ,List.replicate_zero,List.nil_append,List.cons_append,List.getElem?_cons_zero,List.getElem?_cons_succ,List.set_cons_zero,List.set_cons_succ,Nat.sub_zero,Nat.reduceSub,Nat.reduceAdd,Nat.add_zero,Nat.zero_add,Bool.not_true,Bool.not_false,ev_tup,ev_lst,ev_addL,ev_app1,ev_appL1,ev_mod,ev_unpL,ev_unpT,ev_sa,ev_sa0,ev_un,ev_un1,ev_un2,ev_un3,ev_ixL0,ev_ixL1,ev_ixL2,ev_ixL3,ev_ixL4,ev_ixL5,ev_ixL6,ev_ixL7,ev_ixL8,ev_ixL9,ev_ixL10,ev_ixL11,ev_ixL12,ev_ixL13,ev_ixT0,ev_ixT1,ev_ixT2,ev_ixT3,ev_ixT4,ev_ixT5,decide_true,decide_false,Nat.reduceLeDiff,Nat.reduceBEq,Int.reduceBEq,beq_self_eq_true,dOne,mYes,ev_is_bool_non,ev_is_bool_bl,ev_is_bool_int,ev_is_bool_str,ev_is_bool_tup,ev_is_bool_lst,ev_is_bool_dic,ev_is_int_non,ev_is_int_bl,ev_is_int_int,ev_is_int_str,ev_is_int_tup,ev_is_int_lst,ev_is_int_dic,ev_is_str_non,ev_is_str_bl,ev_is_str_int,ev_is_str_str,ev_is_str_tup,ev_is_str_lst,ev_is_str_dic,ev_is_tuple_non,ev_is_tuple_bl,ev_is_tuple_int,ev_is_tuple_str,ev_is_tuple_tup,ev_is_tuple_lst,ev_is_tuple_dic,ev_is_list_non,ev_is_list_bl,ev_is_list_int,ev_is_list_str,ev_is_list_tup,ev_is_list_lst,ev_is_list_dic,ev_is_dict_non,ev_is_dict_bl,ev_is_dict_int,ev_is_dict_str,ev_is_dict_tup,ev_is_dict_lst,ev_is_dict_dic,ev_isN_non,ev_notN_non,ev_isN_bl,ev_notN_bl,ev_isN_int,ev_notN_int,ev_isN_str,ev_notN_str,ev_isN_tup,ev_notN_tup,ev_isN_lst,ev_notN_lst,ev_isN_dic,ev_notN_dic,ev_c0,ev_c1,ev_c2,ev_c3,ev_c4,ev_c5,ev_c6,ev_c7,ev_c8,ev_c9,ev_c10,ev_c11,Int.reduceLT,Int.reduceLE,Int.reduceSub,Int.reduceAdd,Int.reduceMul,Int.reduceNeg,ev_join,ev_join1,ev_pt0,ev_pt1,ev_pt2,ev_pt3,ev_pt4,ev_rep,ev_rep1,ev_rep2,Int.reduceToNat,Bool.and_self,zek,hx,hy,zj1,Bool.true_and,decide_eq_false hq,Bool.false_and]
  ·have e2:((xs.length:Int)==2)=false:=beq_eq_false_iff_ne.mpr (by omega)
   rw[ztf h]
   show zcH 1 zbJ _=_
   simp only[zbJ,ev_ok,ev_seq,ev_seq1,ev_seq2,ev_seq3,ev_seq4,ev_next,ev_set,ev_set1,ev_ret,ev_ret1,ev_retN,ev_drop,ev_drop1,ev_if,ev_if1,ev_if2,ev_own,ev_own1,ev_app,ev_ownS,ev_appL,ev_put,ev_put1,ev_putL,ev_putL1,ev_frz,ev_unp,ev_par,ev_par1,ev_b1,ev_b2,ev_b21,ev_bA,ev_nil,ev_cons,ev_cons1,ev_cons2,ev_and,ev_and1,ev_and2,ev_or,ev_or1,ev_or2,ev_not,ev_not1,ev_ifx,ev_ifx1,ev_ifx2,ev_var,ev_var1,ev_C,ev_shr0,ev_shr,ev_shr1,ev_shr2,ev_shr3,ev_run,ev_run1,ev_run2,ev_os,ev_os1,ev_on,ev_sl,ev_sl0,ev_sl1,ev_sl2,ev_for,ev_for1,ev_chain,ev_ch,ev_ch1,ev_ch2,ev_ch3,ev_iop,ev_add,ev_neg,ev_m1,ev_m2,ev_lenL,ev_lenT,ev_p60,eq_int,ne_int,List.map_cons,List.map_nil,List.length_cons,List.length_nil,List.replicate_succ,List.replicate_zero,List.nil_append,List.cons_append,List.getElem?_cons_zero,List.getElem?_cons_succ,List.set_cons_zero,List.set_cons_succ,Nat.sub_zero,Nat.reduceSub,Nat.reduceAdd,Nat.add_zero,Nat.zero_add,Bool.not_true,Bool.not_false,ev_tup,ev_lst,ev_addL,ev_app1,ev_appL1,ev_mod,ev_unpL,ev_unpT,ev_sa,ev_sa0,ev_un,ev_un1,ev_un2,ev_un3,ev_ixL0,ev_ixL1,ev_ixL2,ev_ixL3,ev_ixL4,ev_ixL5,ev_ixL6,ev_ixL7,ev_ixL8,ev_ixL9,ev_ixL10,ev_ixL11,ev_ixL12,ev_ixL13,ev_ixT0,ev_ixT1,ev_ixT2,ev_ixT3,ev_ixT4,ev_ixT5,decide_true,decide_false,Nat.reduceLeDiff,Nat.reduceBEq,Int.reduceBEq,beq_self_eq_true,dOne,mYes,ev_is_bool_non,ev_is_bool_bl,ev_is_bool_int,ev_is_bool_str,ev_is_bool_tup,ev_is_bool_lst,ev_is_bool_dic,ev_is_int_non,ev_is_int_bl,ev_is_int_int,ev_is_int_str,ev_is_int_tup,ev_is_int_lst,ev_is_int_dic,ev_is_str_non,ev_is_str_bl,ev_is_str_int,ev_is_str_str,ev_is_str_tup,ev_is_str_lst,ev_is_str_dic,ev_is_tuple_non,ev_is_tuple_bl,ev_is_tuple_int,ev_is_tuple_str,ev_is_tuple_tup,ev_is_tuple_lst,ev_is_tuple_dic,ev_is_list_non,ev_is_list_bl,ev_is_list_int,ev_is_list_str,ev_is_list_tup,ev_is_list_lst,ev_is_list_dic,ev_is_dict_non,ev_is_dict_bl,ev_is_dict_int,ev_is_dict_str,ev_is_dict_tup,ev_is_dict_lst,ev_is_dict_dic,ev_isN_non,ev_notN_non,ev_isN_bl,ev_notN_bl,ev_isN_int,ev_notN_int,ev_isN_str,ev_notN_str,ev_isN_tup,ev_notN_tup,ev_isN_lst,ev_notN_lst,ev_isN_dic,ev_notN_dic,ev_c0,ev_c1,ev_c2,ev_c3,ev_c4,ev_c5,ev_c6,ev_c7,ev_c8,ev_c9,ev_c10,ev_c11,Int.reduceLT,Int.reduceLE,Int.reduceSub,Int.reduceAdd,Int.reduceMul,Int.reduceNeg,ev_join,ev_join1,ev_pt0,ev_pt1,ev_pt2,ev_pt3,ev_pt4,ev_rep,ev_rep1,ev_rep2,Int.reduceToNat,Bool.and_self,e2]
 | ob k _=>cases k<;>rfl
 | _=>rfl
theorem zim {α:Type}{F:α->D}{xs:List α}{lo hi:Option Int}:ze6 (xs.map F) lo hi=((xs.drop (HT.sIx xs.length 0 lo)).take (HT.sIx xs.length xs.length hi-HT.sIx xs.length 0 lo)).map F:=by
 unfold ze6
 rw[List.length_map,← List.map_drop,← List.map_take]
section
variable {α β:Type}
theorem zjP {x:Exn}{f:α->Res β}:(Res.exn x:Res α).bind f=.exn x:=zax rfl
end
def zyJ (hit:Str->Bool)(ni:Nat)(sh:Ev->Res Fl)(ρ:Ev)(r:Res Fl):Res Fl:=match r with
 | .exn x=>if hit x.cls=true then(sh (ρ.set ni (.sh (.exc x.cls)))).bind (zyz ni) else .stuck
 | r=>r
theorem zux {g:Ev->Res Fl}{hit:Str->Bool}{ni:Nat}{sh:Ev->Res Fl}{ρ:Ev}:zwB g hit ni sh ρ=zyJ hit ni sh ρ (g ρ):=zax rfl
theorem zwa {hit:Str->Bool}{ni:Nat}{sh:Ev->Res Fl}{ρ:Ev}{r:Fl}:zyJ hit ni sh ρ (.ok r)=.ok r:=zax rfl
theorem zv9 {hit:Str->Bool}{ni:Nat}{sh:Ev->Res Fl}{ρ:Ev}{c:Str}(h:hit c=true):zyJ hit ni sh ρ (.exn ⟨c,[]⟩)=(sh (ρ.set ni (.sh (.exc c)))).bind (zyz ni):=if_pos h
theorem zx7 {ni:Nat}{ρ:Ev}:zyz ni (.nx ρ)=.ok (.nx (ρ.set ni .no)):=zax rfl
def zw9 (i:Nat)(m:List D->Res D)(ρ:Ev)(r:Res (List D)):Res Fl:=match r with
 | .ok ds=>(m ds).bind (zyy i ρ)
 | _=>.stuck
theorem zrZ {i:Nat}{fa:Ev->Res (List D)}{m:List D->Res D}{ρ:Ev}:zs9 i fa m ρ=zw9 i m ρ (fa ρ):=zax rfl
theorem zo3 {i:Nat}{m:List D->Res D}{ρ:Ev}{ds:List D}:zw9 i m ρ (.ok ds)=(m ds).bind (zyy i ρ):=zax rfl
def zus (x:Str)(ds:List D):Res Fl:=if ds.length<=line then .exn ⟨x,[]⟩ else .stuck
theorem zhQ {x:Str}{fa:Ev->Res (List D)}{ρ:Ev}:zfT x fa ρ=(fa (shr ρ)).bind (zus x):=zax rfl
theorem zf9 {x:Str}{d:D}:zus x [d]=.exn ⟨x,[]⟩:=if_pos (show 1<=line by decide)
theorem zo4 {tab:Str->Option Bool}{c:Str}{b:Bool}(h:tab c=some b):zqi tab (.exc c)=.ok (.bl b):=by unfold zqi;simp only[h]
def zx4 (tg:Ev->D->Res Ev)(s:Ev->Res Fl)(ρ:Ev)(ds:List D):Res Fl:=zdy tg s ds ρ
def zw3 (d:D):Res (List D):=match d with
 | .lst ds=>.ok (zaP 0 ds)
 | _=>.stuck
def zvb (d:D):Res (List D):=match d with
 | .lst ds=>.ok ds
 | _=>.stuck
def zw2 (d:D):Res (List D):=match d with
 | .tup ds=>.ok ds
 | _=>.stuck
def zgj (n:Nat)(fr:List Nat)(tg:Ev->D->Res Ev)(tt fe:Ev->Res D)(ρ:Ev)(ds:List D):Res D:=if ds.length<=line then match zbY (zdX n fr ρ) tg tt fe ds with
  | .ok es=>.ok (.lst es)
  | _=>.stuck
 else .stuck
def liK (fe:Ev->Res D)(ρ:Ev)(x:D):Res D:=match x with
 | .lst ds=>(fe ρ).bind (zsg (.lst ds))
 | _=>.stuck
def zsj (x:D)(xs:List D):Res (List D):=.ok (x::xs)
def frK (fa:Ev->Res (List D))(ρ:Ev)(x:D):Res (List D):=match x with
 | .lst ds=>(fa ρ).bind (zsj (.lst ds))
 | _=>.stuck
theorem ev_frc {x:D}{xs:List D}:zsj x xs=.ok (x::xs):=zax rfl
def zv6 (tg:Ev->D->Res Ev)(s:Ev->Res Fl)(ρ:Ev)(d:D):Res Fl:=match d with
 | .int j=>if -4611686018427387904<=j/\j < 4611686018427387904 then zdy tg s (intsFrom 0 j.toNat) ρ else .stuck
 | _=>.stuck
section
variable {s t:Ev->Res Fl}{f g h:Ev->Res D}{src:Ev->Res (List D)}{fa:Ev->Res (List D)}{ρ r:Ev}{i j n:Nat}{d x y:D}{ds es xs:List D}{a b:Int}{tg:Ev->D->Res Ev}{tt fe:Ev->Res D}{fr:List Nat}
theorem ev_forI:zi1 src tg s ρ=(src ρ).bind (zx4 tg s ρ):=zax rfl
theorem ev_forI1:zx4 tg s ρ ds=zdy tg s ds ρ:=zax rfl
theorem ev_srcE:zpE f ρ=(f ρ).bind zw3:=zax rfl
theorem ev_srcE1:zw3 (.lst ds)=.ok (zaP 0 ds):=zax rfl
theorem ev_srcL:zsE f ρ=(f ρ).bind zvb:=zax rfl
theorem ev_srcL1:zvb (.lst ds)=.ok ds:=zax rfl
theorem ev_srcT:zAl f ρ=(f ρ).bind zw2:=zax rfl
theorem ev_srcT1:zw2 (.tup ds)=.ok ds:=zax rfl
theorem ev_comp:zdU n fr src tg tt fe ρ=(src ρ).bind (zgj n fr tg tt fe ρ):=zax rfl
theorem ev_fld {c f:Str}{ks:List Str}:zAB f (.ob (.ins c ks) ds)=(match zv8 f ks ds with | some d=>.ok d | none=>.stuck):=zax rfl
theorem ev_fld0 {f k:Str}{ks:List Str}:zv8 f (k::ks) (d::ds)=if f=k then some d else zv8 f ks ds:=zax rfl
theorem ev_fld1 {f:Str}:zv8 f (f::ks) (d::ds)=some d:=by unfold zv8;rw[if_pos rfl]
theorem ev_fld2 {c:Str}{ks:List Str}(h:(ds.length==ks.length)=true):zAt c ks ds=.ok (.ob (.ins c ks) ds):=if_pos (eq_of_beq h)
theorem ev_lI:zwj f g ρ=(f ρ).bind (liK g ρ):=zax rfl
theorem ev_lI1:liK g ρ (.lst ds)=(g ρ).bind (zsg (.lst ds)):=zax rfl
theorem ev_gU {is:List Nat}(h:(ds.length==is.length)=true):zf2 is ρ (.tup ds)=.ok (zcz ρ is ds):=by
 show(match (if ds.length=is.length then some ds else none) with | some ds=>Res.ok (zcz ρ is ds) | none=>.stuck)=_
 rw[if_pos (eq_of_beq h)]
theorem ev_fr1:aFr f fa ρ=(f ρ).bind (frK fa ρ):=zax (by unfold aFr;cases f ρ with | ok x=>cases x<;>rfl | _=>rfl)
theorem ev_fr2:frK fa ρ (.lst ds)=(fa ρ).bind (zsj (.lst ds)):=zax rfl
theorem ev_ownT:zyW i j fa ρ=(fa ρ).bind (zzU i j ρ):=zax rfl
theorem ev_clrAt:zxc i j ρ=zwo i j ρ ρ[i]?:=zax rfl
theorem ev_clrAt1:zwo i j ρ (some (.ox j ds))=.ok (.nx (ρ.set i (.ox j (ds.set j (.lst []))))):=if_pos rfl
theorem ev_gS:zfD i ρ d=.ok (ρ.set i (.sh d)):=zax rfl
theorem ev_forR:zta f tg s ρ=(f (shr ρ)).bind (zv6 tg s ρ):=zax rfl
theorem zoZ {k:Nat}(h:k<=1000000):zv6 tg s ρ (.int (k:Int))=zdy tg s (intsFrom 0 k) ρ:=by
 unfold zv6
 dsimp only
 rw[if_pos ⟨by omega,by omega⟩,Int.toNat_natCast]
theorem ev_slT {l h:Option Int}(c:(HT.sIx ds.length 0 l==0&&HT.sIx ds.length ds.length h==ds.length)=false):zvd (.tup ds) l h=.ok (.tup (ze6 ds l h)):=by
 show(if _ then _ else _)=_
 rw[if_neg (fun z=>by rw[z.1,z.2] at c;simp at c)]
theorem ev_addT {x:D}(h:decide (ds.length+es.length<=1000)=true):zbR (.tup (x::ds)) (.tup es)=.ok (.tup (x::ds++es)):=by
 refine if_pos ⟨rfl,?_⟩
 have:=of_decide_eq_true h
 show ds.length+1+es.length<=line
 have:(1001:Nat)<=line:=by decide
 omega
theorem ev_addS {x y:Str}(h:decide (x.length+y.length<=1000)=true):zbR (.str x) (.str y)=.ok (.str (x++y)):=if_pos (Nat.le_trans (of_decide_eq_true h) (by decide))
theorem ev_lenS {z:Str}(h:decide (z.length<=1000)=true):zgR (.str z)=.ok (.int z.length):=if_pos (Nat.le_trans (of_decide_eq_true h) (by decide))
theorem ev_mx:zAA (.int a) (.int b)=.ok (.int (if b > a then b else a)):=zax rfl
theorem ev_io:zuD (.bl true)=.ok (.int 1):=zax rfl
theorem ev_io1:zuD (.bl false)=.ok (.int 0):=zax rfl
theorem ev_li:zse (.lst ds)=.ok (.lst ds):=zax rfl
theorem ev_li1:zse (.tup ds)=.ok (.lst ds):=zax rfl
theorem ev_p18:zqh (.int 10) (.int 18)=.ok (.int 1000000000000000000):=zax rfl
theorem ev_p9:zqh (.int 10) (.int 9)=.ok (.int 1000000000):=zax rfl
theorem zgK {F:D->D}(hl:ds.length<=1000000)(h:∀ d∈ds,∃ ρ1,tg (zdX n fr ρ) d=.ok ρ1/\tt ρ1=.ok (.bl true)/\fe ρ1=.ok (F d)):zgj n fr tg tt fe ρ ds=.ok (.lst (ds.map F)):=by
 unfold zgj
 rw[if_pos (show ds.length<=line from hl),znh h]
theorem zj2 {B:Ev}{F:D->D}{p:D->Bool}:∀ {ds:List D},(∀ d∈ds,∃ ρ1,tg B d=.ok ρ1/\tt ρ1=.ok (.bl (p d))/\(p d=true->fe ρ1=.ok (F d)))->zbY B tg tt fe ds=.ok ((ds.filter p).map F)
 | [],_=>rfl
 | d::ds,h=>by
  obtain⟨ρ1,h1,h2,h3⟩:=h d List.mem_cons_self
  have ih:=zj2 (ds:=ds) fun d hd=>h d (List.mem_cons_of_mem _ hd)
  unfold zbY
  rw[h1,bok,h2,bok]
  cases hp:p d with
  | true =>
   show(fe ρ1).bind _=_
   rw[h3 hp,bok,ih,bok,List.filter_cons_of_pos hp]
   rfl
  | false =>
   show zbY B tg tt fe ds=_
   rw[ih,List.filter_cons_of_neg (by rw[hp];decide)]
theorem zer {F:D->D}{p:D->Bool}(hl:ds.length<=1000000)(h:∀ d∈ds,∃ ρ1,tg (zdX n fr ρ) d=.ok ρ1/\tt ρ1=.ok (.bl (p d))/\(p d=true->fe ρ1=.ok (F d))):zgj n fr tg tt fe ρ ds=.ok (.lst ((ds.filter p).map F)):=by
 unfold zgj
 rw[if_pos (show ds.length<=line from hl),zj2 h]
end
end Com
local macro_rules | `(tactic| open_line with[$xs,*])=>`(tactic| simp only[Com.ev_ok,Com.ev_seq,Com.ev_seq1,Com.ev_seq2,Com.ev_seq3,Com.ev_seq4,Com.ev_next,Com.ev_set,Com.ev_set1,Com.ev_ret,Com.ev_ret1,Com.ev_retN,Com.ev_drop,Com.ev_drop1,Com.ev_if,Com.ev_if1,Com.ev_if2,Com.ev_own,Com.ev_own1,Com.ev_app,Com.ev_ownS,Com.ev_appL,Com.ev_put,Com.ev_put1,Com.ev_putL,Com.ev_putL1,Com.ev_frz,Com.ev_unp,Com.ev_par,Com.ev_par1,Com.ev_b1,Com.ev_b2,Com.ev_b21,Com.ev_bA,Com.ev_nil,Com.ev_cons,Com.ev_cons1,Com.ev_cons2,Com.ev_and,Com.ev_and1,Com.ev_and2,Com.ev_or,Com.ev_or1,Com.ev_or2,Com.ev_not,Com.ev_not1,Com.ev_ifx,Com.ev_ifx1,Com.ev_ifx2,Com.ev_var,Com.ev_var1,Com.ev_C,Com.ev_shr0,Com.ev_shr,Com.ev_shr1,Com.ev_shr2,Com.ev_shr3,Com.ev_shr4,Com.ev_fr1,Com.ev_fr2,Com.ev_frc,Com.ev_ownT,Com.ev_clrAt,Com.ev_clrAt1,Com.ev_run,Com.ev_run1,Com.ev_run2,Com.ev_os,Com.ev_os1,Com.ev_on,Com.ev_sl,Com.ev_sl0,Com.ev_sl1,Com.ev_sl2,Com.ev_for,Com.ev_for1,Com.ev_chain,Com.ev_ch,Com.ev_ch1,Com.ev_ch2,Com.ev_ch3,Com.ev_iop,Com.ev_add,Com.ev_neg,Com.ev_m1,Com.ev_m2,Com.ev_lenL,Com.ev_lenT,Com.ev_p60,Com.eq_int,Com.ne_int,List.map_cons,List.map_nil,List.length_cons,List.length_nil,List.replicate_succ,List.replicate_zero,List.nil_append,List.cons_append,List.getElem?_cons_zero,List.getElem?_cons_succ,List.set_cons_zero,List.set_cons_succ,Nat.sub_zero,Nat.reduceSub,Nat.reduceAdd,Nat.add_zero,Nat.zero_add,Bool.not_true,Bool.not_false,Com.ev_tup,Com.ev_lst,Com.ev_addL,Com.ev_app1,Com.ev_appL1,Com.ev_mod,Com.ev_unpL,Com.ev_unpT,Com.ev_sa,Com.ev_sa0,Com.ev_un,Com.ev_un1,Com.ev_un2,Com.ev_un3,Com.ev_ixL0,Com.ev_ixL1,Com.ev_ixL2,Com.ev_ixL3,Com.ev_ixL4,Com.ev_ixL5,Com.ev_ixL6,Com.ev_ixL7,Com.ev_ixL8,Com.ev_ixL9,Com.ev_ixL10,Com.ev_ixL11,Com.ev_ixL12,Com.ev_ixL13,Com.ev_ixT0,Com.ev_ixT1,Com.ev_ixT2,Com.ev_ixT3,Com.ev_ixT4,Com.ev_ixT5,decide_true,decide_false,Nat.reduceLeDiff,Nat.reduceBEq,Int.reduceBEq,beq_self_eq_true,DL.dOne,DL.mYes,Com.ev_is_bool_non,Com.ev_is_bool_bl,Com.ev_is_bool_int,Com.ev_is_bool_str,Com.ev_is_bool_tup,Com.ev_is_bool_lst,Com.ev_is_bool_dic,Com.ev_is_int_non,Com.ev_is_int_bl,Com.ev_is_int_int,Com.ev_is_int_str,Com.ev_is_int_tup,Com.ev_is_int_lst,Com.ev_is_int_dic,Com.ev_is_str_non,Com.ev_is_str_bl,Com.ev_is_str_int,Com.ev_is_str_str,Com.ev_is_str_tup,Com.ev_is_str_lst,Com.ev_is_str_dic,Com.ev_is_tuple_non,Com.ev_is_tuple_bl,Com.ev_is_tuple_int,Com.ev_is_tuple_str,Com.ev_is_tuple_tup,Com.ev_is_tuple_lst,Com.ev_is_tuple_dic,Com.ev_is_list_non,Com.ev_is_list_bl,Com.ev_is_list_int,Com.ev_is_list_str,Com.ev_is_list_tup,Com.ev_is_list_lst,Com.ev_is_list_dic,Com.ev_is_dict_non,Com.ev_is_dict_bl,Com.ev_is_dict_int,Com.ev_is_dict_str,Com.ev_is_dict_tup,Com.ev_is_dict_lst,Com.ev_is_dict_dic,Com.ev_isN_non,Com.ev_notN_non,Com.ev_isN_bl,Com.ev_notN_bl,Com.ev_isN_int,Com.ev_notN_int,Com.ev_isN_str,Com.ev_notN_str,Com.ev_isN_tup,Com.ev_notN_tup,Com.ev_isN_lst,Com.ev_notN_lst,Com.ev_isN_dic,Com.ev_notN_dic,Com.ev_c0,Com.ev_c1,Com.ev_c2,Com.ev_c3,Com.ev_c4,Com.ev_c5,Com.ev_c6,Com.ev_c7,Com.ev_c8,Com.ev_c9,Com.ev_c10,Com.ev_c11,Int.reduceLT,Int.reduceLE,Int.reduceSub,Int.reduceAdd,Int.reduceMul,Int.reduceNeg,Com.ev_join,Com.ev_join1,Com.ev_pt0,Com.ev_pt1,Com.ev_pt2,Com.ev_pt3,Com.ev_pt4,Com.ev_rep,Com.ev_rep1,Com.ev_rep2,Int.reduceToNat,Bool.and_self,Com.ev_forI,Com.ev_forI1,Com.ev_srcE,Com.ev_srcE1,Com.ev_srcL,Com.ev_srcL1,Com.ev_srcT,Com.ev_srcT1,Com.ev_comp,Com.ev_fld,Com.ev_fld0,Com.ev_fld1,Com.ev_fld2,Com.ev_lI,Com.ev_lI1,Com.ev_gU,Com.ev_forR,Com.ev_slT,Com.ev_addT,Com.ev_addS,Com.ev_lenS,Com.ev_mx,Com.ev_io,Com.ev_io1,Com.ev_li,Com.ev_li1,Com.ev_gS,Com.ev_p18,Com.ev_p9,$[$xs:term],*])
local macro_rules | `(tactic| open_line with[$xs,*] seeing $h)=>`(tactic| simp only[Com.ev_ok,Com.ev_seq,Com.ev_seq1,Com.ev_seq2,Com.ev_seq3,Com.ev_seq4,Com.ev_next,Com.ev_set,Com.ev_set1,Com.ev_ret,Com.ev_ret1,Com.ev_retN,Com.ev_drop,Com.ev_drop1,Com.ev_if,Com.ev_if1,Com.ev_if2,Com.ev_own,Com.ev_own1,Com.ev_app,Com.ev_ownS,Com.ev_appL,Com.ev_put,Com.ev_put1,Com.ev_putL,Com.ev_putL1,Com.ev_frz,Com.ev_unp,Com.ev_par,Com.ev_par1,Com.ev_b1,Com.ev_b2,Com.ev_b21,Com.ev_bA,Com.ev_nil,Com.ev_cons,Com.ev_cons1,Com.ev_cons2,Com.ev_and,Com.ev_and1,Com.ev_and2,Com.ev_or,Com.ev_or1,Com.ev_or2,Com.ev_not,Com.ev_not1,Com.ev_ifx,Com.ev_ifx1,Com.ev_ifx2,Com.ev_var,Com.ev_var1,Com.ev_C,Com.ev_shr0,Com.ev_shr,Com.ev_shr1,Com.ev_shr2,Com.ev_shr3,Com.ev_shr4,Com.ev_fr1,Com.ev_fr2,Com.ev_frc,Com.ev_ownT,Com.ev_clrAt,Com.ev_clrAt1,Com.ev_run,Com.ev_run1,Com.ev_run2,Com.ev_os,Com.ev_os1,Com.ev_on,Com.ev_sl,Com.ev_sl0,Com.ev_sl1,Com.ev_sl2,Com.ev_for,Com.ev_for1,Com.ev_chain,Com.ev_ch,Com.ev_ch1,Com.ev_ch2,Com.ev_ch3,Com.ev_iop,Com.ev_add,Com.ev_neg,Com.ev_m1,Com.ev_m2,Com.ev_lenL,Com.ev_lenT,Com.ev_p60,Com.eq_int,Com.ne_int,List.map_cons,List.map_nil,List.length_cons,List.length_nil,List.replicate_succ,List.replicate_zero,List.nil_append,List.cons_append,List.getElem?_cons_zero,List.getElem?_cons_succ,List.set_cons_zero,List.set_cons_succ,Nat.sub_zero,Nat.reduceSub,Nat.reduceAdd,Nat.add_zero,Nat.zero_add,Bool.not_true,Bool.not_false,Com.ev_tup,Com.ev_lst,Com.ev_addL,Com.ev_app1,Com.ev_appL1,Com.ev_mod,Com.ev_unpL,Com.ev_unpT,Com.ev_sa,Com.ev_sa0,Com.ev_un,Com.ev_un1,Com.ev_un2,Com.ev_un3,Com.ev_ixL0,Com.ev_ixL1,Com.ev_ixL2,Com.ev_ixL3,Com.ev_ixL4,Com.ev_ixL5,Com.ev_ixL6,Com.ev_ixL7,Com.ev_ixL8,Com.ev_ixL9,Com.ev_ixL10,Com.ev_ixL11,Com.ev_ixL12,Com.ev_ixL13,Com.ev_ixT0,Com.ev_ixT1,Com.ev_ixT2,Com.ev_ixT3,Com.ev_ixT4,Com.ev_ixT5,decide_true,decide_false,Nat.reduceLeDiff,Nat.reduceBEq,Int.reduceBEq,beq_self_eq_true,DL.dOne,DL.mYes,Com.ev_is_bool_non,Com.ev_is_bool_bl,Com.ev_is_bool_int,Com.ev_is_bool_str,Com.ev_is_bool_tup,Com.ev_is_bool_lst,Com.ev_is_bool_dic,Com.ev_is_int_non,Com.ev_is_int_bl,Com.ev_is_int_int,Com.ev_is_int_str,Com.ev_is_int_tup,Com.ev_is_int_lst,Com.ev_is_int_dic,Com.ev_is_str_non,Com.ev_is_str_bl,Com.ev_is_str_int,Com.ev_is_str_str,Com.ev_is_str_tup,Com.ev_is_str_lst,Com.ev_is_str_dic,Com.ev_is_tuple_non,Com.ev_is_tuple_bl,Com.ev_is_tuple_int,Com.ev_is_tuple_str,Com.ev_is_tuple_tup,Com.ev_is_tuple_lst,Com.ev_is_tuple_dic,Com.ev_is_list_non,Com.ev_is_list_bl,Com.ev_is_list_int,Com.ev_is_list_str,Com.ev_is_list_tup,Com.ev_is_list_lst,Com.ev_is_list_dic,Com.ev_is_dict_non,Com.ev_is_dict_bl,Com.ev_is_dict_int,Com.ev_is_dict_str,Com.ev_is_dict_tup,Com.ev_is_dict_lst,Com.ev_is_dict_dic,Com.ev_isN_non,Com.ev_notN_non,Com.ev_isN_bl,Com.ev_notN_bl,Com.ev_isN_int,Com.ev_notN_int,Com.ev_isN_str,Com.ev_notN_str,Com.ev_isN_tup,Com.ev_notN_tup,Com.ev_isN_lst,Com.ev_notN_lst,Com.ev_isN_dic,Com.ev_notN_dic,Com.ev_c0,Com.ev_c1,Com.ev_c2,Com.ev_c3,Com.ev_c4,Com.ev_c5,Com.ev_c6,Com.ev_c7,Com.ev_c8,Com.ev_c9,Com.ev_c10,Com.ev_c11,Int.reduceLT,Int.reduceLE,Int.reduceSub,Int.reduceAdd,Int.reduceMul,Int.reduceNeg,Com.ev_join,Com.ev_join1,Com.ev_pt0,Com.ev_pt1,Com.ev_pt2,Com.ev_pt3,Com.ev_pt4,Com.ev_rep,Com.ev_rep1,Com.ev_rep2,Int.reduceToNat,Bool.and_self,Com.ev_forI,Com.ev_forI1,Com.ev_srcE,Com.ev_srcE1,Com.ev_srcL,Com.ev_srcL1,Com.ev_srcT,Com.ev_srcT1,Com.ev_comp,Com.ev_fld,Com.ev_fld0,Com.ev_fld1,Com.ev_fld2,Com.ev_lI,Com.ev_lI1,Com.ev_gU,Com.ev_forR,Com.ev_slT,Com.ev_addT,Com.ev_addS,Com.ev_lenS,Com.ev_mx,Com.ev_io,Com.ev_io1,Com.ev_li,Com.ev_li1,Com.ev_gS,Com.ev_p18,Com.ev_p9,$[$xs:term],*] at $(⟨h⟩):ident)
namespace Com
open PySem L2 DL
theorem zpU {a b:Int}(ha:0<=a)(hb:0 < b):0<=(low a b).1:=Int.ediv_nonneg ha (by omega)
theorem zx6 {a:Int}(h0:0<=a)(h1:a < (N60:Int)):zcZ (a,1):=⟨⟨by show(1:Int)<=1;decide,by show Int.gcd a 1=1;exact Int.gcd_one_right ..⟩,by show a.natAbs < N60;omega,by show(1:Int).natAbs < N60;decide⟩
theorem zzY {a:Int}(h0:0<=a)(h1:a < (N60:Int)):a.natAbs < B13:=Nat.lt_of_lt_of_le (show a.natAbs < N60 by omega) zwA
theorem zrT {i:Nat}{body:Ev->Res Fl}(P:Nat->Ev->Prop){n:Nat}(h:∀ k,k < n->∀ ρ,P k ρ->∃ ρ2,body (ρ.set i (.sh (.int (k:Int))))=.ok (.nx ρ2)/\P (k+1) ρ2){ρ:Ev}(h0:P 0 ρ):∃ ρ',zdy (zfD i) body (intsFrom 0 n) ρ=.ok (.nx ρ')/\P n ρ':=by
 have key:∀ (m k:Nat) (ρ:Ev),k+m=n->P k ρ->∃ ρ',zdy (zfD i) body ((intsFrom 0 n).drop k) ρ=.ok (.nx ρ')/\P n ρ':=by
  intro m
  induction m with
  | zero =>
   intro k ρ hk hp
   have:k=n:=by omega
   subst this
   rw[ztO]
   exact⟨ρ,rfl,hp⟩
  | succ m ih =>
   intro k ρ hk hp
   obtain⟨ρ2,h1,h2⟩:=h k (by omega) ρ hp
   rw[zrM (by omega),zlA (tg:=zfD i) rfl h1]
   exact ih (k+1) ρ2 (by omega) h2
 exact key n 0 ρ (by omega) h0
theorem zid {tg:Ev->D->Res Ev}{body:Ev->Res Fl}{ds:List D}(P:Nat->Ev->Prop)(h:∀ k d,ds[k]?=some d->∀ ρ,P k ρ->∃ ρ1 ρ2,tg ρ d=.ok ρ1/\body ρ1=.ok (.nx ρ2)/\P (k+1) ρ2){ρ:Ev}(h0:P 0 ρ):∃ ρ',zdy tg body ds ρ=.ok (.nx ρ')/\P ds.length ρ':=by
 have key:∀ (m k:Nat) (ρ:Ev),k+m=ds.length->P k ρ->∃ ρ',zdy tg body (ds.drop k) ρ=.ok (.nx ρ')/\P ds.length ρ':=by
  intro m
  induction m with
  | zero =>
   intro k ρ hk hp
   have:k=ds.length:=by omega
   subst this
   rw[List.drop_length]
   exact⟨ρ,rfl,hp⟩
  | succ m ih =>
   intro k ρ hk hp
   have hlt:k < ds.length:=by omega
   obtain⟨ρ1,ρ2,h1,h2,h3⟩:=h k ds[k] (List.getElem?_eq_getElem hlt) ρ hp
   rw[List.drop_eq_getElem_cons hlt,zlA h1 h2]
   exact ih (k+1) ρ2 (by omega) h3
 exact key ds.length 0 ρ (by omega) h0
structure Drawn (sz vs:List Int):Prop where
 len:vs.length=sz.length
 bnd:∀ (i:Nat) (v s:Int),vs[i]?=some v->sz[i]?=some s->0<=v/\v < s
theorem Drawn.at {sz vs:List Int}(W:Drawn sz vs)(i:Nat){s:Int}(h:sz[i]?=some s):∃ v,vs[i]?=some v/\(0<=v/\v < s)/\dIx (.lst (vs.map D.int)) (.int (i:Int))=.ok (.int v):=by
 have hi:i < vs.length:=by rw[W.len];exact(List.getElem?_eq_some_iff.mp h).1
 refine⟨vs[i],List.getElem?_eq_getElem hi,W.bnd i _ _ (List.getElem?_eq_getElem hi) h,zfo ?_⟩
 rw[List.getElem?_map,List.getElem?_eq_getElem hi];rfl
theorem Drawn.ix {sz vs:List Int}(W:Drawn sz vs)(k:Int)(i:Nat){s:Int}(hk:k=(i:Int))(h:sz[i]?=some s):∃ v,vs[i]?=some v/\(0<=v/\v < s)/\dIx (.lst (vs.map D.int)) (.int k)=.ok (.int v):=by
 subst hk;exact W.at i h
theorem zww:("abcdefghijklmnopqrstuvwxyz" : Str).cps.toList=(List.range 26).map (97 + ·):=by decide +kernel
theorem zsw:∀ n,n < 26->zoc (97+n)=true:=by decide +kernel
theorem zsv {v:Int}(h0:0<=v)(h1:v < 26):dIx (.str "abcdefghijklmnopqrstuvwxyz") (.int v)=.ok (.str ⟨#[97+v.toNat]⟩):=by
 obtain⟨n,rfl⟩:=Int.eq_ofNat_of_zero_le h0
 have hn:n < 26:=by omega
 have e:atI ("abcdefghijklmnopqrstuvwxyz" : Str).cps.toList ((n:Nat):Int)=some (97+n):=zbq (by rw[zww];simp [hn])
 show(if("abcdefghijklmnopqrstuvwxyz" : Str).length<=line then(match atI ("abcdefghijklmnopqrstuvwxyz" : Str).cps.toList ((n:Nat):Int) with | some c=>Res.ok (D.str ⟨#[c]⟩) | none=>.stuck) else .stuck)=_
 rw[if_pos (by decide),e]
 rfl
theorem zrJ:∀ cs:List Nat,Str.join "" (cs.map fun c=>(⟨#[c]⟩:Str))=⟨cs.toArray⟩
 | []=>rfl
 | [c]=>rfl
 | c::d::cs=>by
  show(⟨#[c]⟩:Str)++""++Str.join "" ((d::cs).map fun c=>(⟨#[c]⟩:Str))=_
  rw[zrJ (d::cs)]
  apply Str.ext'
  show(#[c]++("" : Str).cps)++(d::cs).toArray=_
  have:("" : Str).cps=#[]:=rfl
  rw[this]
  simp
theorem zqS:∀ cs:List Nat,zgT (cs.map fun c=>D.str ⟨#[c]⟩)=some (cs.map fun c=>(⟨#[c]⟩:Str))
 | []=>rfl
 | c::cs=>by
  show(zgT (cs.map fun c=>D.str ⟨#[c]⟩)).map _=_
  rw[zqS cs];rfl
theorem zpY {cs:List Nat}(h:cs.length<=1000):zob "" [.lst (cs.map fun c=>D.str ⟨#[c]⟩)]=.ok (.str ⟨cs.toArray⟩):=by
 have fit:zf6 "" (cs.map fun c=>(⟨#[c]⟩:Str))=true:=by
  unfold zf6
  have e:((cs.map fun c=>(⟨#[c]⟩:Str)).map (·.length)).sum=cs.length:=by
   clear h
   induction cs with
   | nil=>rfl
   | cons c cs ih =>
    simp only[List.map_cons,List.sum_cons,List.length_cons,ih]
    show 1+cs.length=_
    omega
  rw[e,Bool.and_eq_true]
  exact⟨by decide,decide_eq_true (by rw[List.length_map];omega)⟩
 show(match zgT (cs.map fun c=>D.str ⟨#[c]⟩) with | some ys=>if zf6 "" ys=true then Res.ok (D.str (Txt.join "" ys)) else .stuck | none=>.stuck)=_
 rw[zqS]
 show(if zf6 "" _=true then Res.ok (D.str (Txt.join "" _)) else .stuck)=_
 rw[if_pos fit]
 show Res.ok (D.str (Builtin.Str.glued "" _))=_
 rw[StrLaws.glued_eq_join,zrJ]
theorem zle {cs:List Nat}{b:Nat}(hb:b<=cs.length):Txt.slice ⟨cs.toArray⟩ none (some (b:Int))=⟨(cs.take b).toArray⟩:=by
 have:=StrLaws.sliceText_to (x:=⟨cs.toArray⟩) (j:=(b:Int)) ⟨by omega,by simpa using hb⟩
 refine Eq.trans this ?_
 simp
structure zkc (zs:List Str):Prop where
 nd:zs.Nodup
 nm:∀ z∈zs,nameB z=true
theorem zph {x y:Str}(h:x.length+y.length<=1000):zbR (.str x) (.str y)=.ok (.str (x++y)):=if_pos (Nat.le_trans h (by decide))
theorem zng (a b:List Nat):(⟨a.toArray⟩:Str)++⟨b.toArray⟩=⟨(a++b).toArray⟩:=by
 apply Str.ext'
 show a.toArray++b.toArray=_
 simp
theorem zyk (a:List Nat):(⟨a.toArray⟩:Str).length=a.length:=by show a.toArray.size=_;simp
theorem zqY {z:Str}{l h:Option Int}(hz:z.length<=1000):zvd (.str z) l h=.ok (.str (Txt.slice z l h)):=by
 show(if z.length<=line then _ else _)=_
 rw[if_pos (Nat.le_trans hz (by decide))]
structure Tie where
 a:Str
 b:Str
 w:Str
 l:Fra
 o:Option Fra
def zfc:Option Fra->D
 | none=>.non
 | some x=>fr x
def zcM (t:Tie):D:=.tup [.str t.a,.str t.b,.str t.w,fr t.l,zfc t.o]
structure znt (zs:List Str) (t:Tie):Prop where
 a:t.a∈zs
 b:t.b∈zs
 ne:t.a≠t.b
 w:t.w="one"∨t.w="both"
 l:zcZ t.l
 l0:0<=t.l.1
 o:∀ x,t.o=some x->zcZ x/\0 < x.1
theorem zwT {α:Type}{vs:List α}{i:Nat}{a b c:α}(h0:vs[i]?=some a)(h1:vs[i+1]?=some b)(h2:vs[i+2]?=some c):(vs.drop i).take 3=[a,b,c]:=by
 apply List.ext_getElem?
 intro j
 rcases j with _ | _ | _ | j
 ·rw[List.getElem?_take_of_lt (by decide),List.getElem?_drop];simpa using h0
 ·rw[List.getElem?_take_of_lt (by decide),List.getElem?_drop];simpa using h1
 ·rw[List.getElem?_take_of_lt (by decide),List.getElem?_drop];simpa using h2
 ·rw[List.getElem?_eq_none (by simp;omega)];simp
theorem zpd {vs:List Int}{a b:Nat}{x y:Int}(hx:x=(a:Int))(hy:y=(b:Int))(h:b<=vs.length)(hab:a<=b):ze6 (vs.map D.int) (some x) (some y)=((vs.drop a).take (b-a)).map D.int:=by
 subst hx hy
 rw[zim,HT.sIx_nat,HT.sIx_nat,Nat.min_eq_left h,Nat.min_eq_left (Nat.le_trans hab h)]
theorem zz0 {vs:List Int}{i:Nat}{x y:Int}{a b c:Int}(hx:x=(i:Int))(hy:y=((i+3:Nat):Int))(h0:vs[i]?=some a)(h1:vs[i+1]?=some b)(h2:vs[i+2]?=some c):ze6 (vs.map D.int) (some x) (some y)=[.int a,.int b,.int c]:=by
 have hl:i+3<=vs.length:=by have:=(List.getElem?_eq_some_iff.mp h2).1;omega
 rw[zpd hx hy hl (by omega),show i+3-i=3 by omega,zwT h0 h1 h2]
 rfl
theorem zup {zs:List Str}{k:Int}(h0:0<=k)(h1:k < zs.length):∃ z,zs[k.toNat]?=some z/\dIx (.lst (zs.map D.str)) (.int k)=.ok (.str z):=by
 obtain⟨n,rfl⟩:=Int.eq_ofNat_of_zero_le h0
 have hn:n < zs.length:=by omega
 refine⟨zs[n],by simp [hn],zfo ?_⟩
 rw[List.getElem?_map,List.getElem?_eq_getElem hn];rfl
theorem zuU {k:Int}(h0:0<=k)(h1:k < 2):∃ z:Str,(z="one"∨z="both")/\dIx (.lst [.str "one",.str "both"]) (.int k)=.ok (.str z):=by
 have:k=0∨k=1:=by omega
 rcases this with rfl | rfl
 ·exact⟨_,.inl rfl,ev_ixL0⟩
 ·exact⟨_,.inr rfl,ev_ixL1⟩
theorem znr {n d e:Int}(h2:2<=n)(d0:0<=d)(d1:d < n)(e0:0<=e)(e1:e < n-1):(0<=(d+1+e).fmod n/\(d+1+e).fmod n < n)/\(d+1+e).fmod n≠d:=by
 refine⟨zf1 (by omega),?_⟩
 rw[Int.fmod_eq_emod_of_nonneg _ (by omega)]
 by_cases h:d+1+e < n
 ·rw[Int.emod_eq_of_lt (by omega) h];omega
 ·have:(d+1+e) % n=d+1+e-n:=by
   rw[← Int.sub_emod_right (d+1+e) n,Int.emod_eq_of_lt (by omega) (by omega)]
  rw[this];omega
theorem zoR {α:Type}{zs:List α}(nd:zs.Nodup){i j:Nat}{x y:α}(hi:zs[i]?=some x)(hj:zs[j]?=some y)(hij:i≠j):x≠y:=by
 intro e
 subst e
 obtain⟨h1,e1⟩:=List.getElem?_eq_some_iff.mp hi
 obtain⟨h2,e2⟩:=List.getElem?_eq_some_iff.mp hj
 exact hij ((List.getElem_inj nd).mp (e1.trans e2.symm))
def zeu:Ev->Res Fl :=
 (zan (zcp (zhT (zal (zad (zaf 0) zau) zdf) (zac (zac (zaf 0) (dC (.int 0)) dIx) (dC (.int 0)) dGe)))
 zak)
def zb5:List D->Res D:=zcH 1 zeu
def zgO:Ev->Res Fl :=
 (zan (zcp (dOr (zac (zaf 0) (dC (.non)) zpc) (zhT (zal (zad (zaf 0) zau) zdf) (zac (zac (zaf 0) (dC (.int 0)) dIx) (dC (.int 0)) dGt))))
 zak)
def zd9:List D->Res D:=zcH 1 zgO
def zjb:Ev->Res Fl :=
 (zan (sIf (dOr (zdk (za2 (zaf 0) (zcj "tuple"))) (zac (zal (zad (zaf 0) zau) (m1 zgR)) (dC (.int 5)) dNe))
 (zan (zcp (dC (.bl false)))
 zak)
 zak)
 (zan (sIf (dOr (zdk (zal (zad (zac (zaf 0) (dC (.int 0)) dIx) zau) zb4)) (dOr (zdk (zal (zad (zac (zaf 0) (dC (.int 1)) dIx) zau) zb4)) (zac (zac (zaf 0) (dC (.int 0)) dIx) (zac (zaf 0) (dC (.int 1)) dIx) dEq)))
 (zan (zcp (dC (.bl false)))
 zak)
 zak)
 (zan (sIf (dOr (zdk (za2 (zac (zaf 0) (dC (.int 2)) dIx) (zcj "str"))) (zac (zac (zaf 0) (dC (.int 2)) dIx) (dC (.tup [(.str "one"),(.str "both")])) zbz))
 (zan (zcp (dC (.bl false)))
 zak)
 zak)
 (zan (zcp (zhT (zal (zad (zac (zaf 0) (dC (.int 3)) dIx) zau) zb5) (zal (zad (zac (zaf 0) (dC (.int 4)) dIx) zau) zd9)))
 zak))))
def zeH:List D->Res D:=zcH 1 zjb
def zaZ:Ev->Res Fl :=
 (zan (sIf (dOr (zdk (za2 (zaf 0) (zcj "list"))) (zdk (zgi dLe dLe (dC (.int 2)) (zal (zad (zaf 0) zau) (m1 zgR)) (dC (.int 7)))))
 (zan zdt
 zak)
 zak)
 (zan (zi1 (zpE (zaf 0)) (zf2 [1,2])
 (zan (sIf (dOr (zdk (zal (zad (zaf 2) zau) zb4)) (zac (zaf 2) (zgQ (zaf 0) zde (zbL (zaf 1))) dIn))
 (zan zdt
 zak)
 zak)
 zak))
 zak))
def zaK:List D->Res D:=zcH 3 zaZ
def zbk:Ev->Res Fl :=
 (zan (sIf (dOr (zdk (za2 (zaf 0) (zcj "list"))) (zac (zal (zad (zaf 0) zau) (m1 zgR)) (dC (.int 14)) dGt))
 (zan zdt
 zak)
 zak)
 (zan (zi1 (zpE (zaf 0)) (zf2 [2,3])
 (zan (sIf (dOr (zdk (zal (zad (zaf 3) zau) zeH)) (dOr (zac (zac (zaf 3) (dC (.int 0)) dIx) (zaf 1) zbz) (zac (zac (zaf 3) (dC (.int 1)) dIx) (zaf 1) zbz)))
 (zan zdt
 zak)
 zak)
 zak))
 zak))
def zaV:List D->Res D:=zcH 4 zbk
def zck:Ev->Res Fl :=
 (zan (zcp (zhT (zal (zad (zaf 0) zau) zb4) (zac (zaf 0) (zaf 1) dIn)))
 zak)
def za1:List D->Res D:=zcH 2 zck
def zbi:Ev->Res Fl :=
 (zan (sIf (dOr (zdk (za2 (zaf 0) (zcj "tuple"))) (zac (zal (zad (zaf 0) zau) (m1 zgR)) (dC (.int 4)) dNe))
 (zan zdt
 zak)
 zak)
 (zan (zhE (zal (zad (zac (zaf 0) (dC (.int 0)) dIx) zau) zaK))
 (zan (zhE (zal (zad (zac (zaf 0) (dC (.int 1)) dIx) (zad (zac (zaf 0) (dC (.int 0)) dIx) zau)) zaV))
 (zan (sIf (zdk (zal (zad (zac (zaf 0) (dC (.int 2)) dIx) (zad (zac (zaf 0) (dC (.int 0)) dIx) zau)) za1))
 (zan zdt
 zak)
 zak)
 (zan (sIf (dOr (zdk (zal (zad (zac (zaf 0) (dC (.int 3)) dIx) (zad (zac (zaf 0) (dC (.int 0)) dIx) zau)) za1)) (zac (zac (zaf 0) (dC (.int 3)) dIx) (zac (zaf 0) (dC (.int 2)) dIx) dEq))
 (zan zdt
 zak)
 zak)
 zak)))))
def zaQ:List D->Res D:=zcH 1 zbi
def zcX:Ev->Res Fl :=
 (zan (zcp (zhT (zal (zad (zaf 1) zau) zbI) (zgi dLe dLt (dC (.int 0)) (zaf 1) (zal (zad (zac (zaf 0) (dC (.int 1)) dIx) zau) (m1 zgR)))))
 zak)
def za7:List D->Res D:=zcH 2 zcX
def zaY:Ev->Res Fl :=
 (zan (zhE (zal (zad (zaf 0) zau) zaQ))
 (zan (sIf (zdk (za2 (zaf 1) (zcj "list")))
 (zan zdt
 zak)
 zak)
 (zan (zbb 2 (za2 (dC (.int 1)) zsd))
 (zan (zoG (zaf 1) (zfD 3)
 (zan (sIf (dOr (zdk (zal (zad (zaf 0) (zad (zaf 3) zau)) za7)) (zac (zaf 3) (zaf 2) dLe))
 (zan zdt
 zak)
 zak)
 (zan (sIf (zac (zac (zac (zac (zaf 0) (dC (.int 1)) dIx) (zaf 3) dIx) (dC (.int 4)) dIx) (dC (.non)) zpc)
 (zan zdt
 zak)
 zak)
 (zan (zbb 2 (zaf 3))
 zak))))
 zak))))
def zaJ:List D->Res D:=zcH 4 zaY
structure Web where
 ps:List Str
 ts:List Tie
 fi:Str
 la:Str
def za8 (w:Web):D:=.tup [.lst (w.ps.map D.str),.lst (w.ts.map zcM),.str w.fi,.str w.la]
structure zgt (w:Web):Prop where
 n2:2<=w.ps.length
 n7:w.ps.length<=7
 nm:zkc w.ps
 t14:w.ts.length<=14
 ts:∀ t∈w.ts,znt w.ps t
 fi:w.fi∈w.ps
 la:w.la∈w.ps
 ne:w.fi≠w.la
theorem zhJ {z:Str}(h:nameB z=true):zb4 [.str z]=.ok (.bl true):=by
 have hl:z.length<=8:=by
  unfold nameB at h
  simp only[Bool.and_eq_true,decide_eq_true_eq] at h
  exact h.2.1
 rw[zkP (show fit (.str z)=true from decide_eq_true (Nat.le_trans hl (by decide)))]
 show Res.ok (D.bl (nameB z))=_
 rw[h]
theorem zkF {x:Fra}(h:Low x):zdf [fr x]=.ok (.bl true):=by
 rw[zm2]
 show Res.ok (D.bl (zmH (.tup [.int x.1,.int x.2])))=_
 have h1:=h.q1
 have h2:=h.g1
 show Res.ok (D.bl (decide (1<=x.2)&&(Int.gcd x.1 x.2==1)))=_
 rw[decide_eq_true h1,h2];rfl
theorem zjy {x:Fra}(h:Low x)(h0:0<=x.1):zb5 [fr x]=.ok (.bl true):=by
 have e:fr x=.tup [.int x.1,.int x.2]:=rfl
 have h1:=zkF h
 rw[e] at h1 ⊢
 open_line with[zb5,zeu,h1,decide_eq_true h0,decide_eq_true (show x.1≥0 from h0)]
theorem zpz {o:Option Fra}(h:∀ x,o=some x->Low x/\0 < x.1):zd9 [zfc o]=.ok (.bl true):=by
 cases o with
 | none=>rfl
 | some x =>
  obtain⟨hx,h0⟩:=h x rfl
  have e:zfc (some x)=.tup [.int x.1,.int x.2]:=rfl
  have h1:=zkF hx
  rw[show fr x=.tup [.int x.1,.int x.2] from rfl] at h1
  rw[e]
  open_line with[zd9,zgO,h1,decide_eq_true h0]
theorem zlD {x y:Str}:dEq (.str x) (.str y)=.ok (.bl (x==y)):=by unfold dEq;rw[if_pos ⟨rfl,rfl⟩,eqD]
theorem zsU {zs:List Str}{t:Tie}(nm:zkc zs)(h:znt zs t):zeH [zcM t]=.ok (.bl true):=by
 obtain⟨a,b,w,l,o⟩:=t
 obtain⟨ha,hb,hne,hw,hl,hl0,ho⟩:=h
 have h1:=zhJ (nm.nm a ha)
 have h2:=zhJ (nm.nm b hb)
 have h3:=zjy hl.toLow hl0
 have h4:=zpz (o:=o) fun x hx=>⟨(ho x hx).1.toLow,(ho x hx).2⟩
 have h5:(a==b)=false:=beq_eq_false_iff_ne.mpr hne
 have h6:zbz (.str w) (.tup [.str "one",.str "both"])=.ok (.bl false):=by
  rcases hw with rfl | rfl<;>rfl
 have e:zcM ⟨a,b,w,l,o⟩=.tup [.str a,.str b,.str w,fr l,zfc o]:=rfl
 rw[e]
 open_line with[zeH,zjb,h1,h2,zlD,h5,h6,h3,h4]
theorem zlW {zs:List Str}{z:Str}:(zs.map D.str).any (fun d=>eqD d (.str z))=decide (z∈zs):=by
 induction zs with
 | nil=>rfl
 | cons y zs ih =>
  rw[List.map_cons,List.any_cons,ih]
  show((y==z)||decide (z∈zs))=_
  by_cases h:y=z
  ·subst h;simp
  ·have:(y==z)=false:=beq_eq_false_iff_ne.mpr h
   rw[this,Bool.false_or]
   have:z∈y::zs↔z∈zs:=by simp [Ne.symm h]
   exact decide_eq_decide.mpr this.symm
theorem zfh {n:Nat}{zs:List Str}:(zs.map D.str).all (za0 n)=true:=List.all_eq_true.mpr fun d hd=>by
 obtain⟨z,_,rfl⟩:=List.mem_map.mp hd
 cases n<;>rfl
theorem zel {zs:List Str}{z:Str}:dIn (.str z) (.lst (zs.map D.str))=.ok (.bl (decide (z∈zs))):=by
 have e:inD (.str z) (.lst (zs.map D.str))=some (decide (z∈zs)):=(if_pos ⟨rfl,zfh⟩).trans (congrArg some zlW)
 unfold dIn
 rw[e]
theorem zgF {zs:List Str}{z:Str}:zbz (.str z) (.lst (zs.map D.str))=.ok (.bl (!(decide (z∈zs)))):=by
 have e:inD (.str z) (.lst (zs.map D.str))=some (decide (z∈zs)):=(if_pos ⟨rfl,zfh⟩).trans (congrArg some zlW)
 unfold zbz
 rw[e]
theorem zkG {zs:List Str}{z:Str}(h:nameB z=true)(hz:z∈zs):za1 [.str z,.lst (zs.map D.str)]=.ok (.bl true):=by
 open_line with[za1,zck,zhJ h,zel,decide_eq_true hz]
theorem zdu {α:Type}{F:α->D}{xs:List α}{k:Nat}{d:D}(h:(zaP 0 (xs.map F))[k]?=some d):∃ x,xs[k]?=some x/\d=.tup [.int (k:Int),F x]:=by
 rw[zb3,List.getElem?_map] at h
 cases e:xs[k]? with
 | none=>rw[e] at h;cases h
 | some x =>
  rw[e] at h
  cases h
  exact⟨x,rfl,by simp⟩
theorem zyi {α:Type}{F:α->D}{xs:List α}{k:Nat}(h:k<=xs.length):ze6 (xs.map F) none (some (k:Int))=(xs.take k).map F:=by
 rw[zim,HT.sIx_none,HT.sIx_nat,Nat.min_eq_left h,List.drop_zero,Nat.sub_zero]
theorem zrh {zs:List Str}(h2:2<=zs.length)(h7:zs.length<=7)(nm:zkc zs):zaK [.lst (zs.map D.str)]=.ok .non:=by
 obtain⟨ρ',hl,_⟩:=zid (ds:=zaP 0 (zs.map D.str)) (tg:=zf2 [1,2]) (ρ:=[.sh (.lst (zs.map D.str)),.no,.no])
  (body:=(zan (sIf (dOr (zdk (zal (zad (zaf 2) zau) zb4)) (zac (zaf 2) (zgQ (zaf 0) zde (zbL (zaf 1))) dIn)) (zan zdt zak) zak) zak))
  (fun k ρ=>∃ a b,ρ=[.sh (.lst (zs.map D.str)),a,b]) (by
   rintro k d hd ρ ⟨a,b,rfl⟩
   obtain⟨z,hz,rfl⟩:=zdu hd
   refine⟨_,[.sh (.lst (zs.map D.str)),.sh (.int (k:Int)),.sh (.str z)],ev_gU rfl,?_,_,_,rfl⟩
   have hk:k < zs.length:=(List.getElem?_eq_some_iff.mp hz).1
   have hnot:decide (z∈zs.take k)=false:=decide_eq_false fun hm=>by
    obtain⟨j,hj⟩:=List.mem_iff_getElem?.mp hm
    have hjk:j < k:=by have:=(List.getElem?_eq_some_iff.mp hj).1;simp at this;omega
    rw[List.getElem?_take_of_lt hjk] at hj
    exact zoR nm.nd hj hz (by omega) rfl
   open_line with[zhJ (nm.nm z (List.mem_of_getElem? hz)),zyi (Nat.le_of_lt hk),zel,hnot]) ⟨.no,.no,rfl⟩
 have e1:decide ((2:Int)<=(zs.length:Int))=true:=decide_eq_true (by omega)
 have e2:decide ((zs.length:Int)<=7)=true:=decide_eq_true (by omega)
 open_line with[zaK,zaZ,List.length_map,e1,e2,hl]
theorem zuZ {zs:List Str}{ts:List Tie}(h14:ts.length<=14)(nm:zkc zs)(ht:∀ t∈ts,znt zs t):zaV [.lst (ts.map zcM),.lst (zs.map D.str)]=.ok .non:=by
 obtain⟨ρ',hl,_⟩:=zid (ds:=zaP 0 (ts.map zcM)) (tg:=zf2 [2,3]) (ρ:=[.sh (.lst (ts.map zcM)),.sh (.lst (zs.map D.str)),.no,.no])
  (body:=(zan (sIf (dOr (zdk (zal (zad (zaf 3) zau) zeH)) (dOr (zac (zac (zaf 3) (dC (.int 0)) dIx) (zaf 1) zbz) (zac (zac (zaf 3) (dC (.int 1)) dIx) (zaf 1) zbz))) (zan zdt zak) zak) zak))
  (fun k ρ=>∃ a b,ρ=[.sh (.lst (ts.map zcM)),.sh (.lst (zs.map D.str)),a,b]) (by
   rintro k d hd ρ ⟨a,b,rfl⟩
   obtain⟨t,ht',rfl⟩:=zdu hd
   refine⟨_,[.sh (.lst (ts.map zcM)),.sh (.lst (zs.map D.str)),.sh (.int (k:Int)),.sh (zcM t)],ev_gU rfl,?_,_,_,rfl⟩
   have hT:=ht t (List.mem_of_getElem? ht')
   have h1:=zsU nm hT
   rw[show zcM t=.tup [.str t.a,.str t.b,.str t.w,fr t.l,zfc t.o] from rfl] at h1 ⊢
   open_line with[h1,zgF,decide_eq_true hT.a,decide_eq_true hT.b]) ⟨.no,.no,rfl⟩
 have e1:decide ((14:Int) < (ts.length:Int))=false:=decide_eq_false (by omega)
 open_line with[zaV,zbk,List.length_map,e1,decide_eq_false (show ¬ (ts.length:Int) > 14 by omega),hl]
theorem zuk {w:Web}(h:zgt w):zaQ [za8 w]=.ok .non:=by
 obtain⟨ps,ts,fi,la⟩:=w
 have h1:=zrh h.n2 h.n7 h.nm
 have h2:=zuZ h.t14 h.nm h.ts
 have h3:=zkG (h.nm.nm fi h.fi) h.fi
 have h4:=zkG (h.nm.nm la h.la) h.la
 have h5:(la==fi)=false:=beq_eq_false_iff_ne.mpr (Ne.symm h.ne)
 rw[show za8 ⟨ps,ts,fi,la⟩=.tup [.lst (ps.map D.str),.lst (ts.map zcM),.str fi,.str la] from rfl]
 open_line with[zaQ,zbi,h1,h2,h3,h4,zlD,h5]
def zbA (ks:List Nat):D:=.lst (ks.map fun(k:Nat)=>D.int (k:Int))
structure zlZ (w:Web) (ks:List Nat):Prop where
 up:ks.Pairwise (· < ·)
 wo:∀ k∈ks,∃ t x,w.ts[k]?=some t/\t.o=some x
theorem zlZ.lt {w:Web}{ks:List Nat}(T:zlZ w ks):∀ k∈ks,k < w.ts.length:=fun k hk=>by
 obtain⟨t,x,h1,h2⟩:=T.wo k hk
 exact(List.getElem?_eq_some_iff.mp h1).1
theorem zwQ {w:Web}{k:Nat}{t:Tie}(h:w.ts[k]?=some t):dIx (.lst (w.ts.map zcM)) (.int (k:Int))=.ok (zcM t):=zfo (by rw[List.getElem?_map,h];rfl)
theorem zn5 {w:Web}{k:Nat}(h:k < w.ts.length):za7 [za8 w,.int (k:Int)]=.ok (.bl true):=by
 rw[show za8 w=.tup [.lst (w.ps.map D.str),.lst (w.ts.map zcM),.str w.fi,.str w.la] from rfl]
 open_line with[za7,zcX,zek,isI,List.length_map,decide_eq_true (show(0:Int)<=(k:Int) by omega),decide_eq_true (show(k:Int) < (w.ts.length:Int) by omega)]
theorem zqM {w:Web}{ks:List Nat}(W:zgt w)(T:zlZ w ks):zaJ [za8 w,zbA ks]=.ok .non:=by
 obtain⟨ρ',hl,_⟩:=zid (ds:=ks.map fun(k:Nat)=>D.int (k:Int)) (tg:=zfD 3) (ρ:=[.sh (za8 w),.sh (zbA ks),.sh (.int (-1)),.no])
  (body:=(zan (sIf (dOr (zdk (zal (zad (zaf 0) (zad (zaf 3) zau)) za7)) (zac (zaf 3) (zaf 2) dLe))
   (zan zdt zak) zak)
   (zan (sIf (zac (zac (zac (zac (zaf 0) (dC (.int 1)) dIx) (zaf 3) dIx) (dC (.int 4)) dIx) (dC (.non)) zpc)
   (zan zdt zak) zak)
   (zan (zbb 2 (zaf 3)) zak))))
  (fun j ρ=>∃ (ah:Int) (x:Sl),ρ=[.sh (za8 w),.sh (zbA ks),.sh (.int ah),x]/\∀ v∈ks.drop j,ah < (v:Int)) (by
   rintro j d hd ρ ⟨ah,x,rfl,hah⟩
   rw[List.getElem?_map] at hd
   cases e:ks[j]? with
   | none=>rw[e] at hd;cases hd
   | some k =>
    rw[e] at hd
    cases hd
    have hj:j < ks.length:=(List.getElem?_eq_some_iff.mp e).1
    have hkm:=List.mem_of_getElem? e
    obtain⟨t,y,h1,h2⟩:=T.wo k hkm
    have hdr:ks.drop j=k::ks.drop (j+1):=by
     rw[List.drop_eq_getElem_cons hj]
     congr 1
     rw[List.getElem?_eq_getElem hj] at e
     exact Option.some.inj e
    have hk:ah < (k:Int):=hah k (by rw[hdr];exact List.mem_cons_self)
    refine⟨_,[.sh (za8 w),.sh (zbA ks),.sh (.int (k:Int)),.sh (.int (k:Int))],rfl,?_,_,_,rfl,fun v hv=>?_⟩
    ·have hn:=zn5 (T.lt k hkm)
     have hix:=zwQ h1
     rw[show za8 w=.tup [.lst (w.ps.map D.str),.lst (w.ts.map zcM),.str w.fi,.str w.la] from rfl] at hn ⊢
     rw[show zcM t=.tup [.str t.a,.str t.b,.str t.w,fr t.l,zfc t.o] from rfl,h2] at hix
     open_line with[hn,decide_eq_false (show ¬ (k:Int)<=ah by omega),hix,zfc,fr,zyB]
    ·have hp:(k::ks.drop (j+1)).Pairwise (· < ·):=by rw[← hdr];exact T.up.sublist (List.drop_sublist _ _)
     have:=(List.pairwise_cons.mp hp).1 v hv
     omega) ⟨-1,.no,rfl,fun v _=>by omega⟩
 have hw:=zuk W
 unfold zbA at hl ⊢
 open_line with[zaJ,zaY,hw,hl]
theorem zsS {xs:List Fra}{x:Fra}:tot (xs++[x])=un (tot xs) x:=by unfold tot;rw[List.foldl_append];rfl
def isW (w:Web)(k:Nat):Bool:=((w.ts[k]?).bind Tie.o).isSome
theorem zv0 {w:Web}{k:Nat}:isW w k=true↔∃ t x,w.ts[k]?=some t/\t.o=some x:=by
 unfold isW
 cases h:w.ts[k]? with
 | none=>simp
 | some t =>
  show(t.o).isSome=true↔_
  rw[Option.isSome_iff_exists]
  constructor
  ·rintro⟨x,hx⟩;exact⟨t,x,rfl,hx⟩
  ·rintro⟨t',x,h',hx⟩;cases h';exact⟨x,hx⟩
def zvg (i:Nat)(ρ:Ev)(d:D):Res Fl:=if zog d=true then .ok (.nx (ρ.set i (.sh d))) else .stuck
theorem zwb {i:Nat}{f:Ev->Res D}{ρ:Ev}:zs8 i f ρ=(f (shr ρ)).bind (zvg i ρ):=rfl
theorem zyT {i:Nat}{ρ:Ev}{x:Fra}:zvg i ρ (fr x)=.ok (.nx (ρ.set i (.sh (fr x)))):=rfl
theorem zzf {x:Fra}:dNe (fr x) (fr x)=.ok (.bl false):=by
 unfold dNe
 rw[if_pos ⟨znS x,znS x⟩,zp4];rfl
theorem zoD {n:Nat}{t:Tie}:za0 (n+3) (zcM t)=true:=by
 obtain⟨a,b,w,l,o⟩:=t
 cases o<;>cases n<;>rfl
theorem zk9 {c:Ev->Res D}{s:Ev->Res Fl}{n:Nat}{ρ ρ2:Ev}(h1:c (shr ρ)=.ok (.bl true))(h2:s ρ=.ok (.nx ρ2)):zbZ c s (n+1) ρ=zbZ c s n ρ2:=by
 conv=>lhs;unfold zbZ
 rw[h1,h2]
 rfl
theorem zhA {c:Ev->Res D}{s:Ev->Res Fl}{n:Nat}{ρ:Ev}(h1:c (shr ρ)=.ok (.bl false)):zbZ c s (n+1) ρ=.ok (.nx ρ):=by
 conv=>lhs;unfold zbZ
 rw[h1]
 rfl
end Com
namespace Cod
open PySem L2 DL Com
def zbN:Ev->Res Fl :=
 (zan (zsG 2 (zal zau zdw))
 (zan (zbb 3 (zal (zad (zaf 0) zau) (m1 zt8)))
 (zan (zbb 4 (zac (zac (zac (zaf 0) (dC (.int 2147483647)) zeA) (dC (.int 48271)) zdl) (dC (.int 2147483647)) zeA))
 (zan (zta (zal (zad (zaf 1) zau) (m1 zgR)) (zfD 5)
 (zan (sIf (zac (zal (zad (zaf 0) zau) (m1 zt8)) (zac (dC (.int 10)) (dC (.int 18)) zqh) dGe)
 (zan (zb2 2 (zac (zaf 3) (zac (zaf 1) (zaf 5) dIx) zeA))
 (zan (zbb 3 (zac (zaf 3) (zac (zaf 1) (zaf 5) dIx) zp8))
 zak))
 (zan (zbb 4 (zac (zac (zac (zac (zac (zaf 4) (zaf 4) zdl) (zac (dC (.int 69621)) (zaf 4) zdl) zbR) (zac (dC (.int 7919)) (zaf 5) zdl) zbR) (dC (.int 1000003)) zbR) (dC (.int 2147483647)) zeA))
 (zan (zb2 2 (zac (zac (zac (zaf 4) (dC (.int 39373)) zdl) (dC (.int 2147483629)) zeA) (zac (zaf 1) (zaf 5) dIx) zeA))
 zak)))
 zak))
 (zan (zcp (zaf 2))
 zak)))))
def zaB:List D->Res D:=zcH 6 zbN
theorem zwz:N60 < B9:=by rw[zyv];exact Nat.lt_of_lt_of_le (show N60 < 2 ^ 200 by decide) (Nat.pow_le_pow_right (by decide) (by decide))
theorem zpi {c:Int}:zt8 (.int c)=.ok (.int (c.natAbs:Int)):=by
 show Res.ok (D.int (if c < 0 then -c else c))=_
 congr 2
 split<;>omega
theorem draws_ok (c:Int)(sz:List Int)(hp:∀ s∈sz,0 < s/\s<=(N60:Int))(hn:sz.length<=900):∃ vs,zaB [.int c,.lst (sz.map D.int)]=.ok (.lst (vs.map D.int))/\Drawn sz vs:=by
 have hmix0:=zf1 (a:=c.fmod 2147483647*48271) (b:=2147483647) (by decide)
 have hcm:=zf1 (a:=c) (b:=2147483647) (by decide)
 obtain⟨ρ',hl,vs,hv,hb,lf,mx,x5,rfl,_⟩:=zrT (i:=5) (n:=sz.length)
  (ρ:=[.sh (.int c),.sh (.lst (sz.map D.int)),.ow (.lst []),.sh (.int (c.natAbs:Int)),.sh (.int ((c.fmod 2147483647*48271).fmod 2147483647)),.no])
  (body:=(zan (sIf (zac (zal (zad (zaf 0) zau) (m1 zt8)) (zac (dC (.int 10)) (dC (.int 18)) zqh) dGe)
 (zan (zb2 2 (zac (zaf 3) (zac (zaf 1) (zaf 5) dIx) zeA))
 (zan (zbb 3 (zac (zaf 3) (zac (zaf 1) (zaf 5) dIx) zp8))
 zak))
 (zan (zbb 4 (zac (zac (zac (zac (zac (zaf 4) (zaf 4) zdl) (zac (dC (.int 69621)) (zaf 4) zdl) zbR) (zac (dC (.int 7919)) (zaf 5) zdl) zbR) (dC (.int 1000003)) zbR) (dC (.int 2147483647)) zeA))
 (zan (zb2 2 (zac (zac (zac (zaf 4) (dC (.int 39373)) zdl) (dC (.int 2147483629)) zeA) (zac (zaf 1) (zaf 5) dIx) zeA))
 zak)))
 zak))
  (fun k ρ=>∃ vs:List Int,vs.length=k/\(∀ (i:Nat) (v s:Int),vs[i]?=some v->sz[i]?=some s->0<=v/\v < s)/\∃ (lf mx:Int) (x5:Sl),ρ=[.sh (.int c),.sh (.lst (sz.map D.int)),.ow (.lst (vs.map D.int)),.sh (.int lf),.sh (.int mx),x5]/\0<=mx/\mx < 2147483647) (by
   rintro k hk ρ ⟨vs,rfl,hb,lf,mx,x5,rfl,m0,m1_⟩
   have hs:=hp sz[vs.length] (List.getElem_mem hk)
   have hix:dIx (.lst (sz.map D.int)) (.int (vs.length:Int))=.ok (.int sz[vs.length]):=zfo (by rw[List.getElem?_map,List.getElem?_eq_getElem hk];rfl)
   have hsz0:(sz[vs.length]==0)=false:=beq_eq_false_iff_ne.mpr (by omega)
   have hap:decide ((vs.map D.int).length<=999)=true:=decide_eq_true (by rw[List.length_map];omega)
   have hbn:∀ v:Int,0<=v->v < sz[vs.length]->∀ (i:Nat) (u s:Int),(vs++[v])[i]?=some u->sz[i]?=some s->0<=u/\u < s:=fun v v0 v1 i u s e1 e2=>by
    by_cases hi:i < vs.length
    ·rw[List.getElem?_append_left hi] at e1;exact hb i u s e1 e2
    ·have:i=vs.length:=by
      have:=(List.getElem?_eq_some_iff.mp e1).1
      simp at this;omega
     subst this
     rw[List.getElem?_append_right (Nat.le_refl _),Nat.sub_self] at e1
     cases e1
     rw[List.getElem?_eq_getElem hk] at e2
     cases e2
     exact⟨v0,v1⟩
   by_cases hc:(1000000000000000000:Int)<=(c.natAbs:Int)
   ·have f:=zf1 (a:=lf) (b:=sz[vs.length]) hs.1
    have hdiv:zha lf sz[vs.length]=true:=zzu (by omega) (Nat.lt_of_le_of_lt (show sz[vs.length].natAbs<=N60 by omega) zwz)
    refine⟨[.sh (.int c),.sh (.lst (sz.map D.int)),.ow (.lst ((vs++[lf.fmod sz[vs.length]]).map D.int)),.sh (.int (lf.fdiv sz[vs.length])),.sh (.int mx),.sh (.int (vs.length:Int))],?_,vs++[lf.fmod sz[vs.length]],by simp,hbn _ f.1 f.2,_,_,_,rfl,m0,m1_⟩
    open_line with[zpi,ev_p18,decide_eq_true hc,decide_eq_true (show(c.natAbs:Int)≥1000000000000000000 from hc),hix,hsz0,ev_app1 hap,zr0 hdiv,List.map_append]
   ·have f1:=zf1 (a:=mx*mx+69621*mx+7919*(vs.length:Int)+1000003) (b:=2147483647) (by decide)
    generalize hmx:(mx*mx+69621*mx+7919*(vs.length:Int)+1000003).fmod 2147483647=my at f1
    have f:=zf1 (a:=(my*39373).fmod 2147483629) (b:=sz[vs.length]) hs.1
    have o1:zeh mx mx=true:=zgG (by omega) (by omega)
    have o2:zeh 69621 mx=true:=zgG (by decide) (by omega)
    have o3:zeh 7919 (vs.length:Int)=true:=zgG (by decide) (by omega)
    have o4:zeh my 39373=true:=zgG (by omega) (by decide)
    refine⟨[.sh (.int c),.sh (.lst (sz.map D.int)),.ow (.lst ((vs++[((my*39373).fmod 2147483629).fmod sz[vs.length]]).map D.int)),.sh (.int lf),.sh (.int my),.sh (.int (vs.length:Int))],?_,vs++[((my*39373).fmod 2147483629).fmod sz[vs.length]],by simp,hbn _ f.1 f.2,_,_,_,rfl,f1.1,f1.2⟩
    open_line with[zpi,ev_p18,decide_eq_false hc,decide_eq_false (show ¬ (c.natAbs:Int)≥1000000000000000000 from hc),zfW o1,zfW o2,zfW o3,hmx,zfW o4,hix,hsz0,ev_app1 hap,List.map_append]) ⟨[],rfl,fun i v s e=>(by simp at e),_,_,_,rfl,hmix0.1,hmix0.2⟩
 refine⟨vs,?_,hv,hb⟩
 have o0:zeh (c.fmod 2147483647) 48271=true:=zgG (by omega) (by decide)
 open_line with[zaB,zbN,zpi,zfW o0,List.length_map,ev_forR,zoZ (show sz.length<=1000000 by omega),hl]
def zfu:Ev->Res Fl :=
 (zan (zbb 2 (zal (zad (zaf 0) zau) (m1 zt8)))
 (zan (zbb 3 (zaf 1))
 (zan (zgV (zic 3) (zac (zaf 3) (dC (.int 0)) dNe)
 (zan (zsF 2 3 (zad (zaf 3) (zad (zac (zaf 2) (zaf 3) zeA) zau)))
 zak))
 (zan (zcp (zal (zad (zac (zaf 0) (zaf 2) zp8) (zad (zac (zaf 1) (zaf 2) zp8) zau)) zi9))
 zak))))
def zci:List D->Res D:=zcH 4 zfu
theorem zoV {A B:Sl}:∀ (n:Nat) (a b:Int),0<=a->0<=b->b.natAbs < n->zbZ (zac (zaf 3) (dC (.int 0)) dNe) (zan (zsF 2 3 (zad (zaf 3) (zad (zac (zaf 2) (zaf 3) zeA) zau))) zak) n [A,B,.sh (.int a),.sh (.int b)]=.ok (.nx [A,B,.sh (.int (Int.gcd a b:Int)),.sh (.int 0)])
 | 0,a,b,_,_,h=>absurd h (Nat.not_lt_zero _)
 | n+1,a,b,ha,hb,h=>by
  by_cases h0:b=0
  ·subst h0
   have hc:(zac (zaf 3) (dC (.int 0)) dNe) (shr [A,B,.sh (.int a),.sh (.int 0)])=.ok (.bl false):=by
    cases A<;>cases B<;>rfl
   rw[zhA hc]
   have:((Int.gcd a 0:Nat):Int)=a:=by rw[Int.gcd_zero_right];omega
   rw[this]
  ·have hc:(zac (zaf 3) (dC (.int 0)) dNe) (shr [A,B,.sh (.int a),.sh (.int b)])=.ok (.bl true):=by
    have:(b==0)=false:=beq_eq_false_iff_ne.mpr h0
    cases A<;>cases B<;>open_line with[this]
   have f:=zf1 (a:=a) (b:=b) (by omega)
   have hb0:(b==0)=false:=beq_eq_false_iff_ne.mpr h0
   rw[zk9 (ρ2:=[A,B,.sh (.int b),.sh (.int (a.fmod b))]) hc ?_,zoV n b (a.fmod b) (by omega) f.1 (by omega)]
   ·rw[zlv]
   ·cases A<;>cases B<;>open_line with[hb0]
theorem low_ok {a b:Int}(hb:0 < b)(h1:a.natAbs < B13)(h2:b.natAbs < B13):zci [.int a,.int b]=.ok (fr (low a b)):=by
 have hg:0 < (Int.gcd a b:Int):=zlw (by omega)
 have hgn:(Int.gcd (a.natAbs:Int) b:Int)=(Int.gcd a b:Int):=by
  congr 1
 have hl:=zoV (A:=.sh (.int a)) (B:=.sh (.int b)) (b.natAbs+1) (a.natAbs:Int) b (by omega) (by omega) (Nat.lt_succ_self _)
 rw[hgn] at hl
 have hwh:∀ (c:Ev->Res D) (s:Ev->Res Fl),zgV (zic 3) c s [.sh (.int a),.sh (.int b),.sh (.int (a.natAbs:Int)),.sh (.int b)]=zbZ c s (b.natAbs+1) [.sh (.int a),.sh (.int b),.sh (.int (a.natAbs:Int)),.sh (.int b)]:=fun _ _=>rfl
 have d1:(Int.gcd a b:Int)∣a:=Int.gcd_dvd_left ..
 have d2:(Int.gcd a b:Int)∣b:=Int.gcd_dvd_right ..
 have q1:zha a (Int.gcd a b:Int)=true:=zkX (by omega) h1
 have q2:zha b (Int.gcd a b:Int)=true:=zkX (by omega) h2
 have e1:a.fdiv (Int.gcd a b:Int)=a / (Int.gcd a b:Int):=zgJ hg
 have e2:b.fdiv (Int.gcd a b:Int)=b / (Int.gcd a b:Int):=zgJ hg
 open_line with[zci,zfu,zpi,hwh,hl,zr0 q1,zr0 q2,e1,e2]
 rfl
def zbK:Ev->Res Fl :=
 (zan (zbb 1 (zac (zal (zad (dC (.int 0)) (zad (zac (zac (zaf 0) (dC (.int 1)) dIx) (dC (.int 7)) zeA) (zad (zac (zac (zaf 0) (dC (.int 1)) dIx) (dC (.int 60)) zeA) (zad (zac (zaf 0) (dC (.int 1)) dIx) (zad (zac (zac (zaf 0) (dC (.int 1)) dIx) (dC (.int 1000)) zeA) zau))))) zdw) (zac (zaf 0) (dC (.int 0)) dIx) dIx))
 (zan (zbb 2 (zac (zal (zad (dC (.int 1)) (zad (dC (.int 1)) (zad (zac (dC (.int 1)) (zac (zaf 0) (dC (.int 2)) dIx) zbR) (zad (dC (.int 1)) (zad (zac (dC (.int 1)) (zac (zac (zaf 0) (dC (.int 2)) dIx) (dC (.int 4)) zeA) zbR) zau))))) zdw) (zac (zaf 0) (dC (.int 0)) dIx) dIx))
 (zan (zcp (zal (zad (zaf 1) (zad (zaf 2) zau)) zci))
 zak)))
def zaE:List D->Res D:=zcH 3 zbK
theorem fraction_ok {w a b:Int}(hw:0<=w/\w < 5)(ha:0<=a/\a < 1000000000000000000)(hb:0<=b/\b < 30):∃ x:Fra,zaE [.lst [.int w,.int a,.int b]]=.ok (fr x)/\zcZ x/\0<=x.1:=by
 have hN:(1000000000000000000000:Int) < (N60:Int):=by decide
 have f7:=zf1 (a:=a) (b:=7) (by decide)
 have f60:=zf1 (a:=a) (b:=60) (by decide)
 have f1000:=zf1 (a:=a) (b:=1000) (by decide)
 have f4:=zf1 (a:=b) (b:=4) (by decide)
 obtain⟨p,q,hp,hq,i1,i2⟩:∃ p q:Int,(0<=p/\p < 1000000000000000000)/\(1<=q/\q < 1000)/\dIx (.lst [.int 0,.int (a.fmod 7),.int (a.fmod 60),.int a,.int (a.fmod 1000)]) (.int w)=.ok (.int p)/\dIx (.lst [.int 1,.int 1,.int (1+b),.int 1,.int (1+b.fmod 4)]) (.int w)=.ok (.int q):=by
  have:w=0∨w=1∨w=2∨w=3∨w=4:=by omega
  rcases this with rfl | rfl | rfl | rfl | rfl
  ·exact⟨0,1,by decide,by decide,rfl,rfl⟩
  ·exact⟨a.fmod 7,1,by omega,by decide,rfl,rfl⟩
  ·exact⟨a.fmod 60,1+b,by omega,by omega,rfl,rfl⟩
  ·exact⟨a,1,by omega,by decide,rfl,rfl⟩
  ·exact⟨a.fmod 1000,1+b.fmod 4,by omega,by omega,rfl,rfl⟩
 have hlo:=low_ok (a:=p) (b:=q) (by omega) (zzY (by omega) (by omega)) (zzY (by omega) (by omega))
 refine⟨low p q,?_,zzg (by omega) (by omega) (by omega),zpU (by omega) (by omega)⟩
 open_line with[zaE,zbK,i1,i2,hlo]
def zeT:Ev->Res Fl :=
 (zan (zbb 2 (dC (.str "abcdefghijklmnopqrstuvwxyz")))
 (zan (zsG 3 (zal zau zdw))
 (zan (zta (zaf 1) (zfD 4)
 (zan (zbb 5 (zgQ (zaf 0) (zbL (zac (dC (.int 10)) (zaf 4) zdl)) (zbL (zac (zac (dC (.int 10)) (zaf 4) zdl) (dC (.int 10)) zbR))))
 (zan (zbb 6 (zsf (dC (.str "")) (zad (zdU 1 [2,5] (zqW (zac (dC (.int 1)) (zac (zaf 5) (dC (.int 0)) dIx) zbR)) (zfD 0) mYes (zac (zaf 1) (zac (zaf 2) (zac (dC (.int 2)) (zaf 0) zbR) dIx) dIx)) zau)))
 (zan (sIf (zhT (zac (zaf 4) (dC (.int 0)) dGt) (zac (zac (zaf 5) (dC (.int 1)) dIx) (dC (.int 0)) dEq))
 (zan (zs8 6 (zac (zgQ (zac (zaf 3) (zac (zaf 4) (dC (.int 1)) zpb) dIx) zde (zbL (zac (zaf 5) (dC (.int 0)) dIx))) (zac (zaf 2) (zac (zaf 5) (dC (.int 2)) dIx) dIx) zbR))
 zak)
 zak)
 (zan (zbb 7 (zac (zaf 5) (dC (.int 9)) dIx))
 (zan (zgV (fun _=>30) (zac (zaf 6) (zaf 3) dIn)
 (zan (zbb 7 (zac (zaf 7) (dC (.int 1)) zbR))
 (zan (zbb 6 (zac (zgQ (zaf 6) zde (zbL (za2 (dC (.int 1)) zsd))) (zac (zaf 2) (zac (zaf 7) (dC (.int 26)) zeA) dIx) zbR))
 zak)))
 (zan (zb2 3 (zaf 6))
 zak)))))))
 (zan (zcp (zaf 3))
 zak))))
def zb6:List D->Res D:=zcH 8 zeT
def S (cs:List Nat):Str:=⟨cs.toArray⟩
theorem zyq {a b:List Nat}(h:S a=S b):a=b:=by
 have:=congrArg (fun s:Str=>s.cps.toList) h
 simpa [S] using this
theorem zl0 (a:List Nat):(S a).length=a.length:=zyk a
structure zsA (cs:List Nat):Prop where
 l1:1<=cs.length
 l8:cs.length<=8
 ab:∀ x∈cs,zoc x=true
theorem zsA.nameB {cs:List Nat}(h:zsA cs):Com.nameB (S cs)=true:=by
 unfold Com.nameB
 rw[zl0]
 simp only[Bool.and_eq_true,decide_eq_true_eq]
 exact⟨h.l1,h.l8,List.all_eq_true.mpr fun x hx=>h.ab x (by simpa [S] using hx)⟩
def zju (css:List (List Nat)):List D:=css.map fun cs=>D.str (S cs)
theorem zm3 {css:List (List Nat)}{cs:List Nat}:dIn (.str (S cs)) (.lst (zju css))=.ok (.bl (decide (cs∈css))):=by
 have e:zju css=(css.map S).map D.str:=by unfold zju;rw[List.map_map];rfl
 rw[e,zel]
 congr 2
 apply decide_eq_decide.mpr
 constructor
 ·intro h
  obtain⟨b,hb,hs⟩:=List.mem_map.mp h
  rw[← zyq hs];exact hb
 ·exact fun h=>List.mem_map.mpr ⟨cs,h,rfl⟩
theorem zwl {cs:List Nat}(h:1<=cs.length)(h8:cs.length<=1000):zvd (.str (S cs)) none (some (-1))=.ok (.str (S cs.dropLast)):=by
 rw[zqY (by rw[zl0];exact h8)]
 congr 2
 have e1:Txt.slice (S cs) none (some (-1))=Txt.slice (S cs) none (some (-1+((S cs).length:Int))):=StrLaws.sliceText_neg_hi (S cs) none (by decide) (by rw[zl0];omega)
 rw[e1,zl0,show(-1+(cs.length:Int))=((cs.length-1:Nat):Int) by omega,show S cs=⟨cs.toArray⟩ from rfl,zle (by omega)]
 rw[List.dropLast_eq_take];rfl
def zj5 (pre:List Nat)(at_:Int)(i:Nat):List Nat:=pre++[97+((at_+(i:Int)).fmod 26).toNat]
theorem zwp {pre:List Nat}{at_:Int}{i:Nat}(hl:pre.length<=7)(hp:∀ x∈pre,zoc x=true):zsA (zj5 pre at_ i):=by
 have f:=zf1 (a:=at_+(i:Int)) (b:=26) (by decide)
 refine⟨by unfold zj5;simp,by unfold zj5;simp;omega,fun x hx=>?_⟩
 unfold zj5 at hx
 rw[List.mem_append] at hx
 rcases hx with hx | hx
 ·exact hp x hx
 ·have:x=97+((at_+(i:Int)).fmod 26).toNat:=by simpa using hx
  rw[this]
  exact zsw _ (by omega)
theorem zlq {α:Type}[DecidableEq α]:∀ {l m:List α},l.Nodup->(∀ x∈l,x∈m)->l.length<=m.length
 | [],_,_,_=>Nat.zero_le _
 | a::l,m,nd,h=>by
  rw[List.nodup_cons] at nd
  have ha:=h a List.mem_cons_self
  have:=zlq (l:=l) (m:=m.erase a) nd.2 fun x hx=>by
   have hne:x≠a:=fun z=>nd.1 (z▸hx)
   exact(List.mem_erase_of_ne hne).mpr (h x (List.mem_cons_of_mem _ hx))
  rw[List.length_erase_of_mem ha] at this
  have:=List.length_pos_of_mem ha
  simp only[List.length_cons]
  omega
theorem zsp {pre:List Nat}{at_:Int}{css:List (List Nat)}(h6:css.length<=6):∃ j,j<=6/\zj5 pre at_ (1+j)∉css:=by
 refine Classical.byContradiction fun hno=>?_
 have hall:∀ j,j<=6->zj5 pre at_ (1+j)∈css:=fun j hj=>Classical.byContradiction fun hn=>hno ⟨j,hj,hn⟩
 have nd:((List.range 7).map fun j=>zj5 pre at_ (1+j)).Nodup:=by
  rw[List.nodup_iff_pairwise_ne,List.pairwise_map]
  refine List.Pairwise.imp_of_mem ?_ List.pairwise_lt_range
  intro k j hk hj hlt heq
  rw[List.mem_range] at hk hj
  have h1:=List.append_inj_right heq rfl
  have h2:97+((at_+((1+k:Nat):Int)).fmod 26).toNat=97+((at_+((1+j:Nat):Int)).fmod 26).toNat:=by simpa using h1
  rw[Int.fmod_eq_emod_of_nonneg _ (by decide),Int.fmod_eq_emod_of_nonneg _ (by decide)] at h2
  omega
 have:=zlq nd (m:=css) fun x hx=>by
  obtain⟨j,hj,rfl⟩:=List.mem_map.mp hx
  rw[List.mem_range] at hj
  exact hall j (by omega)
 simp at this
 omega
theorem zrD {a b c e:D}{css:List (List Nat)}{cs:List Nat}{at_:Int}(h1:1<=cs.length)(h8:cs.length<=8):(zan (zbb 7 (zac (zaf 7) (dC (.int 1)) zbR))
 (zan (zbb 6 (zac (zgQ (zaf 6) zde (zbL (za2 (dC (.int 1)) zsd))) (zac (zaf 2) (zac (zaf 7) (dC (.int 26)) zeA) dIx) zbR))
 zak)) [.sh a,.sh b,.sh (.str "abcdefghijklmnopqrstuvwxyz"),.ow (.lst (zju css)),.sh c,.sh e,.sh (.str (S cs)),.sh (.int at_)]=.ok (.nx [.sh a,.sh b,.sh (.str "abcdefghijklmnopqrstuvwxyz"),.ow (.lst (zju css)),.sh c,.sh e,.sh (.str (S (cs.dropLast++[97+((at_+1).fmod 26).toNat]))),.sh (.int (at_+1))]):=by
 have f:=zf1 (a:=at_+1) (b:=26) (by decide)
 have hs:=zwl h1 (by omega)
 have hi:=zsv f.1 f.2
 have hadd:zbR (.str (S cs.dropLast)) (.str ⟨#[97+((at_+1).fmod 26).toNat]⟩)=.ok (.str (S (cs.dropLast++[97+((at_+1).fmod 26).toNat]))):=by
  have hln:(S cs.dropLast).length+(⟨#[97+((at_+1).fmod 26).toNat]⟩:Str).length<=1000:=by
   rw[zl0,List.length_dropLast]
   show cs.length-1+1<=1000
   omega
  rw[zph hln]
  exact congrArg (fun z=>Res.ok (D.str z)) (zng cs.dropLast [97+((at_+1).fmod 26).toNat])
 open_line with[hs,hi,hadd]
theorem zty {a b c e:D}{css:List (List Nat)}{pre:List Nat}{at_:Int}(hl:pre.length<=7):∀ (d i fuel:Nat),zj5 pre at_ (i+d)∉css->d < fuel->∃ i',zbZ (zac (zaf 6) (zaf 3) dIn)
 (zan (zbb 7 (zac (zaf 7) (dC (.int 1)) zbR))
 (zan (zbb 6 (zac (zgQ (zaf 6) zde (zbL (za2 (dC (.int 1)) zsd))) (zac (zaf 2) (zac (zaf 7) (dC (.int 26)) zeA) dIx) zbR))
 zak)) fuel [.sh a,.sh b,.sh (.str "abcdefghijklmnopqrstuvwxyz"),.ow (.lst (zju css)),.sh c,.sh e,.sh (.str (S (zj5 pre at_ i))),.sh (.int (at_+(i:Int)))]=.ok (.nx [.sh a,.sh b,.sh (.str "abcdefghijklmnopqrstuvwxyz"),.ow (.lst (zju css)),.sh c,.sh e,.sh (.str (S (zj5 pre at_ i'))),.sh (.int (at_+(i':Int)))])/\zj5 pre at_ i'∉css:=by
 intro d
 induction d with
 | zero =>
  intro i fuel hn hf
  obtain⟨f,rfl⟩:∃ f,fuel=f+1:=⟨fuel-1,by omega⟩
  have hn:zj5 pre at_ i∉css:=hn
  refine⟨i,?_,hn⟩
  rw[zhA]
  have:=zm3 (css:=css) (cs:=zj5 pre at_ i)
  rw[decide_eq_false hn] at this
  open_line with[this]
 | succ d ih =>
  intro i fuel hn hf
  obtain⟨f,rfl⟩:∃ f,fuel=f+1:=⟨fuel-1,by omega⟩
  by_cases hm:zj5 pre at_ i∈css
  ·obtain⟨i',h1,h2⟩:=ih (i+1) f (by rw[show i+1+d=i+(d+1) by omega];exact hn) (by omega)
   refine⟨i',?_,h2⟩
   have hst:=zrD (a:=a) (b:=b) (c:=c) (e:=e) (css:=css) (cs:=zj5 pre at_ i) (at_:=at_+(i:Int)) (by unfold zj5;simp) (by unfold zj5;simp;omega)
   have e1:(zj5 pre at_ i).dropLast++[97+((at_+(i:Int)+1).fmod 26).toNat]=zj5 pre at_ (i+1):=by
    unfold zj5
    rw[List.dropLast_concat,show at_+(i:Int)+1=at_+((i+1:Nat):Int) by omega]
   rw[e1,show at_+(i:Int)+1=at_+((i+1:Nat):Int) by omega] at hst
   rw[zk9 ?_ hst]
   ·exact h1
   ·have:=zm3 (css:=css) (cs:=zj5 pre at_ i)
    rw[decide_eq_true hm] at this
    open_line with[this]
  ·refine⟨i,?_,hm⟩
   rw[zhA]
   have:=zm3 (css:=css) (cs:=zj5 pre at_ i)
   rw[decide_eq_false hm] at this
   open_line with[this]
theorem zrC {a b c e:D}{css:List (List Nat)}{cs:List Nat}{at_:Int}(h6:css.length<=6)(h:zsA cs):∃ cs' at',zbZ (zac (zaf 6) (zaf 3) dIn)
 (zan (zbb 7 (zac (zaf 7) (dC (.int 1)) zbR))
 (zan (zbb 6 (zac (zgQ (zaf 6) zde (zbL (za2 (dC (.int 1)) zsd))) (zac (zaf 2) (zac (zaf 7) (dC (.int 26)) zeA) dIx) zbR))
 zak)) 30 [.sh a,.sh b,.sh (.str "abcdefghijklmnopqrstuvwxyz"),.ow (.lst (zju css)),.sh c,.sh e,.sh (.str (S cs)),.sh (.int at_)]=.ok (.nx [.sh a,.sh b,.sh (.str "abcdefghijklmnopqrstuvwxyz"),.ow (.lst (zju css)),.sh c,.sh e,.sh (.str (S cs')),.sh (.int at')])/\zsA cs'/\cs'∉css:=by
 by_cases hm:cs∈css
 ·have hpl:cs.dropLast.length<=7:=by rw[List.length_dropLast];have:=h.l8;omega
  obtain⟨j,hj,hn⟩:=zsp (pre:=cs.dropLast) (at_:=at_) (css:=css) h6
  obtain⟨i',h1,h2⟩:=zty (a:=a) (b:=b) (c:=c) (e:=e) hpl j 1 29 hn (by omega)
  refine⟨zj5 cs.dropLast at_ i',at_+(i':Int),?_,zwp hpl fun x hx=>h.ab x (List.dropLast_subset _ hx),h2⟩
  have hst:=zrD (a:=a) (b:=b) (c:=c) (e:=e) (css:=css) (cs:=cs) (at_:=at_) h.l1 h.l8
  rw[zk9 ?_ hst]
  ·exact h1
  ·have:=zm3 (css:=css) (cs:=cs)
   rw[decide_eq_true hm] at this
   open_line with[this]
 ·refine⟨cs,at_,?_,h,hm⟩
  rw[zhA]
  have:=zm3 (css:=css) (cs:=cs)
  rw[decide_eq_false hm] at this
  open_line with[this]
def dsz:List Int:=[8,3,26,26,26,26,26,26,26,26,8,3,26,26,26,26,26,26,26,26,8,3,26,26,26,26,26,26,26,26,8,3,26,26,26,26,26,26,26,26,8,3,26,26,26,26,26,26,26,26,8,3,26,26,26,26,26,26,26,26,8,3,26,26,26,26,26,26,26,26]
theorem zya:∀ k,k < 7->∀ j,j < 10->dsz[10*k+j]?=some (if j=0 then 8 else if j=1 then 3 else 26):=by decide
structure Ten (es:List Int):Prop where
 len:es.length=10
 e0:∃ v,es[0]?=some v/\0<=v/\v < 8
 e1:∃ v,es[1]?=some v/\0<=v/\v < 3
 el:∀ j,2<=j->j < 10->∃ v,es[j]?=some v/\0<=v/\v < 26
theorem zwR {ds:List Int}(W:Drawn dsz ds){k:Nat}(hk:k < 7):Ten ((ds.drop (10*k)).take 10):=by
 have hl:ds.length=70:=W.len
 have at_:∀ j,j < 10->∃ v,((ds.drop (10*k)).take 10)[j]?=some v/\0<=v/\v < (if j=0 then 8 else if j=1 then 3 else 26:Int):=fun j hj=>by
  rw[List.getElem?_take_of_lt hj,List.getElem?_drop]
  obtain⟨v,h1,h2,_⟩:=W.at (10*k+j) (zya k hk j hj)
  exact⟨v,h1,h2.1,h2.2⟩
 refine⟨by rw[List.length_take,List.length_drop];omega,?_,?_,fun j h2 h10=>?_⟩
 ·have:=at_ 0 (by decide);simpa using this
 ·have:=at_ 1 (by decide);simpa using this
 ·obtain⟨v,h⟩:=at_ j h10
  rw[if_neg (by omega),if_neg (by omega)] at h
  exact⟨v,h⟩
theorem Ten.ix {es:List Int}{j:Nat}{v:Int}(h:es[j]?=some v):dIx (.lst (es.map D.int)) (.int (j:Int))=.ok (.int v):=zfo (by rw[List.getElem?_map,h];rfl)
def zoC (d:D):Res (List D):=match d with
 | .int j=>if -4611686018427387904<=j/\j < 4611686018427387904 then .ok (intsFrom 0 j.toNat) else .stuck
 | _=>.stuck
theorem zlC {f:Ev->Res D}{ρ:Ev}:zqW f ρ=(f ρ).bind zoC:=zax rfl
theorem zqV {k:Nat}(h:k<=1000000):zoC (.int (k:Int))=.ok (intsFrom 0 k):=by
 unfold zoC
 dsimp only
 rw[if_pos ⟨by omega,by omega⟩,Int.toNat_natCast]
def first (es:List Int)(m:Nat):List Nat:=(List.range m).map fun j=>97+((es[2+j]?).getD 0).toNat
theorem ztZ {es:List Int}(T:Ten es){m:Nat}(h1:1<=m)(h8:m<=8):zsA (first es m):=by
 refine⟨by unfold first;simpa using h1,by unfold first;simpa using h8,fun x hx=>?_⟩
 unfold first at hx
 obtain⟨j,hj,rfl⟩:=List.mem_map.mp hx
 rw[List.mem_range] at hj
 obtain⟨v,e,b⟩:=T.el (2+j) (by omega) (by omega)
 rw[e,Option.getD_some]
 exact zsw _ (by omega)
theorem zp3 {es:List Int}(T:Ten es){m:Nat}(h8:m<=8){a b n k:D}{x6 x7:Sl}:zgj 1 [2,5] (zfD 0) mYes (zac (zaf 1) (zac (zaf 2) (zac (dC (.int 2)) (zaf 0) zbR) dIx) dIx) [.sh a,.sh b,.sh (.str "abcdefghijklmnopqrstuvwxyz"),.ow n,.sh k,.sh (.lst (es.map D.int)),x6,x7] (intsFrom 0 m)=.ok (.lst ((first es m).map fun c=>D.str ⟨#[c]⟩)):=by
 have hlen:(DL.intsFrom 0 m).length=m:=by unfold DL.intsFrom;simp
 rw[zgK (F:=fun d=>match d with | .int j=>.str ⟨#[97+((es[2+j.toNat]?).getD 0).toNat]⟩ | d=>d) (by rw[hlen];omega)]
 ·congr 2
  unfold DL.intsFrom first
  rw[List.map_map,List.map_map]
  apply List.map_congr_left
  intro j _
  show D.str ⟨#[97+((es[2+(0+(j:Int)).toNat]?).getD 0).toNat]⟩=_
  rw[show(0+(j:Int)).toNat=j by omega]
  rfl
 ·intro d hd
  unfold DL.intsFrom at hd
  obtain⟨j,hj,rfl⟩:=List.mem_map.mp hd
  rw[List.mem_range] at hj
  obtain⟨v,e,hb⟩:=T.el (2+j) (by omega) (by omega)
  refine⟨[.sh (.int (0+(j:Int))),.sh (.str "abcdefghijklmnopqrstuvwxyz"),.sh (.lst (es.map D.int))],rfl,rfl,?_⟩
  have hix:dIx (.lst (es.map D.int)) (.int (2+(0+(j:Int))))=.ok (.int v):=by
   rw[show(2+(0+(j:Int)))=((2+j:Nat):Int) by omega]
   exact Ten.ix e
  open_line with[hix,zsv hb.1 hb.2]
  rw[show(0+(j:Int)).toNat=j by omega,e]
  rfl
theorem zpF {z:Str}{j:Int}(h:(z.length:Int)<=j):Txt.slice z none (some j)=Txt.slice z none (some (z.length:Int)):=by
 show StrLaws.sliceText z none (some j)=StrLaws.sliceText z none (some (z.length:Int))
 have e:Builtin.Str.strSliceIndices none (some j) 1 z.length=Builtin.Str.strSliceIndices none (some (z.length:Int)) 1 z.length:=by
  have a:¬ j < 0:=by omega
  have b:¬ ((z.length:Int) < 0):=by omega
  have c:min j (z.length:Int)=(z.length:Int):=by omega
  have d:min (z.length:Int) (z.length:Int)=(z.length:Int):=by omega
  simp [Builtin.Str.strSliceIndices,a,b,c,d]
 unfold StrLaws.sliceText
 rw[e]
theorem zpQ {α:Type}{l:List α}{x:α}(h:l.Nodup)(hx:x∉l):(l++[x]).Nodup:=by
 rw[List.nodup_append]
 refine⟨h,by simp,fun a ha b hb=>?_⟩
 have:b=x:=by simpa using hb
 subst this
 intro z;subst z;exact hx ha
set_option maxHeartbeats 1000000 in
theorem ztA {ds:List Int}(W:Drawn dsz ds){n:Nat}(hn:n<=7):∃ css:List (List Nat),zb6 [.lst (ds.map D.int),.int (n:Int)]=.ok (.lst (zju css))/\css.length=n/\css.Nodup/\∀ cs∈css,zsA cs:=by
 have hdl:ds.length=70:=W.len
 obtain⟨ρ',hl,css,hc,hnd,hnm,x4,x5,x6,x7,rfl⟩:=zrT (i:=4) (n:=n)
  (ρ:=[.sh (.lst (ds.map D.int)),.sh (.int (n:Int)),.sh (.str "abcdefghijklmnopqrstuvwxyz"),.ow (.lst []),.no,.no,.no,.no])
  (body:=(zan (zbb 5 (zgQ (zaf 0) (zbL (zac (dC (.int 10)) (zaf 4) zdl)) (zbL (zac (zac (dC (.int 10)) (zaf 4) zdl) (dC (.int 10)) zbR))))
 (zan (zbb 6 (zsf (dC (.str "")) (zad (zdU 1 [2,5] (zqW (zac (dC (.int 1)) (zac (zaf 5) (dC (.int 0)) dIx) zbR)) (zfD 0) mYes (zac (zaf 1) (zac (zaf 2) (zac (dC (.int 2)) (zaf 0) zbR) dIx) dIx)) zau)))
 (zan (sIf (zhT (zac (zaf 4) (dC (.int 0)) dGt) (zac (zac (zaf 5) (dC (.int 1)) dIx) (dC (.int 0)) dEq))
 (zan (zs8 6 (zac (zgQ (zac (zaf 3) (zac (zaf 4) (dC (.int 1)) zpb) dIx) zde (zbL (zac (zaf 5) (dC (.int 0)) dIx))) (zac (zaf 2) (zac (zaf 5) (dC (.int 2)) dIx) dIx) zbR))
 zak)
 zak)
 (zan (zbb 7 (zac (zaf 5) (dC (.int 9)) dIx))
 (zan (zgV (fun _=>30) (zac (zaf 6) (zaf 3) dIn)
 (zan (zbb 7 (zac (zaf 7) (dC (.int 1)) zbR))
 (zan (zbb 6 (zac (zgQ (zaf 6) zde (zbL (za2 (dC (.int 1)) zsd))) (zac (zaf 2) (zac (zaf 7) (dC (.int 26)) zeA) dIx) zbR))
 zak)))
 (zan (zb2 3 (zaf 6))
 zak)))))))
  (fun k ρ=>∃ css:List (List Nat),css.length=k/\css.Nodup/\(∀ cs∈css,zsA cs)/\∃ x4 x5 x6 x7,ρ=[.sh (.lst (ds.map D.int)),.sh (.int (n:Int)),.sh (.str "abcdefghijklmnopqrstuvwxyz"),.ow (.lst (zju css)),x4,x5,x6,x7]) (by
   rintro k hk ρ ⟨css,rfl,hnd,hnm,x4,x5,x6,x7,rfl⟩
   have T:=zwR W (k:=css.length) (by omega)
   generalize hes:(ds.drop (10*css.length)).take 10=es at T
   have hcut:ze6 (ds.map D.int) (some (10*(css.length:Int))) (some (10*(css.length:Int)+10))=es.map D.int:=by
    rw[zpd (a:=10*css.length) (b:=10*css.length+10) (by omega) (by omega) (by omega) (by omega),show 10*css.length+10-10*css.length=10 by omega,hes]
   obtain⟨e0,g0,b0,b0'⟩:=T.e0
   obtain⟨e1,g1,b1,b1'⟩:=T.e1
   obtain⟨e2,g2,b2,b2'⟩:=T.el 2 (by decide) (by decide)
   obtain⟨e9,g9,b9,b9'⟩:=T.el 9 (by decide) (by decide)
   have i0:dIx (.lst (es.map D.int)) (.int 0)=.ok (.int e0):=Ten.ix (j:=0) g0
   have i1:dIx (.lst (es.map D.int)) (.int 1)=.ok (.int e1):=Ten.ix (j:=1) g1
   have i2:dIx (.lst (es.map D.int)) (.int 2)=.ok (.int e2):=Ten.ix (j:=2) g2
   have i9:dIx (.lst (es.map D.int)) (.int 9)=.ok (.int e9):=Ten.ix (j:=9) g9
   obtain⟨m,rfl⟩:=Int.eq_ofNat_of_zero_le b0
   have hm1:zeh 10 (css.length:Int)=true:=zgG (by decide) (by omega)
   have hsrc:zoC (.int (1+(m:Int)))=.ok (DL.intsFrom 0 (1+m)):=by
    rw[show(1+(m:Int))=((1+m:Nat):Int) by omega];exact zqV (by omega)
   have hjoin:=zpY (cs:=first es (1+m)) (by unfold first;simp;omega)
   have hF:=ztZ T (m:=1+m) (by omega) (by omega)
   have hcomp:=fun(x6 x7:Sl)=>zp3 T (m:=1+m) (by omega) (a:=.lst (ds.map D.int)) (b:=.int (n:Int)) (n:=.lst (zju css)) (k:=.int (css.length:Int)) (x6:=x6) (x7:=x7)
   have hwh:∀ (c:Ev->Res D) (s:Ev->Res Fl) (ρ:Ev),zgV (fun _=>30) c s ρ=zbZ c s 30 ρ:=fun _ _ _=>rfl
   have hap:decide ((zju css).length<=999)=true:=decide_eq_true (by unfold zju;rw[List.length_map];omega)
   have fin:∀ cs,cs∉css->zsA cs->(css++[cs]).Nodup/\∀ c∈css++[cs],zsA c:=fun cs h1 h2=>⟨zpQ hnd h1,fun c hc=>by
    rw[List.mem_append] at hc
    rcases hc with hc | hc
    ·exact hnm c hc
    ·have:c=cs:=by simpa using hc
     subst this;exact h2⟩
   have hmp:∀ cs,zju (css++[cs])=zju css++[.str (S cs)]:=fun cs=>by unfold zju;rw[List.map_append];rfl
   have hS:∀ cs:List Nat,(⟨cs.toArray⟩:Str)=S cs:=fun _=>rfl
   rw[hS] at hjoin
   cases hcc:(decide ((css.length:Int) > 0)&&(e1==0)) with
   | false =>
    obtain⟨cs',at',hw,hN,hO⟩:=zrC (a:=.lst (ds.map D.int)) (b:=.int (n:Int)) (c:=.int (css.length:Int)) (e:=.lst (es.map D.int)) (css:=css) (cs:=first es (1+m)) (at_:=e9) (by omega) hF
    refine⟨[.sh (.lst (ds.map D.int)),.sh (.int (n:Int)),.sh (.str "abcdefghijklmnopqrstuvwxyz"),.ow (.lst (zju (css++[cs']))),.sh (.int (css.length:Int)),.sh (.lst (es.map D.int)),.sh (.str (S cs')),.sh (.int at')],?_,css++[cs'],by simp,(fin cs' hO hN).1,(fin cs' hO hN).2,_,_,_,_,rfl⟩
    rw[hmp]
    by_cases hk0:(css.length:Int) > 0
    ·have h10:(e1==0)=false:=by rw[decide_eq_true hk0] at hcc;simpa using hcc
     open_line with[zfW hm1,hcut,i0,zlC,hsrc,hcomp,hjoin,decide_eq_true hk0,i1,h10,i9,hwh,hw,ev_app1 hap]
    ·open_line with[zfW hm1,hcut,i0,zlC,hsrc,hcomp,hjoin,decide_eq_false hk0,i9,hwh,hw,ev_app1 hap]
   | true =>
    rw[Bool.and_eq_true,decide_eq_true_eq] at hcc
    have hk0:=hcc.1
    have hlast:css.length-1 < css.length:=by omega
    have hpx:=hnm css[css.length-1] (List.getElem_mem hlast)
    have hixn:dIx (.lst (zju css)) (.int ((css.length:Int)-1))=.ok (.str (S css[css.length-1])):=by
     rw[show((css.length:Int)-1)=((css.length-1:Nat):Int) by omega]
     exact zfo (by unfold zju;rw[List.getElem?_map,List.getElem?_eq_getElem hlast];rfl)
    generalize css[css.length-1]=pv at hixn hpx
    have hsl:zvd (.str (S pv)) none (some (m:Int))=.ok (.str (S (pv.take m))):=by
     rw[zqY (by rw[zl0];have:=hpx.l8;omega)]
     by_cases hmm:m<=pv.length
     ·exact congrArg (fun z=>Res.ok (D.str z)) (zle hmm)
     ·rw[zpF (by rw[zl0];omega),zl0]
      refine congrArg (fun z=>Res.ok (D.str z)) ((zle (Nat.le_refl _)).trans ?_)
      rw[List.take_length,List.take_of_length_le (by omega)];rfl
    have hadd:zbR (.str (S (pv.take m))) (.str ⟨#[97+e2.toNat]⟩)=.ok (.str (S (pv.take m++[97+e2.toNat]))):=by
     have hln:(S (pv.take m)).length+(⟨#[97+e2.toNat]⟩:Str).length<=1000:=by
      rw[zl0,List.length_take]
      show min m pv.length+1<=1000
      omega
     rw[zph hln]
     exact congrArg (fun z=>Res.ok (D.str z)) (zng (pv.take m) [97+e2.toNat])
    have hset:∀ (i:Nat) (ρ:Ev) (z:Str),zvg i ρ (.str z)=.ok (.nx (ρ.set i (.sh (.str z)))):=fun _ _ _=>rfl
    have hF2:zsA (pv.take m++[97+e2.toNat]):=by
     refine⟨by simp,by simp;omega,fun x hx=>?_⟩
     rw[List.mem_append] at hx
     rcases hx with hx | hx
     ·exact hpx.ab x (List.mem_of_mem_take hx)
     ·have:x=97+e2.toNat:=by simpa using hx
      rw[this];exact zsw _ (by omega)
    obtain⟨cs',at',hw,hN,hO⟩:=zrC (a:=.lst (ds.map D.int)) (b:=.int (n:Int)) (c:=.int (css.length:Int)) (e:=.lst (es.map D.int)) (css:=css) (cs:=pv.take m++[97+e2.toNat]) (at_:=e9) (by omega) hF2
    refine⟨[.sh (.lst (ds.map D.int)),.sh (.int (n:Int)),.sh (.str "abcdefghijklmnopqrstuvwxyz"),.ow (.lst (zju (css++[cs']))),.sh (.int (css.length:Int)),.sh (.lst (es.map D.int)),.sh (.str (S cs')),.sh (.int at')],?_,css++[cs'],by simp,(fin cs' hO hN).1,(fin cs' hO hN).2,_,_,_,_,rfl⟩
    rw[hmp]
    open_line with[zfW hm1,hcut,i0,zlC,hsrc,hcomp,hjoin,decide_eq_true hk0,i1,hcc.2,zpb,hixn,hsl,i2,zsv b2 b2',hadd,zwb,hset,i9,hwh,hw,ev_app1 hap]) ⟨[],rfl,List.nodup_nil,fun c hc=>(nomatch hc),_,_,_,_,rfl⟩
 refine⟨css,?_,hc,hnd,hnm⟩
 open_line with[zb6,zeT,ev_forR,zoZ (show n<=1000000 by omega),hl]
def zcl:Ev->Res Fl :=
 (zan (zbb 3 (zal (zad (zaf 0) (zad (zal (zad (dC (.int 420)) (zad (dC (.int 60)) (zad (dC (.int 2)) (zad (dC (.int 5)) (zad (zac (dC (.int 10)) (dC (.int 18)) zqh) (zad (dC (.int 30)) (zad (dC (.int 6)) (zad (dC (.int 5)) (zad (zac (dC (.int 10)) (dC (.int 18)) zqh) (zad (dC (.int 30)) (zad (dC (.int 3)) zau))))))))))) zdw) zau)) zaB))
 (zan (zbb 4 (zac (zac (zaf 3) (dC (.int 0)) dIx) (zal (zad (zaf 2) zau) (m1 zgR)) zeA))
 (zan (zbb 5 (zac (zac (zac (zaf 4) (dC (.int 1)) zbR) (zac (zac (zaf 3) (dC (.int 1)) dIx) (zac (zal (zad (zaf 2) zau) (m1 zgR)) (dC (.int 1)) zpb) zeA) zbR) (zal (zad (zaf 2) zau) (m1 zgR)) zeA))
 (zan (sIf (zac (zac (zaf 3) (dC (.int 10)) dIx) (dC (.int 0)) dEq)
 (zan (zbb 4 (zac (zaf 1) (zac (zal (zad (zaf 2) zau) (m1 zgR)) (dC (.int 1)) zpb) zeA))
 (zan (zbb 5 (zac (zaf 4) (dC (.int 1)) zbR))
 zak))
 zak)
 (zan (zbb 6 (dC (.non)))
 (zan (sIf (zac (zac (zaf 3) (dC (.int 6)) dIx) (dC (.int 0)) dGt)
 (zan (zbb 6 (zal (zad (zgQ (zaf 3) (zbL (dC (.int 7))) (zbL (dC (.int 10)))) zau) zaE))
 (zan (sIf (zac (zac (zaf 6) (dC (.int 0)) dIx) (dC (.int 0)) dEq)
 (zan (zbb 6 (zal (zad (dC (.int 1)) (zad (dC (.int 1)) zau)) zi9))
 zak)
 zak)
 zak))
 zak)
 (zan (zcp (zal (zad (zac (zaf 2) (zaf 4) dIx) (zad (zac (zaf 2) (zaf 5) dIx) (zad (zac (zal (zad (dC (.str "one")) (zad (dC (.str "both")) zau)) zdw) (zac (zaf 3) (dC (.int 2)) dIx) dIx) (zad (zal (zad (zgQ (zaf 3) (zbL (dC (.int 3))) (zbL (dC (.int 6)))) zau) zaE) (zad (zaf 6) zau))))) zi9))
 zak)))))))
def za9:List D->Res D:=zcH 7 zcl
theorem zqA:zcZ (1,1)/\0 < ((1,1):Fra).1:=⟨⟨⟨by decide,by decide⟩,by decide,by decide⟩,by decide⟩
set_option maxHeartbeats 1000000 in
theorem zwP {zs:List Str}{c:Int}{k:Nat}(h2:2<=zs.length)(h8:zs.length<=8)(nd:zs.Nodup):∃ t,za9 [.int c,.int (k:Int),.lst (zs.map D.str)]=.ok (zcM t)/\znt zs t:=by
 obtain⟨vs,hd,W⟩:=draws_ok c [420,60,2,5,1000000000000000000,30,6,5,1000000000000000000,30,3] (by decide) (by decide)
 have hd':zaB [.int c,.lst [.int 420,.int 60,.int 2,.int 5,.int 1000000000000000000,.int 30,.int 6,.int 5,.int 1000000000000000000,.int 30,.int 3]]=.ok (.lst (vs.map D.int)):=hd
 obtain⟨d0,g0,b0,i0⟩:=W.ix 0 0 rfl rfl
 obtain⟨d1,g1,b1,i1⟩:=W.ix 1 1 rfl rfl
 obtain⟨d2,g2,b2,i2⟩:=W.ix 2 2 rfl rfl
 obtain⟨d3,g3,b3,_⟩:=W.at 3 rfl
 obtain⟨d4,g4,b4,_⟩:=W.at 4 rfl
 obtain⟨d5,g5,b5,_⟩:=W.at 5 rfl
 obtain⟨d6,g6,b6,i6⟩:=W.ix 6 6 rfl rfl
 obtain⟨d7,g7,b7,_⟩:=W.at 7 rfl
 obtain⟨d8,g8,b8,_⟩:=W.at 8 rfl
 obtain⟨d9,g9,b9,_⟩:=W.at 9 rfl
 obtain⟨d10,g10,b10,i10⟩:=W.ix 10 10 rfl rfl
 have c3:=zz0 (x:=3) (y:=6) (i:=3) rfl rfl g3 g4 g5
 have c7:=zz0 (x:=7) (y:=10) (i:=7) rfl rfl g7 g8 g9
 obtain⟨x,hx,fx,lx⟩:=fraction_ok (w:=d3) (a:=d4) (b:=d5) b3 b4 b5
 obtain⟨y,hy,fy,ly⟩:=fraction_ok (w:=d7) (a:=d8) (b:=d9) b7 b8 b9
 obtain⟨wd,hw,jw⟩:=zuU b2.1 b2.2
 have hn0:((zs.length:Int)==0)=false:=beq_eq_false_iff_ne.mpr (by omega)
 have hn1:((zs.length:Int)-1==0)=false:=beq_eq_false_iff_ne.mpr (by omega)
 obtain⟨p,q,hp,hq,hpq,hplace⟩:∃ p q:Int,(0<=p/\p < (zs.length:Int))/\(0<=q/\q < (zs.length:Int))/\p≠q/\(((d10==0)=true/\p=(k:Int).fmod ((zs.length:Int)-1)/\q=p+1)∨((d10==0)=false/\p=d0.fmod (zs.length:Int)/\q=(d0.fmod (zs.length:Int)+1+d1.fmod ((zs.length:Int)-1)).fmod (zs.length:Int))):=by
  cases h10:(d10==0) with
  | true =>
   have f:=zf1 (a:=(k:Int)) (b:=(zs.length:Int)-1) (by omega)
   exact⟨(k:Int).fmod ((zs.length:Int)-1),(k:Int).fmod ((zs.length:Int)-1)+1,by omega,by omega,by omega,.inl ⟨rfl,rfl,rfl⟩⟩
  | false =>
   have f:=zf1 (a:=d0) (b:=(zs.length:Int)) (by omega)
   have f':=zf1 (a:=d1) (b:=(zs.length:Int)-1) (by omega)
   obtain⟨hr,hne⟩:=znr (n:=(zs.length:Int)) (d:=d0.fmod (zs.length:Int)) (e:=d1.fmod ((zs.length:Int)-1)) (by omega) f.1 f.2 f'.1 f'.2
   exact⟨_,_,f,hr,Ne.symm hne,.inr ⟨rfl,rfl,rfl⟩⟩
 obtain⟨z1,k1,j1⟩:=zup (zs:=zs) hp.1 hp.2
 obtain⟨z2,k2,j2⟩:=zup (zs:=zs) hq.1 hq.2
 have hz12:z1≠z2:=zoR nd k1 k2 (by omega)
 have f1:dIx (fr y) (.int 0)=.ok (.int y.1):=rfl
 obtain⟨o,ho,hworth⟩:∃ o:Option Fra,(∀ v,o=some v->zcZ v/\0 < v.1)/\((¬ d6 > 0/\o=none)∨(d6 > 0/\(y.1==0)=true/\o=some (1,1))∨(d6 > 0/\(y.1==0)=false/\o=some y)):=by
  by_cases h6:d6 > 0
  ·cases hy0:(y.1==0) with
   | true=>exact⟨some (1,1),fun v hv=>by cases hv;exact zqA,.inr (.inl ⟨h6,rfl,rfl⟩)⟩
   | false=>exact⟨some y,fun v hv=>by cases hv;exact⟨fy,by have:y.1≠0:=beq_eq_false_iff_ne.mp hy0;omega⟩,.inr (.inr ⟨h6,rfl,rfl⟩)⟩
  ·exact⟨none,fun v hv=>(nomatch hv),.inl ⟨h6,rfl⟩⟩
 refine⟨⟨z1,z2,wd,x,o⟩,?_,List.mem_of_getElem? k1,List.mem_of_getElem? k2,hz12,hw,fx,lx,ho⟩
 rw[show zcM ⟨z1,z2,wd,x,o⟩=.tup [.str z1,.str z2,.str wd,fr x,zfc o] from rfl]
 rcases hplace with⟨h10,e1,e2⟩ | ⟨h10,e1,e2⟩<;>rcases hworth with⟨h6,e3⟩ | ⟨h6,hy0,e3⟩ | ⟨h6,hy0,e3⟩<;>subst e3
 ·rw[e2,e1] at j2;rw[e1] at j1
  open_line with[za9,zcl,ev_p18,hd',i0,i1,i2,i6,i10,List.length_map,hn0,hn1,zpb,h10,decide_eq_false h6,j1,j2,jw,c3,hx]
  rfl
 ·rw[e2,e1] at j2;rw[e1] at j1
  open_line with[za9,zcl,ev_p18,hd',i0,i1,i2,i6,i10,List.length_map,hn0,hn1,zpb,h10,decide_eq_true h6,c7,hy,f1,hy0,j1,j2,jw,c3,hx]
  rfl
 ·rw[e2,e1] at j2;rw[e1] at j1
  open_line with[za9,zcl,ev_p18,hd',i0,i1,i2,i6,i10,List.length_map,hn0,hn1,zpb,h10,decide_eq_true h6,c7,hy,f1,hy0,j1,j2,jw,c3,hx]
  rfl
 ·rw[e2] at j2;rw[e1] at j1
  open_line with[za9,zcl,ev_p18,hd',i0,i1,i2,i6,i10,List.length_map,hn0,hn1,zpb,h10,decide_eq_false h6,j1,j2,jw,c3,hx]
  rfl
 ·rw[e2] at j2;rw[e1] at j1
  open_line with[za9,zcl,ev_p18,hd',i0,i1,i2,i6,i10,List.length_map,hn0,hn1,zpb,h10,decide_eq_true h6,c7,hy,f1,hy0,j1,j2,jw,c3,hx]
  rfl
 ·rw[e2] at j2;rw[e1] at j1
  open_line with[za9,zcl,ev_p18,hd',i0,i1,i2,i6,i10,List.length_map,hn0,hn1,zpb,h10,decide_eq_true h6,c7,hy,f1,hy0,j1,j2,jw,c3,hx]
  rfl
def zcJ:Ev->Res Fl :=
 (zan (zbb 1 (zal (zad (zac (zac (zaf 0) (zal (zad (dC (.int 0)) zau) zdw) zbR) (dC (.int 0)) dIx) (zad (zac (zac (zal (zad (dC (.int 6)) (zad (dC (.int 420)) (zad (dC (.int 60)) zau))) zdw) (zq8 (zac (zal (zad (dC (.int 8)) (zad (dC (.int 3)) zau)) zdw) (zq8 (zal (zad (dC (.int 26)) zau) zdw) (dC (.int 8))) zqj) (dC (.int 7))) zbR) (zal (zad (dC (.int 18)) zau) zdw) zbR) zau)) zaB))
 (zan (zbb 2 (zal (zad (dC (.int 14)) (zad (zac (zaf 1) (dC (.int 73)) dIx) zau)) (m2 zzA)))
 (zan (zcp (zal (zad (zgQ (zaf 0) (zbL (dC (.int 1))) (zbL (zac (dC (.int 1)) (zaf 2) zbR))) (zad (zgQ (zaf 0) (zbL (zac (dC (.int 1)) (zaf 2) zbR)) (zbL (dC (.int 63)))) zau)) zi9))
 zak)))
def zaX:List D->Res D:=zcH 3 zcJ
def hd0 (ns:List Int):Int:=(ns++[0]).headD 0
theorem zrQ {ns:List Int}(hn:ns.length<=900){ρ:Ev}(h:ρ[0]?=some (.sh (.lst (ns.map D.int)))):(zac (zac (zaf 0) (zal (zad (dC (.int 0)) zau) zdw) zbR) (dC (.int 0)) dIx) ρ=.ok (.int (hd0 ns)):=by
 have hadd:zbR (.lst (ns.map D.int)) (.lst [.int 0])=.ok (.lst ((ns++[0]).map D.int)):=by
  rw[ev_addL (decide_eq_true (by rw[List.length_map];simp;omega)),List.map_append];rfl
 have hix:dIx (.lst ((ns++[0]).map D.int)) (.int 0)=.ok (.int (hd0 ns)):=by
  refine zfo (k:=0) ?_
  unfold hd0
  cases ns<;>rfl
 have hv:zaf 0 ρ=.ok (.lst (ns.map D.int)):=by
  show(match ρ[0]? with | some (.sh d)=>Res.ok d | _=>.stuck)=_
  rw[h]
 rw[ev_b2,ev_b2,hv]
 open_line with[hadd,hix]
def szW:List Int:=[6,420,60]++dsz
def szC:List Int:=szW++[18]
theorem zw0 {ρ:Ev}:(zac (zal (zad (dC (.int 6)) (zad (dC (.int 420)) (zad (dC (.int 60)) zau))) zdw) (zq8 (zac (zal (zad (dC (.int 8)) (zad (dC (.int 3)) zau)) zdw) (zq8 (zal (zad (dC (.int 26)) zau) zdw) (dC (.int 8))) zqj) (dC (.int 7))) zbR) ρ=.ok (.lst (szW.map D.int)):=rfl
theorem zw1 {ρ:Ev}:(zac (zac (zal (zad (dC (.int 6)) (zad (dC (.int 420)) (zad (dC (.int 60)) zau))) zdw) (zq8 (zac (zal (zad (dC (.int 8)) (zad (dC (.int 3)) zau)) zdw) (zq8 (zal (zad (dC (.int 26)) zau) zdw) (dC (.int 8))) zqj) (dC (.int 7))) zbR) (zal (zad (dC (.int 18)) zau) zdw) zbR) ρ=.ok (.lst (szC.map D.int)):=rfl
theorem zwn {ns:List Int}{lo hi:Option Int}:∃ ms:List Int,ze6 (ns.map D.int) lo hi=ms.map D.int/\ms.length<=ns.length:=by
 rw[zim]
 exact⟨_,rfl,Nat.le_trans (List.length_take_le' ..) (by rw[List.length_drop];omega)⟩
theorem zub {ns:List Int}(hn:ns.length<=63):∃ c1 c2:List Int,zaX [.lst (ns.map D.int)]=.ok (.tup [.lst (c1.map D.int),.lst (c2.map D.int)])/\c1.length<=14/\c2.length<=63:=by
 obtain⟨vs,hd,W⟩:=draws_ok (hd0 ns) szC (by decide) (by decide)
 obtain⟨d,g,b,i⟩:=W.ix 73 73 rfl rfl
 have hmin:zzA (.int 14) (.int d)=.ok (.int (min 14 d)):=by
  show Res.ok (D.int (if d < 14 then d else 14))=_
  congr 2
  split<;>omega
 obtain⟨c2,hc2,hl2⟩:=zwn (ns:=ns) (lo:=some (1+min 14 d)) (hi:=some 63)
 obtain⟨m,hm⟩:=Int.eq_ofNat_of_zero_le (show 0<=min 14 d by omega)
 have hc1:∃ c1:List Int,ze6 (ns.map D.int) (some 1) (some (1+min 14 d))=c1.map D.int/\c1.length<=14:=by
  rw[zim]
  refine⟨_,rfl,Nat.le_trans (List.length_take_le ..) ?_⟩
  rw[hm,show(1+(m:Int))=((1+m:Nat):Int) by omega,HT.sIx_nat,show(1:Int)=((1:Nat):Int) from rfl,HT.sIx_nat]
  omega
 obtain⟨c1,hc1,hl1⟩:=hc1
 refine⟨c1,c2,?_,hl1,by omega⟩
 have hh:=zrQ (ns:=ns) (by omega) (ρ:=[.sh (.lst (ns.map D.int)),.no,.no]) rfl
 rw[zaX,zcJ]
 rw[ev_run]
 show((zan _ _) [.sh (.lst (ns.map D.int)),.no,.no]).bind zxe=_
 rw[ev_seq,ev_set,ev_bA,ev_cons,hh,ev_ok,ev_cons1,ev_cons,zw1]
 open_line with[hd,i,hmin,hc1,hc2]
def zft:Ev->Res Fl :=
 (zan (zbb 1 (zal (zad (zac (zac (zaf 0) (zal (zad (dC (.int 0)) zau) zdw) zbR) (dC (.int 0)) dIx) (zad (zac (zal (zad (dC (.int 6)) (zad (dC (.int 420)) (zad (dC (.int 60)) zau))) zdw) (zq8 (zac (zal (zad (dC (.int 8)) (zad (dC (.int 3)) zau)) zdw) (zq8 (zal (zad (dC (.int 26)) zau) zdw) (dC (.int 8))) zqj) (dC (.int 7))) zbR) zau)) zaB))
 (zan (zbb 2 (zal (zad (zgQ (zaf 1) (zbL (dC (.int 3))) zde) (zad (zac (dC (.int 2)) (zac (zaf 1) (dC (.int 0)) dIx) zbR) zau)) zb6))
 (zan (zbb 3 (zac (zac (zaf 1) (dC (.int 1)) dIx) (zal (zad (zaf 2) zau) (m1 zgR)) zeA))
 (zan (zbb 4 (zac (zac (zac (zaf 3) (dC (.int 1)) zbR) (zac (zac (zaf 1) (dC (.int 2)) dIx) (zac (zal (zad (zaf 2) zau) (m1 zgR)) (dC (.int 1)) zpb) zeA) zbR) (zal (zad (zaf 2) zau) (m1 zgR)) zeA))
 (zan (zbb 5 (zdU 2 [3,4] (zpE (zaf 2)) (zf2 [0,1]) (zac (zaf 0) (zal (zad (zaf 2) (zad (zaf 3) zau)) zi9) zbz) (zaf 1)))
 (zan (zbb 6 (zac (zac (zal (zad (zac (zaf 2) (zaf 3) dIx) zau) zdw) (zaf 5) zbR) (zal (zad (zac (zaf 2) (zaf 4) dIx) zau) zdw) zbR))
 (zan (zbb 7 (zdU 2 [6] (zpE (zac (zal (zad (zaf 0) zau) zaX) (dC (.int 0)) dIx)) (zf2 [0,1]) mYes (zal (zad (zaf 1) (zad (zaf 0) (zad (zaf 2) zau))) za9)))
 (zan (zcp (zal (zad (zaf 2) (zad (zaf 7) (zad (zac (zaf 2) (zaf 3) dIx) (zad (zac (zaf 2) (zaf 4) dIx) zau)))) zi9))
 zak))))))))
def zch:List D->Res D:=zcH 8 zft
theorem zgX {zs:List Str}:zaP 0 (zs.map D.str)=(List.range zs.length).map fun(k:Nat)=>D.tup [.int (k:Int),.str (zs[k]?.getD ("" : Str))]:=by
 apply List.ext_getElem?
 intro i
 rw[zb3,List.getElem?_map,List.getElem?_map]
 by_cases h:i < zs.length
 ·rw[List.getElem?_eq_getElem h,List.getElem?_range h]
  simp
  rw[List.getElem?_eq_getElem h];rfl
 ·rw[List.getElem?_eq_none (by omega),List.getElem?_eq_none (by simp;omega)];rfl
theorem zrA {k f l:Nat}:zbz (.int (k:Int)) (.tup [.int (f:Int),.int (l:Int)])=.ok (.bl (!(decide (k=f)||decide (k=l)))):=by
 have e:inD (.int (k:Int)) (.tup [.int (f:Int),.int (l:Int)])=some (decide (k=f)||decide (k=l)):=by
  have e0:inD (.int (k:Int)) (.tup [.int (f:Int),.int (l:Int)])=some (((f:Int)==(k:Int))||(((l:Int)==(k:Int))||false)):=rfl
  rw[e0]
  refine congrArg some ?_
  show(((f:Int)==(k:Int))||(((l:Int)==(k:Int))||false))=_
  rw[Bool.or_false]
  congr 1
  ·by_cases h:k=f
   ·subst h;simp
   ·rw[decide_eq_false h];exact beq_eq_false_iff_ne.mpr (by omega)
  ·by_cases h:k=l
   ·subst h;simp
   ·rw[decide_eq_false h];exact beq_eq_false_iff_ne.mpr (by omega)
 unfold zbz
 rw[e]
def zuf (zs:List Str)(f l:Nat):List Str:=((List.range zs.length).filter fun k=>!(decide (k=f)||decide (k=l))).map fun(k:Nat)=>zs[k]?.getD ("" : Str)
theorem zst {zs:List Str}{f l:Nat}(h:zs.length<=8){a b x5 x6 x7:Sl}:zgj 2 [3,4] (zf2 [0,1]) (zac (zaf 0) (zal (zad (zaf 2) (zad (zaf 3) zau)) zi9) zbz) (zaf 1) [a,b,.sh (.lst (zs.map D.str)),.sh (.int (f:Int)),.sh (.int (l:Int)),x5,x6,x7] (zaP 0 (zs.map D.str))=.ok (.lst ((zuf zs f l).map D.str)):=by
 rw[zer (F:=fun d=>match d with | .tup [_,z]=>z | d=>d) (p:=fun d=>match d with | .tup [.int k,_]=>!(decide (k.toNat=f)||decide (k.toNat=l)) | _=>false) (by rw[zbM,List.length_map];omega)]
 ·congr 2
  rw[zgX]
  unfold zuf
  rw[List.filter_map,List.map_map,List.map_map]
  rfl
 ·intro d hd
  rw[zgX] at hd
  obtain⟨k,_,rfl⟩:=List.mem_map.mp hd
  refine⟨[.sh (.int (k:Int)),.sh (.str (zs[k]?.getD ("" : Str))),.sh (.int (f:Int)),.sh (.int (l:Int))],rfl,?_,fun _=>rfl⟩
  open_line with[zrA,Int.toNat_natCast]
def zqf (zs:List Str)(f l:Nat):List Str:=(zs[f]?.getD ("" : Str))::(zuf zs f l++[zs[l]?.getD ("" : Str)])
def wix (n f l:Nat):List Nat:=f::((List.range n).filter (fun k=>!(decide (k=f)||decide (k=l)))++[l])
theorem zoy {zs:List Str}{f l:Nat}:zqf zs f l=(wix zs.length f l).map fun(k:Nat)=>zs[k]?.getD ("" : Str):=by
 unfold zqf wix zuf
 rw[List.map_cons,List.map_append];rfl
theorem zwM {n f l:Nat}(hfl:f≠l):(wix n f l).Nodup:=by
 unfold wix
 rw[List.nodup_cons,List.nodup_append]
 refine⟨fun h=>?_,List.nodup_range.filter _,by simp,fun a ha b hb=>?_⟩
 ·rw[List.mem_append] at h
  rcases h with h | h
  ·have:=(List.mem_filter.mp h).2
   simp at this
  ·exact hfl (by simpa using h)
 ·have hb':b=l:=by simpa using hb
  subst hb'
  intro z;subst z
  have:=(List.mem_filter.mp ha).2
  simp at this
theorem zqB {n f l:Nat}(hf:f < n)(hl:l < n):∀ k∈wix n f l,k < n:=fun k hk=>by
 unfold wix at hk
 rw[List.mem_cons,List.mem_append] at hk
 rcases hk with rfl | hk | hk
 ·exact hf
 ·exact List.mem_range.mp (List.mem_filter.mp hk).1
 ·have:k=l:=by simpa using hk
  subst this;exact hl
theorem zqC {zs:List Str}(nd:zs.Nodup){f l:Nat}(hf:f < zs.length)(hl:l < zs.length)(hfl:f≠l):(zqf zs f l).Nodup:=by
 rw[zoy,List.nodup_iff_pairwise_ne,List.pairwise_map]
 refine List.Pairwise.imp_of_mem ?_ (List.nodup_iff_pairwise_ne.mp (zwM hfl))
 intro a b ha hb hab
 have h1:=zqB hf hl a ha
 have h2:=zqB hf hl b hb
 rw[List.getElem?_eq_getElem h1,List.getElem?_eq_getElem h2,Option.getD_some,Option.getD_some]
 exact fun z=>hab ((List.getElem_inj nd).mp z)
theorem zla {zs:List Str}{f l:Nat}(hf:f < zs.length)(hl:l < zs.length):∀ z∈zqf zs f l,z∈zs:=fun z hz=>by
 rw[zoy] at hz
 obtain⟨k,hk,rfl⟩:=List.mem_map.mp hz
 have h1:=zqB hf hl k hk
 rw[List.getElem?_eq_getElem h1,Option.getD_some]
 exact List.getElem_mem h1
theorem zsQ {zs:List Str}(nd:zs.Nodup){f l:Nat}(hf:f < zs.length)(hl:l < zs.length)(hfl:f≠l):2<=(zqf zs f l).length/\(zqf zs f l).length<=zs.length:=by
 refine⟨by unfold zqf;simp,zlq (zqC nd hf hl hfl) (zla hf hl)⟩
theorem zqL {ws:List Str}{cs:List Int}(h2:2<=ws.length)(h8:ws.length<=8)(nd:ws.Nodup)(h14:cs.length<=14){x0 x1 x2 x3 x4 x5 x7:Sl}:∃ ts:List Tie,zgj 2 [6] (zf2 [0,1]) mYes (zal (zad (zaf 1) (zad (zaf 0) (zad (zaf 2) zau))) za9) [x0,x1,x2,x3,x4,x5,.sh (.lst (ws.map D.str)),x7] (zaP 0 (cs.map D.int))=.ok (.lst (ts.map zcM))/\ts.length=cs.length/\∀ t∈ts,znt ws t:=by
 have key:∀ (c:Int) (k:Nat),∃ t,za9 [.int c,.int (k:Int),.lst (ws.map D.str)]=.ok (zcM t)/\znt ws t:=fun c k=>zwP h2 h8 nd
 obtain⟨g,hg⟩:∃ g:Int->Nat->Tie,∀ (c:Int) (k:Nat),za9 [.int c,.int (k:Int),.lst (ws.map D.str)]=.ok (zcM (g c k))/\znt ws (g c k):=⟨fun c k=>Classical.choose (key c k),fun c k=>Classical.choose_spec (key c k)⟩
 refine⟨(List.range cs.length).map fun(k:Nat)=>g (cs[k]?.getD 0) k,?_,by simp,fun t ht=>?_⟩
 ·rw[zgK (F:=fun d=>match d with | .tup [.int k,.int c]=>zcM (g c k.toNat) | d=>d) (by rw[zbM,List.length_map];omega)]
  ·congr 2
   apply List.ext_getElem?
   intro i
   rw[List.getElem?_map,zb3,List.getElem?_map,List.getElem?_map,List.getElem?_map]
   by_cases h:i < cs.length
   ·rw[List.getElem?_eq_getElem h,List.getElem?_range h]
    show some (zcM (g cs[i] (((0+i:Nat):Int)).toNat))=some (zcM (g (cs[i]?.getD 0) i))
    rw[List.getElem?_eq_getElem h,Option.getD_some,Int.toNat_natCast,Nat.zero_add]
   ·rw[List.getElem?_eq_none (by omega),List.getElem?_eq_none (by simp;omega)];rfl
  ·intro d hd
   obtain⟨i,hi⟩:=List.mem_iff_getElem?.mp hd
   rw[zb3,List.getElem?_map] at hi
   cases e:cs[i]? with
   | none=>rw[e] at hi;cases hi
   | some c =>
    rw[e] at hi
    have hi':D.tup [.int ((0+i:Nat):Int),.int c]=d:=Option.some.inj hi
    rw[Nat.zero_add] at hi'
    subst hi'
    refine⟨[.sh (.int (i:Int)),.sh (.int c),.sh (.lst (ws.map D.str))],rfl,rfl,?_⟩
    have h:=(hg c i).1
    open_line with[h,Int.toNat_natCast]
 ·obtain⟨k,_,rfl⟩:=List.mem_map.mp ht
  exact(hg _ _).2
set_option maxHeartbeats 1000000 in
theorem web_cells {ns:List Int}(hn:ns.length<=63):∃ w,∃ c1 c2:List Int,zaX [.lst (ns.map D.int)]=.ok (.tup [.lst (c1.map D.int),.lst (c2.map D.int)])/\c2.length<=63/\w.ts.length=c1.length/\zch [.lst (ns.map D.int)]=.ok (za8 w)/\zgt w:=by
 obtain⟨vs,hd,W⟩:=draws_ok (hd0 ns) szW (by decide) (by decide)
 have hvl:vs.length=73:=W.len
 obtain⟨d0,g0,b0,i0⟩:=W.ix 0 0 rfl rfl
 obtain⟨d1,g1,b1,i1⟩:=W.ix 1 1 rfl rfl
 obtain⟨d2,g2,b2,i2⟩:=W.ix 2 2 rfl rfl
 have W3:Drawn dsz (vs.drop 3):=⟨by rw[List.length_drop,hvl];rfl,fun i v s e1 e2=>by
  rw[List.getElem?_drop] at e1
  refine W.bnd (3+i) v s e1 ?_
  have:szW[3+i]?=dsz[i]?:=by
   unfold szW
   rw[List.getElem?_append_right (by simp)]
   simp
  rw[this];exact e2⟩
 obtain⟨m,rfl⟩:=Int.eq_ofNat_of_zero_le b0.1
 obtain⟨css,hnm,hcl,hnd,hall⟩:=ztA W3 (n:=2+m) (by omega)
 have hnm':zb6 [.lst ((vs.drop 3).map D.int),.int (2+(m:Int))]=.ok (.lst ((css.map S).map D.str)):=by
  have:zju css=(css.map S).map D.str:=by unfold zju;rw[List.map_map];rfl
  rw[← this];exact hnm
 have hzl:(css.map S).length=2+m:=by rw[List.length_map,hcl]
 have nd:(css.map S).Nodup:=by
  rw[List.nodup_iff_pairwise_ne,List.pairwise_map]
  exact List.Pairwise.imp (fun h z=>h (zyq z)) (List.nodup_iff_pairwise_ne.mp hnd)
 have nm:zkc (css.map S):=⟨nd,fun z hz=>by
  obtain⟨cs,hc,rfl⟩:=List.mem_map.mp hz
  exact(hall cs hc).nameB⟩
 generalize css.map S=zs at *
 have hcut:ze6 (vs.map D.int) (some 3) none=(vs.drop 3).map D.int:=by
  rw[zim,HT.sIx_none,show(3:Int)=((3:Nat):Int) from rfl,HT.sIx_nat,hvl]
  rw[List.take_of_length_le (by rw[List.length_drop];omega)]
  rfl
 have hn0:((zs.length:Int)==0)=false:=beq_eq_false_iff_ne.mpr (by omega)
 have hn1:((zs.length:Int)-1==0)=false:=beq_eq_false_iff_ne.mpr (by omega)
 have f1:=zf1 (a:=d1) (b:=(zs.length:Int)) (by omega)
 have f2:=zf1 (a:=d2) (b:=(zs.length:Int)-1) (by omega)
 obtain⟨hr,hne⟩:=znr (n:=(zs.length:Int)) (d:=d1.fmod (zs.length:Int)) (e:=d2.fmod ((zs.length:Int)-1)) (by omega) f1.1 f1.2 f2.1 f2.2
 obtain⟨f,hf⟩:=Int.eq_ofNat_of_zero_le f1.1
 obtain⟨l,hl⟩:=Int.eq_ofNat_of_zero_le hr.1
 have hfn:f < zs.length:=by omega
 have hln:l < zs.length:=by omega
 have hfl:f≠l:=by omega
 have hixf:dIx (.lst (zs.map D.str)) (.int (f:Int))=.ok (.str zs[f]):=zfo (by rw[List.getElem?_map,List.getElem?_eq_getElem hfn];rfl)
 have hixl:dIx (.lst (zs.map D.str)) (.int (l:Int))=.ok (.str zs[l]):=zfo (by rw[List.getElem?_map,List.getElem?_eq_getElem hln];rfl)
 obtain⟨c1,c2,hcells,hc1,hc2⟩:=zub hn
 obtain⟨w2,w8⟩:=zsQ nd hfn hln hfl
 have hwl:(zuf zs f l).length+2=(zqf zs f l).length:=by unfold zqf;simp
 have a1:zbR (.lst [.str zs[f]]) (.lst ((zuf zs f l).map D.str))=.ok (.lst (.str zs[f]::(zuf zs f l).map D.str)):=by
  rw[ev_addL (decide_eq_true (by rw[List.length_map];simp;omega))];rfl
 have a2:zbR (.lst (.str zs[f]::(zuf zs f l).map D.str)) (.lst [.str zs[l]])=.ok (.lst ((zqf zs f l).map D.str)):=by
  rw[ev_addL (decide_eq_true (by simp;omega))]
  unfold zqf
  rw[List.map_cons,List.map_append,List.getElem?_eq_getElem hfn,List.getElem?_eq_getElem hln]
  rfl
 have hh:=zrQ (ns:=ns) (by omega) (ρ:=[.sh (.lst (ns.map D.int)),.no,.no,.no,.no,.no,.no,.no]) rfl
 obtain⟨ts,hts,htl,htall⟩:=zqL (ws:=zqf zs f l) (cs:=c1) w2 (by omega) (zqC nd hfn hln hfl) hc1 (x0:=.sh (.lst (ns.map D.int))) (x1:=.sh (.lst (vs.map D.int))) (x2:=.sh (.lst (zs.map D.str))) (x3:=.sh (.int (f:Int))) (x4:=.sh (.int (l:Int))) (x5:=.sh (.lst ((zuf zs f l).map D.str))) (x7:=.no)
 refine⟨⟨zs,ts,zs[f],zs[l]⟩,c1,c2,hcells,hc2,htl,?_,⟨by show 2<=zs.length;omega,by show zs.length<=7;omega,nm,by show ts.length<=14;omega,fun t ht=>?_,List.getElem_mem hfn,List.getElem_mem hln,fun z=>hfl ((List.getElem_inj nd).mp z)⟩⟩
 ·rw[zch,zft,ev_run]
  show((zan _ _) [.sh (.lst (ns.map D.int)),.no,.no,.no,.no,.no,.no,.no]).bind zxe=_
  rw[ev_seq,ev_set,ev_bA,ev_cons,hh,ev_ok,ev_cons1,ev_cons,zw0]
  open_line with[hd,hcut,i0,hnm',i1,i2,List.length_map,hn0,hn1,zpb,hf]
  rw[hf] at hl
  open_line with[hl,ev_comp,ev_srcE,ev_srcE1,zst (show zs.length<=8 by omega),hixf,hixl,a1,a2,hcells,hts]
  rfl
 ·have T:=htall t ht
  exact⟨zla hfn hln _ T.a,zla hfn hln _ T.b,T.ne,T.w,T.l,T.l0,T.o⟩
end Cod
namespace DL
open PySem L2
section
variable {α β:Type}
def Rf (a b:Res α):Prop:=a=.stuck∨a=b
theorem zcn {a b:Res α}{f g:α->Res β}(h:Rf a b)(k:∀ x,Rf (f x) (g x)):Rf (a.bind f) (b.bind g):=by
 rcases h with rfl | rfl
 ·exact .inl rfl
 ·cases a with
  | ok x=>exact k x
  | exn x=>exact .inr rfl
  | stuck=>exact .inl rfl
structure RfF (f g:Ev->Res α):Prop where
 o:∀ ρ,Rf (f ρ) (g ρ)
end
structure RfM (f g:List D->Res D):Prop where
 o:∀ ds,Rf (f ds) (g ds)
theorem RfM.ok {f g:List D->Res D}(h:RfM f g){ds:List D}{d:D}(e:f ds=.ok d):g ds=.ok d:=by
 rcases h.o ds with q | q
 ·rw[q] at e;cases e
 ·rw[← q];exact e
theorem rfm_refl {f:List D->Res D}:RfM f f:=⟨fun _=>.inr rfl⟩
theorem rf_refl {α:Type}{f:Ev->Res α}:RfF f f:=⟨fun _=>.inr rfl⟩
section
variable {s s' t t':Ev->Res Fl}{c c' f f':Ev->Res D}{fa fa':Ev->Res (List D)}{m m':List D->Res D}
theorem rf_stuck:RfF zdt s:=⟨fun _=>.inl rfl⟩
theorem rf_seq (h1:RfF s s')(h2:RfF t t'):RfF (zan s t) (zan s' t'):=⟨fun ρ=>zcn (h1.o ρ) fun r=>by
 cases r with
 | nx ρ'=>exact h2.o ρ'
 | _=>exact .inr rfl⟩
theorem rf_if (hc:RfF c c')(h1:RfF s s')(h2:RfF t t'):RfF (sIf c s t) (sIf c' s' t'):=⟨fun ρ=>zcn (hc.o _) fun r=>by
 cases r with
 | bl b=>cases b with
  | true=>exact h1.o ρ
  | false=>exact h2.o ρ
 | _=>exact .inr rfl⟩
theorem zli {tg:Ev->D->Res Ev}(h:RfF s s'):∀ (ds:List D) (ρ:Ev),Rf (zdy tg s ds ρ) (zdy tg s' ds ρ)
 | [],ρ=>.inr rfl
 | d::r,ρ=>by
  unfold zdy
  refine zcn (.inr rfl) fun ρ1=>zcn (h.o ρ1) fun x=>?_
  cases x with
  | nx ρ2=>exact zli h r ρ2
  | ct ρ2=>exact zli h r ρ2
  | bk ρ2=>exact .inr rfl
  | rt d=>exact .inr rfl
theorem rf_for {tg:Ev->D->Res Ev}(hf:RfF f f')(h:RfF s s'):RfF (zoG f tg s) (zoG f' tg s'):=⟨fun ρ=>zcn (hf.o ρ) fun d=>by
 cases d with
 | lst ds=>exact zli h ds ρ
 | _=>exact .inr rfl⟩
theorem rf_forI {tg:Ev->D->Res Ev}{src:Ev->Res (List D)}(h:RfF s s'):RfF (zi1 src tg s) (zi1 src tg s'):=⟨fun ρ=>zcn (.inr rfl) fun ds=>zli h ds ρ⟩
theorem rf_drop (h:RfF f f'):RfF (zhE f) (zhE f'):=⟨fun ρ=>zcn (h.o _) fun _=>.inr rfl⟩
theorem rf_ret (h:RfF f f'):RfF (zcp f) (zcp f'):=⟨fun ρ=>zcn (h.o _) fun _=>.inr rfl⟩
theorem rf_set {i:Nat}(h:RfF f f'):RfF (zbb i f) (zbb i f'):=⟨fun ρ=>zcn (h.o _) fun _=>.inr rfl⟩
theorem rf_b1 {op:D->Res D}(h:RfF f f'):RfF (za2 f op) (za2 f' op):=⟨fun ρ=>zcn (h.o _) fun _=>.inr rfl⟩
theorem rf_not (h:RfF f f'):RfF (zdk f) (zdk f'):=rf_b1 h
theorem rf_b2 {op:D->D->Res D}(h:RfF f f')(h2:RfF c c'):RfF (zac f c op) (zac f' c' op):=⟨fun ρ=>zcn (h.o _) fun _=>zcn (h2.o _) fun _=>.inr rfl⟩
theorem rf_bA (h:RfF fa fa')(hm:RfM m m'):RfF (zal fa m) (zal fa' m'):=⟨fun ρ=>zcn (h.o _) fun ds=>hm.o ds⟩
theorem rf_cons (h:RfF f f')(h2:RfF fa fa'):RfF (zad f fa) (zad f' fa'):=⟨fun ρ=>zcn (h.o _) fun _=>zcn (h2.o _) fun _=>.inr rfl⟩
theorem zjk {n:Nat}(h:RfF s s'):RfM (zcH n s) (zcH n s'):=⟨fun ds=>zcn (h.o _) fun r=>.inr rfl⟩
end
end DL
local macro_rules | `(tactic| open_line with[rf_go])=>`(tactic| repeat (first | with_reducible exact DL.rf_refl | with_reducible exact DL.rf_stuck | with_reducible assumption | with_reducible exact DL.rfm_refl | with_reducible refine DL.rf_seq ?_ ?_ | with_reducible refine DL.rf_if ?_ ?_ ?_ | with_reducible refine DL.rf_for ?_ ?_ | with_reducible refine DL.rf_forI ?_ | with_reducible refine DL.rf_drop ?_ | with_reducible refine DL.rf_ret ?_ | with_reducible refine DL.rf_set ?_ | with_reducible refine DL.rf_not ?_ | with_reducible refine DL.rf_bA ?_ ?_ | with_reducible refine DL.rf_cons ?_ ?_ | with_reducible refine DL.rf_b1 ?_ | with_reducible refine DL.rf_b2 ?_ ?_))
namespace Wex
open PySem L2 DL Com
def zaZ:Ev->Res Fl :=
 (zan (sIf (dOr (zdk (za2 (zaf 0) (zcj "list"))) (zdk (zgi dLe dLe (dC (.int 2)) (zal (zad (zaf 0) zau) (m1 zgR)) (dC (.int 7)))))
 (zan (zfA "NoWeb" 2 (zad (dC (.str "places")) (zad (dC (.non)) zau)))
 zak)
 zak)
 (zan (zi1 (zpE (zaf 0)) (zf2 [1,2])
 (zan (sIf (dOr (zdk (zal (zad (zaf 2) zau) zb4)) (zac (zaf 2) (zgQ (zaf 0) zde (zbL (zaf 1))) dIn))
 (zan (zfA "NoWeb" 2 (zad (dC (.str "places")) (zad (zaf 1) zau)))
 zak)
 zak)
 zak))
 zak))
def zaK:List D->Res D:=zcH 3 zaZ
def zbk:Ev->Res Fl :=
 (zan (sIf (dOr (zdk (za2 (zaf 0) (zcj "list"))) (zac (zal (zad (zaf 0) zau) (m1 zgR)) (dC (.int 14)) dGt))
 (zan (zfA "NoWeb" 2 (zad (dC (.str "ties")) (zad (dC (.non)) zau)))
 zak)
 zak)
 (zan (zi1 (zpE (zaf 0)) (zf2 [2,3])
 (zan (sIf (dOr (zdk (zal (zad (zaf 3) zau) zeH)) (dOr (zac (zac (zaf 3) (dC (.int 0)) dIx) (zaf 1) zbz) (zac (zac (zaf 3) (dC (.int 1)) dIx) (zaf 1) zbz)))
 (zan (zfA "NoWeb" 2 (zad (dC (.str "ties")) (zad (zaf 2) zau)))
 zak)
 zak)
 zak))
 zak))
def zaV:List D->Res D:=zcH 4 zbk
def zbi:Ev->Res Fl :=
 (zan (sIf (dOr (zdk (za2 (zaf 0) (zcj "tuple"))) (zac (zal (zad (zaf 0) zau) (m1 zgR)) (dC (.int 4)) dNe))
 (zan (zfA "NoWeb" 2 (zad (dC (.str "web")) (zad (dC (.non)) zau)))
 zak)
 zak)
 (zan (zhE (zal (zad (zac (zaf 0) (dC (.int 0)) dIx) zau) zaK))
 (zan (zhE (zal (zad (zac (zaf 0) (dC (.int 1)) dIx) (zad (zac (zaf 0) (dC (.int 0)) dIx) zau)) zaV))
 (zan (sIf (zdk (zal (zad (zac (zaf 0) (dC (.int 2)) dIx) (zad (zac (zaf 0) (dC (.int 0)) dIx) zau)) za1))
 (zan (zfA "NoWeb" 2 (zad (dC (.str "first")) (zad (dC (.non)) zau)))
 zak)
 zak)
 (zan (sIf (dOr (zdk (zal (zad (zac (zaf 0) (dC (.int 3)) dIx) (zad (zac (zaf 0) (dC (.int 0)) dIx) zau)) za1)) (zac (zac (zaf 0) (dC (.int 3)) dIx) (zac (zaf 0) (dC (.int 2)) dIx) dEq))
 (zan (zfA "NoWeb" 2 (zad (dC (.str "last")) (zad (dC (.non)) zau)))
 zak)
 zak)
 zak)))))
def zaQ:List D->Res D:=zcH 1 zbi
def zaY:Ev->Res Fl :=
 (zan (zhE (zal (zad (zaf 0) zau) zaQ))
 (zan (sIf (zdk (za2 (zaf 1) (zcj "list")))
 (zan (zfT "NoTaking" (zad (dC (.str "a taking is a list")) zau))
 zak)
 zak)
 (zan (zbb 2 (za2 (dC (.int 1)) zsd))
 (zan (zoG (zaf 1) (zfD 3)
 (zan (sIf (dOr (zdk (zal (zad (zaf 0) (zad (zaf 3) zau)) za7)) (zac (zaf 3) (zaf 2) dLe))
 (zan (zfT "NoTaking" (zad (dC (.str "a taking is of rising numbers of ties")) zau))
 zak)
 zak)
 (zan (sIf (zac (zac (zac (zac (zaf 0) (dC (.int 1)) dIx) (zaf 3) dIx) (dC (.int 4)) dIx) (dC (.non)) zpc)
 (zan (zfT "NoTaking" (zad (dC (.str "a watched tie can't be taken")) zau))
 zak)
 zak)
 (zan (zbb 2 (zaf 3))
 zak))))
 zak))))
def zaJ:List D->Res D:=zcH 4 zaY
def ze8:Ev->Res Fl :=
 (zan (sIf (dOr (zdk (zal (zad (zaf 0) zau) zbI)) (zdk (zal (zad (zaf 1) zau) zbI)))
 (zan (zfT "NoNumber" (zad (dC (.str "a fraction is made of two whole numbers")) zau))
 zak)
 zak)
 (zan (sIf (zac (zaf 1) (dC (.int 0)) dEq)
 (zan (zfT "NoNumber" (zad (dC (.str "a fraction's second number is not 0")) zau))
 zak)
 zak)
 (zan (zbb 2 (zal (zad (zaf 0) (zad (zaf 1) zau)) zbc))
 (zan (sIf (zac (zaf 1) (dC (.int 0)) dLt)
 (zan (zbb 2 (za2 (zaf 2) zsd))
 zak)
 zak)
 (zan (zcp (zal (zad (zac (zaf 0) (zaf 2) zp8) (zad (zac (zaf 1) (zaf 2) zp8) zau)) zi9))
 zak)))))
def ze1:List D->Res D:=zcH 3 ze8
def zhV:Ev->Res Fl :=
 (zan (zcp (zal (zad (zac (zac (zac (zaf 0) (dC (.int 0)) dIx) (zac (zaf 1) (dC (.int 1)) dIx) zdl) (zac (zac (zaf 1) (dC (.int 0)) dIx) (zac (zaf 0) (dC (.int 1)) dIx) zdl) zbR) (zad (zac (zac (zaf 0) (dC (.int 1)) dIx) (zac (zaf 1) (dC (.int 1)) dIx) zdl) zau)) ze1))
 zak)
def zgY:List D->Res D:=zcH 2 zhV
def zdY:Ev->Res Fl :=
 (zan (zbb 1 (dC (.tup [(.int 0),(.int 1)])))
 (zan (zoG (zaf 0) (zfD 2)
 (zan (zbb 1 (zal (zad (zaf 1) (zad (zaf 2) zau)) zgY))
 zak))
 (zan (zcp (zaf 1))
 zak)))
def zeF:List D->Res D:=zcH 3 zdY
theorem zq6:RfM Com.zaK zaK:=zjk (by unfold Com.zaZ zaZ;open_line with[rf_go])
theorem zvk:RfM Com.zaV zaV:=zjk (by unfold Com.zbk zbk;open_line with[rf_go])
theorem zur:RfM Com.zaQ zaQ:=by
 have h1:=zq6;have h2:=zvk
 exact zjk (by unfold Com.zbi zbi;open_line with[rf_go])
theorem zq5:RfM Com.zaJ zaJ:=by
 have h1:=zur
 exact zjk (by unfold Com.zaY zaY;open_line with[rf_go])
theorem zte:RfM Com.ze1 ze1:=zjk (by unfold Com.ze8 ze8;open_line with[rf_go])
theorem zvl:RfM Com.zgY zgY:=by
 have h1:=zte
 exact zjk (by unfold Com.zhV zhV;open_line with[rf_go])
theorem rf_sum:RfM Com.zeF zeF:=by
 have h1:=zvl
 exact zjk (by unfold Com.zdY zdY;open_line with[rf_go])
theorem webX {w:Web}(W:zgt w):zaQ [za8 w]=.ok .non:=zur.ok (zuk W)
theorem takingX {w:Web}{ks:List Nat}(W:zgt w)(T:zlZ w ks):zaJ [za8 w,zbA ks]=.ok .non:=zq5.ok (zqM W T)
section
variable {d t p:D}{x:Exn}
end
end Wex
namespace K35
open PySem L2 DL
def zgI:List (Str×Bool):=[("NoNumber",true),("NoRooms",true),("NoSide",true),("NoTaking",true),("NoWeb",true)]
def zu3:Str->Option Bool:=zmt [("NoNumber",false),("NoRooms",false),("NoSide",false),("NoTaking",false),("NoWeb",false)]
def zu2:Str->Option Bool:=zmt [("NoNumber",false),("NoRooms",true),("NoSide",false),("NoTaking",false),("NoWeb",false)]
def zu1:Str->Option Bool:=zmt [("NoNumber",false),("NoRooms",false),("NoSide",true),("NoTaking",false),("NoWeb",false)]
def zu0:Str->Option Bool:=zmt [("NoNumber",true),("NoRooms",true),("NoSide",true),("NoTaking",true),("NoWeb",true)]
abbrev zaB:List D->Res D:=Cod.zaB
abbrev zb6:List D->Res D:=Cod.zb6
abbrev zaX:List D->Res D:=Cod.zaX
abbrev zci:List D->Res D:=Cod.zci
abbrev zaE:List D->Res D:=Cod.zaE
abbrev za9:List D->Res D:=Cod.za9
abbrev zch:List D->Res D:=Cod.zch
def zeS:Ev->Res Fl :=
 (zan (zbb 1 (zal (zad (dC (.int 420)) (zad (dC (.int 60)) (zad (dC (.int 2)) (zad (dC (.int 5)) (zad (zac (dC (.int 10)) (dC (.int 18)) zqh) (zad (dC (.int 30)) (zad (dC (.int 6)) (zad (dC (.int 5)) (zad (zac (dC (.int 10)) (dC (.int 18)) zqh) (zad (dC (.int 30)) (zad (dC (.int 3)) (zad (dC (.int 5)) (zad (zac (dC (.int 10)) (dC (.int 18)) zqh) (zad (dC (.int 30)) zau)))))))))))))) zdw))
 (zan (zcp (zdU 1 [1] (zsE (zac (zal (zad (zaf 0) zau) zaX) (dC (.int 0)) dIx)) (zfD 0) mYes (zal (zad (zgQ (zal (zad (zaf 0) (zad (zaf 1) zau)) zaB) (zbL (dC (.int 11))) zde) zau) zaE)))
 zak))
def zeI:List D->Res D:=zcH 2 zeS
def zew:Ev->Res Fl :=
 (zan (zcp (zdU 2 [1] (zpE (zac (zaf 0) (dC (.int 1)) dIx)) (zf2 [0,1]) (zhT (zac (zac (zaf 1) (dC (.int 4)) dIx) (dC (.non)) zjX) (zac (zac (zac (zaf 2) (zaf 0) zwi) (dC (.int 1)) zoj) (dC (.int 1)) dEq)) (zaf 0)))
 zak)
def zcx:List D->Res D:=zcH 2 zew
def zev:Ev->Res Fl :=
 (zan (zsG 2 (zal zau zdw))
 (zan (zi1 (zpE (zac (zaf 0) (dC (.int 0)) dIx)) (zf2 [3,4])
 (zan (sIf (dOr (zac (zaf 4) (zac (zaf 0) (dC (.int 2)) dIx) dEq) (zhT (zac (zaf 4) (zac (zaf 0) (dC (.int 3)) dIx) dNe) (zac (zac (zac (zac (zaf 1) (dC (.int 0)) dIx) (zaf 3) zwi) (dC (.int 1)) zoj) (dC (.int 1)) dEq)))
 (zan (zb2 2 (zaf 4))
 zak)
 zak)
 zak))
 (zan (zq3 2 (zbb 5 (zac (zac (zaf 1) (dC (.int 3)) dIx) (zac (zal (zad (zaf 2) zau) (m1 zgR)) (dC (.int 1)) zbR) zeA)))
 (zan (zq3 2 (zbb 6 (zal (zad (dC (.int 7)) (zad (dC (.non)) (zad (dC (.str "")) (zad (zac (zac (zaf 0) (dC (.int 0)) dIx) (zac (zac (zaf 1) (dC (.int 4)) dIx) (zal (zad (zac (zaf 0) (dC (.int 0)) dIx) zau) (m1 zgR)) zeA) dIx) (zad (zgQ (zaf 2) zde (zbL (dC (.int 1)))) (zad (zal (zad (dC (.str "a")) zau) zi9) zau)))))) zdw)))
 (zan (zbb 7 (zac (zac (zaf 6) (zal (zad (zac (zac (zaf 0) (dC (.int 2)) dIx) (dC (.str "a")) zbR) (zad (za2 (zac (zaf 0) (dC (.int 2)) dIx) znf) (zad (dC (.bl true)) (zad (dC (.int 0)) zau)))) zdw) zbR) (zac (zaf 1) (dC (.int 5)) dIx) dIx))
 (zan (zq3 2 (zsG 8 (zal (zad (zaf 2) (zad (za2 (zaf 2) zzz) (zad (zac (zaf 2) (zgQ (zaf 2) zde (zbL (dC (.int 1)))) zbR) (zad (zac (zac (zgQ (zaf 2) zde (zbL (zaf 5))) (zal (zad (zaf 7) zau) zdw) zbR) (zgQ (zaf 2) (zbL (zaf 5)) zde) zbR) zau)))) zdw)))
 (zan (zq3 2 (zb2 8 (zac (zgQ (zaf 2) zde (zbL (zaf 5))) (zgQ (zaf 2) (zbL (zac (zaf 5) (dC (.int 1)) zbR)) zde) zbR)))
 (zan (zb2 8 (zdU 1 [0] (zsE (zac (zaf 0) (dC (.int 0)) dIx)) (zfD 0) (zac (zaf 0) (zac (zaf 1) (dC (.int 2)) dIx) dNe) (zaf 0)))
 (zan (zq3 8 (zq3 2 (zsG 8 (zac (zaf 8) (zal (zad (zal (zad (zac (zaf 0) (dC (.int 0)) dIx) zau) (m1 zse)) (zad (zal zau zdw) (zad (zac (zaf 2) (zal (zad (zac (zaf 0) (dC (.int 3)) dIx) zau) zdw) zbR) zau))) zdw) zqj))))
 (zan (zq3 8 (zq3 2 (zsG 8 (zac (zaf 8) (zal (zad (zac (zal (zad (zal (zad (zaf 2) zau) (m1 zsc)) (zad (dC (.non)) (zad (zac (zaf 0) (dC (.int 2)) dIx) (zad (dC (.dic [] [])) (zad (dC (.int 7)) (zad (zaf 0) zau)))))) zdw) (zac (zac (zaf 1) (dC (.int 4)) dIx) (dC (.int 6)) zeA) dIx) (zad (zac (zgQ (zaf 2) (zbL (zaf 5)) zde) (zgQ (zaf 2) zde (zbL (zaf 5))) zbR) zau)) zdw) zqj))))
 (zan (zq3 2 (zb2 8 (zac (zac (zgQ (zaf 2) zde (zbL (zaf 5))) (zgQ (zaf 2) zde (zbL (zaf 5))) zbR) (zaf 2) zbR)))
 (zan (zcp (zac (zaf 8) (zac (zal (zad (dC (.int 0)) (zad (dC (.int 0)) (zad (dC (.int 0)) (zad (dC (.int 0)) (zad (dC (.int 1)) (zad (dC (.int 2)) (zad (dC (.int 3)) (zad (dC (.int 4)) (zad (dC (.int 5)) (zad (dC (.int 6)) (zad (dC (.int 7)) (zad (dC (.int 8)) (zad (dC (.int 9)) (zad (dC (.int 10)) (zad (dC (.int 11)) (zad (dC (.int 3)) zau)))))))))))))))) zdw) (zac (zaf 1) (dC (.int 2)) dIx) dIx) dIx))
 zak))))))))))))
def zcw:List D->Res D:=zcH 9 zev
abbrev zb4:List D->Res D:=Com.zb4
abbrev zaK:List D->Res D:=Wex.zaK
abbrev zbI:List D->Res D:=Com.zbI
abbrev zbc:List D->Res D:=Com.zbc
abbrev zdf:List D->Res D:=Com.zdf
abbrev zb5:List D->Res D:=Com.zb5
abbrev zd9:List D->Res D:=Com.zd9
abbrev zeH:List D->Res D:=Com.zeH
abbrev zaV:List D->Res D:=Wex.zaV
abbrev za1:List D->Res D:=Com.za1
abbrev zaQ:List D->Res D:=Wex.zaQ
def zd0:Ev->Res Fl :=
 (zan (sIf (dOr (zdk (za2 (zaf 1) (zcj "list"))) (zac (zal (zad (zaf 1) zau) (m1 zgR)) (zal (zad (zac (zaf 0) (dC (.int 1)) dIx) zau) (m1 zgR)) dNe))
 (zan (zcp (dC (.bl false)))
 zak)
 zak)
 (zan (zcp (zal (zad (zdU 1 [] (zsE (zaf 1)) (zfD 0) mYes (zal (zad (zaf 0) zau) zb5)) zau) (m1 zwk)))
 zak))
def zdS:List D->Res D:=zcH 2 zd0
def zcW:Ev->Res Fl :=
 (zan (zhE (zal (zad (zaf 0) zau) zaQ))
 (zan (sIf (zdk (zal (zad (zaf 0) (zad (zaf 1) zau)) zdS))
 (zan (zfT "NoRooms" (zad (dC (.str "rooms are a list of fractions from 0 on, one for each tie")) zau))
 zak)
 zak)
 zak))
def zcT:List D->Res D:=zcH 2 zcW
abbrev za7:List D->Res D:=Com.za7
abbrev zaJ:List D->Res D:=Wex.zaJ
def za6:Ev->Res Fl :=
 (zan (sIf (dOr (zdk (za2 (zaf 1) (zcj "list"))) (zdk (zal (zad (zdU 1 [0] (zsE (zaf 1)) (zfD 0) mYes (zal (zad (zaf 0) (zad (zac (zaf 1) (dC (.int 0)) dIx) zau)) za1)) zau) (m1 zwk))))
 (zan (zfT "NoSide" (zad (dC (.str "a side is a list of places")) zau))
 zak)
 zak)
 (zan (sIf (zac (zaf 1) (zdU 1 [1] (zsE (zac (zaf 0) (dC (.int 0)) dIx)) (zfD 0) (zac (zaf 0) (zaf 1) dIn) (zaf 0)) dNe)
 (zan (zfT "NoSide" (zad (dC (.str "a side's places stand in the web's order, each once")) zau))
 zak)
 zak)
 (zan (sIf (dOr (zac (zac (zaf 0) (dC (.int 2)) dIx) (zaf 1) zbz) (zac (zac (zaf 0) (dC (.int 3)) dIx) (zaf 1) dIn))
 (zan (zfT "NoSide" (zad (dC (.str "first is in a side, and last is not")) zau))
 zak)
 zak)
 zak)))
def zaH:List D->Res D:=zcH 2 za6
abbrev ze1:List D->Res D:=Wex.ze1
abbrev zgY:List D->Res D:=Wex.zgY
abbrev zeF:List D->Res D:=Wex.zeF
def zcV:Ev->Res Fl :=
 (zan (zbb 1 (zal (zad (zac (zaf 0) (dC (.int 0)) dIx) (zad (zac (zaf 0) (dC (.int 1)) dIx) zau)) zi9))
 (zan (sIf (zac (zac (zaf 0) (dC (.int 2)) dIx) (dC (.str "one")) dEq)
 (zan (zcp (zal (zad (zaf 1) zau) zdw))
 zak)
 zak)
 (zan (zcp (zal (zad (zaf 1) (zad (zal (zad (zac (zaf 0) (dC (.int 1)) dIx) (zad (zac (zaf 0) (dC (.int 0)) dIx) zau)) zi9) zau)) zdw))
 zak)))
def zcg:List D->Res D:=zcH 2 zcV
def zeQ:Ev->Res Fl :=
 (zan (zsG 2 (zal zau zdw))
 (zan (zi1 (zpE (zac (zaf 0) (dC (.int 1)) dIx)) (zf2 [3,4])
 (zan (sIf (zac (zaf 3) (zaf 1) zbz)
 (zan (zoG (zal (zad (zaf 4) zau) zcg) (zf2 [5,6])
 (zan (zb2 2 (zal (zad (zaf 3) (zad (zaf 5) (zad (zaf 6) zau))) zi9))
 zak))
 zak)
 zak)
 zak))
 (zan (zcp (zaf 2))
 zak)))
def zeG:List D->Res D:=zcH 7 zeQ
def zdZ:Ev->Res Fl :=
 (zan (zcp (zdU 3 [2] (zsE (zal (zad (zaf 0) (zad (zaf 1) zau)) zeG)) (zf2 [0,1,2]) (zhT (zac (zaf 1) (zaf 3) dIn) (zac (zaf 2) (zaf 3) zbz)) (zaf 0)))
 zak)
def zdR:List D->Res D:=zcH 3 zdZ
def zgm:Ev->Res Fl :=
 (zan (zhE (zal (zad (zaf 0) (zad (zaf 1) zau)) zcT))
 (zan (zhE (zal (zad (zaf 0) (zad (zaf 2) zau)) zaJ))
 (zan (zhE (zal (zad (zaf 0) (zad (zaf 3) zau)) zaH))
 (zan (zcp (zal (zad (zdU 1 [1] (zsE (zal (zad (zaf 0) (zad (zaf 2) (zad (zaf 3) zau))) zdR)) (zfD 0) mYes (zac (zaf 1) (zaf 0) dIx)) zau) zeF))
 zak))))
def zdv:List D->Res D:=zcH 4 zgm
def zbC:Ev->Res Fl :=
 (zan (sIf (dOr (zdk (za2 (zaf 1) (zcj "list"))) (dOr (zac (zac (zaf 0) (dC (.int 2)) dIx) (zaf 1) zbz) (zac (zac (zaf 0) (dC (.int 3)) dIx) (zaf 1) dIn)))
 (zan (zcp (dC (.bl false)))
 zak)
 zak)
 (zan (zbb 2 (dC (.int 0)))
 (zan (zoG (zac (zaf 0) (dC (.int 0)) dIx) (zfD 3)
 (zan (sIf (zhT (zac (zaf 2) (zal (zad (zaf 1) zau) (m1 zgR)) dLt) (zac (zac (zaf 1) (zaf 2) dIx) (zaf 3) dEq))
 (zan (zbb 2 (zac (zaf 2) (dC (.int 1)) zbR))
 zak)
 zak)
 zak))
 (zan (zcp (zac (zaf 2) (zal (zad (zaf 1) zau) (m1 zgR)) dEq))
 zak))))
def zaW:List D->Res D:=zcH 4 zbC
abbrev zcI:List D->Res D:=Com.zcI
def zfJ:Ev->Res Fl :=
 (zan (sIf (dOr (zdk (za2 (zaf 0) (zcj "tuple"))) (zac (zaf 0) (zaf 1) dNe))
 (zan (zcp (dC (.bl false)))
 zak)
 zak)
 (zan (zcp (zhT (zal (zad (zac (zaf 0) (dC (.int 0)) dIx) zau) zcI) (zal (zad (zac (zaf 0) (dC (.int 1)) dIx) zau) zcI)))
 zak))
def zfC:List D->Res D:=zcH 2 zfJ
def zbw:Ev->Res Fl :=
 (zan (sIf (zac (zac (zaf 0) (dC (.int 2)) dIx) (dC (.str "both")) dEq)
 (zan (zcp (zac (zac (zac (zaf 0) (dC (.int 0)) dIx) (zaf 1) dIn) (zac (zac (zaf 0) (dC (.int 1)) dIx) (zaf 1) dIn) dNe))
 zak)
 zak)
 (zan (zcp (zhT (zac (zac (zaf 0) (dC (.int 0)) dIx) (zaf 1) dIn) (zac (zac (zaf 0) (dC (.int 1)) dIx) (zaf 1) zbz)))
 zak))
def zbd:List D->Res D:=zcH 2 zbw
def zfL:Ev->Res Fl :=
 (zan (zcp (zal (zad (zac (zac (zac (zaf 0) (dC (.int 0)) dIx) (zac (zaf 1) (dC (.int 1)) dIx) zdl) (zac (zac (zaf 2) (zac (zaf 1) (dC (.int 0)) dIx) zdl) (zac (zaf 0) (dC (.int 1)) dIx) zdl) zbR) (zad (zac (zac (zaf 0) (dC (.int 1)) dIx) (zac (zaf 1) (dC (.int 1)) dIx) zdl) zau)) zci))
 zak)
def zej:List D->Res D:=zcH 3 zfL
def zfK:Ev->Res Fl :=
 (zan (zbb 4 (zal (zad (dC (.int 0)) (zad (dC (.int 1)) zau)) zi9))
 (zan (zi1 (zpE (zac (zaf 0) (dC (.int 1)) dIx)) (zf2 [5,6])
 (zan (sIf (zhT (zac (zaf 5) (zaf 2) zbz) (zal (zad (zaf 6) (zad (zaf 3) zau)) zbd))
 (zan (zbb 4 (zal (zad (zaf 4) (zad (zac (zaf 1) (zaf 5) dIx) (zad (dC (.int 1)) zau))) zej))
 zak)
 zak)
 zak))
 (zan (zcp (zaf 4))
 zak)))
def zei:List D->Res D:=zcH 7 zfK
def zdn:Ev->Res Fl :=
 (zan (zbb 4 (dC (.non)))
 (zan (zbb 5 (dC (.non)))
 (zan (zwB (zs9 5 (zad (zaf 0) (zad (zaf 1) (zad (zaf 2) (zad (zaf 3) zau)))) zdv) (zrO zgI) 6
 (zan (zbb 4 (zaf 6))
 zak))
 (zan (sIf (zal (zad (zaf 0) (zad (zaf 3) zau)) zaW)
 (zan (zcp (zhT (zac (zaf 4) (dC (.non)) zpc) (zal (zad (zaf 5) (zad (zal (zad (zaf 0) (zad (zaf 1) (zad (zaf 2) (zad (zaf 3) zau)))) zei) zau)) zfC)))
 zak)
 zak)
 (zan (sIf (dOr (za2 (zaf 4) (zqi zu3)) (za2 (zaf 4) (zqi zu2)))
 (zan (zcp (dC (.bl false)))
 zak)
 zak)
 (zan (zcp (zhT (za2 (zaf 4) (zqi zu1)) (za2 (zaf 4) (zqi zu0))))
 zak))))))
def zbB:List D->Res D:=zcH 7 zdn
def zwt:Ev->Res Fl :=
 (zan (zbb 1 (zal (zad (zaf 0) zau) zch))
 (zan (zbb 2 (zal (zad (zaf 0) zau) zeI))
 (zan (zbb 3 (zal (zad (zal (zad (zaf 0) zau) zch) (zad (zal (zad (zaf 2) zau) (m1 zse)) zau)) zi9))
 (zan (zoG (zac (zac (zal (zad (zaf 0) zau) zaX) (dC (.int 1)) dIx) (zal (zad (dC (.int 7)) zau) zdw) zbR) (zfD 4)
 (zan (zbb 5 (zal (zad (zaf 4) (zad (zal (zad (dC (.int 128)) (zad (dC (.int 16384)) (zad (dC (.int 16)) (zad (dC (.int 5040)) (zad (dC (.int 5040)) (zad (dC (.int 10)) zau)))))) zdw) zau)) zaB))
 (zan (zbb 6 (zal (zad (zaf 1) (zad (zac (zaf 5) (dC (.int 1)) dIx) zau)) zcx))
 (zan (zbb 7 (zal (zad (zaf 1) (zad (zaf 5) zau)) zcw))
 (zan (sIf (zdk (zal (zad (zac (zaf 3) (dC (.int 0)) dIx) (zad (zac (zaf 3) (dC (.int 1)) dIx) (zad (zaf 6) (zad (zaf 7) zau)))) zbB))
 (zan (zcp (dC (.bl false)))
 zak)
 zak)
 (zan (sIf (dOr (zac (zaf 7) (zal (zad (zaf 1) (zad (zaf 5) zau)) zcw) zyh) (dOr (zac (zaf 6) (zal (zad (zaf 1) (zad (zac (zaf 5) (dC (.int 1)) dIx) zau)) zcx) dNe) (zac (zaf 3) (zal (zad (zaf 1) (zad (zaf 2) zau)) zi9) dNe)))
 (zan (zcp (dC (.bl false)))
 zak)
 zak)
 (zan (sIf (zdk (zal (zad (zac (zaf 3) (dC (.int 0)) dIx) (zad (zac (zaf 3) (dC (.int 1)) dIx) (zad (zal zau zdw) (zad (zal (zad (zac (zaf 1) (dC (.int 2)) dIx) zau) zdw) zau)))) zbB))
 (zan (zcp (dC (.bl false)))
 zak)
 zak)
 zak)))))))
 (zan (zcp (dC (.bl true)))
 zak)))))
def zrF:List D->Res D:=zcH 8 zwt
end K35
namespace K35
open PySem L2 DL Com
theorem zr2:zaB=Cod.zaB:=rfl
theorem zzt:zci=Cod.zci:=rfl
theorem zp5:zaE=Cod.zaE:=rfl
theorem zzs:zch=Cod.zch:=rfl
theorem zr3:zaX=Cod.zaX:=rfl
theorem zwd {v:Int}:zcI [.int v]=.ok (.bl true):=rfl
abbrev nI (k:Nat):D:=.int (k:Int)
theorem ztc {ns:List Int}{c1 c2:List Int}(hc:Cod.zaX [.lst (ns.map D.int)]=.ok (.tup [.lst (c1.map D.int),.lst (c2.map D.int)]))(h14:c1.length<=14):∃ xs:List Fra,zeI [.lst (ns.map D.int)]=.ok (.lst (xs.map fr))/\xs.length=c1.length/\∀ x∈xs,zcZ x/\0<=x.1:=by
 have key:∀ c:Int,∃ x:Fra,(∀ ρ:Ev,ρ[0]?=some (.sh (.int c))->ρ[1]?=some (.sh (.lst [.int 420,.int 60,.int 2,.int 5,.int 1000000000000000000,.int 30,.int 6,.int 5,.int 1000000000000000000,.int 30,.int 3,.int 5,.int 1000000000000000000,.int 30]))->(zal (zad (zgQ (zal (zad (zaf 0) (zad (zaf 1) zau)) zaB) (zbL (dC (.int 11))) zde) zau) zaE) ρ=.ok (fr x))/\zcZ x/\0<=x.1:=fun c=>by
  obtain⟨vs,hd,V⟩:=Cod.draws_ok c [420,60,2,5,1000000000000000000,30,6,5,1000000000000000000,30,3,5,1000000000000000000,30] (by decide) (by decide)
  have hvl:vs.length=14:=V.len
  obtain⟨v11,g11,b11,_⟩:=V.ix 11 11 rfl rfl
  obtain⟨v12,g12,b12,_⟩:=V.ix 12 12 rfl rfl
  obtain⟨v13,g13,b13,_⟩:=V.ix 13 13 rfl rfl
  obtain⟨x,hx,fx,x0⟩:=Cod.fraction_ok (w:=v11) (a:=v12) (b:=v13) b11 b12 b13
  refine⟨x,fun ρ h0 h1=>?_,fx,x0⟩
  have hcut:ze6 (vs.map D.int) (some 11) none=[.int v11,.int v12,.int v13]:=by
   rw[zim,HT.sIx_none,show(11:Int)=((11:Nat):Int) from rfl,HT.sIx_nat,hvl]
   have:=zwT (i:=11) g11 g12 g13
   show((vs.drop 11).take 3).map D.int=_
   rw[this];rfl
  have hd':Cod.zaB [.int c,.lst [.int 420,.int 60,.int 2,.int 5,.int 1000000000000000000,.int 30,.int 6,.int 5,.int 1000000000000000000,.int 30,.int 3,.int 5,.int 1000000000000000000,.int 30]]=.ok (.lst (vs.map D.int)):=hd
  generalize vs.map D.int=Q at *
  open_line with[h0,h1,zr2,hd',hcut,zp5,hx]
 obtain⟨g,hg⟩:∃ g:Int->Fra,∀ c,(∀ ρ:Ev,ρ[0]?=some (.sh (.int c))->ρ[1]?=some (.sh (.lst [.int 420,.int 60,.int 2,.int 5,.int 1000000000000000000,.int 30,.int 6,.int 5,.int 1000000000000000000,.int 30,.int 3,.int 5,.int 1000000000000000000,.int 30]))->(zal (zad (zgQ (zal (zad (zaf 0) (zad (zaf 1) zau)) zaB) (zbL (dC (.int 11))) zde) zau) zaE) ρ=.ok (fr (g c)))/\zcZ (g c)/\0<=(g c).1:=⟨fun c=>Classical.choose (key c),fun c=>Classical.choose_spec (key c)⟩
 refine⟨c1.map g,?_,by simp,fun x hx=>?_⟩
 ·have hcomp:zgj 1 [1] (zfD 0) mYes (zal (zad (zgQ (zal (zad (zaf 0) (zad (zaf 1) zau)) zaB) (zbL (dC (.int 11))) zde) zau) zaE) [.sh (.lst (ns.map D.int)),.sh (.lst [.int 420,.int 60,.int 2,.int 5,.int 1000000000000000000,.int 30,.int 6,.int 5,.int 1000000000000000000,.int 30,.int 3,.int 5,.int 1000000000000000000,.int 30])] (c1.map D.int)=.ok (.lst ((c1.map g).map fr)):=by
   rw[zgK (F:=fun d=>match d with | .int v=>fr (g v) | d=>d) (by rw[List.length_map];omega)]
   ·rw[List.map_map,List.map_map];rfl
   ·intro d hd
    obtain⟨c,_,rfl⟩:=List.mem_map.mp hd
    exact⟨[.sh (.int c),.sh (.lst [.int 420,.int 60,.int 2,.int 5,.int 1000000000000000000,.int 30,.int 6,.int 5,.int 1000000000000000000,.int 30,.int 3,.int 5,.int 1000000000000000000,.int 30])],rfl,rfl,(hg c).1 _ rfl rfl⟩
  have p18:zqh (.int 10) (.int 18)=.ok (.int 1000000000000000000):=rfl
  open_line with[zeI,zeS,p18,zr3,hc,hcomp]
 ·obtain⟨c,_,rfl⟩:=List.mem_map.mp hx
  exact(hg c).2
theorem zt9 {α:Type}{F:α->D}{xs:List α}{m:Nat}{fr:List Nat}{tt fe:Ev->Res D}{ρ:Ev}{q:Nat->Bool}{G:Nat->D}(hn:xs.length<=1000)(h:∀ (k:Nat) (x:α),xs[k]?=some x->∃ ρ1,zf2 [0,1] (zdX m fr ρ) (.tup [.int (k:Int),F x])=.ok ρ1/\tt ρ1=.ok (.bl (q k))/\(q k=true->fe ρ1=.ok (G k))) :
  zgj m fr (zf2 [0,1]) tt fe ρ (zaP 0 (xs.map F))=.ok (.lst (((List.range xs.length).filter q).map G)):=by
 have hi:zaP 0 (xs.map F)=(List.range xs.length).map fun(k:Nat)=>D.tup [.int (k:Int),(xs[k]?.map F).getD .non]:=by
  apply List.ext_getElem?
  intro i
  rw[zb3,List.getElem?_map,List.getElem?_map]
  by_cases h:i < xs.length
  ·rw[List.getElem?_eq_getElem h,List.getElem?_range h]
   simp
   rw[List.getElem?_eq_getElem h];rfl
  ·rw[List.getElem?_eq_none (by omega),List.getElem?_eq_none (by simp;omega)];rfl
 rw[hi]
 rw[zer (F:=fun d=>match d with | .tup [.int v,_]=>G v.toNat | d=>d) (p:=fun d=>match d with | .tup [.int v,_]=>q v.toNat | _=>false) (by simp;omega)]
 ·rw[List.filter_map,List.map_map]
  rfl
 ·intro d hd
  obtain⟨k,hk,rfl⟩:=List.mem_map.mp hd
  have hk':=List.mem_range.mp hk
  have e:xs[k]?=some xs[k]:=List.getElem?_eq_getElem hk'
  obtain⟨ρ1,h1,h2,h3⟩:=h k xs[k] e
  rw[e]
  exact⟨ρ1,h1,by simpa using h2,fun z=>by simpa using h3 (by simpa using z)⟩
theorem zwr {w:Web}(W:zgt w)(v:Int):∃ ks,zcx [za8 w,.int v]=.ok (zbA ks)/\zlZ w ks:=by
 have h14:=W.t14
 have hc:zgj 2 [1] (zf2 [0,1]) (zhT (zac (zac (zaf 1) (dC (.int 4)) dIx) (dC (.non)) zjX) (zac (zac (zac (zaf 2) (zaf 0) zwi) (dC (.int 1)) zoj) (dC (.int 1)) dEq)) (zaf 0) [.sh (za8 w),.sh (.int v)] (zaP 0 (w.ts.map zcM))=.ok (.lst (((List.range w.ts.length).filter (fun k=>isW w k&&(Builtin.bitAnd (v / 2 ^ k) 1==1))).map nI)):=by
  refine zt9 (by omega) fun k t ht=>?_
  have hW:isW w k=t.o.isSome:=by unfold isW;rw[ht];rfl
  refine⟨[.sh (.int (k:Int)),.sh (zcM t),.sh (.int v)],rfl,?_,fun _=>rfl⟩
  have hs:zwi (.int v) (.int (k:Int))=.ok (.int (v / 2 ^ k)):=by
   show(if decide (0<=(k:Int))=true then Res.ok (D.int (v / 2 ^ (k:Int).toNat)) else .stuck)=_
   rw[if_pos (decide_eq_true (by omega)),Int.toNat_natCast]
  have hb:zoj (.int (v / 2 ^ k)) (.int 1)=.ok (.int (Builtin.bitAnd (v / 2 ^ k) 1)):=rfl
  rw[hW,show zcM t=.tup [.str t.a,.str t.b,.str t.w,fr t.l,zfc t.o] from rfl]
  cases ho:t.o with
  | none=>open_line with[zfc];rfl
  | some x=>open_line with[zfc,fr,zyB,hs,hb,Option.isSome_some,Bool.true_and]
 refine⟨(List.range w.ts.length).filter (fun k=>isW w k&&(Builtin.bitAnd (v / 2 ^ k) 1==1)),?_,?_,fun k hk=>?_⟩
 ·rw[show za8 w=.tup [.lst (w.ps.map D.str),.lst (w.ts.map zcM),.str w.fi,.str w.la] from rfl] at hc ⊢
  open_line with[zcx,zew,hc]
  rfl
 ·exact List.Pairwise.sublist List.filter_sublist List.pairwise_lt_range
 ·have:=(List.mem_filter.mp hk).2
  rw[Bool.and_eq_true] at this
  exact zv0.mp this.1
theorem zpD {α:Type}[DecidableEq α]{ss zs:List α}(h:ss.Sublist zs):zs.Nodup->zs.filter (fun z=>decide (z∈ss))=ss:=by
 induction h with
 | slnil=>intro _;rfl
 | @cons s z a h ih =>
  intro nd
  rw[List.nodup_cons] at nd
  have:a∉s:=fun z=>nd.1 (h.subset z)
  rw[List.filter_cons_of_neg (by simpa using this)]
  exact ih nd.2
 | @cons_cons s z a h ih =>
  intro nd
  rw[List.nodup_cons] at nd
  rw[List.filter_cons_of_pos (by simp)]
  congr 1
  have e:∀ x∈z,decide (x∈a::s)=decide (x∈s):=fun x hx=>by
   have:x≠a:=fun e=>nd.1 (e▸hx)
   simp [this]
  rw[List.filter_congr e]
  exact ih nd.2
def gm:List D->List Str->List D
 | ds,[]=>ds
 | [],_=>[]
 | d::r,z::zs=>if eqD d (.str z)=true then gm r zs else gm (d::r) zs
theorem zuw:∀ zs,gm [] zs=[]
 | []=>rfl
 | _::_=>rfl
theorem zuy {d:D}{z:Str}:eqD d (.str z)=true↔d=.str z:=by
 cases d with
 | str x=>rw[eqD];simp
 | _=>constructor<;>intro h<;>first | cases h | (unfold eqD at h;cases h)
theorem zm4:∀ {zs:List Str}{ds:List D},gm ds zs=[]↔∃ ss:List Str,ds=ss.map D.str/\ss.Sublist zs
 | [],ds=>by
  unfold gm
  constructor
  ·rintro rfl;exact⟨[],rfl,.slnil⟩
  ·rintro⟨ss,rfl,h⟩;rw[List.sublist_nil.mp h];rfl
 | z::zs,[]=>by
  rw[zuw]
  exact⟨fun _=>⟨[],rfl,List.nil_sublist _⟩,fun _=>rfl⟩
 | z::zs,d::r=>by
  unfold gm
  by_cases h:eqD d (.str z)=true
  ·rw[if_pos h,zm4]
   have hd:=zuy.mp h
   subst hd
   constructor
   ·rintro⟨ss,rfl,hs⟩;exact⟨z::ss,rfl,hs.cons₂ z⟩
   ·rintro⟨ss,e,hs⟩
    cases ss with
    | nil=>cases e
    | cons s ss =>
     rw[List.map_cons] at e
     injection e with e1 e2
     injection e1 with e1
     subst e1
     refine⟨ss,e2,?_⟩
     cases hs with
     | cons _ h=>exact(List.sublist_cons_self _ _).trans h
     | cons_cons _ h=>exact h
  ·rw[if_neg h,zm4]
   constructor
   ·rintro⟨ss,e,hs⟩;exact⟨ss,e,hs.cons z⟩
   ·rintro⟨ss,e,hs⟩
    cases hs with
    | cons _ h=>exact⟨ss,e,h⟩
    | cons_cons _ h' =>
     rw[List.map_cons] at e
     injection e with e1 e2
     subst e1
     exact absurd (zuy.mpr rfl) h
structure PL (ds:List D):Prop where
 f:∀ x∈ds,fit x=true
 s:∀ x∈ds,za0 39 x=true
theorem znR {d:D}(h:za0 39 d=true):za0 40 d=true:=by
 have:∀ (n:Nat) (d:D),za0 n d=true->za0 (n+1) d=true:=by
  intro n
  induction n with
  | zero =>
   intro d h
   cases d<;>first | rfl | (unfold za0 at h;cases h)
  | succ n ih =>
   intro d h
   cases d with
   | tup ds=>exact List.all_eq_true.mpr fun x hx=>ih x (List.all_eq_true.mp h x hx)
   | lst ds=>exact List.all_eq_true.mpr fun x hx=>ih x (List.all_eq_true.mp h x hx)
   | non=>rfl
   | bl _=>rfl
   | int _=>rfl
   | str _=>rfl
   | _=>unfold za0 at h;cases h
 exact this 39 d h
theorem zx1 {ds:List D}(h:PL ds){z:Str}:dIn (.str z) (.lst ds)=.ok (.bl (ds.any fun d=>eqD d (.str z))):=by
 have e:inD (.str z) (.lst ds)=some (ds.any fun d=>eqD d (.str z)):=if_pos ⟨rfl,List.all_eq_true.mpr fun d hd=>znR (h.s d hd)⟩
 unfold dIn;rw[e]
theorem zrB {ds:List D}(h:PL ds){z:Str}:zbz (.str z) (.lst ds)=.ok (.bl (!(ds.any fun d=>eqD d (.str z)))):=by
 have e:inD (.str z) (.lst ds)=some (ds.any fun d=>eqD d (.str z)):=if_pos ⟨rfl,List.all_eq_true.mpr fun d hd=>znR (h.s d hd)⟩
 unfold zbz;rw[e]
def zkm (w:Web)(ds:List D):Bool:=(ds.any fun d=>eqD d (.str w.fi))&&!(ds.any fun d=>eqD d (.str w.la))&&(gm ds w.ps).isEmpty
def zfU:Ev->Res Fl:=(zan (sIf (zhT (zac (zaf 2) (zal (zad (zaf 1) zau) (m1 zgR)) dLt) (zac (zac (zaf 1) (zaf 2) dIx) (zaf 3) dEq))
 (zan (zbb 2 (zac (zaf 2) (dC (.int 1)) zbR))
 zak)
 zak)
 zak)
theorem zlt {w:Web}{ds:List D}(h:PL ds):∀ (zs:List Str) (k:Nat) (x:Sl),k<=ds.length->∃ (k':Nat) (x':Sl),zdy (zfD 3) zfU (zs.map D.str) [.sh (za8 w),.sh (.lst ds),.sh (.int (k:Int)),x]=.ok (.nx [.sh (za8 w),.sh (.lst ds),.sh (.int (k':Int)),x'])/\k'<=ds.length/\gm (ds.drop k) zs=ds.drop k'
 | [],k,x,hk=>⟨k,x,rfl,hk,by unfold gm;rfl⟩
 | z::zs,k,x,hk=>by
  have red:∀ ρ2,zfU [.sh (za8 w),.sh (.lst ds),.sh (.int (k:Int)),.sh (.str z)]=.ok (.nx ρ2)->zdy (zfD 3) zfU ((z::zs).map D.str) [.sh (za8 w),.sh (.lst ds),.sh (.int (k:Int)),x]=zdy (zfD 3) zfU (zs.map D.str) ρ2:=fun ρ2 hr=>by
   rw[List.map_cons]
   (conv=>lhs;unfold zdy)
   show(zfU [.sh (za8 w),.sh (.lst ds),.sh (.int (k:Int)),.sh (.str z)]).bind _=_
   rw[hr];rfl
  by_cases hlt:k < ds.length
  ·have hd:ds[k]?=some ds[k]:=List.getElem?_eq_getElem hlt
   have hix:=zfo hd
   have e1:ds.drop k=ds[k]::ds.drop (k+1):=List.drop_eq_getElem_cons hlt
   have heq:dEq ds[k] (.str z)=.ok (.bl (eqD ds[k] (.str z))):=if_pos ⟨znR (h.s _ (List.getElem_mem hlt)),rfl⟩
   have q1:decide ((k:Int) < (ds.length:Int))=true:=decide_eq_true (by omega)
   cases he:eqD ds[k] (.str z) with
   | true =>
    rw[he] at heq
    have hb:zfU [.sh (za8 w),.sh (.lst ds),.sh (.int (k:Int)),.sh (.str z)]=.ok (.nx [.sh (za8 w),.sh (.lst ds),.sh (.int ((k+1:Nat):Int)),.sh (.str z)]):=by
     unfold zfU
     open_line with[q1,hix,heq]
     rfl
    obtain⟨k',x',h1,h2,h3⟩:=zlt (w:=w) h zs (k+1) (.sh (.str z)) (by omega)
    refine⟨k',x',(red _ hb).trans h1,h2,?_⟩
    rw[e1];unfold gm;rw[if_pos he];exact h3
   | false =>
    rw[he] at heq
    have hb:zfU [.sh (za8 w),.sh (.lst ds),.sh (.int (k:Int)),.sh (.str z)]=.ok (.nx [.sh (za8 w),.sh (.lst ds),.sh (.int (k:Int)),.sh (.str z)]):=by
     unfold zfU
     open_line with[q1,hix,heq]
    obtain⟨k',x',h1,h2,h3⟩:=zlt (w:=w) h zs k (.sh (.str z)) hk
    refine⟨k',x',(red _ hb).trans h1,h2,?_⟩
    rw[e1];unfold gm;rw[if_neg (by rw[he];decide),← e1];exact h3
  ·have q1:decide ((k:Int) < (ds.length:Int))=false:=decide_eq_false (by omega)
   have hb:zfU [.sh (za8 w),.sh (.lst ds),.sh (.int (k:Int)),.sh (.str z)]=.ok (.nx [.sh (za8 w),.sh (.lst ds),.sh (.int (k:Int)),.sh (.str z)]):=by
    unfold zfU
    open_line with[q1]
   obtain⟨k',x',h1,h2,h3⟩:=zlt (w:=w) h zs k (.sh (.str z)) hk
   refine⟨k',x',(red _ hb).trans h1,h2,?_⟩
   have e1:ds.drop k=[]:=List.drop_eq_nil_of_le (by omega)
   rw[e1] at h3 ⊢
   rw[zuw] at h3 ⊢
   exact h3
theorem zvY {w:Web}{ds:List D}(h:PL ds):zaW [za8 w,.lst ds]=.ok (.bl (zkm w ds)):=by
 obtain⟨k',x',h1,h2,h3⟩:=zlt (w:=w) h w.ps 0 .no (by omega)
 rw[List.drop_zero] at h3
 unfold zfU at h1
 have i0:dIx (za8 w) (.int 0)=.ok (.lst (w.ps.map D.str)):=rfl
 have i2:dIx (za8 w) (.int 2)=.ok (.str w.fi):=rfl
 have i3:dIx (za8 w) (.int 3)=.ok (.str w.la):=rfl
 have n1:=zrB h (z:=w.fi)
 have n2:=zx1 h (z:=w.la)
 unfold zkm
 cases e1:(ds.any fun d=>eqD d (.str w.fi)) with
 | false =>
  rw[e1] at n1
  open_line with[zaW,zbC,i2,n1,Bool.false_and]
 | true =>
  rw[e1] at n1
  cases e2:(ds.any fun d=>eqD d (.str w.la)) with
  | true =>
   rw[e2] at n2
   open_line with[zaW,zbC,i2,i3,n1,n2,Bool.true_and,Bool.false_and]
  | false =>
   rw[e2] at n2
   have hk:(((k':Nat):Int)==(ds.length:Int))=(gm ds w.ps).isEmpty:=by
    rw[h3]
    by_cases c:k'=ds.length
    ·subst c
     rw[List.drop_length];simp
    ·have:ds.drop k'≠[]:=fun z=>c (by have:=congrArg List.length z;rw[List.length_drop] at this;simp at this;omega)
     rw[beq_eq_false_iff_ne.mpr (by omega)]
     cases q:ds.drop k' with
     | nil=>exact absurd q this
     | cons _ _=>rfl
   have h0:((0:Nat):Int)=0:=rfl
   rw[h0] at h1
   open_line with[zaW,zbC,i0,i2,i3,n1,n2,h1,hk,Bool.true_and]
theorem zpZ {w:Web}{d:D}(h:zcj "list" d=.ok (.bl false)):zaW [za8 w,d]=.ok (.bl false):=by
 open_line with[zaW,zbC,h]
theorem zsu {α:Type}{g:α->Bool}:∀ {l:List α},zet (l.map fun x=>D.bl (g x))=some (l.map g)
 | []=>rfl
 | a::l=>by rw[List.map_cons,zet,zsu];rfl
theorem zuF {ds:List D}{g:D->Bool}:zwk (.lst (ds.map fun d=>.bl (g d)))=.ok (.bl (ds.all g)):=by
 show(match zet (ds.map fun d=>D.bl (g d)) with | some bs=>Res.ok (D.bl (bs.all id)) | none=>.stuck)=_
 rw[zsu]
 simp only[List.all_map];rfl
def plB (zs:List Str):D->Bool
 | .str z=>nameB z&&decide (z∈zs)
 | _=>false
theorem ztn {zs:List Str}{d:D}(h:fit d=true):za1 [d,.lst (zs.map D.str)]=.ok (.bl (plB zs d)):=by
 have hn:=zkP h
 cases d with
 | str z =>
  rw[show zvR (.str z)=nameB z from rfl] at hn
  unfold plB
  cases e:nameB z with
  | true=>rw[e] at hn;open_line with[Com.za1,Com.zck,hn,zel,e,Bool.true_and]
  | false=>rw[e] at hn;open_line with[Com.za1,Com.zck,hn,e,Bool.false_and]
 | _ =>
  rw[show zvR _=false from rfl] at hn
  unfold plB
  open_line with[Com.za1,Com.zck,hn]
theorem zld:∀ {a b:List Str},eqDs (a.map D.str) (b.map D.str)=decide (a=b)
 | [],[]=>rfl
 | [],_::_=>by simp [eqDs]
 | _::_,[]=>by simp [eqDs]
 | x::a,y::b=>by
  rw[List.map_cons,List.map_cons,eqDs,zld,eqD]
  by_cases h1:x=y
  ·subst h1;simp
  ·simp [h1]
theorem zvO {a b:List Str}:dNe (.lst (a.map D.str)) (.lst (b.map D.str))=.ok (.bl (!(decide (a=b)))):=by
 unfold dNe
 rw[if_pos ⟨zfh (n:=39),zfh (n:=39)⟩,zoh,zld]
theorem zrG {w:Web}(W:zgt w){ds:List D}(hl:ds.length<=1000)(h:PL ds):(zkm w ds=true->zaH [za8 w,.lst ds]=.ok .non/\∃ ss:List Str,ds=ss.map D.str)/\(zkm w ds=false->zaH [za8 w,.lst ds]=.exn ⟨"NoSide",[]⟩):=by
 have i0:dIx (za8 w) (.int 0)=.ok (.lst (w.ps.map D.str)):=rfl
 have i2:dIx (za8 w) (.int 2)=.ok (.str w.fi):=rfl
 have i3:dIx (za8 w) (.int 3)=.ok (.str w.la):=rfl
 have hcA:∀ A:Sl,zgj 1 [0] (zfD 0) mYes (zal (zad (zaf 0) (zad (zac (zaf 1) (dC (.int 0)) dIx) zau)) za1) [.sh (za8 w),A] ds=.ok (.lst (ds.map fun d=>.bl (plB w.ps d))):=fun A=>by
  rw[zgK (F:=fun d=>.bl (plB w.ps d)) (by omega)]
  intro d hd
  refine⟨[.sh d,.sh (za8 w)],rfl,rfl,?_⟩
  have hp:=ztn (zs:=w.ps) (h.f d hd)
  open_line with[i0,hp]
 have hall:=zuF (ds:=ds) (g:=plB w.ps)
 have nd:=W.nm.nd
 cases eA:ds.all (plB w.ps) with
 | false =>
  rw[eA] at hall
  have hB:zkm w ds=false:=by
   cases e:zkm w ds with
   | false=>rfl
   | true =>
    exfalso
    unfold zkm at e
    simp only[Bool.and_eq_true,List.isEmpty_iff] at e
    obtain⟨ss,rfl,hs⟩:=zm4.mp e.2
    have:(ss.map D.str).all (plB w.ps)=true:=List.all_eq_true.mpr fun d hd=>by
     obtain⟨z,hz,rfl⟩:=List.mem_map.mp hd
     have hm:=hs.subset hz
     show(nameB z&&decide (z∈w.ps))=true
     rw[W.nm.nm z hm,decide_eq_true hm];rfl
    rw[this] at eA;cases eA
  refine⟨fun e=>(by rw[hB] at e;cases e),fun _=>?_⟩
  open_line with[zaH,za6,hcA,hall,zjP,zhQ,zf9]
 | true =>
  rw[eA] at hall
  obtain⟨ss,rfl,hss⟩:∃ ss:List Str,ds=ss.map D.str/\∀ z∈ss,z∈w.ps:=by
   have:∀ (ds:List D),(∀ d∈ds,plB w.ps d=true)->∃ ss:List Str,ds=ss.map D.str/\∀ z∈ss,z∈w.ps:=by
    intro ds
    induction ds with
    | nil=>intro _;exact⟨[],rfl,fun _ z=>(nomatch z)⟩
    | cons d r ih =>
     intro hh
     obtain⟨ss,rfl,h2⟩:=ih fun x hx=>hh x (List.mem_cons_of_mem _ hx)
     have hd:=hh d List.mem_cons_self
     cases d with
     | str z =>
      have hd':(nameB z&&decide (z∈w.ps))=true:=hd
      rw[Bool.and_eq_true,decide_eq_true_eq] at hd'
      exact⟨z::ss,rfl,fun y hy=>(List.mem_cons.mp hy).elim (fun e=>e▸hd'.2) (h2 y)⟩
     | _=>cases hd
   exact this ds (List.all_eq_true.mp eA)
  have hcB:zgj 1 [1] (zfD 0) (zac (zaf 0) (zaf 1) dIn) (zaf 0) [.sh (za8 w),.sh (.lst (ss.map D.str))] (w.ps.map D.str)=.ok (.lst ((w.ps.filter (fun z=>decide (z∈ss))).map D.str)):=by
   rw[zer (F:=id) (p:=fun d=>match d with | .str z=>decide (z∈ss) | _=>false) (by rw[List.length_map];have:=W.n7;omega)]
   ·rw[List.map_id,List.filter_map];rfl
   ·intro d hd
    obtain⟨z,_,rfl⟩:=List.mem_map.mp hd
    exact⟨[.sh (.str z),.sh (.lst (ss.map D.str))],rfl,by open_line with[zel],fun _=>rfl⟩
  have hne:=zvO (a:=ss) (b:=w.ps.filter (fun z=>decide (z∈ss)))
  have n1:=zgF (zs:=ss) (z:=w.fi)
  have n2:=zel (zs:=ss) (z:=w.la)
  have hsB:zkm w (ss.map D.str)=(decide (w.fi∈ss)&&!(decide (w.la∈ss))&&decide (ss=w.ps.filter (fun z=>decide (z∈ss)))):=by
   unfold zkm
   rw[zlW,zlW]
   congr 1
   by_cases c:ss=w.ps.filter (fun z=>decide (z∈ss))
   ·rw[decide_eq_true c]
    have:gm (ss.map D.str) w.ps=[]:=zm4.mpr ⟨ss,rfl,by rw[c];exact List.filter_sublist⟩
    rw[this];rfl
   ·rw[decide_eq_false c]
    cases q:gm (ss.map D.str) w.ps with
    | cons _ _=>rfl
    | nil =>
     exfalso
     obtain⟨ss',e,hs⟩:=zm4.mp q
     have:ss=ss':=by
      have:=zld (a:=ss) (b:=ss')
      rw[← e] at this
      exact of_decide_eq_true (this.symm.trans (by rw[zld];exact decide_eq_true rfl))
     subst this
     exact c (zpD hs nd).symm
  rw[hsB]
  by_cases c:ss=w.ps.filter (fun z=>decide (z∈ss))
  ·rw[decide_eq_true c,Bool.and_true]
   rw[decide_eq_true c] at hne
   cases e1:decide (w.fi∈ss) with
   | false =>
    rw[e1] at n1
    refine⟨fun z=>(by cases z),fun _=>?_⟩
    generalize hfl:(w.ps.filter (fun z=>decide (z∈ss))).map D.str=fl at *
    open_line with[zaH,za6,hcA,hall,i0,hcB,hne,i2,n1,zjP,zhQ,zf9]
   | true =>
    rw[e1] at n1
    cases e2:decide (w.la∈ss) with
    | true =>
     rw[e2] at n2
     refine⟨fun z=>(by cases z),fun _=>?_⟩
     generalize hfl:(w.ps.filter (fun z=>decide (z∈ss))).map D.str=fl at *
     open_line with[zaH,za6,hcA,hall,i0,hcB,hne,i2,n1,i3,n2,zjP,zhQ,zf9]
    | false =>
     rw[e2] at n2
     refine⟨fun _=>⟨?_,ss,rfl⟩,fun z=>(by cases z)⟩
     generalize hfl:(w.ps.filter (fun z=>decide (z∈ss))).map D.str=fl at *
     open_line with[zaH,za6,hcA,hall,i0,hcB,hne,i2,n1,i3,n2]
  ·rw[decide_eq_false c,Bool.and_false]
   rw[decide_eq_false c] at hne
   refine⟨fun z=>(by cases z),fun _=>?_⟩
   generalize hfl:(w.ps.filter (fun z=>decide (z∈ss))).map D.str=fl at *
   open_line with[zaH,za6,hcA,hall,i0,hcB,hne,zjP,zhQ,zf9]
theorem zmR {w:Web}{d:D}(h:zcj "list" d=.ok (.bl false)):zaH [za8 w,d]=.exn ⟨"NoSide",[]⟩:=by
 open_line with[zaH,za6,h,zjP,zhQ,zf9]
def sg (s:Int)(x:Fra):Fra:=(s*x.1,x.2)
theorem zw8 {s:Int}{x:Fra}(h:zcZ x)(hs:s=1∨s=-1):zcZ (sg s x):=by
 rcases hs with rfl | rfl
 ·have:sg 1 x=x:=by unfold sg;rw[Int.one_mul]
  rw[this];exact h
 ·refine⟨⟨h.q1,?_⟩,?_,h.qN⟩
  ·show Int.gcd (-1*x.1) x.2=1
   rw[show(-1*x.1)=-x.1 by omega,Int.neg_gcd];exact h.g1
  ·show(-1*x.1).natAbs < N60
   have:=h.pN;omega
def zh1 (xs:List Fra):Fra:=low (tot xs).1 (tot xs).2
theorem zu8 {xs:List Fra}(hl:xs.length<=40)(hx:∀ x∈xs,zcZ x):Acc xs.length (zh1 xs)/\Low (zh1 xs):=by
 have A:=zqI (xs:=xs) (by omega) hx
 have hL:=zh8 (a:=(tot xs).1) A.pos
 have:=hL.q1
 exact⟨⟨by show 0 < (low _ _).2;omega,Nat.le_trans zoa A.b1,Nat.le_trans zn9 A.b2⟩,hL⟩
theorem zvs {xs:List Fra}{x:Fra}{s:Int}(hl:xs.length<=39)(hxs:∀ y∈xs,zcZ y)(hx:zcZ x)(hs:s=1∨s=-1):zej [fr (zh1 xs),fr x,.int s]=.ok (fr (zh1 (xs++[sg s x]))):=by
 have hx':=zw8 hx hs
 have A:=zqI (xs:=xs) (by omega) hxs
 obtain⟨hA,_⟩:=zu8 (xs:=xs) (by omega) hxs
 have hB:=hA.step hx'
 have bb:bnd (xs.length+1) < B13:=zlU (by omega)
 have b60:bnd xs.length < B60:=Nat.lt_of_lt_of_le (zlU (by omega)) zsD
 have hw:zh1 (xs++[sg s x])=low ((zh1 xs).1*x.2+s*x.1*(zh1 xs).2) ((zh1 xs).2*x.2):=by
  have:=zoU (s:=tot xs) (x:=sg s x) A.pos hx'.q1
  unfold zh1
  rw[zsS,← this];rfl
 have hlo:=Cod.low_ok (a:=(zh1 xs).1*x.2+s*x.1*(zh1 xs).2) (b:=(zh1 xs).2*x.2) hB.pos (Nat.lt_of_le_of_lt hB.b1 bb) (Nat.lt_of_le_of_lt hB.b2 bb)
 have m1_:zeh (zh1 xs).1 x.2=true:=zjv (Nat.lt_of_le_of_lt hA.b1 b60) (Nat.lt_of_lt_of_le hx.qN zhu)
 have m0_:zeh s x.1=true:=zjv (Nat.lt_of_lt_of_le (show s.natAbs < N60 by rcases hs with rfl | rfl<;>decide) zhu) (Nat.lt_of_lt_of_le hx.pN zhu)
 have m2_:zeh (s*x.1) (zh1 xs).2=true:=zjv (Nat.lt_of_lt_of_le hx'.pN zhu) (Nat.lt_of_le_of_lt hA.b2 b60)
 have m3_:zeh (zh1 xs).2 x.2=true:=zjv (Nat.lt_of_le_of_lt hA.b2 b60) (Nat.lt_of_lt_of_le hx.qN zhu)
 rw[hw]
 generalize zh1 xs=u at *
 rw[show fr u=.tup [.int u.1,.int u.2] from rfl,show fr x=.tup [.int x.1,.int x.2] from rfl]
 open_line with[zej,zfL,zfW m1_,zfW m0_,zfW m2_,zfW m3_,zzt,hlo]
def zoW (ss:List Str)(t:Tie):Bool:=if t.w="both" then(decide (t.a∈ss) != decide (t.b∈ss)) else(decide (t.a∈ss)&&!(decide (t.b∈ss)))
theorem ztD {w:Web}{t:Tie}(h:znt w.ps t){ss:List Str}:zbd [zcM t,.lst (ss.map D.str)]=.ok (.bl (zoW ss t)):=by
 have hb:dEq (.str t.w) (.str "both")=.ok (.bl (t.w=="both")):=zlD
 rw[show zcM t=.tup [.str t.a,.str t.b,.str t.w,fr t.l,zfc t.o] from rfl]
 unfold zoW
 by_cases c:t.w="both"
 ·rw[if_pos c]
  rw[c] at hb ⊢
  have hne:∀ x y:Bool,dNe (.bl x) (.bl y)=.ok (.bl (x != y)):=fun x y=>by cases x<;>cases y<;>rfl
  open_line with[zbd,zbw,hb,zel,hne]
 ·rw[if_neg c]
  rw[beq_eq_false_iff_ne.mpr c] at hb
  cases e:decide (t.a∈ss) with
  | true=>open_line with[zbd,zbw,hb,zel,e,zgF,Bool.true_and]
  | false=>open_line with[zbd,zbw,hb,zel,e,Bool.false_and]
def stp (k:Nat)(t:Tie):List D:=if t.w="one" then[.tup [nI k,.str t.a,.str t.b]] else[.tup [nI k,.str t.a,.str t.b],.tup [nI k,.str t.b,.str t.a]]
theorem zva {k:Nat}{t:Tie}:(stp k t).length<=2:=by unfold stp;split<;>simp
theorem zug {t:Tie}:zcg [zcM t]=.ok (.lst (if t.w="one" then[.tup [.str t.a,.str t.b]] else[.tup [.str t.a,.str t.b],.tup [.str t.b,.str t.a]])):=by
 have hb:dEq (.str t.w) (.str "one")=.ok (.bl (t.w=="one")):=zlD
 rw[show zcM t=.tup [.str t.a,.str t.b,.str t.w,fr t.l,zfc t.o] from rfl]
 by_cases c:t.w="one"
 ·rw[if_pos c,c]
  open_line with[zcg,zcV,show dEq (.str "one") (.str "one")=.ok (.bl true) from rfl]
 ·rw[if_neg c]
  rw[beq_eq_false_iff_ne.mpr c] at hb
  open_line with[zcg,zcV,hb]
def stL (ks:List Nat)(ts:List Tie):Nat->List D
 | 0=>[]
 | j+1=>stL ks ts j++(match ts[j]? with | some t=>if j∈ks then[] else stp j t | none=>[])
theorem znP {ks:List Nat}{ts:List Tie}:∀ j,(stL ks ts j).length<=2*j
 | 0=>Nat.zero_le _
 | j+1=>by
  unfold stL
  rw[List.length_append]
  have:=znP (ks:=ks) (ts:=ts) j
  split
  ·split
   ·simp;omega
   ·have:=zva (k:=j) (t:=‹Tie›);omega
  ·simp;omega
theorem zkH {k:Nat}{ks:List Nat}:zbz (.int (k:Int)) (zbA ks)=.ok (.bl (!(decide (k∈ks)))):=by
 have e:inD (.int (k:Int)) (zbA ks)=some (decide (k∈ks)):=by
  have h1:(ks.map fun(k:Nat)=>D.int (k:Int)).all (za0 40)=true:=List.all_eq_true.mpr fun d hd=>by
   obtain⟨z,_,rfl⟩:=List.mem_map.mp hd;rfl
  have h2:(ks.map fun(k:Nat)=>D.int (k:Int)).any (fun d=>eqD d (.int (k:Int)))=decide (k∈ks):=by
   induction ks with
   | nil=>rfl
   | cons y zs ih =>
    rw[List.map_cons,List.any_cons,ih (by
     rw[List.map_cons,List.all_cons,Bool.and_eq_true] at h1;exact h1.2)]
    rw[eqD]
    by_cases h:y=k
    ·subst h;simp
    ·have:((y:Int)==(k:Int))=false:=beq_eq_false_iff_ne.mpr (by omega)
     rw[this,Bool.false_or]
     simp [Ne.symm h]
  exact(if_pos ⟨rfl,h1⟩).trans (congrArg some h2)
 unfold zbz;rw[e]
def zmw:Ev->Res Fl:=(zan (sIf (zac (zaf 3) (zaf 1) zbz)
 (zan (zoG (zal (zad (zaf 4) zau) zcg) (zf2 [5,6])
 (zan (zb2 2 (zal (zad (zaf 3) (zad (zaf 5) (zad (zaf 6) zau))) zi9))
 zak))
 zak)
 zak)
 zak)
theorem zvU {w:Web}(W:zgt w){ks:List Nat}:zeG [za8 w,zbA ks]=.ok (.lst (stL ks w.ts w.ts.length)):=by
 have h14:=W.t14
 obtain⟨ρ',hl,x3,x4,x5,x6,rfl⟩:=zid (ds:=zaP 0 (w.ts.map zcM)) (tg:=zf2 [3,4]) (body:=zmw) (ρ:=[.sh (za8 w),.sh (zbA ks),.ow (.lst []),.no,.no,.no,.no])
  (fun j ρ=>∃ x3 x4 x5 x6,ρ=[.sh (za8 w),.sh (zbA ks),.ow (.lst (stL ks w.ts j)),x3,x4,x5,x6]) (by
   rintro j d hd ρ ⟨x3,x4,x5,x6,rfl⟩
   obtain⟨t,ht,rfl⟩:=zdu hd
   have hj:j < w.ts.length:=(List.getElem?_eq_some_iff.mp ht).1
   have hlen:=znP (ks:=ks) (ts:=w.ts) j
   have e1:stL ks w.ts (j+1)=stL ks w.ts j++(if j∈ks then[] else stp j t):=by
    conv=>lhs;unfold stL
    rw[ht]
   have hni:=zkH (k:=j) (ks:=ks)
   by_cases c:j∈ks
   ·rw[decide_eq_true c] at hni
    refine⟨_,[.sh (za8 w),.sh (zbA ks),.ow (.lst (stL ks w.ts j)),.sh (.int (j:Int)),.sh (zcM t),x5,x6],ev_gU rfl,?_,_,_,_,_,by rw[e1,if_pos c,List.append_nil]⟩
    unfold zmw
    open_line with[hni]
   ·rw[decide_eq_false c] at hni
    rw[e1,if_neg c]
    have ha:=zug (t:=t)
    have ap1:decide ((stL ks w.ts j).length<=999)=true:=decide_eq_true (by omega)
    unfold stp
    by_cases c1:t.w="one"
    ·rw[if_pos c1] at ha ⊢
     refine⟨_,[.sh (za8 w),.sh (zbA ks),.ow (.lst (stL ks w.ts j++[.tup [nI j,.str t.a,.str t.b]])),.sh (.int (j:Int)),.sh (zcM t),.sh (.str t.a),.sh (.str t.b)],ev_gU rfl,?_,_,_,_,_,rfl⟩
     have hf:zdy (zf2 [5,6]) (zan (zb2 2 (zal (zad (zaf 3) (zad (zaf 5) (zad (zaf 6) zau))) zi9)) zak) [.tup [.str t.a,.str t.b]] [.sh (za8 w),.sh (zbA ks),.ow (.lst (stL ks w.ts j)),.sh (.int (j:Int)),.sh (zcM t),x5,x6]=.ok (.nx [.sh (za8 w),.sh (zbA ks),.ow (.lst (stL ks w.ts j++[.tup [nI j,.str t.a,.str t.b]])),.sh (.int (j:Int)),.sh (zcM t),.sh (.str t.a),.sh (.str t.b)]):=by
      unfold zdy zdy
      rw[show zf2 [5,6] [.sh (za8 w),.sh (zbA ks),.ow (.lst (stL ks w.ts j)),.sh (.int (j:Int)),.sh (zcM t),x5,x6] (.tup [.str t.a,.str t.b])=.ok [.sh (za8 w),.sh (zbA ks),.ow (.lst (stL ks w.ts j)),.sh (.int (j:Int)),.sh (zcM t),.sh (.str t.a),.sh (.str t.b)] from ev_gU rfl]
      open_line with[ev_app1 ap1]
     unfold zmw
     open_line with[hni,ha,hf]
    ·rw[if_neg c1] at ha ⊢
     refine⟨_,[.sh (za8 w),.sh (zbA ks),.ow (.lst (stL ks w.ts j++[.tup [nI j,.str t.a,.str t.b],.tup [nI j,.str t.b,.str t.a]])),.sh (.int (j:Int)),.sh (zcM t),.sh (.str t.b),.sh (.str t.a)],ev_gU rfl,?_,_,_,_,_,rfl⟩
     have ap2:decide ((stL ks w.ts j++[D.tup [.int (j:Int),.str t.a,.str t.b]]).length<=999)=true:=decide_eq_true (by simp;omega)
     have hf:zdy (zf2 [5,6]) (zan (zb2 2 (zal (zad (zaf 3) (zad (zaf 5) (zad (zaf 6) zau))) zi9)) zak) [.tup [.str t.a,.str t.b],.tup [.str t.b,.str t.a]] [.sh (za8 w),.sh (zbA ks),.ow (.lst (stL ks w.ts j)),.sh (.int (j:Int)),.sh (zcM t),x5,x6]=.ok (.nx [.sh (za8 w),.sh (zbA ks),.ow (.lst (stL ks w.ts j++[.tup [nI j,.str t.a,.str t.b]]++[.tup [nI j,.str t.b,.str t.a]])),.sh (.int (j:Int)),.sh (zcM t),.sh (.str t.b),.sh (.str t.a)]):=by
      unfold zdy zdy zdy
      rw[show zf2 [5,6] [.sh (za8 w),.sh (zbA ks),.ow (.lst (stL ks w.ts j)),.sh (.int (j:Int)),.sh (zcM t),x5,x6] (.tup [.str t.a,.str t.b])=.ok [.sh (za8 w),.sh (zbA ks),.ow (.lst (stL ks w.ts j)),.sh (.int (j:Int)),.sh (zcM t),.sh (.str t.a),.sh (.str t.b)] from ev_gU rfl]
      open_line with[ev_app1 ap1,ev_app1 ap2]
     rw[List.append_assoc] at hf
     unfold zmw
     open_line with[hni,ha,hf]) ⟨.no,.no,.no,.no,rfl⟩
 have hlen:(zaP 0 (w.ts.map zcM)).length=w.ts.length:=by rw[zbM,List.length_map]
 rw[hlen] at hl
 unfold zmw at hl
 have i1:dIx (za8 w) (.int 1)=.ok (.lst (w.ts.map zcM)):=rfl
 open_line with[zeG,zeQ,i1,hl]
def zpM (ks:List Nat)(ss:List Str)(ts:List Tie)(n:Nat):List Nat:=(List.range n).filter fun k=>!(decide (k∈ks))&&(match ts[k]? with | some t=>zoW ss t | none=>false)
def pO (ss:List Str):D->Bool
 | .tup [_,.str a,.str b]=>decide (a∈ss)&&!(decide (b∈ss))
 | _=>false
def fO:D->D
 | .tup [x,_,_]=>x
 | d=>d
theorem zu9 {ss:List Str}{k:Nat}{t:Tie}(hw:t.w="one"∨t.w="both"):((stp k t).filter (pO ss)).map fO=if zoW ss t=true then[nI k] else[]:=by
 rcases hw with h | h
 ·have hl:zoW ss t=(decide (t.a∈ss)&&!(decide (t.b∈ss))):=by unfold zoW;rw[if_neg (by rw[h];decide)]
  have hs:stp k t=[.tup [nI k,.str t.a,.str t.b]]:=by unfold stp;rw[if_pos h]
  rw[hl,hs]
  have e:pO ss (.tup [nI k,.str t.a,.str t.b])=(decide (t.a∈ss)&&!(decide (t.b∈ss))):=rfl
  cases q:(decide (t.a∈ss)&&!(decide (t.b∈ss))) with
  | true=>rw[List.filter_cons_of_pos (by rw[e,q])];rfl
  | false=>rw[List.filter_cons_of_neg (by rw[e,q];decide)];rfl
 ·have hl:zoW ss t=(decide (t.a∈ss) != decide (t.b∈ss)):=by unfold zoW;rw[if_pos h]
  have hs:stp k t=[.tup [nI k,.str t.a,.str t.b],.tup [nI k,.str t.b,.str t.a]]:=by unfold stp;rw[if_neg (by rw[h];decide)]
  rw[hl,hs]
  have e1:pO ss (.tup [nI k,.str t.a,.str t.b])=(decide (t.a∈ss)&&!(decide (t.b∈ss))):=rfl
  have e2:pO ss (.tup [nI k,.str t.b,.str t.a])=(decide (t.b∈ss)&&!(decide (t.a∈ss))):=rfl
  cases q1:decide (t.a∈ss)<;>cases q2:decide (t.b∈ss)<;>rw[q1,q2] at e1 e2
  ·rw[List.filter_cons_of_neg (by rw[e1];decide),List.filter_cons_of_neg (by rw[e2];decide)];rfl
  ·rw[List.filter_cons_of_neg (by rw[e1];decide),List.filter_cons_of_pos (by rw[e2];rfl)];rfl
  ·rw[List.filter_cons_of_pos (by rw[e1];rfl),List.filter_cons_of_neg (by rw[e2];decide)];rfl
  ·rw[List.filter_cons_of_neg (by rw[e1];decide),List.filter_cons_of_neg (by rw[e2];decide)];rfl
theorem zqT {ks:List Nat}{ss:List Str}{ts:List Tie}(hw:∀ t∈ts,t.w="one"∨t.w="both"):∀ n,((stL ks ts n).filter (pO ss)).map fO=(zpM ks ss ts n).map nI
 | 0=>rfl
 | n+1=>by
  unfold stL zpM
  rw[List.filter_append,List.map_append,zqT hw n,List.range_succ,List.filter_append,List.map_append]
  congr 1
  cases e:ts[n]? with
  | none=>rw[List.filter_cons_of_neg (by simp [e])];rfl
  | some t =>
   show((if n∈ks then[] else stp n t).filter (pO ss)).map fO=_
   by_cases c:n∈ks
   ·rw[if_pos c,List.filter_cons_of_neg (by simp [c])];rfl
   ·rw[if_neg c,zu9 (hw t (List.mem_of_getElem? e))]
    cases q:zoW ss t with
    | true=>rw[if_pos rfl,List.filter_cons_of_pos (by simp [c,e,q])];rfl
    | false=>rw[if_neg (by decide),List.filter_cons_of_neg (by simp [e,q])];rfl
theorem zqU {ks:List Nat}{ts:List Tie}:∀ n,∀ d∈stL ks ts n,∃ (k:Nat) (a b:Str),d=.tup [nI k,.str a,.str b]
 | 0,d,hd=>(nomatch hd)
 | n+1,d,hd=>by
  unfold stL at hd
  rcases List.mem_append.mp hd with h | h
  ·exact zqU n d h
  ·split at h
   ·split at h
    ·cases h
    ·unfold stp at h
     split at h
     ·rw[List.mem_singleton.mp h];exact⟨_,_,_,rfl⟩
     ·rcases List.mem_cons.mp h with rfl | h
      ·exact⟨_,_,_,rfl⟩
      ·rw[List.mem_singleton.mp h];exact⟨_,_,_,rfl⟩
   ·cases h
theorem zxD {w:Web}(W:zgt w){ks:List Nat}{ss:List Str}:zdR [za8 w,zbA ks,.lst (ss.map D.str)]=.ok (zbA (zpM ks ss w.ts w.ts.length)):=by
 have h14:=W.t14
 have hl:=zvU W (ks:=ks)
 have hc:zgj 3 [2] (zf2 [0,1,2]) (zhT (zac (zaf 1) (zaf 3) dIn) (zac (zaf 2) (zaf 3) zbz)) (zaf 0) [.sh (za8 w),.sh (zbA ks),.sh (.lst (ss.map D.str))] (stL ks w.ts w.ts.length)=.ok (zbA (zpM ks ss w.ts w.ts.length)):=by
  rw[zer (F:=fO) (p:=pO ss) (by have:=znP (ks:=ks) (ts:=w.ts) w.ts.length;omega),zqT (fun t ht=>(W.ts t ht).w)]
  ·rfl
  ·intro d hd
   obtain⟨k,a,b,rfl⟩:=zqU _ d hd
   refine⟨[.sh (nI k),.sh (.str a),.sh (.str b),.sh (.lst (ss.map D.str))],rfl,?_,fun _=>rfl⟩
   show _=Res.ok (D.bl (decide (a∈ss)&&!(decide (b∈ss))))
   cases e:decide (a∈ss) with
   | true=>open_line with[zel,e,zgF,Bool.true_and]
   | false=>open_line with[zel,e,Bool.false_and]
 open_line with[zdR,zdZ,hl,hc]
def zeB (ks:List Nat)(ss:List Str)(ts:List Tie)(xs:List Fra)(n:Nat):List Fra:=(zpM ks ss ts n).map fun k=>xs.getD k (0,1)
theorem zmE {ks:List Nat}{ss:List Str}{ts:List Tie}{xs:List Fra}{n:Nat}(hx:∀ x∈xs,zcZ x):∀ x∈zeB ks ss ts xs n,zcZ x:=fun x hm=>by
 obtain⟨k,_,rfl⟩:=List.mem_map.mp hm
 rw[List.getD_eq_getElem?_getD]
 cases e:xs[k]? with
 | none=>exact⟨⟨by decide,by decide⟩,by decide,by decide⟩
 | some y=>exact hx y (List.mem_of_getElem? e)
theorem zmD {ks:List Nat}{ss:List Str}{ts:List Tie}{xs:List Fra}{n:Nat}:(zeB ks ss ts xs n).length<=n:=by
 unfold zeB zpM
 rw[List.length_map]
 exact Nat.le_trans (List.length_filter_le _ _) (by simp)
theorem zkD {w:Web}{xs:List Fra}(W:zgt w)(hl:xs.length=w.ts.length)(hx:∀ x∈xs,zcZ x/\0<=x.1):zcT [za8 w,.lst (xs.map fr)]=.ok .non:=by
 have h14:=W.t14
 have i1:dIx (za8 w) (.int 1)=.ok (.lst (w.ts.map zcM)):=rfl
 have hc:∀ ρ:Ev,zgj 1 [] (zfD 0) mYes (zal (zad (zaf 0) zau) zb5) ρ (xs.map fr)=.ok (.lst ((xs.map fr).map fun _=>.bl true)):=fun ρ=>by
  rw[zgK (F:=fun _=>.bl true) (by rw[List.length_map];omega)]
  intro d hd
  obtain⟨x,hm,rfl⟩:=List.mem_map.mp hd
  refine⟨[.sh (fr x)],rfl,rfl,?_⟩
  have:=zjy (hx x hm).1.toLow (hx x hm).2
  open_line with[this]
 have hall:=zuF (ds:=xs.map fr) (g:=fun _=>true)
 have ht:(xs.map fr).all (fun _=>true)=true:=List.all_eq_true.mpr fun _ _=>rfl
 rw[ht] at hall
 have hh:zdS [za8 w,.lst (xs.map fr)]=.ok (.bl true):=by
  have hne:dNe (.int (xs.length:Int)) (.int (w.ts.length:Int))=.ok (.bl false):=by rw[hl,ne_int];simp
  have e1:zgR (.lst (xs.map fr))=.ok (.int (xs.length:Int)):=by show Res.ok (D.int _)=_;rw[List.length_map]
  have e2:zgR (.lst (w.ts.map zcM))=.ok (.int (w.ts.length:Int)):=by show Res.ok (D.int _)=_;rw[List.length_map]
  generalize hX:xs.map fr=X at *
  open_line with[zdS,zd0,i1,List.length_map]
  rw[show X.length=xs.length by rw[← hX,List.length_map],hl]
  open_line with[ne_int,bne_self_eq_false,hc,hall]
 have hw:=Wex.webX W
 open_line with[zcT,zcW,hw,hh]
theorem zq4 {w:Web}{xs:List Fra}{ks:List Nat}{d:D}(W:zgt w)(T:zlZ w ks)(hl:xs.length=w.ts.length)(hx:∀ x∈xs,zcZ x/\0<=x.1)(h:zaH [za8 w,d]=.exn ⟨"NoSide",[]⟩):zdv [za8 w,.lst (xs.map fr),zbA ks,d]=.exn ⟨"NoSide",[]⟩:=by
 have h1:=zkD W hl hx
 have h2:=Wex.takingX W T
 generalize D.lst (xs.map fr)=X at *
 open_line with[zdv,zgm,h1,h2,h,zjP]
theorem ztd {w:Web}{xs:List Fra}{ks:List Nat}{ss:List Str}(W:zgt w)(T:zlZ w ks)(hl:xs.length=w.ts.length)(hx:∀ x∈xs,zcZ x/\0<=x.1)(h:zaH [za8 w,.lst (ss.map D.str)]=.ok .non):zdv [za8 w,.lst (xs.map fr),zbA ks,.lst (ss.map D.str)]=.ok (fr (zh1 (zeB ks ss w.ts xs w.ts.length))):=by
 have h14:=W.t14
 have h1:=zkD W hl hx
 have h2:=Wex.takingX W T
 have h3:=zxD W (ks:=ks) (ss:=ss)
 have hs:=Wex.rf_sum.ok (zqQ (xs:=zeB ks ss w.ts xs w.ts.length) (by have:=zmD (ks:=ks) (ss:=ss) (ts:=w.ts) (xs:=xs) (n:=w.ts.length);omega) (zmE fun x hm=>(hx x hm).1))
 have hc:∀ A B C:Sl,zgj 1 [1] (zfD 0) mYes (zac (zaf 1) (zaf 0) dIx) [A,.sh (.lst (xs.map fr)),B,C] ((zpM ks ss w.ts w.ts.length).map fun(k:Nat)=>D.int (k:Int))=.ok (.lst ((zeB ks ss w.ts xs w.ts.length).map fr)):=fun A B C=>by
  rw[zgK (F:=fun d=>match d with | .int v=>fr (xs.getD v.toNat (0,1)) | d=>d) (by rw[List.length_map];unfold zpM;exact Nat.le_trans (List.length_filter_le _ _) (by simp;omega))]
  ·unfold zeB;rw[List.map_map,List.map_map];rfl
  ·intro d hd
   obtain⟨k,hk,rfl⟩:=List.mem_map.mp hd
   have hk':k < xs.length:=by
    have:=List.mem_range.mp (List.mem_filter.mp hk).1
    omega
   refine⟨[.sh (.int (k:Int)),.sh (.lst (xs.map fr))],rfl,rfl,?_⟩
   have hix:dIx (.lst (xs.map fr)) (.int (k:Int))=.ok (fr (xs.getD k (0,1))):=zfo (by
    rw[List.getElem?_map,List.getElem?_eq_getElem hk',List.getD_eq_getElem?_getD,List.getElem?_eq_getElem hk'];rfl)
   open_line with[hix,Int.toNat_natCast]
 have hsrc:zvb (zbA (zpM ks ss w.ts w.ts.length))=.ok ((zpM ks ss w.ts w.ts.length).map fun(k:Nat)=>D.int (k:Int)):=rfl
 generalize D.lst (xs.map fr)=X at *
 generalize D.lst (ss.map D.str)=S at *
 open_line with[zdv,zgm,h1,h2,h,h3,hsrc,hc,hs]
 rfl
theorem zro {ks:List Nat}{ss:List Str}{ts:List Tie}{j:Nat}{t:Tie}(h:ts[j]?=some t):zpM ks ss ts (j+1)=zpM ks ss ts j++(if(!(decide (j∈ks))&&zoW ss t)=true then[j] else[]):=by
 unfold zpM
 rw[List.range_succ,List.filter_append]
 congr 1
 cases q:(!(decide (j∈ks))&&zoW ss t) with
 | true=>rw[List.filter_cons_of_pos (by rw[h];exact q)];rfl
 | false=>rw[List.filter_cons_of_neg (by rw[h];show ¬ (!(decide (j∈ks))&&zoW ss t)=true;rw[q];decide)];rfl
def zmF:Ev->Res Fl:=(zan (sIf (zhT (zac (zaf 5) (zaf 2) zbz) (zal (zad (zaf 6) (zad (zaf 3) zau)) zbd))
 (zan (zbb 4 (zal (zad (zaf 4) (zad (zac (zaf 1) (zaf 5) dIx) (zad (dC (.int 1)) zau))) zej))
 zak)
 zak)
 zak)
theorem ztF {w:Web}{xs:List Fra}{ks:List Nat}{ss:List Str}(W:zgt w)(hl:xs.length=w.ts.length)(hx:∀ x∈xs,zcZ x/\0<=x.1):zei [za8 w,.lst (xs.map fr),zbA ks,.lst (ss.map D.str)]=.ok (fr (zh1 (zeB ks ss w.ts xs w.ts.length))):=by
 have h14:=W.t14
 have s0:zh1 (zeB ks ss w.ts xs 0)=(0,1):=by show low 0 1=(0,1);decide
 obtain⟨ρ',hf,x5,x6,rfl⟩:=zid (ds:=zaP 0 (w.ts.map zcM)) (tg:=zf2 [5,6]) (body:=zmF) (ρ:=[.sh (za8 w),.sh (.lst (xs.map fr)),.sh (zbA ks),.sh (.lst (ss.map D.str)),.sh (fr (0,1)),.no,.no])
  (fun j ρ=>∃ x5 x6,ρ=[.sh (za8 w),.sh (.lst (xs.map fr)),.sh (zbA ks),.sh (.lst (ss.map D.str)),.sh (fr (zh1 (zeB ks ss w.ts xs j))),x5,x6]) (by
   rintro j d hd ρ ⟨x5,x6,rfl⟩
   obtain⟨t,ht,rfl⟩:=zdu hd
   have hj:j < w.ts.length:=(List.getElem?_eq_some_iff.mp ht).1
   have hni:=zkH (k:=j) (ks:=ks)
   have hld:=ztD (W.ts t (List.mem_of_getElem? ht)) (ss:=ss)
   have hjx:j < xs.length:=by omega
   have hix:dIx (.lst (xs.map fr)) (.int (j:Int))=.ok (fr (xs.getD j (0,1))):=zfo (by
    rw[List.getElem?_map,List.getElem?_eq_getElem hjx,List.getD_eq_getElem?_getD,List.getElem?_eq_getElem hjx];rfl)
   have hfx:zcZ (xs.getD j (0,1)):=by
    rw[List.getD_eq_getElem?_getD,List.getElem?_eq_getElem hjx];exact(hx _ (List.getElem_mem hjx)).1
   have hpl:=zvs (xs:=zeB ks ss w.ts xs j) (x:=xs.getD j (0,1)) (s:=1) (by have:=zmD (ks:=ks) (ss:=ss) (ts:=w.ts) (xs:=xs) (n:=j);omega) (zmE fun x hm=>(hx x hm).1) hfx (.inl rfl)
   have hsg:sg 1 (xs.getD j (0,1))=xs.getD j (0,1):=by unfold sg;rw[Int.one_mul]
   rw[hsg] at hpl
   have e1:zeB ks ss w.ts xs (j+1)=zeB ks ss w.ts xs j++(if(!(decide (j∈ks))&&zoW ss t)=true then[xs.getD j (0,1)] else[]):=by
    unfold zeB
    rw[zro ht,List.map_append]
    congr 1
    split<;>rfl
   rw[e1]
   cases c:decide (j∈ks) with
   | true =>
    rw[c] at hni
    refine⟨_,[.sh (za8 w),.sh (.lst (xs.map fr)),.sh (zbA ks),.sh (.lst (ss.map D.str)),.sh (fr (zh1 (zeB ks ss w.ts xs j))),.sh (.int (j:Int)),.sh (zcM t)],ev_gU rfl,?_,_,_,by rw[if_neg (by simp),List.append_nil]⟩
    unfold zmF
    generalize fr (zh1 (zeB ks ss w.ts xs j))=Z at *
    open_line with[hni]
   | false =>
    rw[c] at hni
    cases q:zoW ss t with
    | false =>
     rw[q] at hld
     refine⟨_,[.sh (za8 w),.sh (.lst (xs.map fr)),.sh (zbA ks),.sh (.lst (ss.map D.str)),.sh (fr (zh1 (zeB ks ss w.ts xs j))),.sh (.int (j:Int)),.sh (zcM t)],ev_gU rfl,?_,_,_,by rw[if_neg (by simp),List.append_nil]⟩
     unfold zmF
     generalize fr (zh1 (zeB ks ss w.ts xs j))=Z at *
     open_line with[hni,hld]
    | true =>
     rw[q] at hld
     refine⟨_,[.sh (za8 w),.sh (.lst (xs.map fr)),.sh (zbA ks),.sh (.lst (ss.map D.str)),.sh (fr (zh1 (zeB ks ss w.ts xs j++[xs.getD j (0,1)]))),.sh (.int (j:Int)),.sh (zcM t)],ev_gU rfl,?_,_,_,by rw[if_pos (by simp)]⟩
     unfold zmF
     generalize fr (zh1 (zeB ks ss w.ts xs j))=Z at *
     generalize fr (zh1 (zeB ks ss w.ts xs j++[xs.getD j (0,1)]))=Z2 at *
     generalize fr (xs.getD j (0,1))=Y at *
     generalize D.lst (xs.map fr)=X at *
     open_line with[hni,hld,hix,hpl]) ⟨.no,.no,by rw[s0]⟩
 have hlen:(zaP 0 (w.ts.map zcM)).length=w.ts.length:=by rw[zbM,List.length_map]
 rw[hlen] at hf
 unfold zmF at hf
 have i1:dIx (za8 w) (.int 1)=.ok (.lst (w.ts.map zcM)):=rfl
 rw[show fr (0,1)=.tup [.int 0,.int 1] from rfl] at hf
 generalize fr (zh1 (zeB ks ss w.ts xs w.ts.length))=Z at *
 open_line with[zei,zfK,i1,hf]
theorem zvj {x:Fra}:zfC [fr x,fr x]=.ok (.bl true):=by
 have hn:dNe (fr x) (fr x)=.ok (.bl false):=zzf
 have ht:(zcj "tuple") (fr x)=.ok (.bl true):=rfl
 have i0:dIx (fr x) (.int 0)=.ok (.int x.1):=rfl
 have i1:dIx (fr x) (.int 1)=.ok (.int x.2):=rfl
 open_line with[zfC,zfJ,ht,hn,i0,i1,zwd]
structure Sd (d:D):Prop where
 h:(∃ ds,d=.lst ds/\ds.length<=900/\PL ds)∨zcj "list" d=.ok (.bl false)
 n:zyh d d=.ok (.bl false)
theorem zqK {Wd X T d:D}(h1:zdv [Wd,X,T,d]=.exn ⟨"NoSide",[]⟩)(h2:zaW [Wd,d]=.ok (.bl false)):zbB [Wd,X,T,d]=.ok (.bl true):=by
 have t1:zu3 "NoSide"=some false:=rfl
 have t2:zu2 "NoSide"=some false:=rfl
 have t3:zu1 "NoSide"=some true:=rfl
 have t4:zu0 "NoSide"=some true:=rfl
 open_line with[zbB,zdn,zux,zrZ,zo3,h1,zjP,zv9 (show zrO zgI "NoSide"=true from rfl),zx7,h2,zo4 t1,zo4 t2,zo4 t3,zo4 t4]
theorem zsT {Wd X T d:D}{u:Fra}(h1:zdv [Wd,X,T,d]=.ok (fr u))(h2:zaW [Wd,d]=.ok (.bl true))(h3:zei [Wd,X,T,d]=.ok (fr u)):zbB [Wd,X,T,d]=.ok (.bl true):=by
 have hs:=zvj (x:=u)
 generalize fr u=U at *
 open_line with[zbB,zdn,zux,zrZ,zo3,h1,zwa,h2,h3,hs]
theorem zqJ {w:Web}{xs:List Fra}{ks:List Nat}{d:D}(W:zgt w)(T:zlZ w ks)(hl:xs.length=w.ts.length)(hx:∀ x∈xs,zcZ x/\0<=x.1)(h:Sd d):zbB [za8 w,.lst (xs.map fr),zbA ks,d]=.ok (.bl true):=by
 rcases h.h with⟨ds,rfl,hn,hp⟩ | hno
 ·have hs:=zvY (w:=w) hp
  obtain⟨k1,k2⟩:=zrG W (by omega) hp
  cases e:zkm w ds with
  | false =>
   rw[e] at hs
   exact zqK (zq4 W T hl hx (k2 e)) hs
  | true =>
   rw[e] at hs
   obtain⟨h1,ss,rfl⟩:=k1 e
   exact zsT (ztd W T hl hx h1) hs (ztF W hl hx)
 ·exact zqK (zq4 W T hl hx (zmR hno)) (zpZ hno)
theorem zm1 {ds:List D}{v:Int}(h0:0<=v)(h1:v < (ds.length:Int)):∃ d,dIx (.lst ds) (.int v)=.ok d/\d∈ds:=by
 have hk:v.toNat < ds.length:=by omega
 refine⟨ds[v.toNat],?_,List.getElem_mem hk⟩
 have:=zfo (List.getElem?_eq_getElem hk)
 rw[show((v.toNat:Nat):Int)=v by omega] at this
 exact this
theorem zx8 {ds es:List D}(h:decide (ds.length+es.length<=1000)=true):zqj (.lst ds) (.lst es)=.ok (.lst (ds++es)):=if_pos (Nat.le_trans (of_decide_eq_true h) (by decide))
theorem PL.app {a b:List D}(ha:PL a)(hb:PL b):PL (a++b):=⟨fun x h=>(List.mem_append.mp h).elim (ha.f x) (hb.f x),fun x h=>(List.mem_append.mp h).elim (ha.s x) (hb.s x)⟩
theorem PL.sub {a b:List D}(ha:PL a)(h:∀ x∈b,x∈a):PL b:=⟨fun x hx=>ha.f x (h x hx),fun x hx=>ha.s x (h x hx)⟩
theorem PL.one {d:D}(h:fit d=true)(hs:za0 39 d=true):PL [d]:=⟨fun x hx=>by rw[List.mem_singleton.mp hx];exact h,fun x hx=>by rw[List.mem_singleton.mp hx];exact hs⟩
theorem zyj {a:List D}{lo hi:Option Int}(h:PL a):PL (ze6 a lo hi):=h.sub fun x hx=>List.mem_of_mem_drop (List.mem_of_mem_take hx)
theorem zwm {a:List D}{lo hi:Option Int}:(ze6 a lo hi).length<=a.length:=by
 unfold ze6;rw[List.length_take,List.length_drop];omega
theorem zfS {ds:List D}(hl:ds.length<=900)(h:PL ds):Sd (.lst ds):=by
 have hs:za0 40 (.lst ds)=true:=List.all_eq_true.mpr h.s
 refine⟨.inl ⟨ds,rfl,hl,h⟩,?_⟩
 show dNe (.lst ds) (.lst ds)=_
 unfold dNe
 rw[if_pos ⟨hs,hs⟩,zeK 40 _ hs];rfl
theorem zqZ {d:D}(h:zcj "list" d=.ok (.bl false))(hs:za0 40 d=true):Sd d:=by
 have hn:dNe d d=.ok (.bl false):=by
  unfold dNe
  rw[if_pos ⟨hs,hs⟩,zeK 40 _ hs];rfl
 refine⟨.inr h,?_⟩
 cases d with
 | dic a b=>cases hs
 | _=>exact hn
theorem zs5 {w:Web}:za0 40 (za8 w)=true:=by
 have h1:za0 39 (.lst (w.ps.map D.str))=true:=zfh
 have h2:za0 39 (.lst (w.ts.map zcM))=true:=List.all_eq_true.mpr fun d hd=>by
  obtain⟨t,_,rfl⟩:=List.mem_map.mp hd
  exact zoD
 show(za0 39 (.lst (w.ps.map D.str))&&(za0 39 (.lst (w.ts.map zcM))&&(za0 39 (.str w.fi)&&(za0 39 (.str w.la)&&true))))=true
 rw[h1,h2];rfl
theorem zhK {w:Web}(W:zgt w){z:Str}(h:z∈w.ps):z.length<=8:=by
 have:=W.nm.nm z h
 unfold nameB at this
 simp only[Bool.and_eq_true,decide_eq_true_eq] at this
 exact this.2.1
theorem zqR {zs:List Str}(h:∀ z∈zs,z.length<=8):PL (zs.map D.str):=⟨fun x hx=>by
 obtain⟨z,hz,rfl⟩:=List.mem_map.mp hx
 exact decide_eq_true (Nat.le_trans (h z hz) (by decide)),fun x hx=>by
 obtain⟨z,hz,rfl⟩:=List.mem_map.mp hx
 rfl⟩
def zji:Ev->Res Fl:=(zan (sIf (dOr (zac (zaf 4) (zac (zaf 0) (dC (.int 2)) dIx) dEq) (zhT (zac (zaf 4) (zac (zaf 0) (dC (.int 3)) dIx) dNe) (zac (zac (zac (zac (zaf 1) (dC (.int 0)) dIx) (zaf 3) zwi) (dC (.int 1)) zoj) (dC (.int 1)) dEq)))
 (zan (zb2 2 (zaf 4))
 zak)
 zak)
 zak)
theorem zvh {w:Web}(W:zgt w){Vs:D}{v0:Int}(h0:dIx Vs (.int 0)=.ok (.int v0)):∃ (ss:List Str) (x3 x4:Sl),zdy (zf2 [3,4]) zji (zaP 0 (w.ps.map D.str)) [.sh (za8 w),.sh Vs,.ow (.lst []),.no,.no,.no,.no,.no,.no]=.ok (.nx [.sh (za8 w),.sh Vs,.ow (.lst (ss.map D.str)),x3,x4,.no,.no,.no,.no])/\ss.length<=7/\∀ z∈ss,z∈w.ps:=by
 have n7:=W.n7
 obtain⟨ρ',hf,ss,x3,x4,rfl,hl,hm⟩:=zid (ds:=zaP 0 (w.ps.map D.str)) (tg:=zf2 [3,4]) (body:=zji) (ρ:=[.sh (za8 w),.sh Vs,.ow (.lst []),.no,.no,.no,.no,.no,.no])
  (fun j ρ=>∃ (ss:List Str) (x3 x4:Sl),ρ=[.sh (za8 w),.sh Vs,.ow (.lst (ss.map D.str)),x3,x4,.no,.no,.no,.no]/\ss.length<=j/\∀ z∈ss,z∈w.ps) (by
   rintro j d hd ρ ⟨ss,x3,x4,rfl,hl,hm⟩
   obtain⟨z,hz,rfl⟩:=zdu hd
   have hj:j < w.ps.length:=(List.getElem?_eq_some_iff.mp hz).1
   have i2:dIx (za8 w) (.int 2)=.ok (.str w.fi):=rfl
   have i3:dIx (za8 w) (.int 3)=.ok (.str w.la):=rfl
   obtain⟨b1,e1⟩:∃ b,dEq (.str z) (.str w.fi)=.ok (.bl b):=⟨_,if_pos ⟨rfl,rfl⟩⟩
   obtain⟨b2,e2⟩:∃ b,dNe (.str z) (.str w.la)=.ok (.bl b):=⟨_,if_pos ⟨rfl,rfl⟩⟩
   have hs:zwi (.int v0) (.int (j:Int))=.ok (.int (v0 / 2 ^ j)):=by
    show(if decide (0<=(j:Int))=true then Res.ok (D.int (v0 / 2 ^ (j:Int).toNat)) else .stuck)=_
    rw[if_pos (decide_eq_true (by omega)),Int.toNat_natCast]
   have hb:zoj (.int (v0 / 2 ^ j)) (.int 1)=.ok (.int (Builtin.bitAnd (v0 / 2 ^ j) 1)):=rfl
   obtain⟨b3,e3⟩:∃ b,dEq (.int (Builtin.bitAnd (v0 / 2 ^ j) 1)) (.int 1)=.ok (.bl b):=⟨_,if_pos ⟨rfl,rfl⟩⟩
   generalize Builtin.bitAnd (v0 / 2 ^ j) 1=q at *
   have hap:decide ((ss.map D.str).length<=999)=true:=decide_eq_true (by rw[List.length_map];omega)
   generalize za8 w=Wd at *
   have yes:ss.length+1<=j+1/\∀ y∈ss++[z],y∈w.ps:=⟨by omega,fun y hy=>(List.mem_append.mp hy).elim (hm y) fun h=>by rw[List.mem_singleton.mp h];exact List.mem_of_getElem? hz⟩
   have y1:(ss++[z]).length<=j+1:=by simp;omega
   have y2:(ss++[z]).map D.str=ss.map D.str++[.str z]:=by rw[List.map_append];rfl
   cases b1 with
   | true =>
    refine⟨_,[.sh Wd,.sh Vs,.ow (.lst (ss.map D.str++[.str z])),.sh (.int (j:Int)),.sh (.str z),.no,.no,.no,.no],ev_gU rfl,?_,ss++[z],_,_,by rw[y2],y1,yes.2⟩
    unfold zji
    open_line with[i2,e1,hap]
   | false =>
    cases b2 with
    | false =>
     refine⟨_,[.sh Wd,.sh Vs,.ow (.lst (ss.map D.str)),.sh (.int (j:Int)),.sh (.str z),.no,.no,.no,.no],ev_gU rfl,?_,ss,_,_,rfl,by omega,hm⟩
     unfold zji
     open_line with[i2,e1,i3,e2]
    | true =>
     cases b3 with
     | false =>
      refine⟨_,[.sh Wd,.sh Vs,.ow (.lst (ss.map D.str)),.sh (.int (j:Int)),.sh (.str z),.no,.no,.no,.no],ev_gU rfl,?_,ss,_,_,rfl,by omega,hm⟩
      unfold zji
      open_line with[i2,e1,i3,e2,h0,hs,hb,e3]
     | true =>
      refine⟨_,[.sh Wd,.sh Vs,.ow (.lst (ss.map D.str++[.str z])),.sh (.int (j:Int)),.sh (.str z),.no,.no,.no,.no],ev_gU rfl,?_,ss++[z],_,_,by rw[y2],y1,yes.2⟩
      unfold zji
      open_line with[i2,e1,i3,e2,h0,hs,hb,e3,hap]) ⟨[],.no,.no,rfl,Nat.le_refl _,fun z h=>(nomatch h)⟩
 rw[zbM,List.length_map] at hl
 exact⟨ss,x3,x4,hf,by omega,hm⟩
theorem zve {w:Web}(W:zgt w){vs:List Int}(V:Drawn [128,16384,16,5040,5040,10] vs):∃ d,zcw [za8 w,.lst (vs.map D.int)]=.ok d/\Sd d:=by
 obtain⟨v0,_,_,g0⟩:=V.ix 0 0 rfl rfl
 obtain⟨v2,_,⟨b2,c2⟩,g2⟩:=V.ix 2 2 rfl rfl
 obtain⟨v3,_,⟨b3,c3⟩,g3⟩:=V.ix 3 3 rfl rfl
 obtain⟨v4,_,⟨b4,c4⟩,g4⟩:=V.ix 4 4 rfl rfl
 obtain⟨v5,_,⟨b5,c5⟩,g5⟩:=V.ix 5 5 rfl rfl
 generalize hVs:D.lst (vs.map D.int)=Vs at *
 obtain⟨ss,x3,x4,hf,hsl,hsm⟩:=zvh W g0
 have i0:dIx (za8 w) (.int 0)=.ok (.lst (w.ps.map D.str)):=rfl
 have i2:dIx (za8 w) (.int 2)=.ok (.str w.fi):=rfl
 have i3:dIx (za8 w) (.int 3)=.ok (.str w.la):=rfl
 have hSP:PL (ss.map D.str):=zqR fun z hz=>zhK W (hsm z hz)
 have hSl:(ss.map D.str).length<=7:=by rw[List.length_map];exact hsl
 have hPP:PL (w.ps.map D.str):=zqR fun z hz=>zhK W hz
 have hPl:(w.ps.map D.str).length<=7:=by rw[List.length_map];exact W.n7
 have hP2:2<=(w.ps.map D.str).length:=by rw[List.length_map];exact W.n2
 have f8:=zhK W W.fi
 have l8:=zhK W W.la
 have hpl:PL [.str w.la]:=.one (decide_eq_true (Nat.le_trans l8 (by decide))) rfl
 have hsw:=zs5 (w:=w)
 have hisw:zcj "list" (za8 w)=.ok (.bl false):=rfl
 have hS3:∀ x∈ss.map D.str,za0 38 x=true:=fun x hx=>by
  obtain⟨z,_,rfl⟩:=List.mem_map.mp hx
  rfl
 have hss:za0 40 (.tup (ss.map D.str))=true:=List.all_eq_true.mpr hSP.s
 obtain⟨N,hcomp,hNP,hNl⟩:∃ N,(∀ r,zgj 1 [0] (zfD 0) (zac (zaf 0) (zac (zaf 1) (dC (.int 2)) dIx) dNe) (zaf 0) (.sh (za8 w)::r) (w.ps.map D.str)=.ok (.lst N))/\PL N/\N.length<=7:=by
  refine⟨((w.ps.map D.str).filter fun d=>!(eqD d (.str w.fi))).map id,fun r=>?_,?_,?_⟩
  ·refine zer (by omega) fun d hd=>?_
   obtain⟨z,_,rfl⟩:=List.mem_map.mp hd
   refine⟨[.sh (.str z),.sh (za8 w)],rfl,?_,fun _=>rfl⟩
   have hne:dNe (.str z) (.str w.fi)=.ok (.bl (!(eqD (.str z) (.str w.fi)))):=if_pos ⟨rfl,rfl⟩
   generalize za8 w=Wd at *
   open_line with[i2,hne]
  ·rw[List.map_id];exact hPP.sub fun x hx=>(List.mem_filter.mp hx).1
  ·rw[List.map_id];exact Nat.le_trans (List.length_filter_le _ _) hPl
 generalize za8 w=Wd at *
 generalize ss.map D.str=S at *
 generalize w.ps.map D.str=PS at *
 obtain⟨a,hmod⟩:∃ a,zeA (.int v3) (.int ((S.length:Int)+1))=.ok (.int a):=⟨_,zmQ (by omega)⟩
 obtain⟨k,hk,hkb⟩:∃ k,zeA (.int v4) (.int (PS.length:Int))=.ok (.int k)/\0<=k/\k < (PS.length:Int):=⟨_,zmQ (by omega),by rw[Int.fmod_eq_emod_of_nonneg _ (by omega)];exact Int.emod_nonneg _ (by omega),Int.fmod_lt_of_pos _ (by omega)⟩
 obtain⟨p,hp,hpm⟩:=zm1 hkb.1 hkb.2
 have q1:∀ (lo hi:Option Int),(ze6 S lo hi).length<=7:=fun lo hi=>Nat.le_trans zwm hSl
 have q2:∀ (lo hi:Option Int),PL (ze6 S lo hi):=fun lo hi=>zyj hSP
 have ad:∀ {x y:List D},x.length+y.length<=1000->zbR (.lst x) (.lst y)=.ok (.lst (x++y)):=fun h=>ev_addL (decide_eq_true h)
 have hfa:zbR (.str w.fi) (.str "a")=.ok (.str (w.fi++"a")):=ev_addS (decide_eq_true (by have:("a" : Str).length=1:=rfl;omega))
 have hup:znf (.str w.fi)=.ok (.str (Txt.upper w.fi)):=if_pos (by omega)
 have hul:=PyProof.Rows.len_upper w.fi
 obtain⟨o,ho,hom⟩:=zm1 (ds:=[.int 7,.non,.str "",p,.lst (ze6 S none (some 1)),.tup [.str "a"],.str (w.fi++"a"),.str (Txt.upper w.fi),.bl true,.int 0]) b5 c5
 have hoP:fit o=true/\za0 39 o=true:=by
  simp only[List.mem_cons,List.not_mem_nil,or_false] at hom
  rcases hom with rfl | rfl | rfl | rfl | rfl | rfl | rfl | rfl | rfl | rfl
  ·exact⟨rfl,rfl⟩
  ·exact⟨rfl,rfl⟩
  ·exact⟨rfl,rfl⟩
  ·exact⟨hPP.f _ hpm,hPP.s _ hpm⟩
  ·refine⟨rfl,List.all_eq_true.mpr fun x hx=>?_⟩
   exact hS3 x (List.mem_of_mem_drop (List.mem_of_mem_take hx))
  ·exact⟨rfl,rfl⟩
  ·refine⟨decide_eq_true ?_,rfl⟩
   have:(w.fi++("a" : Str)).length=w.fi.length+1:=by rw[Str.length_append];rfl
   unfold line;omega
  ·refine⟨decide_eq_true ?_,rfl⟩
   unfold line;omega
  ·exact⟨rfl,rfl⟩
  ·exact⟨rfl,rfl⟩
 obtain⟨x6,h6,h6m⟩:=zm1 (ds:=[.tup S,.non,.str w.fi,.dic [] [],.int 7,Wd]) (v:=v4.fmod 6) (by rw[Int.fmod_eq_emod_of_nonneg _ (by decide)];exact Int.emod_nonneg _ (by decide)) (Int.fmod_lt_of_pos _ (by decide))
 have s6:Sd x6:=by
  simp only[List.mem_cons,List.not_mem_nil,or_false] at h6m
  rcases h6m with rfl | rfl | rfl | rfl | rfl | rfl
  ·exact zqZ rfl hss
  ·exact zqZ rfl rfl
  ·exact zqZ rfl rfl
  ·exact⟨.inr rfl,rfl⟩
  ·exact zqZ rfl rfl
  ·exact zqZ hisw hsw
 have o1:PL [o]:=.one hoP.1 hoP.2
 have r1:zzz (.lst S)=.ok (.lst S.reverse):=rfl
 have r2:zsc (.lst S)=.ok (.tup S):=rfl
 have a1:=ad (x:=S) (y:=ze6 S none (some 1)) (by have:=q1 none (some 1);omega)
 have a2:=ad (x:=ze6 S none (some a)) (y:=[o]) (by have:=q1 none (some a);simp;omega)
 have a3:=ad (x:=ze6 S none (some a)++[o]) (y:=ze6 S (some a) none) (by have:=q1 none (some a);have:=q1 (some a) none;simp;omega)
 have a4:=ad (x:=ze6 S none (some a)) (y:=ze6 S (some (a+1)) none) (by have:=q1 none (some a);have:=q1 (some (a+1)) none;omega)
 have a5:=ad (x:=S) (y:=[.str w.la]) (by simp;omega)
 have a6:=ad (x:=ze6 S (some a) none) (y:=ze6 S none (some a)) (by have:=q1 none (some a);have:=q1 (some a) none;omega)
 have a7:=ad (x:=ze6 S none (some a)) (y:=ze6 S none (some a)) (by have:=q1 none (some a);omega)
 have a8:=ad (x:=ze6 S none (some a)++ze6 S none (some a)) (y:=S) (by have:=q1 none (some a);simp;omega)
 obtain⟨n_,hn,hnm⟩:=zm1 (ds:=[.int 0,.int 0,.int 0,.int 0,.int 1,.int 2,.int 3,.int 4,.int 5,.int 6,.int 7,.int 8,.int 9,.int 10,.int 11,.int 3]) b2 c2
 obtain⟨n,rfl,n0,n1⟩:∃ n:Int,n_=.int n/\0<=n/\n < 12:=by
  simp only[List.mem_cons,List.not_mem_nil,or_false] at hnm
  rcases hnm with h | h | h | h | h | h | h | h | h | h | h | h | h | h | h | h<;>exact⟨_,h,by decide,by decide⟩
 obtain⟨r,hr,hrm⟩:=zm1 (ds:=[.lst S,.lst S.reverse,.lst (S++ze6 S none (some 1)),.lst (ze6 S none (some a)++[o]++ze6 S (some a) none),.lst (ze6 S none (some a)++ze6 S (some (a+1)) none),.lst N,.lst PS,.lst [],.lst (S++[.str w.la]),x6,.lst (ze6 S (some a) none++ze6 S none (some a)),.lst (ze6 S none (some a)++ze6 S none (some a)++S)]) n0 n1
 have sr:Sd r:=by
  have k1:=q1 none (some 1)
  have k2:=q1 none (some a)
  have k3:=q1 (some a) none
  have k4:=q1 (some (a+1)) none
  simp only[List.mem_cons,List.not_mem_nil,or_false] at hrm
  rcases hrm with rfl | rfl | rfl | rfl | rfl | rfl | rfl | rfl | rfl | rfl | rfl | rfl
  ·exact zfS (by omega) hSP
  ·exact zfS (by rw[List.length_reverse];omega) (hSP.sub fun x hx=>List.mem_reverse.mp hx)
  ·exact zfS (by rw[List.length_append];omega) (hSP.app (q2 _ _))
  ·exact zfS (by rw[List.length_append,List.length_append];show _+1+_<=_;omega) (((q2 _ _).app o1).app (q2 _ _))
  ·exact zfS (by rw[List.length_append];omega) ((q2 _ _).app (q2 _ _))
  ·exact zfS (by omega) hNP
  ·exact zfS (by omega) hPP
  ·exact zfS (by decide) ⟨fun x h=>(nomatch h),fun x h=>(nomatch h)⟩
  ·exact zfS (by rw[List.length_append];show _+1<=_;omega) (hSP.app hpl)
  ·exact s6
  ·exact zfS (by rw[List.length_append];omega) ((q2 _ _).app (q2 _ _))
  ·exact zfS (by rw[List.length_append,List.length_append];omega) (((q2 _ _).app (q2 _ _)).app hSP)
 refine⟨r,?_,sr⟩
 unfold zji at hf
 open_line with[zcw,zev,i0,hf,g3,hmod,i2,g4,hk,hp,hfa,hup,g5,ho,r1,a1,a2,a3,a4,hcomp,i3,a5,zx8,r2,h6,a6,a7,a8,g2,hn,hr]
theorem zvQ {w:Web}{xs:List Fra}:dNe (.tup [za8 w,.lst (xs.map fr)]) (.tup [za8 w,.lst (xs.map fr)])=.ok (.bl false):=by
 have h1:za0 38 (.lst (w.ps.map D.str))=true:=zfh
 have h2:za0 38 (.lst (w.ts.map zcM))=true:=List.all_eq_true.mpr fun d hd=>by
  obtain⟨t,_,rfl⟩:=List.mem_map.mp hd
  exact zoD
 have h3:za0 39 (.lst (xs.map fr))=true:=zs6 xs
 have h4:za0 39 (za8 w)=true:=by
  show(za0 38 (.lst (w.ps.map D.str))&&(za0 38 (.lst (w.ts.map zcM))&&(za0 38 (.str w.fi)&&(za0 38 (.str w.la)&&true))))=true
  rw[h1,h2];rfl
 have h5:za0 40 (.tup [za8 w,.lst (xs.map fr)])=true:=by
  show(za0 39 (za8 w)&&(za0 39 (.lst (xs.map fr))&&true))=true
  rw[h3,h4];rfl
 unfold dNe
 rw[if_pos ⟨h5,h5⟩,zeK 40 _ h5];rfl
theorem zvP {ks:List Nat}:dNe (zbA ks) (zbA ks)=.ok (.bl false):=by
 have h:za0 40 (zbA ks)=true:=List.all_eq_true.mpr fun d hd=>by
  obtain⟨k,_,rfl⟩:=List.mem_map.mp hd
  rfl
 unfold dNe
 rw[if_pos ⟨h,h⟩,zeK 40 _ h];rfl
theorem ztE (ns:List Int)(hn:ns.length<=63):zrF [.lst (ns.map D.int)]=.ok (.bl true):=by
 obtain⟨w,c1,c2,hcells,hc2,hwc,hw,W⟩:=Cod.web_cells hn
 have h14:=W.t14
 obtain⟨xs,hr,hxl,hx⟩:=ztc hcells (by omega)
 have hl:xs.length=w.ts.length:=by omega
 have hadd:zbR (.lst (c2.map D.int)) (.lst [.int 7])=.ok (.lst ((c2++[7]).map D.int)):=by
  rw[ev_addL (decide_eq_true (by rw[List.length_map];simp;omega)),List.map_append];rfl
 have i2:dIx (za8 w) (.int 2)=.ok (.str w.fi):=rfl
 have T0:zlZ w []:=⟨List.Pairwise.nil,fun k hk=>(nomatch hk)⟩
 have hfirst:=zqJ W T0 hl hx (d:=.lst [.str w.fi]) (zfS (by show 1<=900;decide) (.one (decide_eq_true (Nat.le_trans (zhK W W.fi) (by decide))) rfl))
 rw[show zbA []=.lst [] from rfl] at hfirst
 have hnb:=zvQ (w:=w) (xs:=xs)
 obtain⟨ρ',hlp,x4,x5,x6,x7,rfl⟩:=zrV (tg:=zfD 4) (body:=(zan (zbb 5 (zal (zad (zaf 4) (zad (zal (zad (dC (.int 128)) (zad (dC (.int 16384)) (zad (dC (.int 16)) (zad (dC (.int 5040)) (zad (dC (.int 5040)) (zad (dC (.int 10)) zau)))))) zdw) zau)) zaB))
 (zan (zbb 6 (zal (zad (zaf 1) (zad (zac (zaf 5) (dC (.int 1)) dIx) zau)) zcx))
 (zan (zbb 7 (zal (zad (zaf 1) (zad (zaf 5) zau)) zcw))
 (zan (sIf (zdk (zal (zad (zac (zaf 3) (dC (.int 0)) dIx) (zad (zac (zaf 3) (dC (.int 1)) dIx) (zad (zaf 6) (zad (zaf 7) zau)))) zbB))
 (zan (zcp (dC (.bl false)))
 zak)
 zak)
 (zan (sIf (dOr (zac (zaf 7) (zal (zad (zaf 1) (zad (zaf 5) zau)) zcw) zyh) (dOr (zac (zaf 6) (zal (zad (zaf 1) (zad (zac (zaf 5) (dC (.int 1)) dIx) zau)) zcx) dNe) (zac (zaf 3) (zal (zad (zaf 1) (zad (zaf 2) zau)) zi9) dNe)))
 (zan (zcp (dC (.bl false)))
 zak)
 zak)
 (zan (sIf (zdk (zal (zad (zac (zaf 3) (dC (.int 0)) dIx) (zad (zac (zaf 3) (dC (.int 1)) dIx) (zad (zal zau zdw) (zad (zal (zad (zac (zaf 1) (dC (.int 2)) dIx) zau) zdw) zau)))) zbB))
 (zan (zcp (dC (.bl false)))
 zak)
 zak)
 zak))))))) (fun ρ=>∃ x4 x5 x6 x7,ρ=[.sh (.lst (ns.map D.int)),.sh (za8 w),.sh (.lst (xs.map fr)),.sh (.tup [za8 w,.lst (xs.map fr)]),x4,x5,x6,x7]) (ds:=(c2++[7]).map D.int) (fun d hd ρ ⟨x4,x5,x6,x7,hρ⟩=>by
  subst hρ
  obtain⟨c,_,rfl⟩:=List.mem_map.mp hd
  obtain⟨vs,hv,V⟩:=Cod.draws_ok c [128,16384,16,5040,5040,10] (by decide) (by decide)
  have hv':Cod.zaB [.int c,.lst [.int 128,.int 16384,.int 16,.int 5040,.int 5040,.int 10]]=.ok (.lst (vs.map D.int)):=hv
  obtain⟨v1,_,_,g1⟩:=V.ix 1 1 rfl rfl
  obtain⟨ks,hb,T⟩:=zwr W v1
  obtain⟨sd,hs,S⟩:=zve W V
  have ht:=zqJ W T hl hx S
  have hnk:=zvP (ks:=ks)
  have hnx:=S.n
  refine⟨[.sh (.lst (ns.map D.int)),.sh (za8 w),.sh (.lst (xs.map fr)),.sh (.tup [za8 w,.lst (xs.map fr)]),.sh (.int c),x5,x6,x7],[.sh (.lst (ns.map D.int)),.sh (za8 w),.sh (.lst (xs.map fr)),.sh (.tup [za8 w,.lst (xs.map fr)]),.sh (.int c),.sh (.lst (vs.map D.int)),.sh (zbA ks),.sh sd],rfl,?_,_,_,_,_,rfl⟩
  generalize za8 w=Wd at *
  generalize D.lst (xs.map fr)=X at *
  generalize D.lst (vs.map D.int)=Vs at *
  generalize D.lst (ns.map D.int)=Ns at *
  generalize zbA ks=Ks at *
  open_line with[zr2,hv',g1,hb,hs,ht,hnx,hnk,hnb,i2,hfirst]) [.sh (.lst (ns.map D.int)),.sh (za8 w),.sh (.lst (xs.map fr)),.sh (.tup [za8 w,.lst (xs.map fr)]),.no,.no,.no,.no] ⟨_,_,_,_,rfl⟩
 open_line with[zrF,zwt,zzs,hw,hr,zr3,hcells,hadd,hlp]
end K35
namespace K35
open PySem L2 DL
def top (i:Nat):Stmt:=PySem.Challenge.pw_farthestcut_k35_rooms_of_sides.main.body.getD i (.Pass ⟨0,0,0,0⟩)
abbrev zcF:Stmt:=top 55
abbrev zcE:Stmt:=top 58
abbrev zcG:Stmt:=top 60
abbrev zd8:Stmt:=top 56
abbrev zbH:Stmt:=top 57
abbrev zd7:Stmt:=top 59
abbrev zd6:Stmt:=top 61
abbrev zcD:Stmt:=top 62
abbrev zc7:Stmt:=top 64
abbrev zc3:Stmt:=top 70
abbrev zfj:Stmt:=top 15
abbrev zbt:Stmt:=top 41
abbrev zd3:Stmt:=top 13
abbrev zbu:Stmt:=top 9
abbrev zd4:Stmt:=top 14
abbrev zc1:Stmt:=top 36
abbrev zd2:Stmt:=top 37
abbrev zgD:Stmt:=top 35
abbrev zbU:Stmt:=top 42
abbrev zd5:Stmt:=top 43
abbrev zcd:Stmt:=top 40
abbrev zce:Stmt:=top 39
abbrev zbF:Stmt:=top 51
abbrev zbG:Stmt:=top 38
abbrev zbs:Stmt:=top 49
abbrev zbV:Stmt:=top 53
abbrev zh4:Stmt:=top 18
abbrev zkC:Stmt:=top 19
abbrev zgC:Stmt:=top 20
abbrev zcb:Stmt:=top 45
abbrev zcB:Stmt:=top 46
abbrev zcc:Stmt:=top 47
abbrev zfi:Stmt:=top 52
abbrev zbW:Stmt:=top 67
abbrev zcC:Stmt:=top 68
abbrev zc4:Stmt:=top 69
abbrev zbv:Stmt:=top 65
abbrev zc6:Stmt:=top 63
abbrev zc5:Stmt:=top 66
abbrev zc2:Stmt:=top 71
abbrev zi0:Stmt:=top 72
theorem zbP:zay ["_law_cell","_law_tops","_law_found","_law_left","_law_mixed","_law_k"] ["_law_cell","_law_tops"] (defScope zcF):=⟨rfl,rfl,rfl,by decide +kernel,rfl,by decide +kernel,by decide +kernel⟩
theorem za3:zay ["_law_d","_law_many","_law_some","_law_names_here","_law_k","_law_e","_law_name","_law_at"] ["_law_d","_law_many"] (defScope zcE):=⟨rfl,rfl,rfl,by decide +kernel,rfl,by decide +kernel,by decide +kernel⟩
theorem zfz:zay ["_law_script","_law_d","_law_many"] ["_law_script"] (defScope zcG):=⟨rfl,rfl,rfl,by decide +kernel,rfl,by decide +kernel,by decide +kernel⟩
theorem zfy:zay ["_law_top","_law_bottom","_law_one","_law_other"] ["_law_top","_law_bottom"] (defScope zd8):=⟨rfl,rfl,rfl,by decide +kernel,rfl,by decide +kernel,by decide +kernel⟩
theorem zdB:zay ["_law_d","_law_top","_law_bottom"] ["_law_d"] (defScope zbH):=⟨rfl,rfl,rfl,by decide +kernel,rfl,by decide +kernel,by decide +kernel⟩
theorem zbO:zay ["_law_cell","_law_k","_law_walk","_law_d","_law_at","_law_other","_law_worth"] ["_law_cell","_law_k","_law_walk"] (defScope zd7):=⟨rfl,rfl,rfl,by decide +kernel,rfl,by decide +kernel,by decide +kernel⟩
theorem zb1:zay ["_law_script","_law_d","_law_places","_law_first","_law_last","_law_amid","_law_walk","_law_ties"] ["_law_script"] (defScope zd6):=⟨rfl,rfl,rfl,by decide +kernel,rfl,by decide +kernel,by decide +kernel⟩
theorem zhD:zay ["_law_script","_law_tops"] ["_law_script"] (defScope zcD):=⟨rfl,rfl,rfl,by decide +kernel,rfl,by decide +kernel,by decide +kernel⟩
theorem zmC:zay ["_law_web_here","_law_bits_here"] ["_law_web_here","_law_bits_here"] (defScope zc7):=⟨rfl,rfl,rfl,by decide +kernel,rfl,by decide +kernel,by decide +kernel⟩
theorem zbj:zay ["_law_web_here","_law_d","_law_side_here","_law_k","_law_place","_law_at","_law_some","_law_odd","_law_ways"] ["_law_web_here","_law_d"] (defScope zc3):=⟨rfl,rfl,rfl,by decide +kernel,rfl,by decide +kernel,by decide +kernel⟩
theorem zpH:zay ["thing"] ["thing"] (defScope zfj):=⟨rfl,rfl,rfl,by decide +kernel,rfl,by decide +kernel,by decide +kernel⟩
theorem zc0:zay ["places","number","place"] ["places"] (defScope zbt):=⟨rfl,rfl,rfl,by decide +kernel,rfl,by decide +kernel,by decide +kernel⟩
theorem znU:zay ["thing"] ["thing"] (defScope zd3):=⟨rfl,rfl,rfl,by decide +kernel,rfl,by decide +kernel,by decide +kernel⟩
theorem zbl:zay ["one","other","larger","smaller","rest"] ["one","other"] (defScope zbu):=⟨rfl,rfl,rfl,by decide +kernel,rfl,by decide +kernel,by decide +kernel⟩
theorem znV:zay ["thing"] ["thing"] (defScope zd4):=⟨rfl,rfl,rfl,by decide +kernel,rfl,by decide +kernel,by decide +kernel⟩
theorem zmz:zay ["thing"] ["thing"] (defScope zc1):=⟨rfl,rfl,rfl,by decide +kernel,rfl,by decide +kernel,by decide +kernel⟩
theorem znT:zay ["thing"] ["thing"] (defScope zd2):=⟨rfl,rfl,rfl,by decide +kernel,rfl,by decide +kernel,by decide +kernel⟩
theorem zq2:zay ["thing"] ["thing"] (defScope zgD):=⟨rfl,rfl,rfl,by decide +kernel,rfl,by decide +kernel,by decide +kernel⟩
theorem zec:zay ["ties","places","number","tie"] ["ties","places"] (defScope zbU):=⟨rfl,rfl,rfl,by decide +kernel,rfl,by decide +kernel,by decide +kernel⟩
theorem znW:zay ["thing","places"] ["thing","places"] (defScope zd5):=⟨rfl,rfl,rfl,by decide +kernel,rfl,by decide +kernel,by decide +kernel⟩
theorem zko:zay ["thing"] ["thing"] (defScope zcd):=⟨rfl,rfl,rfl,by decide +kernel,rfl,by decide +kernel,by decide +kernel⟩
theorem zkp:zay ["web","thing"] ["web","thing"] (defScope zce):=⟨rfl,rfl,rfl,by decide +kernel,rfl,by decide +kernel,by decide +kernel⟩
theorem ziY:zay ["web","thing"] ["web","thing"] (defScope zbF):=⟨rfl,rfl,rfl,by decide +kernel,rfl,by decide +kernel,by decide +kernel⟩
theorem ziZ:zay ["web","thing"] ["web","thing"] (defScope zbG):=⟨rfl,rfl,rfl,by decide +kernel,rfl,by decide +kernel,by decide +kernel⟩
theorem zca:zay ["web","thing","ahead","number"] ["web","thing"] (defScope zbs):=⟨rfl,rfl,rfl,by decide +kernel,rfl,by decide +kernel,by decide +kernel⟩
theorem zjj:zay ["web","thing"] ["web","thing"] (defScope zbV):=⟨rfl,rfl,rfl,by decide +kernel,rfl,by decide +kernel,by decide +kernel⟩
theorem zlg:zay ["top","bottom","divisor"] ["top","bottom"] (defScope zh4):=⟨rfl,rfl,rfl,by decide +kernel,rfl,by decide +kernel,by decide +kernel⟩
theorem zvi:zay ["one","other"] ["one","other"] (defScope zkC):=⟨rfl,rfl,rfl,by decide +kernel,rfl,by decide +kernel,by decide +kernel⟩
theorem zhC:zay ["some","total","one"] ["some"] (defScope zgC):=⟨rfl,rfl,rfl,by decide +kernel,rfl,by decide +kernel,by decide +kernel⟩
theorem zgU:zay ["tie","there"] ["tie"] (defScope zcb):=⟨rfl,rfl,rfl,by decide +kernel,rfl,by decide +kernel,by decide +kernel⟩
theorem zb9:zay ["web","taken","steps","number","tie","here","there"] ["web","taken"] (defScope zcB):=⟨rfl,rfl,rfl,by decide +kernel,rfl,by decide +kernel,by decide +kernel⟩
theorem zkn:zay ["web","taken","side"] ["web","taken","side"] (defScope zcc):=⟨rfl,rfl,rfl,by decide +kernel,rfl,by decide +kernel,by decide +kernel⟩
theorem zpG:zay ["web","rooms","taking","side"] ["web","rooms","taking","side"] (defScope zfi):=⟨rfl,rfl,rfl,by decide +kernel,rfl,by decide +kernel,by decide +kernel⟩
theorem zcN:zay ["_law_web_here","_law_thing","_law_at","_law_place"] ["_law_web_here","_law_thing"] (defScope zbW):=⟨rfl,rfl,rfl,by decide +kernel,rfl,by decide +kernel,by decide +kernel⟩
theorem zlh:zay ["_law_thing"] ["_law_thing"] (defScope zcC):=⟨rfl,rfl,rfl,by decide +kernel,rfl,by decide +kernel,by decide +kernel⟩
theorem zmA:zay ["_law_found","_law_due"] ["_law_found","_law_due"] (defScope zc4):=⟨rfl,rfl,rfl,by decide +kernel,rfl,by decide +kernel,by decide +kernel⟩
theorem zh3:zay ["_law_tie_here","_law_side_here"] ["_law_tie_here","_law_side_here"] (defScope zbv):=⟨rfl,rfl,rfl,by decide +kernel,rfl,by decide +kernel,by decide +kernel⟩
theorem zmB:zay ["_law_one","_law_other","_law_sign"] ["_law_one","_law_other","_law_sign"] (defScope zc6):=⟨rfl,rfl,rfl,by decide +kernel,rfl,by decide +kernel,by decide +kernel⟩
theorem zds:zay ["_law_web_here","_law_rooms_here","_law_taken","_law_side_here","_law_found","_law_k","_law_tie_here"] ["_law_web_here","_law_rooms_here","_law_taken","_law_side_here"] (defScope zc5):=⟨rfl,rfl,rfl,by decide +kernel,rfl,by decide +kernel,by decide +kernel⟩
theorem zcA:zay ["_law_web_here","_law_rooms_here","_law_taking","_law_side_here","_law_caught","_law_found","_law_e"] ["_law_web_here","_law_rooms_here","_law_taking","_law_side_here"] (defScope zc2):=⟨rfl,rfl,rfl,by decide +kernel,rfl,by decide +kernel,by decide +kernel⟩
theorem ziC:zay ["_law_script","_law_web_here","_law_rooms_here","_law_handed","_law_cell","_law_d","_law_taking","_law_side_here"] ["_law_script"] (defScope zi0):=⟨rfl,rfl,rfl,by decide +kernel,rfl,by decide +kernel,by decide +kernel⟩
abbrev zgB:Stmt:=zv2 (top 6) 0
theorem zq1:zay ["self","part","number"] ["self","part","number"] (defScope zgB):=⟨rfl,rfl,rfl,by decide +kernel,rfl,by decide +kernel,by decide +kernel⟩
structure Adr where
 zdq:Addr
 zlu:FuncData
 zaA:Addr
 zba:Addr
 zar:Addr
 zao:Addr
 zat:Addr
 zaq:Addr
 zaD:Addr
 zgr:Addr
 zgg:FuncData
 zgq:Addr
 zgf:FuncData
 zgs:Addr
 zgh:FuncData
 ziu:Addr
 zil:FuncData
 zez:Addr
 zeq:FuncData
 zit:Addr
 zik:FuncData
 zis:Addr
 zij:FuncData
 zgp:Addr
 zge:FuncData
 zht:Addr
 zhk:FuncData
 zhp:Addr
 zhg:FuncData
 zkb:Addr
 zjW:FuncData
 zdN:Addr
 zdJ:FuncData
 zio:Addr
 zig:FuncData
 zdO:Addr
 zdK:FuncData
 ziq:Addr
 zih:FuncData
 zhn:Addr
 zhe:FuncData
 zin:Addr
 zif:FuncData
 zlY:Addr
 zlI:FuncData
 ze9:Addr
 ze3:FuncData
 zir:Addr
 zii:FuncData
 zfO:Addr
 zfG:FuncData
 zfP:Addr
 zfH:FuncData
 zex:Addr
 zeo:FuncData
 zey:Addr
 zep:FuncData
 zdM:Addr
 zdI:FuncData
 zfa:Addr
 ze4:FuncData
 zon:Addr
 zoi:FuncData
 zsx:Addr
 zsb:FuncData
 zlX:Addr
 zlH:FuncData
 zfM:Addr
 zfE:FuncData
 zgn:Addr
 zgc:FuncData
 zfN:Addr
 zfF:FuncData
 zka:Addr
 zjV:FuncData
 zfb:Addr
 ze5:FuncData
 zgo:Addr
 zgd:FuncData
 zhq:Addr
 zhh:FuncData
 zdP:Addr
 zdL:FuncData
 zhs:Addr
 zhj:FuncData
 zhr:Addr
 zhi:FuncData
 zho:Addr
 zhf:FuncData
 zoo:Addr
 zp7:FuncData
structure Txt (K:W.Frag) (mg:Str->Option Value) (t:Adr):Prop where
 zcK:Fun K "_law_draws" "_law_draws" zcF t.zgr t.zgg
 zbN:zbg K t.zgg ["_law_cell","_law_tops"] []
 zdx:mg "_law_draws"=some (.ref t.zgr)
 ziU:Fun K "_law_names" "_law_names" zcE t.zgq t.zgf
 zeT:zbg K t.zgf ["_law_d","_law_many"] []
 zm7:mg "_law_names"=some (.ref t.zgq)
 zeV:Fun K "_law_cells" "_law_cells" zcG t.zgs t.zgh
 zcJ:zbg K t.zgh ["_law_script"] []
 zf8:mg "_law_cells"=some (.ref t.zgs)
 zix:Fun K "_law_low" "_law_low" zd8 t.ziu t.zil
 zfu:zbg K t.zil ["_law_top","_law_bottom"] []
 zkT:mg "_law_low"=some (.ref t.ziu)
 zcY:Fun K "_law_fraction" "_law_fraction" zbH t.zez t.zeq
 zbK:zbg K t.zeq ["_law_d"] []
 zem:mg "_law_fraction"=some (.ref t.zez)
 zk2:Fun K "_law_tie" "_law_tie" zd7 t.zit t.zik
 zcl:zbg K t.zik ["_law_cell","_law_k","_law_walk"] []
 zp2:mg "_law_tie"=some (.ref t.zit)
 ziw:Fun K "_law_web" "_law_web" zd6 t.zis t.zij
 zft:zbg K t.zij ["_law_script"] []
 zkS:mg "_law_web"=some (.ref t.zis)
 ziT:Fun K "_law_rooms" "_law_rooms" zcD t.zgp t.zge
 zeS:zbg K t.zge ["_law_script"] []
 zm6:mg "_law_rooms"=some (.ref t.zgp)
 zhy:Fun K "_law_bits" "_law_bits" zc7 t.zht t.zhk
 zew:zbg K t.zhk ["_law_web_here","_law_bits_here"] []
 zjO:mg "_law_bits"=some (.ref t.zht)
 zhx:Fun K "_law_side" "_law_side" zc3 t.zhp t.zhg
 zev:zbg K t.zhg ["_law_web_here","_law_d"] []
 zjN:mg "_law_side"=some (.ref t.zhp)
 zgx:Fun K "is_name" "is_name" zfj t.zkb t.zjW
 zcr:zbg K t.zjW ["thing"] []
 zhP:mg "is_name"=some (.ref t.zkb)
 zfZ:Fun K "look_at_places" "look_at_places" zbt t.zdN t.zdJ
 zaZ:zbg K t.zdJ ["places"] []
 zi5:mg "look_at_places"=some (.ref t.zdN)
 zeb:Fun K "is_whole" "is_whole" zd3 t.zio t.zig
 zdm:zbg K t.zig ["thing"] []
 zfq:mg "is_whole"=some (.ref t.zio)
 zdQ:Fun K "common_divisor" "common_divisor" zbu t.zdO t.zdK
 zbf:zbg K t.zdK ["one","other"] []
 zfV:mg "common_divisor"=some (.ref t.zdO)
 ziv:Fun K "is_ratio" "is_ratio" zd4 t.ziq t.zih
 zbJ:zbg K t.zih ["thing"] []
 zkR:mg "is_ratio"=some (.ref t.ziq)
 zhv:Fun K "is_length" "is_length" zc1 t.zhn t.zhe
 zeu:zbg K t.zhe ["thing"] []
 zjL:mg "is_length"=some (.ref t.zhn)
 zk1:Fun K "is_worth" "is_worth" zd2 t.zin t.zif
 zgO:zbg K t.zif ["thing"] []
 zp1:mg "is_worth"=some (.ref t.zin)
 zpk:Fun K "is_tie" "is_tie" zgD t.zlY t.zlI
 zjb:zbg K t.zlI ["thing"] []
 ztW:mg "is_tie"=some (.ref t.zlY)
 zg2:Fun K "look_at_ties" "look_at_ties" zbU t.ze9 t.ze3
 zbk:zbg K t.ze3 ["ties","places"] []
 zkt:mg "look_at_ties"=some (.ref t.ze9)
 zgP:Fun K "is_place" "is_place" zd5 t.zir t.zii
 zck:zbg K t.zii ["thing","places"] []
 zia:mg "is_place"=some (.ref t.zir)
 zfQ:Fun K "look_at_web" "look_at_web" zcd t.zfO t.zfG
 zbi:zbg K t.zfG ["thing"] []
 zhO:mg "look_at_web"=some (.ref t.zfO)
 zh0:Fun K "has_lengths" "has_lengths" zce t.zfP t.zfH
 zd0:zbg K t.zfH ["web","thing"] []
 zlz:mg "has_lengths"=some (.ref t.zfP)
 zgv:Fun K "look_at_rooms" "look_at_rooms" zbF t.zex t.zeo
 zcW:zbg K t.zeo ["web","thing"] []
 zjJ:mg "look_at_rooms"=some (.ref t.zex)
 zgw:Fun K "is_tie_number" "is_tie_number" zbG t.zey t.zep
 zcX:zbg K t.zep ["web","thing"] []
 zjK:mg "is_tie_number"=some (.ref t.zey)
 zfY:Fun K "look_at_taking" "look_at_taking" zbs t.zdM t.zdI
 zaY:zbg K t.zdI ["web","thing"] []
 zi4:mg "look_at_taking"=some (.ref t.zdM)
 zg3:Fun K "look_at_side" "look_at_side" zbV t.zfa t.ze4
 za6:zbg K t.ze4 ["web","thing"] []
 zku:mg "look_at_side"=some (.ref t.zfa)
 zsB:Fun K "ratio" "ratio" zh4 t.zon t.zoi
 ze8:zbg K t.zoi ["top","bottom"] []
 zv4:mg "ratio"=some (.ref t.zon)
 zuG:Fun K "plus" "plus" zkC t.zsx t.zsb
 zhV:zbg K t.zsb ["one","other"] []
 zx2:mg "plus"=some (.ref t.zsx)
 zpj:Fun K "sum_of" "sum_of" zgC t.zlX t.zlH
 zdY:zbg K t.zlH ["some"] []
 ztV:mg "sum_of"=some (.ref t.zlX)
 zhY:Fun K "steps_along" "steps_along" zcb t.zfM t.zfE
 zcV:zbg K t.zfE ["tie"] []
 zlx:mg "steps_along"=some (.ref t.zfM)
 ziS:Fun K "steps_left" "steps_left" zcB t.zgn t.zgc
 zeQ:zbg K t.zgc ["web","taken"] []
 zm5:mg "steps_left"=some (.ref t.zgn)
 zhZ:Fun K "numbers_out" "numbers_out" zcc t.zfN t.zfF
 zdZ:zbg K t.zfF ["web","taken","side"] []
 zly:mg "numbers_out"=some (.ref t.zfN)
 znv:Fun K "room_of" "room_of" zfi t.zka t.zjV
 zgm:zbg K t.zjV ["web","rooms","taking","side"] []
 zrR:mg "room_of"=some (.ref t.zka)
 zg4:Fun K "_law_is_side" "_law_is_side" zbW t.zfb t.ze5
 zbC:zbg K t.ze5 ["_law_web_here","_law_thing"] []
 zkv:mg "_law_is_side"=some (.ref t.zfb)
 zgy:Fun K "_law_whole" "_law_whole" zcC t.zgo t.zgd
 zeR:zbg K t.zgd ["_law_thing"] []
 ziP:mg "_law_whole"=some (.ref t.zgo)
 zkd:Fun K "_law_same" "_law_same" zc4 t.zhq t.zhh
 zfJ:zbg K t.zhh ["_law_found","_law_due"] []
 zod:mg "_law_same"=some (.ref t.zhq)
 zf0:Fun K "_law_leads_out" "_law_leads_out" zbv t.zdP t.zdL
 zbw:zbg K t.zdL ["_law_tie_here","_law_side_here"] []
 zi6:mg "_law_leads_out"=some (.ref t.zdP)
 zkf:Fun K "_law_plus" "_law_plus" zc6 t.zhs t.zhj
 zfL:zbg K t.zhj ["_law_one","_law_other","_law_sign"] []
 zof:mg "_law_plus"=some (.ref t.zhs)
 zke:Fun K "_law_room" "_law_room" zc5 t.zhr t.zhi
 zfK:zbg K t.zhi ["_law_web_here","_law_rooms_here","_law_taken","_law_side_here"] []
 zoe:mg "_law_room"=some (.ref t.zhr)
 zhw:Fun K "_law_told" "_law_told" zc2 t.zho t.zhf
 zdn:zbg K t.zhf ["_law_web_here","_law_rooms_here","_law_taking","_law_side_here"] []
 zjM:mg "_law_told"=some (.ref t.zho)
 zzG:Fun K "law" "law" zi0 t.zoo t.zp7
 zwt:zbg K t.zp7 ["_law_script"] []
 zzn:mg "law"=some (.ref t.zoo)
 n_ValueError:mg "ValueError"=none
 n_abs:mg "abs"=none
 n_all:mg "all"=none
 n_bool:mg "bool"=none
 n_enumerate:mg "enumerate"=none
 n_int:mg "int"=none
 n_isinstance:mg "isinstance"=none
 n_len:mg "len"=none
 n_list:mg "list"=none
 n_min:mg "min"=none
 n_range:mg "range"=none
 n_str:mg "str"=none
 n_tuple:mg "tuple"=none
 zkV:mg "CutError"=some (.ref t.zaA)
 zfp:znw K "CutError" t.zaA
 ztX:mg "NoFlow"=some (.ref t.zba)
 zhN:znw K "NoFlow" t.zba
 zkU:mg "NoNumber"=some (.ref t.zar)
 zwD:znw K "NoNumber" t.zar
 zm8:mg "NoRooms"=some (.ref t.zao)
 zf7:znw K "NoRooms" t.zao
 zja:mg "NoSide"=some (.ref t.zat)
 zhM:znw K "NoSide" t.zat
 zib:mg "NoTaking"=some (.ref t.zaq)
 zwC:znw K "NoTaking" t.zaq
 zg8:mg "NoWeb"=some (.ref t.zaD)
 zzj:znw K "NoWeb" t.zaD
 zbE:zqd K "NoNumber" t.zar
 zco:zqd K "NoRooms" t.zao
 zcs:zqd K "NoSide" t.zat
 zbr:zqd K "NoTaking" t.zaq
 zcm:zwx K "NoWeb" t.zaD
 zui:Fun K "__init__" "NoWeb.__init__" zgB t.zdq t.zlu
 zdW:zbg K t.zlu ["self","part","number"] []
 zfw:XIn K t.zaD t.zdq
 zfv:XSt K t.zaD ["part","number"]
 zfx:W.isFn K (.ref t.zdq)=true
 znN:zwy K t.zaA
 zcv:W.subIn K (.ref t.zar) (.ref t.zaA)=some true
 zdd:W.subIn K (.ref t.zar) (.ref t.zba)=some false
 zcR:W.subIn K (.ref t.zar) (.ref t.zao)=some false
 zdc:W.subIn K (.ref t.zar) (.ref t.zat)=some false
 zcQ:W.subIn K (.ref t.zao) (.ref t.zaA)=some true
 zdF:W.subIn K (.ref t.zao) (.ref t.zba)=some false
 zdb:W.subIn K (.ref t.zao) (.ref t.zao)=some true
 zdE:W.subIn K (.ref t.zao) (.ref t.zat)=some false
 zda:W.subIn K (.ref t.zat) (.ref t.zaA)=some true
 zef:W.subIn K (.ref t.zat) (.ref t.zba)=some false
 zdD:W.subIn K (.ref t.zat) (.ref t.zao)=some false
 zee:W.subIn K (.ref t.zat) (.ref t.zat)=some true
 zcu:W.subIn K (.ref t.zaq) (.ref t.zaA)=some true
 zc9:W.subIn K (.ref t.zaq) (.ref t.zba)=some false
 zcP:W.subIn K (.ref t.zaq) (.ref t.zao)=some false
 zc8:W.subIn K (.ref t.zaq) (.ref t.zat)=some false
 zdC:W.subIn K (.ref t.zaD) (.ref t.zaA)=some true
 ze0:W.subIn K (.ref t.zaD) (.ref t.zba)=some false
 zed:W.subIn K (.ref t.zaD) (.ref t.zao)=some false
 zeZ:W.subIn K (.ref t.zaD) (.ref t.zat)=some false
 zes:Kon K mg "FEWEST_PLACES" (.int 2)
 zj8:Kon K mg "FIRST" (.int 2)
 znl:Kon K mg "LAST" (.int 3)
 zlT:Kon K mg "LENGTH" (.int 3)
 zj7:Kon K mg "LETTERS" (.str "abcdefghijklmnopqrstuvwxyz")
 ze7:Kon K mg "LONGEST_NAME" (.int 8)
 zfI:Kon K mg "MOST_PLACES" (.int 7)
 zhm:Kon K mg "MOST_TIES" (.int 14)
 zlS:Kon K mg "NOUGHT" (.tup [(.int 0),(.int 1)])
 zol:Kon K mg "ONE" (.int 0)
 zhl:Kon K mg "OTHER" (.int 1)
 zeP:Kon K mg "PLACES" (.int 0)
 zj6:Kon K mg "TIES" (.int 1)
 znk:Kon K mg "WORD" (.int 2)
 zok:Kon K mg "WORDS" (.tup [(.str "one"),(.str "both")])
 zlR:Kon K mg "WORTH" (.int 4)
section
variable {P:Program}{w:World}{K:W.Frag}{mg:Str->Option Value}{base:Heap}{t:Adr}
theorem zjI (T:Txt K mg t):∀ x C,zrO zgI x=true->XC K x C->W.exmOne K (.ref C) (.ref t.zaA)=some true :=
 ztR fun q hq=>by
  unfold zgI at hq
  simp only[List.mem_cons,List.not_mem_nil,or_false] at hq
  rcases hq with rfl | rfl | rfl | rfl | rfl
  ·exact⟨t.zar,T.zbE.xcls.xc,T.zfp.exm T.zcv⟩
  ·exact⟨t.zao,T.zco.xcls.xc,T.zfp.exm T.zcQ⟩
  ·exact⟨t.zat,T.zcs.xcls.xc,T.zfp.exm T.zda⟩
  ·exact⟨t.zaq,T.zbr.xcls.xc,T.zfp.exm T.zcu⟩
  ·exact⟨t.zaD,T.zcm.xc,T.zfp.exm T.zdC⟩
theorem zsZ (T:Txt K mg t):znu K zu3 (.ref t.zba) :=
 zff (p:=fun _ C b=>W.kitOne K (.ref C) (.ref t.zba)=some b) fun q hq=>by
  simp only[List.mem_cons,List.not_mem_nil,or_false] at hq
  rcases hq with rfl | rfl | rfl | rfl | rfl
  ·exact⟨t.zar,T.zbE.xcls.xc,T.zhN.kit T.zbE.self T.zdd⟩
  ·exact⟨t.zao,T.zco.xcls.xc,T.zhN.kit T.zco.self T.zdF⟩
  ·exact⟨t.zat,T.zcs.xcls.xc,T.zhN.kit T.zcs.self T.zef⟩
  ·exact⟨t.zaq,T.zbr.xcls.xc,T.zhN.kit T.zbr.self T.zc9⟩
  ·exact⟨t.zaD,T.zcm.xc,T.zhN.kit T.zcm.self T.ze0⟩
theorem zsY (T:Txt K mg t):znu K zu2 (.ref t.zao) :=
 zff (p:=fun _ C b=>W.kitOne K (.ref C) (.ref t.zao)=some b) fun q hq=>by
  simp only[List.mem_cons,List.not_mem_nil,or_false] at hq
  rcases hq with rfl | rfl | rfl | rfl | rfl
  ·exact⟨t.zar,T.zbE.xcls.xc,T.zf7.kit T.zbE.self T.zcR⟩
  ·exact⟨t.zao,T.zco.xcls.xc,T.zf7.kit T.zco.self T.zdb⟩
  ·exact⟨t.zat,T.zcs.xcls.xc,T.zf7.kit T.zcs.self T.zdD⟩
  ·exact⟨t.zaq,T.zbr.xcls.xc,T.zf7.kit T.zbr.self T.zcP⟩
  ·exact⟨t.zaD,T.zcm.xc,T.zf7.kit T.zcm.self T.zed⟩
theorem zsX (T:Txt K mg t):znu K zu1 (.ref t.zat) :=
 zff (p:=fun _ C b=>W.kitOne K (.ref C) (.ref t.zat)=some b) fun q hq=>by
  simp only[List.mem_cons,List.not_mem_nil,or_false] at hq
  rcases hq with rfl | rfl | rfl | rfl | rfl
  ·exact⟨t.zar,T.zbE.xcls.xc,T.zhM.kit T.zbE.self T.zdc⟩
  ·exact⟨t.zao,T.zco.xcls.xc,T.zhM.kit T.zco.self T.zdE⟩
  ·exact⟨t.zat,T.zcs.xcls.xc,T.zhM.kit T.zcs.self T.zee⟩
  ·exact⟨t.zaq,T.zbr.xcls.xc,T.zhM.kit T.zbr.self T.zc8⟩
  ·exact⟨t.zaD,T.zcm.xc,T.zhM.kit T.zcm.self T.zeZ⟩
theorem zsW (T:Txt K mg t):znu K zu0 (.type "ValueError") :=
 zff (p:=fun _ C b=>W.kitOne K (.ref C) (.type "ValueError")=some b) fun q hq=>by
  simp only[List.mem_cons,List.not_mem_nil,or_false] at hq
  rcases hq with rfl | rfl | rfl | rfl | rfl
  ·exact⟨t.zar,T.zbE.xcls.xc,zjC zfn T.zbE.ve⟩
  ·exact⟨t.zao,T.zco.xcls.xc,zjC zfn T.zco.ve⟩
  ·exact⟨t.zat,T.zcs.xcls.xc,zjC zfn T.zcs.ve⟩
  ·exact⟨t.zaq,T.zbr.xcls.xc,zjC zfn T.zbr.ve⟩
  ·exact⟨t.zaD,T.zcm.xc,zjC zfn T.zcm.ve⟩
theorem zdj (T:Txt K mg t):zcL P w K mg base CX0 1 t.zdq t.zlu ["self","part","number"] (zyx K ["part","number"]) :=
 zzq T.zui zq1 rfl (by decide) fun cdv A outer s0 H E=>(zyH (i:=1) T.znN rfl T.zkV (znX (i:=1) rfl (Or.inl rfl) (znX (i:=2) rfl (Or.inl rfl) zxj)) rfl rfl (Or.inl rfl) (Or.inl rfl) (zuM (i:=2) rfl rfl (Or.inl rfl) (Or.inl rfl) zwK))
theorem zcS (T:Txt K mg t):zcL P w K mg base CX0 1 t.zgr t.zgg ["_law_cell","_law_tops"] (spD K 2 zaB) :=
 zaz T.zcK zbP fun cdv A outer s0 H H₀ E hr=>(
 (zab (zjQ (i:=2) zbP.nd rfl (Or.inl rfl) (zjT zaj))
 (zab (zaC (i:=3) zbP.nd rfl (Or.inl rfl) (zaG zhU znj rfl T.n_abs PyProof.Rows.Boot.«abs» (zaa (dv 0) zaj)))
 (zab (zaC (i:=4) zbP.nd rfl (Or.inl rfl) (zb7 (zeN (zb7 (dv 0) zae) zae) zae))
 (zab (zr5 PassesOwn.never rfl rfl T.n_range (zaG za5 zcq rfl T.n_len PyProof.Rows.Boot.«len» (zaa (dv 1) zaj)) (zcU (i:=5) zbP.nd rfl (Or.inl rfl)) zfe
 (zab (zbD (zaI zvG (zdH fun _ _ _ _=>rb _) (zaG zhU znj rfl T.n_abs PyProof.Rows.Boot.«abs» (zaa (dv 0) zaj)) (zkY zae zae) nm)
 (zab (zdA (i:=2) rfl (Or.inl rfl) (zb7 (dv 3) (zah (dv 1) (dv 5))))
 (zab (zaC (i:=3) zbP.nd rfl (Or.inl rfl) (zne (dv 3) (zah (dv 1) (dv 5))))
 zai))
 (zab (zaC (i:=4) zbP.nd rfl (Or.inl rfl) (zb7 (zaR (zaR (zaR (zeN (dv 4) (dv 4)) (zeN zae (dv 4))) (zeN zae (dv 5))) zae) zae))
 (zab (zdA (i:=2) rfl (Or.inl rfl) (zb7 (zb7 (zeN (dv 4) zae) zae) (zah (dv 1) (dv 5))))
 zai)))
 zai))
 (zab (zaF (dv 2))
 zai))))))
theorem zlp (T:Txt K mg t):zcL P w K mg base CX0 1 t.zgq t.zgf ["_law_d","_law_many"] (spD K 2 zb6) :=
 zaz T.ziU za3 fun cdv A outer s0 H H₀ E hr=>(
 (zab (zaC (i:=2) za3.nd rfl (Or.inr rfl) zbS)
 (zab (zjQ (i:=3) za3.nd rfl (Or.inl rfl) (zjT zaj))
 (zab (zr5 PassesOwn.never rfl rfl T.n_range (dv 1) (zcU (i:=4) za3.nd rfl (Or.inl rfl)) zfe
 (zab (zaC (i:=5) za3.nd rfl (Or.inr rfl) (zaS (dv 0) (zbe (zeN zae (dv 4))) (zbe (zaR (zeN zae (dv 4)) zae))))
 (zab (zaC (i:=6) za3.nd rfl (Or.inl rfl) (zwf zbS (zaa (zkw (zqg ["_law_j","_law_some","_law_e"] 1 [2,5] rfl (zr6 rfl T.n_range (zaR zae (zah (dv 5) zae))) (zeC (by decide)) (fun s H C fp pn=>⟨fun He H0e=>(zcU (i:=0) (show List.Nodup (["_law_j","_law_some","_law_e"]:List Str) from by decide) rfl (Or.inl rfl)),zhb,(zah (dv 1) (zah (dv 2) (zaR zae (dv 0))))⟩) ⟨rfl,rfl⟩ rfl rfl rfl rfl)) zaj)))
 (zab (zbD (DW.dt (zkW (zaI ztv (zdH fun _ _ _ _=>rb _) (dv 4) zae nm) (zea (zaI (zeE hr.units) zhI (zah (dv 5) zae) zae nm))))
 (zab (zwe (i:=6) za3.nd rfl (Or.inl rfl) (zaR (zaS (zah (dv 3) (zo9 (dv 4) zae)) zcy (zbe (zah (dv 5) zae))) (zah (dv 2) (zah (dv 5) zae))))
 zai)
 zai)
 (zab (zaC (i:=7) za3.nd rfl (Or.inl rfl) (zah (dv 5) zae))
 (zab (zlF _ PassesOwn.never (zaI (zjm hr.units) zjt (dv 6) (dv 3) rfl)
 (zab (zaC (i:=7) za3.nd rfl (Or.inl rfl) (zaR (dv 7) zae))
 (zab (zaC (i:=6) za3.nd rfl (Or.inl rfl) (zaR (zaS (dv 6) zcy (zbe (zr7 zae))) (zah (dv 2) (zb7 (dv 7) zae))))
 zai)))
 (zab (zdA (i:=3) rfl (Or.inl rfl) (dv 6))
 zai)))))))
 (zab (zaF (dv 3))
 zai)))))
theorem zfB (T:Txt K mg t):zcL P w K mg base CX0 2 t.zgs t.zgh ["_law_script"] (spD K 1 zaX) :=
 zaz T.zeV zfz fun cdv A outer s0 H H₀ E hr=>(
 (zab (zaC (i:=1) zfz.nd rfl (Or.inl rfl) (zap ((zcS T).mono (by decide:1<=1)) hr rfl T.zdx T.zcK.kp T.zbN zbo (zaa (zah (zaR (dv 0) (zby (zaa zae zaj))) zae) (zaa (zaR (zaR (zby (zaa zae (zaa zae (zaa zae zaj)))) (zpa (zo8 (zby (zaa zae (zaa zae zaj))) (zpa (zjT (zaa zae zaj)) zae)) zae)) (zby (zaa zae zaj))) zaj)) rfl (fun ρ ds h=>(fun _ h=>zag (fun _ h=>zag (fun _ h=>zam h) h) h) ds h)))
 (zab (zaC (i:=2) zfz.nd rfl (Or.inl rfl) (zaG (zsq rfl) zym rfl T.n_min PyProof.Rows.Boot.«min» (zaa zae (zaa (zah (dv 1) zae) zaj))))
 (zab (zaF (zeL (zaa (zaS (dv 0) (zbe zae) (zbe (zaR zae (dv 2)))) (zaa (zaS (dv 0) (zbe (zaR zae (dv 2))) (zbe zae)) zaj))))
 zai))))
theorem zjr (T:Txt K mg t):zcL P w K mg base CX0 1 t.ziu t.zil ["_law_top","_law_bottom"] (spD K 2 zci) :=
 zaz T.zix zfy fun cdv A outer s0 H H₀ E hr=>(
 (zab (zaC (i:=2) zfy.nd rfl (Or.inl rfl) (zaG zhU znj rfl T.n_abs PyProof.Rows.Boot.«abs» (zaa (dv 0) zaj)))
 (zab (zaC (i:=3) zfy.nd rfl (Or.inl rfl) (dv 1))
 (zab (zlF _ PassesOwn.never (zaI (zeD hr.units) zhH (dv 3) zae nm)
 (zab (zyc (i:=2) (j:=3) rfl zfy.nd rfl rfl (by decide) rfl rfl (zaa (dv 3) (zaa (zb7 (dv 2) (dv 3)) zaj)) rfl)
 zai))
 (zab (zaF (zeL (zaa (zne (dv 0) (dv 2)) (zaa (zne (dv 1) (dv 2)) zaj))))
 zai)))))
theorem zdG (T:Txt K mg t):zcL P w K mg base CX0 2 t.zez t.zeq ["_law_d"] (spD K 1 zaE) :=
 zaz T.zcY zdB fun cdv A outer s0 H H₀ E hr=>(
 (zab (zaC (i:=1) zdB.nd rfl (Or.inl rfl) (zah (zby (zaa zae (zaa (zb7 (zah (dv 0) zae) zae) (zaa (zb7 (zah (dv 0) zae) zae) (zaa (zah (dv 0) zae) (zaa (zb7 (zah (dv 0) zae) zae) zaj)))))) (zah (dv 0) zae)))
 (zab (zaC (i:=2) zdB.nd rfl (Or.inl rfl) (zah (zby (zaa zae (zaa zae (zaa (zaR zae (zah (dv 0) zae)) (zaa zae (zaa (zaR zae (zb7 (zah (dv 0) zae) zae)) zaj)))))) (zah (dv 0) zae)))
 (zab (zaF (zap ((zjr T).mono (by decide:1<=1)) hr rfl T.zkT T.zix.kp T.zfu zbo (zaa (dv 1) (zaa (dv 2) zaj)) rfl (fun ρ ds h=>(fun _ h=>zag (fun _ h=>zag (fun _ h=>zam h) h) h) ds h)))
 zai))))
theorem zn4 (T:Txt K mg t):zcL P w K mg base CX0 3 t.zit t.zik ["_law_cell","_law_k","_law_walk"] (spD K 3 za9) :=
 zaz T.zk2 zbO fun cdv A outer s0 H H₀ E hr=>(
 (zab (zaC (i:=3) zbO.nd rfl (Or.inl rfl) (zap ((zcS T).mono (by decide:1<=2)) hr rfl T.zdx T.zcK.kp T.zbN zbo (zaa (dv 0) (zaa (zby (zaa zae (zaa zae (zaa zae (zaa zae (zaa (zkY zae zae) (zaa zae (zaa zae (zaa zae (zaa (zkY zae zae) (zaa zae (zaa zae zaj)))))))))))) zaj)) rfl (fun ρ ds h=>(fun _ h=>zag (fun _ h=>zag (fun _ h=>zam h) h) h) ds h)))
 (zab (zaC (i:=4) zbO.nd rfl (Or.inl rfl) (zb7 (zah (dv 3) zae) (zaG za5 zcq rfl T.n_len PyProof.Rows.Boot.«len» (zaa (dv 2) zaj))))
 (zab (zaC (i:=5) zbO.nd rfl (Or.inl rfl) (zb7 (zaR (zaR (dv 4) zae) (zb7 (zah (dv 3) zae) (zo9 (zaG za5 zcq rfl T.n_len PyProof.Rows.Boot.«len» (zaa (dv 2) zaj)) zae))) (zaG za5 zcq rfl T.n_len PyProof.Rows.Boot.«len» (zaa (dv 2) zaj))))
 (zab (zbD (zaI (zeE hr.units) zhI (zah (dv 3) zae) zae nm)
 (zab (zaC (i:=4) zbO.nd rfl (Or.inl rfl) (zb7 (dv 1) (zo9 (zaG za5 zcq rfl T.n_len PyProof.Rows.Boot.«len» (zaa (dv 2) zaj)) zae)))
 (zab (zaC (i:=5) zbO.nd rfl (Or.inl rfl) (zaR (dv 4) zae))
 zai))
 zai)
 (zab (zaC (i:=6) zbO.nd rfl (Or.inl rfl) zeM)
 (zab (zbD (zaI ztv (zdH fun _ _ _ _=>rb _) (zah (dv 3) zae) zae nm)
 (zab (zaC (i:=6) zbO.nd rfl (Or.inl rfl) (zap ((zdG T).mono (by decide:2<=2)) hr rfl T.zem T.zcY.kp T.zbK zbo (zaa (zaS (dv 3) (zbe zae) (zbe zae)) zaj) rfl (fun ρ ds h=>(fun _ h=>zag (fun _ h=>zam h) h) ds h)))
 (zab (zbD (zaI (zeE hr.units) zhI (zah (dv 6) zae) zae nm)
 (zab (zaC (i:=6) zbO.nd rfl (Or.inl rfl) (zeL (zaa zae (zaa zae zaj))))
 zai)
 zai)
 zai))
 zai)
 (zab (zaF (zeL (zaa (zah (dv 2) (dv 4)) (zaa (zah (dv 2) (dv 5)) (zaa (zah (zby (zaa zbS (zaa zbS zaj))) (zah (dv 3) zae)) (zaa (zap ((zdG T).mono (by decide:2<=2)) hr rfl T.zem T.zcY.kp T.zbK zbo (zaa (zaS (dv 3) (zbe zae) (zbe zae)) zaj) rfl (fun ρ ds h=>(fun _ h=>zag (fun _ h=>zam h) h) ds h)) (zaa (dv 6) zaj)))))))
 zai))))))))
theorem zjq (T:Txt K mg t):zcL P w K mg base CX0 4 t.zis t.zij ["_law_script"] (spD K 1 zch) :=
 zaz T.ziw zb1 fun cdv A outer s0 H H₀ E hr=>(
 (zab (zaC (i:=1) zb1.nd rfl (Or.inl rfl) (zap ((zcS T).mono (by decide:1<=3)) hr rfl T.zdx T.zcK.kp T.zbN zbo (zaa (zah (zaR (dv 0) (zby (zaa zae zaj))) zae) (zaa (zaR (zby (zaa zae (zaa zae (zaa zae zaj)))) (zpa (zo8 (zby (zaa zae (zaa zae zaj))) (zpa (zjT (zaa zae zaj)) zae)) zae)) zaj)) rfl (fun ρ ds h=>(fun _ h=>zag (fun _ h=>zag (fun _ h=>zam h) h) h) ds h)))
 (zab (zaC (i:=2) zb1.nd rfl (Or.inl rfl) (zap ((zlp T).mono (by decide:1<=3)) hr rfl T.zm7 T.ziU.kp T.zeT zbo (zaa (zaS (dv 1) (zbe zae) zcy) (zaa (zaR zae (zah (dv 1) zae)) zaj)) rfl (fun ρ ds h=>(fun _ h=>zag (fun _ h=>zag (fun _ h=>zam h) h) h) ds h)))
 (zab (zaC (i:=3) zb1.nd rfl (Or.inr rfl) (zb7 (zah (dv 1) zae) (zaG za5 zcq rfl T.n_len PyProof.Rows.Boot.«len» (zaa (dv 2) zaj))))
 (zab (zaC (i:=4) zb1.nd rfl (Or.inr rfl) (zb7 (zaR (zaR (dv 3) zae) (zb7 (zah (dv 1) zae) (zo9 (zaG za5 zcq rfl T.n_len PyProof.Rows.Boot.«len» (zaa (dv 2) zaj)) zae))) (zaG za5 zcq rfl T.n_len PyProof.Rows.Boot.«len» (zaa (dv 2) zaj))))
 (zab (zr4 (i:=5) zb1.nd rfl rfl zjZ (zqg ["_law_k","_law_place","_law_first","_law_last"] 2 [3,4] rfl (zgb rfl T.n_enumerate (dv 2)) (zi7 (by decide)) (fun s H C fp pn=>⟨fun He H0e=>(zg0 rfl (za4 (i:=0) (show List.Nodup (["_law_k","_law_place","_law_first","_law_last"]:List Str) from by decide) rfl (Or.inl rfl) (za4 (i:=1) (show List.Nodup (["_law_k","_law_place","_law_first","_law_last"]:List Str) from by decide) rfl (Or.inl rfl) ze2))),(zjS (zaI (zdo hr.units) zdp (dv 0) (zeL (zaa (dv 2) (zaa (dv 3) zaj))) rfl)),(dv 1)⟩) ⟨rfl,rfl⟩ rfl rfl rfl rfl))
 (zab (zaC (i:=6) zb1.nd rfl (Or.inr rfl) (zaR (zaR (zby (zaa (zah (dv 2) (dv 3)) zaj)) (dv 5)) (zby (zaa (zah (dv 2) (dv 4)) zaj))))
 (zab (zr4 (i:=7) zb1.nd rfl rfl zjZ (zqg ["_law_k","_law_cell","_law_walk"] 2 [6] rfl (zgb rfl T.n_enumerate (zah (zap ((zfB T).mono (by decide:2<=3)) hr rfl T.zf8 T.zeV.kp T.zcJ zbo (zaa (dv 0) zaj) rfl (fun ρ ds h=>(fun _ h=>zag (fun _ h=>zam h) h) ds h)) zae)) (zi7 (by decide)) (fun s H C fp pn=>⟨fun He H0e=>(zg0 rfl (za4 (i:=0) (show List.Nodup (["_law_k","_law_cell","_law_walk"]:List Str) from by decide) rfl (Or.inl rfl) (za4 (i:=1) (show List.Nodup (["_law_k","_law_cell","_law_walk"]:List Str) from by decide) rfl (Or.inl rfl) ze2))),zhb,(zap ((zn4 T).mono (by decide:3<=3)) hr rfl T.zp2 T.zk2.kp T.zcl zbo (zaa (dv 1) (zaa (dv 0) (zaa (dv 2) zaj))) rfl (fun ρ ds h=>(fun _ h=>zag (fun _ h=>zag (fun _ h=>zag (fun _ h=>zam h) h) h) h) ds h))⟩) ⟨rfl,rfl⟩ rfl rfl rfl rfl))
 (zab (zaF (zeL (zaa (dv 2) (zaa (dv 7) (zaa (zah (dv 2) (dv 3)) (zaa (zah (dv 2) (dv 4)) zaj))))))
 zai)))))))))
theorem zlo (T:Txt K mg t):zcL P w K mg base CX0 3 t.zgp t.zge ["_law_script"] (spD K 1 zeI) :=
 zaz T.ziT zhD fun cdv A outer s0 H H₀ E hr=>(
 (zab (zaC (i:=1) zhD.nd rfl (Or.inr rfl) (zby (zaa zae (zaa zae (zaa zae (zaa zae (zaa (zkY zae zae) (zaa zae (zaa zae (zaa zae (zaa (zkY zae zae) (zaa zae (zaa zae (zaa zae (zaa (zkY zae zae) (zaa zae zaj))))))))))))))))
 (zab (zaF (zkw (zqg ["_law_cell","_law_tops"] 1 [1] rfl (zhc (zah (zap ((zfB T).mono (by decide:2<=2)) hr rfl T.zf8 T.zeV.kp T.zcJ zbo (zaa (dv 0) zaj) rfl (fun ρ ds h=>(fun _ h=>zag (fun _ h=>zam h) h) ds h)) zae)) (zeC (by decide)) (fun s H C fp pn=>⟨fun He H0e=>(zcU (i:=0) (show List.Nodup (["_law_cell","_law_tops"]:List Str) from by decide) rfl (Or.inl rfl)),zhb,(zap ((zdG T).mono (by decide:2<=2)) hr rfl T.zem T.zcY.kp T.zbK zbo (zaa (zaS (zap ((zcS T).mono (by decide:1<=2)) hr rfl T.zdx T.zcK.kp T.zbN zbo (zaa (dv 0) (zaa (dv 1) zaj)) rfl (fun ρ ds h=>(fun _ h=>zag (fun _ h=>zag (fun _ h=>zam h) h) h) ds h)) (zbe zae) zcy) zaj) rfl (fun ρ ds h=>(fun _ h=>zag (fun _ h=>zam h) h) ds h))⟩) ⟨rfl,rfl⟩ rfl rfl rfl rfl)))
 zai)))
theorem ziH (T:Txt K mg t):zcL P w K mg base CX0 1 t.zht t.zhk ["_law_web_here","_law_bits_here"] (spD K 2 zcx) :=
 zaz T.zhy zmC fun cdv A outer s0 H H₀ E hr=>(
 (zab (zaF (zkw (zqg ["_law_k","_law_tie_here","_law_bits_here"] 2 [1] rfl (zgb rfl T.n_enumerate (zah (dv 0) zae)) (zi7 (by decide)) (fun s H C fp pn=>⟨fun He H0e=>(zg0 rfl (za4 (i:=0) (show List.Nodup (["_law_k","_law_tie_here","_law_bits_here"]:List Str) from by decide) rfl (Or.inl rfl) (za4 (i:=1) (show List.Nodup (["_law_k","_law_tie_here","_law_bits_here"]:List Str) from by decide) rfl (Or.inl rfl) ze2))),(zjS (DW.dt (zkW (zaI zvC zvL (zah (dv 1) zae) zeM nm) (zea (zaI (zeE hr.units) zhI (zr9 (zuz (dv 2) (dv 0)) zae) zae nm))))),(dv 0)⟩) ⟨rfl,rfl⟩ rfl rfl rfl rfl)))
 zai))
theorem ziG (T:Txt K mg t):zcL P w K mg base CX0 1 t.zhp t.zhg ["_law_web_here","_law_d"] (spD K 2 zcw) :=
 zaz T.zhx zbj fun cdv A outer s0 H H₀ E hr=>(
 (zab (zjQ (i:=2) zbj.nd rfl (Or.inl rfl) (zjT zaj))
 (zab (zjR PassesOwn.never rfl (zgb rfl T.n_enumerate (zah (dv 0) zae)) (zg0 rfl (za4 (i:=3) zbj.nd rfl (Or.inl rfl) (za4 (i:=4) zbj.nd rfl (Or.inl rfl) ze2))) zfd
 (zab (zbD (DW.dt (zdz (zaI (zeE hr.units) zhI (dv 4) (zah (dv 0) zae) nm) (zaN (DW.dt (zkW (zaI (zeD hr.units) zhH (dv 4) (zah (dv 0) zae) nm) (zea (zaI (zeE hr.units) zhI (zr9 (zuz (zah (dv 1) zae) (dv 3)) zae) zae nm)))))))
 (zab (zdA (i:=2) rfl (Or.inl rfl) (dv 4))
 zai)
 zai)
 zai))
 (zab (zhS 2 (zaC (i:=5) zbj.nd rfl (Or.inl rfl) (zb7 (zah (dv 1) zae) (zaR (zaG za5 zcq rfl T.n_len PyProof.Rows.Boot.«len» (zaa (dv 2) zaj)) zae))))
 (zab (zhS 2 (zaC (i:=6) zbj.nd rfl (Or.inl rfl) (zby (zaa zae (zaa zeM (zaa zbS (zaa (zah (zah (dv 0) zae) (zb7 (zah (dv 1) zae) (zaG za5 zcq rfl T.n_len PyProof.Rows.Boot.«len» (zaa (zah (dv 0) zae) zaj)))) (zaa (zaS (dv 2) zcy (zbe zae)) (zaa (zeL (zaa zbS zaj)) zaj)))))))))
 (zab (zaC (i:=7) zbj.nd rfl (Or.inl rfl) (zah (zaR (dv 6) (zby (zaa (zaR (zah (dv 0) zae) zbS) (zaa (zt4 (zah (dv 0) zae)) (zaa zhd (zaa zae zaj)))))) (zah (dv 1) zae)))
 (zab (zhS 2 (zjQ (i:=8) zbj.nd rfl (Or.inl rfl) (zjT (zaa (dv 2) (zaa (zyg (dv 2)) (zaa (zaR (dv 2) (zaS (dv 2) zcy (zbe zae))) (zaa (zaR (zaR (zaS (dv 2) zcy (zbe (dv 5))) (zby (zaa (dv 7) zaj))) (zaS (dv 2) (zbe (dv 5)) zcy)) zaj)))))))
 (zab (zhS 2 (zdA (i:=8) rfl (Or.inl rfl) (zaR (zaS (dv 2) zcy (zbe (dv 5))) (zaS (dv 2) (zbe (zaR (dv 5) zae)) zcy))))
 (zab (zdA (i:=8) rfl (Or.inl rfl) (zkw (zqg ["_law_place","_law_web_here"] 1 [0] rfl (zhc (zah (dv 0) zae)) (zeC (by decide)) (fun s H C fp pn=>⟨fun He H0e=>(zcU (i:=0) (show List.Nodup (["_law_place","_law_web_here"]:List Str) from by decide) rfl (Or.inl rfl)),(zjS (zaI (zeD hr.units) zhH (dv 0) (zah (dv 1) zae) nm)),(dv 0)⟩) ⟨rfl,rfl⟩ rfl rfl rfl rfl)))
 (zab (zhS 8 (zhS 2 (zjQ (i:=8) zbj.nd rfl (Or.inl rfl) (zo8 (dv 8) (zby (zaa (zlG ziR zsn rfl T.n_list PyProof.Rows.Boot.«list» (zaa (zah (dv 0) zae) zaj)) (zaa (zby zaj) (zaa (zaR (dv 2) (zby (zaa (zah (dv 0) zae) zaj))) zaj))))))))
 (zab (zhS 8 (zhS 2 (zjQ (i:=8) zbj.nd rfl (Or.inl rfl) (zo8 (dv 8) (zby (zaa (zah (zby (zaa (zlG zlP zuc rfl T.n_tuple PyProof.Rows.Boot.«tuple» (zaa (dv 2) zaj)) (zaa zeM (zaa (zah (dv 0) zae) (zaa zwh (zaa zae (zaa (dv 0) zaj))))))) (zb7 (zah (dv 1) zae) zae)) (zaa (zaR (zaS (dv 2) (zbe (dv 5)) zcy) (zaS (dv 2) zcy (zbe (dv 5)))) zaj)))))))
 (zab (zhS 2 (zdA (i:=8) rfl (Or.inl rfl) (zaR (zaR (zaS (dv 2) zcy (zbe (dv 5))) (zaS (dv 2) zcy (zbe (dv 5)))) (dv 2))))
 (zab (zaF (zah (dv 8) (zah (zby (zaa zae (zaa zae (zaa zae (zaa zae (zaa zae (zaa zae (zaa zae (zaa zae (zaa zae (zaa zae (zaa zae (zaa zae (zaa zae (zaa zae (zaa zae (zaa zae zaj))))))))))))))))) (zah (dv 1) zae))))
 zai)))))))))))))
theorem zgE (T:Txt K mg t):zcL P w K mg base CX0 1 t.zkb t.zjW ["thing"] (spD K 1 zb4) :=
 zaz T.zgx zpH fun cdv A outer s0 H H₀ E hr=>(
 (zab (zbD (DW.dt (zdz (zbx (zbm (zbh zkM rfl T.n_isinstance rfl T.n_str PyProof.Rows.Boot.«str» (dv 0)))) (zaN (zbx (zo6 zpN zpN (zfk fun _ _ _ _=>rb _) (zfk fun _ _ _ _=>rb _) zfm zfm zae (zaG za5 zcq rfl T.n_len PyProof.Rows.Boot.«len» (zaa (dv 0) zaj)) (zaU T.ze7 rfl))))))
 (zab (zaF zhd)
 zai)
 zai)
 (zab (zaF (zaG (zlQ rfl) zso rfl T.n_all PyProof.Rows.Boot.«all» (zaa (zkw (zqg ["sign"] 1 [] rfl (zye (dv 0)) (zeC (by decide)) (fun s H C fp pn=>⟨fun He H0e=>(zcU (i:=0) (show List.Nodup (["sign"]:List Str) from by decide) rfl (Or.inl rfl)),zhb,(zeO (zjm hr.units) zjt (dv 0) (zaU T.zj7 rfl) rfl)⟩) ⟨rfl,rfl⟩ rfl rfl rfl rfl)) zaj)))
 zai)))
theorem zh6 (T:Txt K mg t):zcL P w K mg base (CXE P w) 3 t.zdN t.zdJ ["places"] (spD K 1 zaK) :=
 zbX T.zfZ zc0 fun cdv A outer s0 H H₀ E hr=>(
 (zab (zbD (DW.dt (zdz (zbx (zbm (zbh zdi rfl T.n_isinstance rfl T.n_list PyProof.Rows.Boot.«list» (dv 0)))) (zaN (zbx (zo6 zpN zpN (zfk fun _ _ _ _=>rb _) (zfk fun _ _ _ _=>rb _) zfm zfm (zaU T.zes rfl) (zaG za5 zcq rfl T.n_len PyProof.Rows.Boot.«len» (zaa (dv 0) zaj)) (zaU T.zfI rfl))))))
 (zab (zen T.zcm.xc T.zfw T.zfv T.zfx ((zdj T).mono (by decide:1<=1)) T.zdW (by decide) hr T.zg8 hr.hd rfl (zaa zbS (zaa zeM zaj)))
 zai)
 zai)
 (zab (zjR PassesOwn.leaving rfl (zgb rfl T.n_enumerate (dv 0)) (zg0 rfl (za4 (i:=1) zc0.nd rfl (Or.inl rfl) (za4 (i:=2) zc0.nd rfl (Or.inl rfl) ze2))) zfd
 (zab (zbD (DW.dt (zdz (zbx (zbm (zap ((zgE T).mono (by decide:1<=2)) hr rfl T.zhP T.zgx.kp T.zcr zf3 (zaa (dv 2) zaj) rfl (fun ρ ds h=>(fun _ h=>zag (fun _ h=>zam h) h) ds h)))) (zaN (zaI (zjm hr.units) zjt (dv 2) (zaS (dv 0) zcy (zbe (dv 1))) rfl))))
 (zab (zen T.zcm.xc T.zfw T.zfv T.zfx ((zdj T).mono (by decide:1<=1)) T.zdW (by decide) hr T.zg8 hr.hd rfl (zaa zbS (zaa (dv 1) zaj)))
 zai)
 zai)
 zai))
 zai)))
theorem zeg (T:Txt K mg t):zcL P w K mg base CX0 1 t.zio t.zig ["thing"] (spD K 1 zbI) :=
 zaz T.zeb znU fun cdv A outer s0 H H₀ E hr=>(
 (zab (zaF (zfX (zbh zkN rfl T.n_isinstance rfl T.n_int PyProof.Rows.Boot.«int» (dv 0)) (zfr (zuA (zbh zjD rfl T.n_isinstance rfl T.n_bool PyProof.Rows.Boot.«bool» (dv 0))))))
 zai))
theorem zfl (T:Txt K mg t):zcL P w K mg base CX0 1 t.zdO t.zdK ["one","other"] (spD K 2 zbc) :=
 zaz T.zdQ zbl fun cdv A outer s0 H H₀ E hr=>(
 (zab (zaC (i:=2) zbl.nd rfl (Or.inl rfl) (zaG zhU znj rfl T.n_abs PyProof.Rows.Boot.«abs» (zaa (dv 0) zaj)))
 (zab (zaC (i:=3) zbl.nd rfl (Or.inl rfl) (zaG zhU znj rfl T.n_abs PyProof.Rows.Boot.«abs» (zaa (dv 1) zaj)))
 (zab (zlF _ PassesOwn.never (zaI (zeD hr.units) zhH (dv 3) zae nm)
 (zab (zaC (i:=4) zbl.nd rfl (Or.inl rfl) (zb7 (dv 2) (dv 3)))
 (zab (zaC (i:=2) zbl.nd rfl (Or.inl rfl) (dv 3))
 (zab (zaC (i:=3) zbl.nd rfl (Or.inl rfl) (dv 4))
 zai))))
 (zab (zaF (dv 2))
 zai)))))
theorem zjp (T:Txt K mg t):zcL P w K mg base CX0 2 t.ziq t.zih ["thing"] (spD K 1 zdf) :=
 zaz T.ziv znV fun cdv A outer s0 H H₀ E hr=>(
 (zab (zbD (DW.dt (zdz (zbx (zbm (zbh zeJ rfl T.n_isinstance rfl T.n_tuple PyProof.Rows.Boot.«tuple» (dv 0)))) (zaN (zaI (zeD hr.units) zhH (zaG za5 zcq rfl T.n_len PyProof.Rows.Boot.«len» (zaa (dv 0) zaj)) zae nm))))
 (zab (zaF zhd)
 zai)
 zai)
 (zab (zbD (DW.dt (zdz (zbx (zbm (zap ((zeg T).mono (by decide:1<=1)) hr rfl T.zfq T.zeb.kp T.zdm zbo (zaa (zah (dv 0) zae) zaj) rfl (fun ρ ds h=>(fun _ h=>zag (fun _ h=>zam h) h) ds h)))) (zaN (zbx (zbm (zap ((zeg T).mono (by decide:1<=1)) hr rfl T.zfq T.zeb.kp T.zdm zbo (zaa (zah (dv 0) zae) zaj) rfl (fun ρ ds h=>(fun _ h=>zag (fun _ h=>zam h) h) ds h)))))))
 (zab (zaF zhd)
 zai)
 zai)
 (zab (zaF (zfX (zeO zvG (zdH fun _ _ _ _=>rb _) (zah (dv 0) zae) zae nm) (zfr (zeO (zeE hr.units) zhI (zap ((zfl T).mono (by decide:1<=1)) hr rfl T.zfV T.zdQ.kp T.zbf zbo (zaa (zah (dv 0) zae) (zaa (zah (dv 0) zae) zaj)) rfl (fun ρ ds h=>(fun _ h=>zag (fun _ h=>zag (fun _ h=>zam h) h) h) ds h)) zae nm))))
 zai))))
theorem ziE (T:Txt K mg t):zcL P w K mg base CX0 3 t.zhn t.zhe ["thing"] (spD K 1 zb5) :=
 zaz T.zhv zmz fun cdv A outer s0 H H₀ E hr=>(
 (zab (zaF (zfX (zap ((zjp T).mono (by decide:2<=2)) hr rfl T.zkR T.ziv.kp T.zbJ zbo (zaa (dv 0) zaj) rfl (fun ρ ds h=>(fun _ h=>zag (fun _ h=>zam h) h) ds h)) (zfr (zeO zvG (zdH fun _ _ _ _=>rb _) (zah (dv 0) zae) zae nm))))
 zai))
theorem zn3 (T:Txt K mg t):zcL P w K mg base CX0 3 t.zin t.zif ["thing"] (spD K 1 zd9) :=
 zaz T.zk1 znT fun cdv A outer s0 H H₀ E hr=>(
 (zab (zaF (zzx (zeO zrq zrx (dv 0) zeM nm) (zfr (zfX (zap ((zjp T).mono (by decide:2<=2)) hr rfl T.zkR T.ziv.kp T.zbJ zbo (zaa (dv 0) zaj) rfl (fun ρ ds h=>(fun _ h=>zag (fun _ h=>zam h) h) ds h)) (zfr (zeO ztv (zdH fun _ _ _ _=>rb _) (zah (dv 0) zae) zae nm))))))
 zai))
theorem zru (T:Txt K mg t):zcL P w K mg base CX0 4 t.zlY t.zlI ["thing"] (spD K 1 zeH) :=
 zaz T.zpk zq2 fun cdv A outer s0 H H₀ E hr=>(
 (zab (zbD (DW.dt (zdz (zbx (zbm (zbh zeJ rfl T.n_isinstance rfl T.n_tuple PyProof.Rows.Boot.«tuple» (dv 0)))) (zaN (zaI (zeD hr.units) zhH (zaG za5 zcq rfl T.n_len PyProof.Rows.Boot.«len» (zaa (dv 0) zaj)) zae nm))))
 (zab (zaF zhd)
 zai)
 zai)
 (zab (zbD (DW.dt (zdz (zbx (zbm (zap ((zgE T).mono (by decide:1<=3)) hr rfl T.zhP T.zgx.kp T.zcr zbo (zaa (zah (dv 0) (zaU T.zol rfl)) zaj) rfl (fun ρ ds h=>(fun _ h=>zag (fun _ h=>zam h) h) ds h)))) (zdz (zbx (zbm (zap ((zgE T).mono (by decide:1<=3)) hr rfl T.zhP T.zgx.kp T.zcr zbo (zaa (zah (dv 0) (zaU T.zhl rfl)) zaj) rfl (fun ρ ds h=>(fun _ h=>zag (fun _ h=>zam h) h) ds h)))) (zaN (zaI (zeE hr.units) zhI (zah (dv 0) (zaU T.zol rfl)) (zah (dv 0) (zaU T.zhl rfl)) nm)))))
 (zab (zaF zhd)
 zai)
 zai)
 (zab (zbD (DW.dt (zdz (zbx (zbm (zbh zkM rfl T.n_isinstance rfl T.n_str PyProof.Rows.Boot.«str» (zah (dv 0) (zaU T.znk rfl))))) (zaN (zaI (zdo hr.units) zdp (zah (dv 0) (zaU T.znk rfl)) (zaU T.zok rfl) rfl))))
 (zab (zaF zhd)
 zai)
 zai)
 (zab (zaF (zfX (zap ((ziE T).mono (by decide:3<=3)) hr rfl T.zjL T.zhv.kp T.zeu zbo (zaa (zah (dv 0) (zaU T.zlT rfl)) zaj) rfl (fun ρ ds h=>(fun _ h=>zag (fun _ h=>zam h) h) ds h)) (zfr (zap ((zn3 T).mono (by decide:3<=3)) hr rfl T.zp1 T.zk1.kp T.zgO zbo (zaa (zah (dv 0) (zaU T.zlR rfl)) zaj) rfl (fun ρ ds h=>(fun _ h=>zag (fun _ h=>zam h) h) ds h)))))
 zai)))))
theorem zjn (T:Txt K mg t):zcL P w K mg base (CXE P w) 5 t.ze9 t.ze3 ["ties","places"] (spD K 2 zaV) :=
 zbX T.zg2 zec fun cdv A outer s0 H H₀ E hr=>(
 (zab (zbD (DW.dt (zdz (zbx (zbm (zbh zdi rfl T.n_isinstance rfl T.n_list PyProof.Rows.Boot.«list» (dv 0)))) (zaN (zaI ztv (zdH fun _ _ _ _=>rb _) (zaG za5 zcq rfl T.n_len PyProof.Rows.Boot.«len» (zaa (dv 0) zaj)) (zaU T.zhm rfl) nm))))
 (zab (zen T.zcm.xc T.zfw T.zfv T.zfx ((zdj T).mono (by decide:1<=3)) T.zdW (by decide) hr T.zg8 hr.hd rfl (zaa zbS (zaa zeM zaj)))
 zai)
 zai)
 (zab (zjR PassesOwn.leaving rfl (zgb rfl T.n_enumerate (dv 0)) (zg0 rfl (za4 (i:=2) zec.nd rfl (Or.inl rfl) (za4 (i:=3) zec.nd rfl (Or.inl rfl) ze2))) zfd
 (zab (zbD (DW.dt (zdz (zbx (zbm (zap ((zru T).mono (by decide:4<=4)) hr rfl T.ztW T.zpk.kp T.zjb zf3 (zaa (dv 3) zaj) rfl (fun ρ ds h=>(fun _ h=>zag (fun _ h=>zam h) h) ds h)))) (zdz (zaI (zdo hr.units) zdp (zah (dv 3) (zaU T.zol rfl)) (dv 1) rfl) (zaN (zaI (zdo hr.units) zdp (zah (dv 3) (zaU T.zhl rfl)) (dv 1) rfl)))))
 (zab (zen T.zcm.xc T.zfw T.zfv T.zfx ((zdj T).mono (by decide:1<=3)) T.zdW (by decide) hr T.zg8 hr.hd rfl (zaa zbS (zaa (dv 2) zaj)))
 zai)
 zai)
 zai))
 zai)))
theorem zg5 (T:Txt K mg t):zcL P w K mg base CX0 2 t.zir t.zii ["thing","places"] (spD K 2 za1) :=
 zaz T.zgP znW fun cdv A outer s0 H H₀ E hr=>(
 (zab (zaF (zfX (zap ((zgE T).mono (by decide:1<=1)) hr rfl T.zhP T.zgx.kp T.zcr zbo (zaa (dv 0) zaj) rfl (fun ρ ds h=>(fun _ h=>zag (fun _ h=>zam h) h) ds h)) (zfr (zeO (zjm hr.units) zjt (dv 0) (dv 1) rfl))))
 zai))
theorem zgW (T:Txt K mg t):zcL P w K mg base (CXE P w) 6 t.zfO t.zfG ["thing"] (spD K 1 zaQ) :=
 zbX T.zfQ zko fun cdv A outer s0 H H₀ E hr=>(
 (zab (zbD (DW.dt (zdz (zbx (zbm (zbh zeJ rfl T.n_isinstance rfl T.n_tuple PyProof.Rows.Boot.«tuple» (dv 0)))) (zaN (zaI (zeD hr.units) zhH (zaG za5 zcq rfl T.n_len PyProof.Rows.Boot.«len» (zaa (dv 0) zaj)) zae nm))))
 (zab (zen T.zcm.xc T.zfw T.zfv T.zfx ((zdj T).mono (by decide:1<=4)) T.zdW (by decide) hr T.zg8 hr.hd rfl (zaa zbS (zaa zeM zaj)))
 zai)
 zai)
 (zab (zg9 (zap ((zh6 T).mono (by decide:3<=5)) hr rfl T.zi5 T.zfZ.kp T.zaZ zeW (zaa (zah (dv 0) (zaU T.zeP rfl)) zaj) rfl (fun ρ ds h=>(fun _ h=>zag (fun _ h=>zam h) h) ds h)))
 (zab (zg9 (zap ((zjn T).mono (by decide:5<=5)) hr rfl T.zkt T.zg2.kp T.zbk zeW (zaa (zah (dv 0) (zaU T.zj6 rfl)) (zaa (zah (dv 0) (zaU T.zeP rfl)) zaj)) rfl (fun ρ ds h=>(fun _ h=>zag (fun _ h=>zag (fun _ h=>zam h) h) h) ds h)))
 (zab (zbD (zbx (zbm (zap ((zg5 T).mono (by decide:2<=5)) hr rfl T.zia T.zgP.kp T.zck zf3 (zaa (zah (dv 0) (zaU T.zj8 rfl)) (zaa (zah (dv 0) (zaU T.zeP rfl)) zaj)) rfl (fun ρ ds h=>(fun _ h=>zag (fun _ h=>zag (fun _ h=>zam h) h) h) ds h))))
 (zab (zen T.zcm.xc T.zfw T.zfv T.zfx ((zdj T).mono (by decide:1<=4)) T.zdW (by decide) hr T.zg8 hr.hd rfl (zaa zbS (zaa zeM zaj)))
 zai)
 zai)
 (zab (zbD (DW.dt (zdz (zbx (zbm (zap ((zg5 T).mono (by decide:2<=5)) hr rfl T.zia T.zgP.kp T.zck zf3 (zaa (zah (dv 0) (zaU T.znl rfl)) (zaa (zah (dv 0) (zaU T.zeP rfl)) zaj)) rfl (fun ρ ds h=>(fun _ h=>zag (fun _ h=>zag (fun _ h=>zam h) h) h) ds h)))) (zaN (zaI (zeE hr.units) zhI (zah (dv 0) (zaU T.znl rfl)) (zah (dv 0) (zaU T.zj8 rfl)) nm))))
 (zab (zen T.zcm.xc T.zfw T.zfv T.zfx ((zdj T).mono (by decide:1<=4)) T.zdW (by decide) hr T.zg8 hr.hd rfl (zaa zbS (zaa zeM zaj)))
 zai)
 zai)
 zai))))))
theorem zks (T:Txt K mg t):zcL P w K mg base CX0 4 t.zfP t.zfH ["web","thing"] (spD K 2 zdS) :=
 zaz T.zh0 zkp fun cdv A outer s0 H H₀ E hr=>(
 (zab (zbD (DW.dt (zdz (zbx (zbm (zbh zdi rfl T.n_isinstance rfl T.n_list PyProof.Rows.Boot.«list» (dv 1)))) (zaN (zaI (zeD hr.units) zhH (zaG za5 zcq rfl T.n_len PyProof.Rows.Boot.«len» (zaa (dv 1) zaj)) (zaG za5 zcq rfl T.n_len PyProof.Rows.Boot.«len» (zaa (zah (dv 0) (zaU T.zj6 rfl)) zaj)) nm))))
 (zab (zaF zhd)
 zai)
 zai)
 (zab (zaF (zaG (zlQ rfl) zso rfl T.n_all PyProof.Rows.Boot.«all» (zaa (zkw (zqg ["one"] 1 [] rfl (zhc (dv 1)) (zeC (by decide)) (fun s H C fp pn=>⟨fun He H0e=>(zcU (i:=0) (show List.Nodup (["one"]:List Str) from by decide) rfl (Or.inl rfl)),zhb,(zap ((ziE T).mono (by decide:3<=3)) hr rfl T.zjL T.zhv.kp T.zeu zbo (zaa (dv 0) zaj) rfl (fun ρ ds h=>(fun _ h=>zag (fun _ h=>zam h) h) ds h))⟩) ⟨rfl,rfl⟩ rfl rfl rfl rfl)) zaj)))
 zai)))
theorem zi2 (T:Txt K mg t):zcL P w K mg base (CXE P w) 7 t.zex t.zeo ["web","thing"] (spD K 2 zcT) :=
 zbX T.zgv ziY fun cdv A outer s0 H H₀ E hr=>(
 (zab (zg9 (zap ((zgW T).mono (by decide:6<=6)) hr rfl T.zhO T.zfQ.kp T.zbi zeW (zaa (dv 0) zaj) rfl (fun ρ ds h=>(fun _ h=>zag (fun _ h=>zam h) h) ds h)))
 (zab (zbD (zbx (zbm (zap ((zks T).mono (by decide:4<=6)) hr rfl T.zlz T.zh0.kp T.zd0 zf3 (zaa (dv 0) (zaa (dv 1) zaj)) rfl (fun ρ ds h=>(fun _ h=>zag (fun _ h=>zag (fun _ h=>zam h) h) h) ds h))))
 (zab (zdT T.zco.xcls T.zm8 hr.hd rfl (zaa zbS zaj))
 zai)
 zai)
 zai)))
theorem zi3 (T:Txt K mg t):zcL P w K mg base CX0 2 t.zey t.zep ["web","thing"] (spD K 2 za7) :=
 zaz T.zgw ziZ fun cdv A outer s0 H H₀ E hr=>(
 (zab (zaF (zfX (zap ((zeg T).mono (by decide:1<=1)) hr rfl T.zfq T.zeb.kp T.zdm zbo (zaa (dv 1) zaj) rfl (fun ρ ds h=>(fun _ h=>zag (fun _ h=>zam h) h) ds h)) (zfr (zt6 zpN zvF (zfk fun _ _ _ _=>rb _) (zfk fun _ _ _ _=>rb _) zfm zfm zae (dv 1) (zaG za5 zcq rfl T.n_len PyProof.Rows.Boot.«len» (zaa (zah (dv 0) (zaU T.zj6 rfl)) zaj))))))
 zai))
theorem zh5 (T:Txt K mg t):zcL P w K mg base (CXE P w) 7 t.zdM t.zdI ["web","thing"] (spD K 2 zaJ) :=
 zbX T.zfY zca fun cdv A outer s0 H H₀ E hr=>(
 (zab (zg9 (zap ((zgW T).mono (by decide:6<=6)) hr rfl T.zhO T.zfQ.kp T.zbi zeW (zaa (dv 0) zaj) rfl (fun ρ ds h=>(fun _ h=>zag (fun _ h=>zam h) h) ds h)))
 (zab (zbD (zbx (zbm (zbh zdi rfl T.n_isinstance rfl T.n_list PyProof.Rows.Boot.«list» (dv 1))))
 (zab (zdT T.zbr.xcls T.zib hr.hd rfl (zaa zbS zaj))
 zai)
 zai)
 (zab (zaC (i:=2) zca.nd rfl (Or.inl rfl) (zr7 zae))
 (zab (znb PassesOwn.leaving rfl (dv 1) (zcU (i:=3) zca.nd rfl (Or.inl rfl)) zfe
 (zab (zbD (DW.dt (zdz (zbx (zbm (zap ((zi3 T).mono (by decide:2<=6)) hr rfl T.zjK T.zgw.kp T.zcX zf3 (zaa (dv 0) (zaa (dv 3) zaj)) rfl (fun ρ ds h=>(fun _ h=>zag (fun _ h=>zag (fun _ h=>zam h) h) h) ds h)))) (zaN (zaI zpN (zdH fun _ _ _ _=>rb _) (dv 3) (dv 2) nm))))
 (zab (zdT T.zbr.xcls T.zib hr.hd rfl (zaa zbS zaj))
 zai)
 zai)
 (zab (zbD (zaI zrq zrx (zah (zah (zah (dv 0) (zaU T.zj6 rfl)) (dv 3)) (zaU T.zlR rfl)) zeM nm)
 (zab (zdT T.zbr.xcls T.zib hr.hd rfl (zaa zbS zaj))
 zai)
 zai)
 (zab (zaC (i:=2) zca.nd rfl (Or.inl rfl) (dv 3))
 zai))))
 zai)))))
theorem zjo (T:Txt K mg t):zcL P w K mg base (CXE P w) 3 t.zfa t.ze4 ["web","thing"] (spD K 2 zaH) :=
 zbX T.zg3 zjj fun cdv A outer s0 H H₀ E hr=>(
 (zab (zbD (DW.dt (zdz (zbx (zbm (zbh zdi rfl T.n_isinstance rfl T.n_list PyProof.Rows.Boot.«list» (dv 1)))) (zaN (zbx (zbm (zaG (zlQ rfl) zso rfl T.n_all PyProof.Rows.Boot.«all» (zaa (zkw (zqg ["one","web"] 1 [0] rfl (zhc (dv 1)) (zeC (by decide)) (fun s H C fp pn=>⟨fun He H0e=>(zcU (i:=0) (show List.Nodup (["one","web"]:List Str) from by decide) rfl (Or.inl rfl)),zhb,(zap ((zg5 T).mono (by decide:2<=2)) hr rfl T.zia T.zgP.kp T.zck zf3 (zaa (dv 0) (zaa (zah (dv 1) (zaU T.zeP rfl)) zaj)) rfl (fun ρ ds h=>(fun _ h=>zag (fun _ h=>zag (fun _ h=>zam h) h) h) ds h))⟩) ⟨rfl,rfl⟩ rfl rfl rfl rfl)) zaj)))))))
 (zab (zdT T.zcs.xcls T.zja hr.hd rfl (zaa zbS zaj))
 zai)
 zai)
 (zab (zbD (zaI (zeD hr.units) zhH (dv 1) (zkw (zqg ["place","thing"] 1 [1] rfl (zhc (zah (dv 0) (zaU T.zeP rfl))) (zeC (by decide)) (fun s H C fp pn=>⟨fun He H0e=>(zcU (i:=0) (show List.Nodup (["place","thing"]:List Str) from by decide) rfl (Or.inl rfl)),(zjS (zaI (zjm hr.units) zjt (dv 0) (dv 1) rfl)),(dv 0)⟩) ⟨rfl,rfl⟩ rfl rfl rfl rfl)) nm)
 (zab (zdT T.zcs.xcls T.zja hr.hd rfl (zaa zbS zaj))
 zai)
 zai)
 (zab (zbD (DW.dt (zdz (zaI (zdo hr.units) zdp (zah (dv 0) (zaU T.zj8 rfl)) (dv 1) rfl) (zaN (zaI (zjm hr.units) zjt (zah (dv 0) (zaU T.znl rfl)) (dv 1) rfl))))
 (zab (zdT T.zcs.xcls T.zja hr.hd rfl (zaa zbS zaj))
 zai)
 zai)
 zai))))
theorem ztw (T:Txt K mg t):zcL P w K mg base (CXE P w) 2 t.zon t.zoi ["top","bottom"] (spD K 2 ze1) :=
 zbX T.zsB zlg fun cdv A outer s0 H H₀ E hr=>(
 (zab (zbD (DW.dt (zdz (zbx (zbm (zap ((zeg T).mono (by decide:1<=1)) hr rfl T.zfq T.zeb.kp T.zdm zf3 (zaa (dv 0) zaj) rfl (fun ρ ds h=>(fun _ h=>zag (fun _ h=>zam h) h) ds h)))) (zaN (zbx (zbm (zap ((zeg T).mono (by decide:1<=1)) hr rfl T.zfq T.zeb.kp T.zdm zf3 (zaa (dv 1) zaj) rfl (fun ρ ds h=>(fun _ h=>zag (fun _ h=>zam h) h) ds h)))))))
 (zab (zdT T.zbE.xcls T.zkU hr.hd rfl (zaa zbS zaj))
 zai)
 zai)
 (zab (zbD (zaI (zeE hr.units) zhI (dv 1) zae nm)
 (zab (zdT T.zbE.xcls T.zkU hr.hd rfl (zaa zbS zaj))
 zai)
 zai)
 (zab (zaC (i:=2) zlg.nd rfl (Or.inl rfl) (zap ((zfl T).mono (by decide:1<=1)) hr rfl T.zfV T.zdQ.kp T.zbf zf3 (zaa (dv 0) (zaa (dv 1) zaj)) rfl (fun ρ ds h=>(fun _ h=>zag (fun _ h=>zag (fun _ h=>zam h) h) h) ds h)))
 (zab (zbD (zaI zvF (zdH fun _ _ _ _=>rb _) (dv 1) zae nm)
 (zab (zaC (i:=2) zlg.nd rfl (Or.inl rfl) (zr7 (dv 2)))
 zai)
 zai)
 (zab (zaF (zeL (zaa (zne (dv 0) (dv 2)) (zaa (zne (dv 1) (dv 2)) zaj))))
 zai))))))
theorem zvJ (T:Txt K mg t):zcL P w K mg base (CXE P w) 3 t.zsx t.zsb ["one","other"] (spD K 2 zgY) :=
 zbX T.zuG zvi fun cdv A outer s0 H H₀ E hr=>(
 (zab (zaF (zap ((ztw T).mono (by decide:2<=2)) hr rfl T.zv4 T.zsB.kp T.ze8 zeW (zaa (zaR (zeN (zah (dv 0) zae) (zah (dv 1) zae)) (zeN (zah (dv 1) zae) (zah (dv 0) zae))) (zaa (zeN (zah (dv 0) zae) (zah (dv 1) zae)) zaj)) rfl (fun ρ ds h=>(fun _ h=>zag (fun _ h=>zag (fun _ h=>zam h) h) h) ds h)))
 zai))
theorem zrt (T:Txt K mg t):zcL P w K mg base (CXE P w) 4 t.zlX t.zlH ["some"] (spD K 1 zeF) :=
 zbX T.zpj zhC fun cdv A outer s0 H H₀ E hr=>(
 (zab (zaC (i:=1) zhC.nd rfl (Or.inl rfl) (zaU T.zlS rfl))
 (zab (znb PassesOwn.leaving rfl (dv 0) (zcU (i:=2) zhC.nd rfl (Or.inl rfl)) zfe
 (zab (zaC (i:=1) zhC.nd rfl (Or.inl rfl) (zap ((zvJ T).mono (by decide:3<=3)) hr rfl T.zx2 T.zuG.kp T.zhV zeW (zaa (dv 1) (zaa (dv 2) zaj)) rfl (fun ρ ds h=>(fun _ h=>zag (fun _ h=>zag (fun _ h=>zam h) h) h) ds h)))
 zai))
 (zab (zaF (dv 1))
 zai))))
theorem zkq (T:Txt K mg t):zcL P w K mg base CX0 1 t.zfM t.zfE ["tie"] (spD K 1 zcg) :=
 zaz T.zhY zgU fun cdv A outer s0 H H₀ E hr=>(
 (zab (zaC (i:=1) zgU.nd rfl (Or.inl rfl) (zeL (zaa (zah (dv 0) (zaU T.zol rfl)) (zaa (zah (dv 0) (zaU T.zhl rfl)) zaj))))
 (zab (zbD (zaI (zeE hr.units) zhI (zah (dv 0) (zaU T.znk rfl)) zbS nm)
 (zab (zaF (zby (zaa (dv 1) zaj)))
 zai)
 zai)
 (zab (zaF (zby (zaa (dv 1) (zaa (zeL (zaa (zah (dv 0) (zaU T.zhl rfl)) (zaa (zah (dv 0) (zaU T.zol rfl)) zaj))) zaj))))
 zai))))
theorem zln (T:Txt K mg t):zcL P w K mg base CX0 2 t.zgn t.zgc ["web","taken"] (spD K 2 zeG) :=
 zaz T.ziS zb9 fun cdv A outer s0 H H₀ E hr=>(
 (zab (zjQ (i:=2) zb9.nd rfl (Or.inl rfl) (zjT zaj))
 (zab (zjR PassesOwn.never rfl (zgb rfl T.n_enumerate (zah (dv 0) (zaU T.zj6 rfl))) (zg0 rfl (za4 (i:=3) zb9.nd rfl (Or.inl rfl) (za4 (i:=4) zb9.nd rfl (Or.inl rfl) ze2))) zfd
 (zab (zbD (zaI (zdo hr.units) zdp (dv 3) (dv 1) rfl)
 (zab (znb PassesOwn.never rfl (zap ((zkq T).mono (by decide:1<=1)) hr rfl T.zlx T.zhY.kp T.zcV zbo (zaa (dv 4) zaj) rfl (fun ρ ds h=>(fun _ h=>zag (fun _ h=>zam h) h) ds h)) (zg0 rfl (za4 (i:=5) zb9.nd rfl (Or.inl rfl) (za4 (i:=6) zb9.nd rfl (Or.inl rfl) ze2))) zfd
 (zab (zdA (i:=2) rfl (Or.inl rfl) (zeL (zaa (dv 3) (zaa (dv 5) (zaa (dv 6) zaj)))))
 zai))
 zai)
 zai)
 zai))
 (zab (zaF (dv 2))
 zai))))
theorem zkr (T:Txt K mg t):zcL P w K mg base CX0 3 t.zfN t.zfF ["web","taken","side"] (spD K 3 zdR) :=
 zaz T.zhZ zkn fun cdv A outer s0 H H₀ E hr=>(
 (zab (zaF (zkw (zqg ["number","here","there","side"] 3 [2] rfl (zhc (zap ((zln T).mono (by decide:2<=2)) hr rfl T.zm5 T.ziS.kp T.zeQ zbo (zaa (dv 0) (zaa (dv 1) zaj)) rfl (fun ρ ds h=>(fun _ h=>zag (fun _ h=>zag (fun _ h=>zam h) h) h) ds h))) (zi7 (by decide)) (fun s H C fp pn=>⟨fun He H0e=>(zg0 rfl (za4 (i:=0) (show List.Nodup (["number","here","there","side"]:List Str) from by decide) rfl (Or.inl rfl) (za4 (i:=1) (show List.Nodup (["number","here","there","side"]:List Str) from by decide) rfl (Or.inl rfl) (za4 (i:=2) (show List.Nodup (["number","here","there","side"]:List Str) from by decide) rfl (Or.inl rfl) ze2)))),(zjS (DW.dt (zkW (zaI (zjm hr.units) zjt (dv 1) (dv 3) rfl) (zea (zaI (zdo hr.units) zdp (dv 2) (dv 3) rfl))))),(dv 0)⟩) ⟨rfl,rfl⟩ rfl rfl rfl rfl)))
 zai))
theorem zpP (T:Txt K mg t):zcL P w K mg base (CXE P w) 8 t.zka t.zjV ["web","rooms","taking","side"] (spD K 4 zdv) :=
 zbX T.znv zpG fun cdv A outer s0 H H₀ E hr=>(
 (zab (zg9 (zap ((zi2 T).mono (by decide:7<=7)) hr rfl T.zjJ T.zgv.kp T.zcW zeW (zaa (dv 0) (zaa (dv 1) zaj)) rfl (fun ρ ds h=>(fun _ h=>zag (fun _ h=>zag (fun _ h=>zam h) h) h) ds h)))
 (zab (zg9 (zap ((zh5 T).mono (by decide:7<=7)) hr rfl T.zi4 T.zfY.kp T.zaY zeW (zaa (dv 0) (zaa (dv 2) zaj)) rfl (fun ρ ds h=>(fun _ h=>zag (fun _ h=>zag (fun _ h=>zam h) h) h) ds h)))
 (zab (zg9 (zap ((zjo T).mono (by decide:3<=7)) hr rfl T.zku T.zg3.kp T.za6 zeW (zaa (dv 0) (zaa (dv 3) zaj)) rfl (fun ρ ds h=>(fun _ h=>zag (fun _ h=>zag (fun _ h=>zam h) h) h) ds h)))
 (zab (zaF (zap ((zrt T).mono (by decide:4<=7)) hr rfl T.ztV T.zpj.kp T.zdY zeW (zaa (zkw (zqg ["number","rooms"] 1 [1] rfl (zhc (zap ((zkr T).mono (by decide:3<=7)) hr rfl T.zly T.zhZ.kp T.zdZ zf3 (zaa (dv 0) (zaa (dv 2) (zaa (dv 3) zaj))) rfl (fun ρ ds h=>(fun _ h=>zag (fun _ h=>zag (fun _ h=>zag (fun _ h=>zam h) h) h) h) ds h))) (zeC (by decide)) (fun s H C fp pn=>⟨fun He H0e=>(zcU (i:=0) (show List.Nodup (["number","rooms"]:List Str) from by decide) rfl (Or.inl rfl)),zhb,(zah (dv 1) (dv 0))⟩) ⟨rfl,rfl⟩ rfl rfl rfl rfl)) zaj) rfl (fun ρ ds h=>(fun _ h=>zag (fun _ h=>zam h) h) ds h)))
 zai)))))
theorem zjs (T:Txt K mg t):zcL P w K mg base CX0 1 t.zfb t.ze5 ["_law_web_here","_law_thing"] (spD K 2 zaW) :=
 zaz T.zg4 zcN fun cdv A outer s0 H H₀ E hr=>(
 (zab (zbD (DW.dt (zdz (zbx (zbm (zbh zdi rfl T.n_isinstance rfl T.n_list PyProof.Rows.Boot.«list» (dv 1)))) (zdz (zaI (zdo hr.units) zdp (zah (dv 0) zae) (dv 1) rfl) (zaN (zaI (zjm hr.units) zjt (zah (dv 0) zae) (dv 1) rfl)))))
 (zab (zaF zhd)
 zai)
 zai)
 (zab (zaC (i:=2) zcN.nd rfl (Or.inl rfl) zae)
 (zab (znb PassesOwn.never rfl (zah (dv 0) zae) (zcU (i:=3) zcN.nd rfl (Or.inl rfl)) zfe
 (zab (zbD (DW.dt (zkW (zaI zvF (zdH fun _ _ _ _=>rb _) (dv 2) (zaG za5 zcq rfl T.n_len PyProof.Rows.Boot.«len» (zaa (dv 1) zaj)) nm) (zea (zaI (zeE hr.units) zhI (zah (dv 1) (dv 2)) (dv 3) nm))))
 (zab (zaC (i:=2) zcN.nd rfl (Or.inl rfl) (zaR (dv 2) zae))
 zai)
 zai)
 zai))
 (zab (zaF (zeO (zeE hr.units) zhI (dv 2) (zaG za5 zcq rfl T.n_len PyProof.Rows.Boot.«len» (zaa (dv 1) zaj)) nm))
 zai)))))
theorem zhG (T:Txt K mg t):zcL P w K mg base CX0 1 t.zgo t.zgd ["_law_thing"] (spD K 1 zcI) :=
 zaz T.zgy zlh fun cdv A outer s0 H H₀ E hr=>(
 (zab (zaF (zfX (zbh zkN rfl T.n_isinstance rfl T.n_int PyProof.Rows.Boot.«int» (dv 0)) (zfr (zuA (zbh zjD rfl T.n_isinstance rfl T.n_bool PyProof.Rows.Boot.«bool» (dv 0))))))
 zai))
theorem zmM (T:Txt K mg t):zcL P w K mg base CX0 2 t.zhq t.zhh ["_law_found","_law_due"] (spD K 2 zfC) :=
 zaz T.zkd zmA fun cdv A outer s0 H H₀ E hr=>(
 (zab (zbD (DW.dt (zdz (zbx (zbm (zbh zeJ rfl T.n_isinstance rfl T.n_tuple PyProof.Rows.Boot.«tuple» (dv 0)))) (zaN (zaI (zeD hr.units) zhH (dv 0) (dv 1) nm))))
 (zab (zaF zhd)
 zai)
 zai)
 (zab (zaF (zfX (zap ((zhG T).mono (by decide:1<=1)) hr rfl T.ziP T.zgy.kp T.zeR zbo (zaa (zah (dv 0) zae) zaj) rfl (fun ρ ds h=>(fun _ h=>zag (fun _ h=>zam h) h) ds h)) (zfr (zap ((zhG T).mono (by decide:1<=1)) hr rfl T.ziP T.zgy.kp T.zeR zbo (zaa (zah (dv 0) zae) zaj) rfl (fun ρ ds h=>(fun _ h=>zag (fun _ h=>zam h) h) ds h)))))
 zai)))
theorem zh7 (T:Txt K mg t):zcL P w K mg base CX0 1 t.zdP t.zdL ["_law_tie_here","_law_side_here"] (spD K 2 zbd) :=
 zaz T.zf0 zh3 fun cdv A outer s0 H H₀ E hr=>(
 (zab (zbD (zaI (zeE hr.units) zhI (zah (dv 0) zae) zbS nm)
 (zab (zaF (zeO (zeD hr.units) zhH (zeO (zjm hr.units) zjt (zah (dv 0) zae) (dv 1) rfl) (zeO (zjm hr.units) zjt (zah (dv 0) zae) (dv 1) rfl) nm))
 zai)
 zai)
 (zab (zaF (zfX (zeO (zjm hr.units) zjt (zah (dv 0) zae) (dv 1) rfl) (zfr (zeO (zdo hr.units) zdp (zah (dv 0) zae) (dv 1) rfl))))
 zai)))
theorem zmO (T:Txt K mg t):zcL P w K mg base CX0 2 t.zhs t.zhj ["_law_one","_law_other","_law_sign"] (spD K 3 zej) :=
 zaz T.zkf zmB fun cdv A outer s0 H H₀ E hr=>(
 (zab (zaF (zap ((zjr T).mono (by decide:1<=1)) hr rfl T.zkT T.zix.kp T.zfu zbo (zaa (zaR (zeN (zah (dv 0) zae) (zah (dv 1) zae)) (zeN (zeN (dv 2) (zah (dv 1) zae)) (zah (dv 0) zae))) (zaa (zeN (zah (dv 0) zae) (zah (dv 1) zae)) zaj)) rfl (fun ρ ds h=>(fun _ h=>zag (fun _ h=>zag (fun _ h=>zam h) h) h) ds h)))
 zai))
theorem zmN (T:Txt K mg t):zcL P w K mg base CX0 3 t.zhr t.zhi ["_law_web_here","_law_rooms_here","_law_taken","_law_side_here"] (spD K 4 zei) :=
 zaz T.zke zds fun cdv A outer s0 H H₀ E hr=>(
 (zab (zaC (i:=4) zds.nd rfl (Or.inl rfl) (zeL (zaa zae (zaa zae zaj))))
 (zab (zjR PassesOwn.never rfl (zgb rfl T.n_enumerate (zah (dv 0) zae)) (zg0 rfl (za4 (i:=5) zds.nd rfl (Or.inl rfl) (za4 (i:=6) zds.nd rfl (Or.inl rfl) ze2))) zfd
 (zab (zbD (DW.dt (zkW (zaI (zdo hr.units) zdp (dv 5) (dv 2) rfl) (zea (zbm (zap ((zh7 T).mono (by decide:1<=2)) hr rfl T.zi6 T.zf0.kp T.zbw zbo (zaa (dv 6) (zaa (dv 3) zaj)) rfl (fun ρ ds h=>(fun _ h=>zag (fun _ h=>zag (fun _ h=>zam h) h) h) ds h))))))
 (zab (zaC (i:=4) zds.nd rfl (Or.inl rfl) (zap ((zmO T).mono (by decide:2<=2)) hr rfl T.zof T.zkf.kp T.zfL zbo (zaa (dv 4) (zaa (zah (dv 1) (dv 5)) (zaa zae zaj))) rfl (fun ρ ds h=>(fun _ h=>zag (fun _ h=>zag (fun _ h=>zag (fun _ h=>zam h) h) h) h) ds h)))
 zai)
 zai)
 zai))
 (zab (zaF (dv 4))
 zai))))
theorem ziF (T:Txt K mg t):zcL P w K mg base CX0 9 t.zho t.zhf ["_law_web_here","_law_rooms_here","_law_taking","_law_side_here"] (spD K 4 zbB) :=
 zaz T.zhw zcA fun cdv A outer s0 H H₀ E hr=>(
 (zab (zaC (i:=4) zcA.nd rfl (Or.inl rfl) zeM)
 (zab (zaC (i:=5) zcA.nd rfl (Or.inl rfl) zeM)
 (zab (zyb ⟨rfl,rfl⟩ (zwS (i:=5) zcA.nd rfl (Or.inl rfl) ((zpP T).mono (by decide:8<=8)) hr rfl T.zrR T.znv.kp T.zgm (zaa (dv 0) (zaa (dv 1) (zaa (dv 2) (zaa (dv 3) zaj)))) rfl (fun ρ ds h=>(fun _ h=>zag (fun _ h=>zag (fun _ h=>zag (fun _ h=>zag (fun _ h=>zam h) h) h) h) h) ds h)) rfl T.zkV (zjI T) zcA.nd rfl rfl (fun ea=>(zab (zaC (i:=4) zcA.nd rfl (Or.inl rfl) (dv 6))
 zai)))
 (zab (zbD (zbm (zap ((zjs T).mono (by decide:1<=8)) hr rfl T.zkv T.zg4.kp T.zbC zbo (zaa (dv 0) (zaa (dv 3) zaj)) rfl (fun ρ ds h=>(fun _ h=>zag (fun _ h=>zag (fun _ h=>zam h) h) h) ds h)))
 (zab (zaF (zfX (zeO zrq zrx (dv 4) zeM nm) (zfr (zap ((zmM T).mono (by decide:2<=8)) hr rfl T.zod T.zkd.kp T.zfJ zbo (zaa (dv 5) (zaa (zap ((zmN T).mono (by decide:3<=8)) hr rfl T.zoe T.zke.kp T.zfK zbo (zaa (dv 0) (zaa (dv 1) (zaa (dv 2) (zaa (dv 3) zaj)))) rfl (fun ρ ds h=>(fun _ h=>zag (fun _ h=>zag (fun _ h=>zag (fun _ h=>zag (fun _ h=>zam h) h) h) h) h) ds h)) zaj)) rfl (fun ρ ds h=>(fun _ h=>zag (fun _ h=>zag (fun _ h=>zam h) h) h) ds h)))))
 zai)
 zai)
 (zab (zbD (DW.dt (zdz (zbm (zjU rfl T.ztX (zsZ T) rfl T.n_isinstance (dv 4))) (zaN (zbm (zjU rfl T.zm8 (zsY T) rfl T.n_isinstance (dv 4))))))
 (zab (zaF zhd)
 zai)
 zai)
 (zab (zaF (zfX (zjU rfl T.zja (zsX T) rfl T.n_isinstance (dv 4)) (zfr (zr8 rfl T.n_ValueError PyProof.Rows.Boot.«ValueError» (zsW T) rfl T.n_isinstance (dv 4)))))
 zai)))))))
theorem zxM (T:Txt K mg t):zcL P w K mg base CX0 10 t.zoo t.zp7 ["_law_script"] (spD K 1 zrF) :=
 zaz T.zzG ziC fun cdv A outer s0 H H₀ E hr=>(
 (zab (zaC (i:=1) ziC.nd rfl (Or.inl rfl) (zap ((zjq T).mono (by decide:4<=9)) hr rfl T.zkS T.ziw.kp T.zft zbo (zaa (dv 0) zaj) rfl (fun ρ ds h=>(fun _ h=>zag (fun _ h=>zam h) h) ds h)))
 (zab (zaC (i:=2) ziC.nd rfl (Or.inl rfl) (zap ((zlo T).mono (by decide:3<=9)) hr rfl T.zm6 T.ziT.kp T.zeS zbo (zaa (dv 0) zaj) rfl (fun ρ ds h=>(fun _ h=>zag (fun _ h=>zam h) h) ds h)))
 (zab (zaC (i:=3) ziC.nd rfl (Or.inl rfl) (zeL (zaa (zap ((zjq T).mono (by decide:4<=9)) hr rfl T.zkS T.ziw.kp T.zft zbo (zaa (dv 0) zaj) rfl (fun ρ ds h=>(fun _ h=>zag (fun _ h=>zam h) h) ds h)) (zaa (zlG ziR zsn rfl T.n_list PyProof.Rows.Boot.«list» (zaa (dv 2) zaj)) zaj))))
 (zab (znb PassesOwn.never rfl (zaR (zah (zap ((zfB T).mono (by decide:2<=9)) hr rfl T.zf8 T.zeV.kp T.zcJ zbo (zaa (dv 0) zaj) rfl (fun ρ ds h=>(fun _ h=>zag (fun _ h=>zam h) h) ds h)) zae) (zby (zaa zae zaj))) (zcU (i:=4) ziC.nd rfl (Or.inl rfl)) zfe
 (zab (zaC (i:=5) ziC.nd rfl (Or.inl rfl) (zap ((zcS T).mono (by decide:1<=9)) hr rfl T.zdx T.zcK.kp T.zbN zbo (zaa (dv 4) (zaa (zby (zaa zae (zaa zae (zaa zae (zaa zae (zaa zae (zaa zae zaj))))))) zaj)) rfl (fun ρ ds h=>(fun _ h=>zag (fun _ h=>zag (fun _ h=>zam h) h) h) ds h)))
 (zab (zaC (i:=6) ziC.nd rfl (Or.inl rfl) (zap ((ziH T).mono (by decide:1<=9)) hr rfl T.zjO T.zhy.kp T.zew zbo (zaa (dv 1) (zaa (zah (dv 5) zae) zaj)) rfl (fun ρ ds h=>(fun _ h=>zag (fun _ h=>zag (fun _ h=>zam h) h) h) ds h)))
 (zab (zaC (i:=7) ziC.nd rfl (Or.inl rfl) (zap ((ziG T).mono (by decide:1<=9)) hr rfl T.zjN T.zhx.kp T.zev zbo (zaa (dv 1) (zaa (dv 5) zaj)) rfl (fun ρ ds h=>(fun _ h=>zag (fun _ h=>zag (fun _ h=>zam h) h) h) ds h)))
 (zab (zbD (zbx (zbm (zap ((ziF T).mono (by decide:9<=9)) hr rfl T.zjM T.zhw.kp T.zdn zbo (zaa (zah (dv 3) zae) (zaa (zah (dv 3) zae) (zaa (dv 6) (zaa (dv 7) zaj)))) rfl (fun ρ ds h=>(fun _ h=>zag (fun _ h=>zag (fun _ h=>zag (fun _ h=>zag (fun _ h=>zam h) h) h) h) h) ds h))))
 (zab (zaF zhd)
 zai)
 zai)
 (zab (zbD (DW.dt (zdz (zaI (zxI hr.units) zxN (dv 7) (zap ((ziG T).mono (by decide:1<=9)) hr rfl T.zjN T.zhx.kp T.zev zbo (zaa (dv 1) (zaa (dv 5) zaj)) rfl (fun ρ ds h=>(fun _ h=>zag (fun _ h=>zag (fun _ h=>zam h) h) h) ds h)) nm) (zdz (zaI (zeD hr.units) zhH (dv 6) (zap ((ziH T).mono (by decide:1<=9)) hr rfl T.zjO T.zhy.kp T.zew zbo (zaa (dv 1) (zaa (zah (dv 5) zae) zaj)) rfl (fun ρ ds h=>(fun _ h=>zag (fun _ h=>zag (fun _ h=>zam h) h) h) ds h)) nm) (zaN (zaI (zeD hr.units) zhH (dv 3) (zeL (zaa (dv 1) (zaa (dv 2) zaj))) nm)))))
 (zab (zaF zhd)
 zai)
 zai)
 (zab (zbD (zbx (zbm (zap ((ziF T).mono (by decide:9<=9)) hr rfl T.zjM T.zhw.kp T.zdn zbo (zaa (zah (dv 3) zae) (zaa (zah (dv 3) zae) (zaa (zby zaj) (zaa (zby (zaa (zah (dv 1) zae) zaj)) zaj)))) rfl (fun ρ ds h=>(fun _ h=>zag (fun _ h=>zag (fun _ h=>zag (fun _ h=>zag (fun _ h=>zam h) h) h) h) h) ds h))))
 (zab (zaF zhd)
 zai)
 zai)
 zai)))))))
 (zab (zaF zhd)
 zai))))))
end
theorem txt_mk {K:W.Frag}{h:Heap}{mg:Str->Option Value}(X:K.In h)(G:h.Ns mainGlobals mg){zdq:Addr}{zaA:Addr}{zba:Addr}{zar:Addr}{zao:Addr}{zat:Addr}{zaq:Addr}{zaD:Addr}{a_0:Addr}{a_1:Addr}{a_2:Addr}{a_3:Addr}{a_4:Addr}{a_5:Addr}{a_6:Addr}{a_7:Addr}{a_8:Addr}{a_9:Addr}{a_10:Addr}{a_11:Addr}{a_12:Addr}{a_13:Addr}{a_14:Addr}{a_15:Addr}{a_16:Addr}{a_17:Addr}{a_18:Addr}{a_19:Addr}{a_20:Addr}{a_21:Addr}{a_22:Addr}{a_23:Addr}{a_24:Addr}{a_25:Addr}{a_26:Addr}{a_27:Addr}{a_28:Addr}{a_29:Addr}{a_30:Addr}{a_31:Addr}{a_32:Addr}{a_33:Addr}{a_34:Addr}{a_35:Addr}{a_36:Addr}{a_37:Addr}{a_38:Addr}{a_39:Addr}{a_40:Addr}
  {oc_0 kV_0 dc_0 pm_0 cd_0 ct_0:Value}{od_0 an_0:Option Addr}{sl_0:Array (Option Value)}
  (e1_0:W.nsIn K mainGlobals "_law_draws"=some (some (.ref a_0))) (e2_0:K.lookup a_0=some ⟨oc_0,od_0,.func (W.fnOf "_law_draws" "_law_draws" (defArgs zcF) (defBody zcF) (defScope zcF) .none kV_0 dc_0 pm_0 an_0 cd_0 ct_0),sl_0⟩) (e3_0:W.codeIn K cd_0 "_law_draws"=true) (e4_0:W.keepIn K (.ref a_0)=true)
  {oc_1 kV_1 dc_1 pm_1 cd_1 ct_1:Value}{od_1 an_1:Option Addr}{sl_1:Array (Option Value)}
  (e1_1:W.nsIn K mainGlobals "_law_names"=some (some (.ref a_1))) (e2_1:K.lookup a_1=some ⟨oc_1,od_1,.func (W.fnOf "_law_names" "_law_names" (defArgs zcE) (defBody zcE) (defScope zcE) .none kV_1 dc_1 pm_1 an_1 cd_1 ct_1),sl_1⟩) (e3_1:W.codeIn K cd_1 "_law_names"=true) (e4_1:W.keepIn K (.ref a_1)=true)
  {oc_2 kV_2 dc_2 pm_2 cd_2 ct_2:Value}{od_2 an_2:Option Addr}{sl_2:Array (Option Value)}
  (e1_2:W.nsIn K mainGlobals "_law_cells"=some (some (.ref a_2))) (e2_2:K.lookup a_2=some ⟨oc_2,od_2,.func (W.fnOf "_law_cells" "_law_cells" (defArgs zcG) (defBody zcG) (defScope zcG) .none kV_2 dc_2 pm_2 an_2 cd_2 ct_2),sl_2⟩) (e3_2:W.codeIn K cd_2 "_law_cells"=true) (e4_2:W.keepIn K (.ref a_2)=true)
  {oc_3 kV_3 dc_3 pm_3 cd_3 ct_3:Value}{od_3 an_3:Option Addr}{sl_3:Array (Option Value)}
  (e1_3:W.nsIn K mainGlobals "_law_low"=some (some (.ref a_3))) (e2_3:K.lookup a_3=some ⟨oc_3,od_3,.func (W.fnOf "_law_low" "_law_low" (defArgs zd8) (defBody zd8) (defScope zd8) .none kV_3 dc_3 pm_3 an_3 cd_3 ct_3),sl_3⟩) (e3_3:W.codeIn K cd_3 "_law_low"=true) (e4_3:W.keepIn K (.ref a_3)=true)
  {oc_4 kV_4 dc_4 pm_4 cd_4 ct_4:Value}{od_4 an_4:Option Addr}{sl_4:Array (Option Value)}
  (e1_4:W.nsIn K mainGlobals "_law_fraction"=some (some (.ref a_4))) (e2_4:K.lookup a_4=some ⟨oc_4,od_4,.func (W.fnOf "_law_fraction" "_law_fraction" (defArgs zbH) (defBody zbH) (defScope zbH) .none kV_4 dc_4 pm_4 an_4 cd_4 ct_4),sl_4⟩) (e3_4:W.codeIn K cd_4 "_law_fraction"=true) (e4_4:W.keepIn K (.ref a_4)=true)
  {oc_5 kV_5 dc_5 pm_5 cd_5 ct_5:Value}{od_5 an_5:Option Addr}{sl_5:Array (Option Value)}
  (e1_5:W.nsIn K mainGlobals "_law_tie"=some (some (.ref a_5))) (e2_5:K.lookup a_5=some ⟨oc_5,od_5,.func (W.fnOf "_law_tie" "_law_tie" (defArgs zd7) (defBody zd7) (defScope zd7) .none kV_5 dc_5 pm_5 an_5 cd_5 ct_5),sl_5⟩) (e3_5:W.codeIn K cd_5 "_law_tie"=true) (e4_5:W.keepIn K (.ref a_5)=true)
  {oc_6 kV_6 dc_6 pm_6 cd_6 ct_6:Value}{od_6 an_6:Option Addr}{sl_6:Array (Option Value)}
  (e1_6:W.nsIn K mainGlobals "_law_web"=some (some (.ref a_6))) (e2_6:K.lookup a_6=some ⟨oc_6,od_6,.func (W.fnOf "_law_web" "_law_web" (defArgs zd6) (defBody zd6) (defScope zd6) .none kV_6 dc_6 pm_6 an_6 cd_6 ct_6),sl_6⟩) (e3_6:W.codeIn K cd_6 "_law_web"=true) (e4_6:W.keepIn K (.ref a_6)=true)
  {oc_7 kV_7 dc_7 pm_7 cd_7 ct_7:Value}{od_7 an_7:Option Addr}{sl_7:Array (Option Value)}
  (e1_7:W.nsIn K mainGlobals "_law_rooms"=some (some (.ref a_7))) (e2_7:K.lookup a_7=some ⟨oc_7,od_7,.func (W.fnOf "_law_rooms" "_law_rooms" (defArgs zcD) (defBody zcD) (defScope zcD) .none kV_7 dc_7 pm_7 an_7 cd_7 ct_7),sl_7⟩) (e3_7:W.codeIn K cd_7 "_law_rooms"=true) (e4_7:W.keepIn K (.ref a_7)=true)
  {oc_8 kV_8 dc_8 pm_8 cd_8 ct_8:Value}{od_8 an_8:Option Addr}{sl_8:Array (Option Value)}
  (e1_8:W.nsIn K mainGlobals "_law_bits"=some (some (.ref a_8))) (e2_8:K.lookup a_8=some ⟨oc_8,od_8,.func (W.fnOf "_law_bits" "_law_bits" (defArgs zc7) (defBody zc7) (defScope zc7) .none kV_8 dc_8 pm_8 an_8 cd_8 ct_8),sl_8⟩) (e3_8:W.codeIn K cd_8 "_law_bits"=true) (e4_8:W.keepIn K (.ref a_8)=true)
  {oc_9 kV_9 dc_9 pm_9 cd_9 ct_9:Value}{od_9 an_9:Option Addr}{sl_9:Array (Option Value)}
  (e1_9:W.nsIn K mainGlobals "_law_side"=some (some (.ref a_9))) (e2_9:K.lookup a_9=some ⟨oc_9,od_9,.func (W.fnOf "_law_side" "_law_side" (defArgs zc3) (defBody zc3) (defScope zc3) .none kV_9 dc_9 pm_9 an_9 cd_9 ct_9),sl_9⟩) (e3_9:W.codeIn K cd_9 "_law_side"=true) (e4_9:W.keepIn K (.ref a_9)=true)
  {oc_10 kV_10 dc_10 pm_10 cd_10 ct_10:Value}{od_10 an_10:Option Addr}{sl_10:Array (Option Value)}
  (e1_10:W.nsIn K mainGlobals "is_name"=some (some (.ref a_10))) (e2_10:K.lookup a_10=some ⟨oc_10,od_10,.func (W.fnOf "is_name" "is_name" (defArgs zfj) (defBody zfj) (defScope zfj) .none kV_10 dc_10 pm_10 an_10 cd_10 ct_10),sl_10⟩) (e3_10:W.codeIn K cd_10 "is_name"=true) (e4_10:W.keepIn K (.ref a_10)=true)
  {oc_11 kV_11 dc_11 pm_11 cd_11 ct_11:Value}{od_11 an_11:Option Addr}{sl_11:Array (Option Value)}
  (e1_11:W.nsIn K mainGlobals "look_at_places"=some (some (.ref a_11))) (e2_11:K.lookup a_11=some ⟨oc_11,od_11,.func (W.fnOf "look_at_places" "look_at_places" (defArgs zbt) (defBody zbt) (defScope zbt) .none kV_11 dc_11 pm_11 an_11 cd_11 ct_11),sl_11⟩) (e3_11:W.codeIn K cd_11 "look_at_places"=true) (e4_11:W.keepIn K (.ref a_11)=true)
  {oc_12 kV_12 dc_12 pm_12 cd_12 ct_12:Value}{od_12 an_12:Option Addr}{sl_12:Array (Option Value)}
  (e1_12:W.nsIn K mainGlobals "is_whole"=some (some (.ref a_12))) (e2_12:K.lookup a_12=some ⟨oc_12,od_12,.func (W.fnOf "is_whole" "is_whole" (defArgs zd3) (defBody zd3) (defScope zd3) .none kV_12 dc_12 pm_12 an_12 cd_12 ct_12),sl_12⟩) (e3_12:W.codeIn K cd_12 "is_whole"=true) (e4_12:W.keepIn K (.ref a_12)=true)
  {oc_13 kV_13 dc_13 pm_13 cd_13 ct_13:Value}{od_13 an_13:Option Addr}{sl_13:Array (Option Value)}
  (e1_13:W.nsIn K mainGlobals "common_divisor"=some (some (.ref a_13))) (e2_13:K.lookup a_13=some ⟨oc_13,od_13,.func (W.fnOf "common_divisor" "common_divisor" (defArgs zbu) (defBody zbu) (defScope zbu) .none kV_13 dc_13 pm_13 an_13 cd_13 ct_13),sl_13⟩) (e3_13:W.codeIn K cd_13 "common_divisor"=true) (e4_13:W.keepIn K (.ref a_13)=true)
  {oc_14 kV_14 dc_14 pm_14 cd_14 ct_14:Value}{od_14 an_14:Option Addr}{sl_14:Array (Option Value)}
  (e1_14:W.nsIn K mainGlobals "is_ratio"=some (some (.ref a_14))) (e2_14:K.lookup a_14=some ⟨oc_14,od_14,.func (W.fnOf "is_ratio" "is_ratio" (defArgs zd4) (defBody zd4) (defScope zd4) .none kV_14 dc_14 pm_14 an_14 cd_14 ct_14),sl_14⟩) (e3_14:W.codeIn K cd_14 "is_ratio"=true) (e4_14:W.keepIn K (.ref a_14)=true)
  {oc_15 kV_15 dc_15 pm_15 cd_15 ct_15:Value}{od_15 an_15:Option Addr}{sl_15:Array (Option Value)}
  (e1_15:W.nsIn K mainGlobals "is_length"=some (some (.ref a_15))) (e2_15:K.lookup a_15=some ⟨oc_15,od_15,.func (W.fnOf "is_length" "is_length" (defArgs zc1) (defBody zc1) (defScope zc1) .none kV_15 dc_15 pm_15 an_15 cd_15 ct_15),sl_15⟩) (e3_15:W.codeIn K cd_15 "is_length"=true) (e4_15:W.keepIn K (.ref a_15)=true)
  {oc_16 kV_16 dc_16 pm_16 cd_16 ct_16:Value}{od_16 an_16:Option Addr}{sl_16:Array (Option Value)}
  (e1_16:W.nsIn K mainGlobals "is_worth"=some (some (.ref a_16))) (e2_16:K.lookup a_16=some ⟨oc_16,od_16,.func (W.fnOf "is_worth" "is_worth" (defArgs zd2) (defBody zd2) (defScope zd2) .none kV_16 dc_16 pm_16 an_16 cd_16 ct_16),sl_16⟩) (e3_16:W.codeIn K cd_16 "is_worth"=true) (e4_16:W.keepIn K (.ref a_16)=true)
  {oc_17 kV_17 dc_17 pm_17 cd_17 ct_17:Value}{od_17 an_17:Option Addr}{sl_17:Array (Option Value)}
  (e1_17:W.nsIn K mainGlobals "is_tie"=some (some (.ref a_17))) (e2_17:K.lookup a_17=some ⟨oc_17,od_17,.func (W.fnOf "is_tie" "is_tie" (defArgs zgD) (defBody zgD) (defScope zgD) .none kV_17 dc_17 pm_17 an_17 cd_17 ct_17),sl_17⟩) (e3_17:W.codeIn K cd_17 "is_tie"=true) (e4_17:W.keepIn K (.ref a_17)=true)
  {oc_18 kV_18 dc_18 pm_18 cd_18 ct_18:Value}{od_18 an_18:Option Addr}{sl_18:Array (Option Value)}
  (e1_18:W.nsIn K mainGlobals "look_at_ties"=some (some (.ref a_18))) (e2_18:K.lookup a_18=some ⟨oc_18,od_18,.func (W.fnOf "look_at_ties" "look_at_ties" (defArgs zbU) (defBody zbU) (defScope zbU) .none kV_18 dc_18 pm_18 an_18 cd_18 ct_18),sl_18⟩) (e3_18:W.codeIn K cd_18 "look_at_ties"=true) (e4_18:W.keepIn K (.ref a_18)=true)
  {oc_19 kV_19 dc_19 pm_19 cd_19 ct_19:Value}{od_19 an_19:Option Addr}{sl_19:Array (Option Value)}
  (e1_19:W.nsIn K mainGlobals "is_place"=some (some (.ref a_19))) (e2_19:K.lookup a_19=some ⟨oc_19,od_19,.func (W.fnOf "is_place" "is_place" (defArgs zd5) (defBody zd5) (defScope zd5) .none kV_19 dc_19 pm_19 an_19 cd_19 ct_19),sl_19⟩) (e3_19:W.codeIn K cd_19 "is_place"=true) (e4_19:W.keepIn K (.ref a_19)=true)
  {oc_20 kV_20 dc_20 pm_20 cd_20 ct_20:Value}{od_20 an_20:Option Addr}{sl_20:Array (Option Value)}
  (e1_20:W.nsIn K mainGlobals "look_at_web"=some (some (.ref a_20))) (e2_20:K.lookup a_20=some ⟨oc_20,od_20,.func (W.fnOf "look_at_web" "look_at_web" (defArgs zcd) (defBody zcd) (defScope zcd) .none kV_20 dc_20 pm_20 an_20 cd_20 ct_20),sl_20⟩) (e3_20:W.codeIn K cd_20 "look_at_web"=true) (e4_20:W.keepIn K (.ref a_20)=true)
  {oc_21 kV_21 dc_21 pm_21 cd_21 ct_21:Value}{od_21 an_21:Option Addr}{sl_21:Array (Option Value)}
  (e1_21:W.nsIn K mainGlobals "has_lengths"=some (some (.ref a_21))) (e2_21:K.lookup a_21=some ⟨oc_21,od_21,.func (W.fnOf "has_lengths" "has_lengths" (defArgs zce) (defBody zce) (defScope zce) .none kV_21 dc_21 pm_21 an_21 cd_21 ct_21),sl_21⟩) (e3_21:W.codeIn K cd_21 "has_lengths"=true) (e4_21:W.keepIn K (.ref a_21)=true)
  {oc_22 kV_22 dc_22 pm_22 cd_22 ct_22:Value}{od_22 an_22:Option Addr}{sl_22:Array (Option Value)}
  (e1_22:W.nsIn K mainGlobals "look_at_rooms"=some (some (.ref a_22))) (e2_22:K.lookup a_22=some ⟨oc_22,od_22,.func (W.fnOf "look_at_rooms" "look_at_rooms" (defArgs zbF) (defBody zbF) (defScope zbF) .none kV_22 dc_22 pm_22 an_22 cd_22 ct_22),sl_22⟩) (e3_22:W.codeIn K cd_22 "look_at_rooms"=true) (e4_22:W.keepIn K (.ref a_22)=true)
  {oc_23 kV_23 dc_23 pm_23 cd_23 ct_23:Value}{od_23 an_23:Option Addr}{sl_23:Array (Option Value)}
  (e1_23:W.nsIn K mainGlobals "is_tie_number"=some (some (.ref a_23))) (e2_23:K.lookup a_23=some ⟨oc_23,od_23,.func (W.fnOf "is_tie_number" "is_tie_number" (defArgs zbG) (defBody zbG) (defScope zbG) .none kV_23 dc_23 pm_23 an_23 cd_23 ct_23),sl_23⟩) (e3_23:W.codeIn K cd_23 "is_tie_number"=true) (e4_23:W.keepIn K (.ref a_23)=true)
  {oc_24 kV_24 dc_24 pm_24 cd_24 ct_24:Value}{od_24 an_24:Option Addr}{sl_24:Array (Option Value)}
  (e1_24:W.nsIn K mainGlobals "look_at_taking"=some (some (.ref a_24))) (e2_24:K.lookup a_24=some ⟨oc_24,od_24,.func (W.fnOf "look_at_taking" "look_at_taking" (defArgs zbs) (defBody zbs) (defScope zbs) .none kV_24 dc_24 pm_24 an_24 cd_24 ct_24),sl_24⟩) (e3_24:W.codeIn K cd_24 "look_at_taking"=true) (e4_24:W.keepIn K (.ref a_24)=true)
  {oc_25 kV_25 dc_25 pm_25 cd_25 ct_25:Value}{od_25 an_25:Option Addr}{sl_25:Array (Option Value)}
  (e1_25:W.nsIn K mainGlobals "look_at_side"=some (some (.ref a_25))) (e2_25:K.lookup a_25=some ⟨oc_25,od_25,.func (W.fnOf "look_at_side" "look_at_side" (defArgs zbV) (defBody zbV) (defScope zbV) .none kV_25 dc_25 pm_25 an_25 cd_25 ct_25),sl_25⟩) (e3_25:W.codeIn K cd_25 "look_at_side"=true) (e4_25:W.keepIn K (.ref a_25)=true)
  {oc_26 kV_26 dc_26 pm_26 cd_26 ct_26:Value}{od_26 an_26:Option Addr}{sl_26:Array (Option Value)}
  (e1_26:W.nsIn K mainGlobals "ratio"=some (some (.ref a_26))) (e2_26:K.lookup a_26=some ⟨oc_26,od_26,.func (W.fnOf "ratio" "ratio" (defArgs zh4) (defBody zh4) (defScope zh4) .none kV_26 dc_26 pm_26 an_26 cd_26 ct_26),sl_26⟩) (e3_26:W.codeIn K cd_26 "ratio"=true) (e4_26:W.keepIn K (.ref a_26)=true)
  {oc_27 kV_27 dc_27 pm_27 cd_27 ct_27:Value}{od_27 an_27:Option Addr}{sl_27:Array (Option Value)}
  (e1_27:W.nsIn K mainGlobals "plus"=some (some (.ref a_27))) (e2_27:K.lookup a_27=some ⟨oc_27,od_27,.func (W.fnOf "plus" "plus" (defArgs zkC) (defBody zkC) (defScope zkC) .none kV_27 dc_27 pm_27 an_27 cd_27 ct_27),sl_27⟩) (e3_27:W.codeIn K cd_27 "plus"=true) (e4_27:W.keepIn K (.ref a_27)=true)
  {oc_28 kV_28 dc_28 pm_28 cd_28 ct_28:Value}{od_28 an_28:Option Addr}{sl_28:Array (Option Value)}
  (e1_28:W.nsIn K mainGlobals "sum_of"=some (some (.ref a_28))) (e2_28:K.lookup a_28=some ⟨oc_28,od_28,.func (W.fnOf "sum_of" "sum_of" (defArgs zgC) (defBody zgC) (defScope zgC) .none kV_28 dc_28 pm_28 an_28 cd_28 ct_28),sl_28⟩) (e3_28:W.codeIn K cd_28 "sum_of"=true) (e4_28:W.keepIn K (.ref a_28)=true)
  {oc_29 kV_29 dc_29 pm_29 cd_29 ct_29:Value}{od_29 an_29:Option Addr}{sl_29:Array (Option Value)}
  (e1_29:W.nsIn K mainGlobals "steps_along"=some (some (.ref a_29))) (e2_29:K.lookup a_29=some ⟨oc_29,od_29,.func (W.fnOf "steps_along" "steps_along" (defArgs zcb) (defBody zcb) (defScope zcb) .none kV_29 dc_29 pm_29 an_29 cd_29 ct_29),sl_29⟩) (e3_29:W.codeIn K cd_29 "steps_along"=true) (e4_29:W.keepIn K (.ref a_29)=true)
  {oc_30 kV_30 dc_30 pm_30 cd_30 ct_30:Value}{od_30 an_30:Option Addr}{sl_30:Array (Option Value)}
  (e1_30:W.nsIn K mainGlobals "steps_left"=some (some (.ref a_30))) (e2_30:K.lookup a_30=some ⟨oc_30,od_30,.func (W.fnOf "steps_left" "steps_left" (defArgs zcB) (defBody zcB) (defScope zcB) .none kV_30 dc_30 pm_30 an_30 cd_30 ct_30),sl_30⟩) (e3_30:W.codeIn K cd_30 "steps_left"=true) (e4_30:W.keepIn K (.ref a_30)=true)
  {oc_31 kV_31 dc_31 pm_31 cd_31 ct_31:Value}{od_31 an_31:Option Addr}{sl_31:Array (Option Value)}
  (e1_31:W.nsIn K mainGlobals "numbers_out"=some (some (.ref a_31))) (e2_31:K.lookup a_31=some ⟨oc_31,od_31,.func (W.fnOf "numbers_out" "numbers_out" (defArgs zcc) (defBody zcc) (defScope zcc) .none kV_31 dc_31 pm_31 an_31 cd_31 ct_31),sl_31⟩) (e3_31:W.codeIn K cd_31 "numbers_out"=true) (e4_31:W.keepIn K (.ref a_31)=true)
  {oc_32 kV_32 dc_32 pm_32 cd_32 ct_32:Value}{od_32 an_32:Option Addr}{sl_32:Array (Option Value)}
  (e1_32:W.nsIn K mainGlobals "room_of"=some (some (.ref a_32))) (e2_32:K.lookup a_32=some ⟨oc_32,od_32,.func (W.fnOf "room_of" "room_of" (defArgs zfi) (defBody zfi) (defScope zfi) .none kV_32 dc_32 pm_32 an_32 cd_32 ct_32),sl_32⟩) (e3_32:W.codeIn K cd_32 "room_of"=true) (e4_32:W.keepIn K (.ref a_32)=true)
  {oc_33 kV_33 dc_33 pm_33 cd_33 ct_33:Value}{od_33 an_33:Option Addr}{sl_33:Array (Option Value)}
  (e1_33:W.nsIn K mainGlobals "_law_is_side"=some (some (.ref a_33))) (e2_33:K.lookup a_33=some ⟨oc_33,od_33,.func (W.fnOf "_law_is_side" "_law_is_side" (defArgs zbW) (defBody zbW) (defScope zbW) .none kV_33 dc_33 pm_33 an_33 cd_33 ct_33),sl_33⟩) (e3_33:W.codeIn K cd_33 "_law_is_side"=true) (e4_33:W.keepIn K (.ref a_33)=true)
  {oc_34 kV_34 dc_34 pm_34 cd_34 ct_34:Value}{od_34 an_34:Option Addr}{sl_34:Array (Option Value)}
  (e1_34:W.nsIn K mainGlobals "_law_whole"=some (some (.ref a_34))) (e2_34:K.lookup a_34=some ⟨oc_34,od_34,.func (W.fnOf "_law_whole" "_law_whole" (defArgs zcC) (defBody zcC) (defScope zcC) .none kV_34 dc_34 pm_34 an_34 cd_34 ct_34),sl_34⟩) (e3_34:W.codeIn K cd_34 "_law_whole"=true) (e4_34:W.keepIn K (.ref a_34)=true)
  {oc_35 kV_35 dc_35 pm_35 cd_35 ct_35:Value}{od_35 an_35:Option Addr}{sl_35:Array (Option Value)}
  (e1_35:W.nsIn K mainGlobals "_law_same"=some (some (.ref a_35))) (e2_35:K.lookup a_35=some ⟨oc_35,od_35,.func (W.fnOf "_law_same" "_law_same" (defArgs zc4) (defBody zc4) (defScope zc4) .none kV_35 dc_35 pm_35 an_35 cd_35 ct_35),sl_35⟩) (e3_35:W.codeIn K cd_35 "_law_same"=true) (e4_35:W.keepIn K (.ref a_35)=true)
  {oc_36 kV_36 dc_36 pm_36 cd_36 ct_36:Value}{od_36 an_36:Option Addr}{sl_36:Array (Option Value)}
  (e1_36:W.nsIn K mainGlobals "_law_leads_out"=some (some (.ref a_36))) (e2_36:K.lookup a_36=some ⟨oc_36,od_36,.func (W.fnOf "_law_leads_out" "_law_leads_out" (defArgs zbv) (defBody zbv) (defScope zbv) .none kV_36 dc_36 pm_36 an_36 cd_36 ct_36),sl_36⟩) (e3_36:W.codeIn K cd_36 "_law_leads_out"=true) (e4_36:W.keepIn K (.ref a_36)=true)
  {oc_37 kV_37 dc_37 pm_37 cd_37 ct_37:Value}{od_37 an_37:Option Addr}{sl_37:Array (Option Value)}
  (e1_37:W.nsIn K mainGlobals "_law_plus"=some (some (.ref a_37))) (e2_37:K.lookup a_37=some ⟨oc_37,od_37,.func (W.fnOf "_law_plus" "_law_plus" (defArgs zc6) (defBody zc6) (defScope zc6) .none kV_37 dc_37 pm_37 an_37 cd_37 ct_37),sl_37⟩) (e3_37:W.codeIn K cd_37 "_law_plus"=true) (e4_37:W.keepIn K (.ref a_37)=true)
  {oc_38 kV_38 dc_38 pm_38 cd_38 ct_38:Value}{od_38 an_38:Option Addr}{sl_38:Array (Option Value)}
  (e1_38:W.nsIn K mainGlobals "_law_room"=some (some (.ref a_38))) (e2_38:K.lookup a_38=some ⟨oc_38,od_38,.func (W.fnOf "_law_room" "_law_room" (defArgs zc5) (defBody zc5) (defScope zc5) .none kV_38 dc_38 pm_38 an_38 cd_38 ct_38),sl_38⟩) (e3_38:W.codeIn K cd_38 "_law_room"=true) (e4_38:W.keepIn K (.ref a_38)=true)
  {oc_39 kV_39 dc_39 pm_39 cd_39 ct_39:Value}{od_39 an_39:Option Addr}{sl_39:Array (Option Value)}
  (e1_39:W.nsIn K mainGlobals "_law_told"=some (some (.ref a_39))) (e2_39:K.lookup a_39=some ⟨oc_39,od_39,.func (W.fnOf "_law_told" "_law_told" (defArgs zc2) (defBody zc2) (defScope zc2) .none kV_39 dc_39 pm_39 an_39 cd_39 ct_39),sl_39⟩) (e3_39:W.codeIn K cd_39 "_law_told"=true) (e4_39:W.keepIn K (.ref a_39)=true)
  {oc_40 kV_40 dc_40 pm_40 cd_40 ct_40:Value}{od_40 an_40:Option Addr}{sl_40:Array (Option Value)}
  (e1_40:W.nsIn K mainGlobals "law"=some (some (.ref a_40))) (e2_40:K.lookup a_40=some ⟨oc_40,od_40,.func (W.fnOf "law" "law" (defArgs zi0) (defBody zi0) (defScope zi0) .none kV_40 dc_40 pm_40 an_40 cd_40 ct_40),sl_40⟩) (e3_40:W.codeIn K cd_40 "law"=true) (e4_40:W.keepIn K (.ref a_40)=true)
  (z_ValueError:W.nsIn K mainGlobals "ValueError"=some none)
  (z_abs:W.nsIn K mainGlobals "abs"=some none)
  (z_all:W.nsIn K mainGlobals "all"=some none)
  (z_bool:W.nsIn K mainGlobals "bool"=some none)
  (z_enumerate:W.nsIn K mainGlobals "enumerate"=some none)
  (z_int:W.nsIn K mainGlobals "int"=some none)
  (z_isinstance:W.nsIn K mainGlobals "isinstance"=some none)
  (z_len:W.nsIn K mainGlobals "len"=some none)
  (z_list:W.nsIn K mainGlobals "list"=some none)
  (z_min:W.nsIn K mainGlobals "min"=some none)
  (z_range:W.nsIn K mainGlobals "range"=some none)
  (z_str:W.nsIn K mainGlobals "str"=some none)
  (z_tuple:W.nsIn K mainGlobals "tuple"=some none)
  (ziM:W.nsIn K mainGlobals "CutError"=some (some (.ref zaA))) (zmW:W.typeIn K (.ref zaA)=some (.type "type")) (zmY:W.mroIn K zaA (.type "object")=some true) (zm0:W.subIn K (.ref zaA) (.type "BaseException")=some true)
  (zkL:W.nsIn K mainGlobals "NoFlow"=some (some (.ref zba))) (zpV:W.typeIn K (.ref zba)=some (.type "type")) (zpW:W.mroIn K zba (.type "object")=some true) (zpX:W.subIn K (.ref zba) (.type "BaseException")=some true)
  (zf5:W.nsIn K mainGlobals "NoNumber"=some (some (.ref zar))) (ziJ:W.typeIn K (.ref zar)=some (.type "type")) (ziL:W.mroIn K zar (.type "object")=some true) (ziO:W.subIn K (.ref zar) (.type "BaseException")=some true)
  (zg7:W.nsIn K mainGlobals "NoRooms"=some (some (.ref zao))) (zjz:W.typeIn K (.ref zao)=some (.type "type")) (zjA:W.mroIn K zao (.type "object")=some true) (zjG:W.subIn K (.ref zao) (.type "BaseException")=some true)
  (zh9:W.nsIn K mainGlobals "NoSide"=some (some (.ref zat))) (zkJ:W.typeIn K (.ref zat)=some (.type "type")) (zkK:W.mroIn K zat (.type "object")=some true) (zkO:W.subIn K (.ref zat) (.type "BaseException")=some true)
  (zf4:W.nsIn K mainGlobals "NoTaking"=some (some (.ref zaq))) (ziI:W.typeIn K (.ref zaq)=some (.type "type")) (ziK:W.mroIn K zaq (.type "object")=some true) (ziN:W.subIn K (.ref zaq) (.type "BaseException")=some true)
  (zjB:W.nsIn K mainGlobals "NoWeb"=some (some (.ref zaD))) (zmV:W.typeIn K (.ref zaD)=some (.type "type")) (zmX:W.mroIn K zaD (.type "object")=some true) (zmZ:W.subIn K (.ref zaD) (.type "BaseException")=some true)
  (zk8:W.findIn K (.ref zar) "__class__"=some (some (.builtin "object.__class__"))) (zmn:W.findIn K (.ref zar) "__getattribute__"=some (some (.builtin "BaseException.__getattribute__"))) (zml:W.findIn K (.ref zar) "__getattr__"=some none) (zmg:W.subIn K (.ref zar) (.type "NoneType")=some false) (zme:W.subIn K (.ref zar) (.type "bool")=some false) (zmc:W.subIn K (.ref zar) (.type "int")=some false) (zma:W.subIn K (.ref zar) (.type "str")=some false) (zl8:W.subIn K (.ref zar) (.type "tuple")=some false) (zl6:W.subIn K (.ref zar) (.type "list")=some false) (zl4:W.subIn K (.ref zar) (.type "dict")=some false) (zl2:W.subIn K (.ref zar) (.type "ValueError")=some true) (zkj:W.subIn K (.ref zar) (.ref zar)=some true) (zmq:W.excIn K zar [.type "ValueError",.type "Exception",.type "BaseException",.type "object"] "ValueError.__new__"=true)
  (zmr:W.findIn K (.ref zao) "__class__"=some (some (.builtin "object.__class__"))) (znK:W.findIn K (.ref zao) "__getattribute__"=some (some (.builtin "BaseException.__getattribute__"))) (znJ:W.findIn K (.ref zao) "__getattr__"=some none) (znH:W.subIn K (.ref zao) (.type "NoneType")=some false) (znG:W.subIn K (.ref zao) (.type "bool")=some false) (znF:W.subIn K (.ref zao) (.type "int")=some false) (znE:W.subIn K (.ref zao) (.type "str")=some false) (znD:W.subIn K (.ref zao) (.type "tuple")=some false) (znC:W.subIn K (.ref zao) (.type "list")=some false) (znB:W.subIn K (.ref zao) (.type "dict")=some false) (znA:W.subIn K (.ref zao) (.type "ValueError")=some true) (zk5:W.subIn K (.ref zao) (.ref zao)=some true) (znL:W.excIn K zao [.type "ValueError",.type "Exception",.type "BaseException",.type "object"] "ValueError.__new__"=true)
  (znM:W.findIn K (.ref zat) "__class__"=some (some (.builtin "object.__class__"))) (zpw:W.findIn K (.ref zat) "__getattribute__"=some (some (.builtin "BaseException.__getattribute__"))) (zpv:W.findIn K (.ref zat) "__getattr__"=some none) (zpu:W.subIn K (.ref zat) (.type "NoneType")=some false) (zpt:W.subIn K (.ref zat) (.type "bool")=some false) (zps:W.subIn K (.ref zat) (.type "int")=some false) (zpr:W.subIn K (.ref zat) (.type "str")=some false) (zpq:W.subIn K (.ref zat) (.type "tuple")=some false) (zpp:W.subIn K (.ref zat) (.type "list")=some false) (zpo:W.subIn K (.ref zat) (.type "dict")=some false) (zpn:W.subIn K (.ref zat) (.type "ValueError")=some true) (zmi:W.subIn K (.ref zat) (.ref zat)=some true) (zpx:W.excIn K zat [.type "ValueError",.type "Exception",.type "BaseException",.type "object"] "ValueError.__new__"=true)
  (zk7:W.findIn K (.ref zaq) "__class__"=some (some (.builtin "object.__class__"))) (zmm:W.findIn K (.ref zaq) "__getattribute__"=some (some (.builtin "BaseException.__getattribute__"))) (zmk:W.findIn K (.ref zaq) "__getattr__"=some none) (zmf:W.subIn K (.ref zaq) (.type "NoneType")=some false) (zmd:W.subIn K (.ref zaq) (.type "bool")=some false) (zmb:W.subIn K (.ref zaq) (.type "int")=some false) (zl9:W.subIn K (.ref zaq) (.type "str")=some false) (zl7:W.subIn K (.ref zaq) (.type "tuple")=some false) (zl5:W.subIn K (.ref zaq) (.type "list")=some false) (zl3:W.subIn K (.ref zaq) (.type "dict")=some false) (zl1:W.subIn K (.ref zaq) (.type "ValueError")=some true) (zki:W.subIn K (.ref zaq) (.ref zaq)=some true) (zmp:W.excIn K zaq [.type "ValueError",.type "Exception",.type "BaseException",.type "object"] "ValueError.__new__"=true)
  (zpy:W.findIn K (.ref zaD) "__class__"=some (some (.builtin "object.__class__"))) (zqz:W.findIn K (.ref zaD) "__getattribute__"=some (some (.builtin "BaseException.__getattribute__"))) (zqy:W.findIn K (.ref zaD) "__getattr__"=some none) (zqt:W.subIn K (.ref zaD) (.type "NoneType")=some false) (zqs:W.subIn K (.ref zaD) (.type "bool")=some false) (zqr:W.subIn K (.ref zaD) (.type "int")=some false) (zqq:W.subIn K (.ref zaD) (.type "str")=some false) (zqp:W.subIn K (.ref zaD) (.type "tuple")=some false) (zqo:W.subIn K (.ref zaD) (.type "list")=some false) (zqn:W.subIn K (.ref zaD) (.type "dict")=some false) (zqm:W.subIn K (.ref zaD) (.type "ValueError")=some true) (znI:W.subIn K (.ref zaD) (.ref zaD)=some true)
  {zry zrI zsa zrg zni zsh:Value}{zrw zss:Option Addr}{zqX:Array (Option Value)}
  {ztz ztk:Str}{zn6:Addr}{zud zs2:List Value}{ztP zuh:Bool}{zs4:List Str}{zsl:Option Bool}{zt7 zt2:Option Addr}{ztL ztK ztJ ztI ztH:Option Value}{zua:Value}{zo5:Array DictEntry}{zt0:Nat}{zs3:Array (Option Value)}
  (zov:K.lookup zaD=some (excClassObj ztz ztk zaD zn6 zud [.ref zaA,.type "ValueError",.type "Exception",.type "BaseException",.type "object"] ztP zs4 zs2 zuh zsl zt7 ztL ztK ztJ ztI ztH "ValueError.__new__")) (zou:K.lookup zn6=some ⟨zua,zt2,.dict zo5 zt0,zs3⟩) (zow:zo5.toList.all zxO=true) (zot:W.nsIn K zn6 "__init__"=some (some (.ref zdq)))
  (ztj:W.isFn K (.ref zdq)=true) (zoK:K.lookup zdq=some ⟨zry,zrw,.func (W.fnOf "__init__" "NoWeb.__init__" (defArgs zgB) (defBody zgB) (defScope zgB) .none zrI zsa zrg zss zni zsh),zqX⟩) (zoJ:W.codeIn K zni "NoWeb.__init__"=true) (zoI:W.keepIn K (.ref zdq)=true)
  (zqu:W.findIn K (.ref zaD) "__setattr__"=some (some (.builtin "object.__setattr__"))) (zqx:W.hasDictIn K zaD=true) (zkk:W.findIn K (.ref zaD) "part"=some none) (ziV:W.findIn K (.ref zaD) "number"=some none)
  (ziy:W.excIn K zaA [.type "ValueError",.type "Exception",.type "BaseException",.type "object"] "ValueError.__new__"=true) (zmj:W.readsIn K zaA (.type "type")=true) (zmo:W.findCls K (.ref zaA) (.type "type") "__init__"=some (.val (.builtin "ValueError.__init__"))) (zmh:W.specialIn K (.ref zaA) "__getattribute__"=some (some (.builtin "type.__getattribute__")))
  (zcv:W.subIn K (.ref zar) (.ref zaA)=some true)
  (zdd:W.subIn K (.ref zar) (.ref zba)=some false)
  (zcR:W.subIn K (.ref zar) (.ref zao)=some false)
  (zdc:W.subIn K (.ref zar) (.ref zat)=some false)
  (zcQ:W.subIn K (.ref zao) (.ref zaA)=some true)
  (zdF:W.subIn K (.ref zao) (.ref zba)=some false)
  (zdb:W.subIn K (.ref zao) (.ref zao)=some true)
  (zdE:W.subIn K (.ref zao) (.ref zat)=some false)
  (zda:W.subIn K (.ref zat) (.ref zaA)=some true)
  (zef:W.subIn K (.ref zat) (.ref zba)=some false)
  (zdD:W.subIn K (.ref zat) (.ref zao)=some false)
  (zee:W.subIn K (.ref zat) (.ref zat)=some true)
  (zcu:W.subIn K (.ref zaq) (.ref zaA)=some true)
  (zc9:W.subIn K (.ref zaq) (.ref zba)=some false)
  (zcP:W.subIn K (.ref zaq) (.ref zao)=some false)
  (zc8:W.subIn K (.ref zaq) (.ref zat)=some false)
  (zdC:W.subIn K (.ref zaD) (.ref zaA)=some true)
  (ze0:W.subIn K (.ref zaD) (.ref zba)=some false)
  (zed:W.subIn K (.ref zaD) (.ref zao)=some false)
  (zeZ:W.subIn K (.ref zaD) (.ref zat)=some false)
  {zjg:Tok}(zjd:W.nsIn K mainGlobals "FEWEST_PLACES"=some (some (.int 2 zjg)))
  {zu6:Tok}(zuL:W.nsIn K mainGlobals "FIRST"=some (some (.int 2 zu6)))
  {zwW:Tok}(zwI:W.nsIn K mainGlobals "LAST"=some (some (.int 3 zwW)))
  {zs1:Tok}(zsK:W.nsIn K mainGlobals "LENGTH"=some (some (.int 3 zs1)))
  {zqN:Tok}(zql:W.nsIn K mainGlobals "LETTERS"=some (some (.str "abcdefghijklmnopqrstuvwxyz" zqN)))
  {zkl:Tok}(zkh:W.nsIn K mainGlobals "LONGEST_NAME"=some (some (.int 8 zkl)))
  {zlb:Tok}(zk4:W.nsIn K mainGlobals "MOST_PLACES"=some (some (.int 7 zlb)))
  {znO:Tok}(znz:W.nsIn K mainGlobals "MOST_TIES"=some (some (.int 14 znO)))
  {zoL:Addr}{zoQ:Obj}(zsJ:W.nsIn K mainGlobals "NOUGHT"=some (some (.ref zoL))) (zsP:K.lookup zoL=some zoQ) (zsR:∃ od its n sl vs,zoQ=⟨.type "tuple",od,.seq its n,sl⟩/\zbT vs its.toList/\its.size<=sizeLine/\∀ H,Reps K H [.int 0,.int 1] vs)
  {zyK:Tok}(zyF:W.nsIn K mainGlobals "ONE"=some (some (.int 0 zyK)))
  {zu5:Tok}(zuK:W.nsIn K mainGlobals "OTHER"=some (some (.int 1 zu5)))
  {zs0:Tok}(zsI:W.nsIn K mainGlobals "PLACES"=some (some (.int 0 zs0)))
  {zwV:Tok}(zwH:W.nsIn K mainGlobals "TIES"=some (some (.int 1 zwV)))
  {zwU:Tok}(zwG:W.nsIn K mainGlobals "WORD"=some (some (.int 2 zwU)))
  {zq9:Addr}{zrz:Obj}(zuJ:W.nsIn K mainGlobals "WORDS"=some (some (.ref zq9))) (zuT:K.lookup zq9=some zrz) (zuW:∃ od its n sl vs,zrz=⟨.type "tuple",od,.seq its n,sl⟩/\zbT vs its.toList/\its.size<=sizeLine/\∀ H,Reps K H [.str "one",.str "both"] vs)
  {zu4:Tok}(zuI:W.nsIn K mainGlobals "WORTH"=some (some (.int 4 zu4))) :
  ∃ t:Adr,Txt K mg t/\t.zoo=a_40/\∃ kV doc pm an cdv ct,t.zp7=W.fnOf "law" "law" (defArgs zi0) (defBody zi0) (defScope zi0) .none kV doc pm an cdv ct:=by
 refine⟨⟨zdq,_,zaA,zba,zar,zao,zat,zaq,zaD,a_0,_,a_1,_,a_2,_,a_3,_,a_4,_,a_5,_,a_6,_,a_7,_,a_8,_,a_9,_,a_10,_,a_11,_,a_12,_,a_13,_,a_14,_,a_15,_,a_16,_,a_17,_,a_18,_,a_19,_,a_20,_,a_21,_,a_22,_,a_23,_,a_24,_,a_25,_,a_26,_,a_27,_,a_28,_,a_29,_,a_30,_,a_31,_,a_32,_,a_33,_,a_34,_,a_35,_,a_36,_,a_37,_,a_38,_,a_39,_,a_40,_⟩,⟨zas e2_0 e3_0 e4_0,?b_0,W.mg_of X G e1_0,zas e2_1 e3_1 e4_1,?b_1,W.mg_of X G e1_1,zas e2_2 e3_2 e4_2,?b_2,W.mg_of X G e1_2,zas e2_3 e3_3 e4_3,?b_3,W.mg_of X G e1_3,zas e2_4 e3_4 e4_4,?b_4,W.mg_of X G e1_4,zas e2_5 e3_5 e4_5,?b_5,W.mg_of X G e1_5,zas e2_6 e3_6 e4_6,?b_6,W.mg_of X G e1_6,zas e2_7 e3_7 e4_7,?b_7,W.mg_of X G e1_7,zas e2_8 e3_8 e4_8,?b_8,W.mg_of X G e1_8,zas e2_9 e3_9 e4_9,?b_9,W.mg_of X G e1_9,zas e2_10 e3_10 e4_10,?b_10,W.mg_of X G e1_10,zas e2_11 e3_11 e4_11,?b_11,W.mg_of X G e1_11,zas e2_12 e3_12 e4_12,?b_12,W.mg_of X G e1_12,zas e2_13 e3_13 e4_13,?b_13,W.mg_of X G e1_13,zas e2_14 e3_14 e4_14,?b_14,W.mg_of X G e1_14,zas e2_15 e3_15 e4_15,?b_15,W.mg_of X G e1_15,zas e2_16 e3_16 e4_16,?b_16,W.mg_of X G e1_16,zas e2_17 e3_17 e4_17,?b_17,W.mg_of X G e1_17,zas e2_18 e3_18 e4_18,?b_18,W.mg_of X G e1_18,zas e2_19 e3_19 e4_19,?b_19,W.mg_of X G e1_19,zas e2_20 e3_20 e4_20,?b_20,W.mg_of X G e1_20,zas e2_21 e3_21 e4_21,?b_21,W.mg_of X G e1_21,zas e2_22 e3_22 e4_22,?b_22,W.mg_of X G e1_22,zas e2_23 e3_23 e4_23,?b_23,W.mg_of X G e1_23,zas e2_24 e3_24 e4_24,?b_24,W.mg_of X G e1_24,zas e2_25 e3_25 e4_25,?b_25,W.mg_of X G e1_25,zas e2_26 e3_26 e4_26,?b_26,W.mg_of X G e1_26,zas e2_27 e3_27 e4_27,?b_27,W.mg_of X G e1_27,zas e2_28 e3_28 e4_28,?b_28,W.mg_of X G e1_28,zas e2_29 e3_29 e4_29,?b_29,W.mg_of X G e1_29,zas e2_30 e3_30 e4_30,?b_30,W.mg_of X G e1_30,zas e2_31 e3_31 e4_31,?b_31,W.mg_of X G e1_31,zas e2_32 e3_32 e4_32,?b_32,W.mg_of X G e1_32,zas e2_33 e3_33 e4_33,?b_33,W.mg_of X G e1_33,zas e2_34 e3_34 e4_34,?b_34,W.mg_of X G e1_34,zas e2_35 e3_35 e4_35,?b_35,W.mg_of X G e1_35,zas e2_36 e3_36 e4_36,?b_36,W.mg_of X G e1_36,zas e2_37 e3_37 e4_37,?b_37,W.mg_of X G e1_37,zas e2_38 e3_38 e4_38,?b_38,W.mg_of X G e1_38,zas e2_39 e3_39 e4_39,?b_39,W.mg_of X G e1_39,zas e2_40 e3_40 e4_40,?b_40,W.mg_of X G e1_40,W.mg_none_of X G z_ValueError,W.mg_none_of X G z_abs,W.mg_none_of X G z_all,W.mg_none_of X G z_bool,W.mg_none_of X G z_enumerate,W.mg_none_of X G z_int,W.mg_none_of X G z_isinstance,W.mg_none_of X G z_len,W.mg_none_of X G z_list,W.mg_none_of X G z_min,W.mg_none_of X G z_range,W.mg_none_of X G z_str,W.mg_none_of X G z_tuple,W.mg_of X G ziM,⟨ziM,zmW,zmY,zm0⟩,W.mg_of X G zkL,⟨zkL,zpV,zpW,zpX⟩,W.mg_of X G zf5,⟨zf5,ziJ,ziL,ziO⟩,W.mg_of X G zg7,⟨zg7,zjz,zjA,zjG⟩,W.mg_of X G zh9,⟨zh9,zkJ,zkK,zkO⟩,W.mg_of X G zf4,⟨zf4,ziI,ziK,ziN⟩,W.mg_of X G zjB,⟨zjB,zmV,zmX,zmZ⟩,⟨⟨zf5,ziJ,ziL,ziO⟩,zk8,zmn,zml,zmg,zme,zmc,zma,zl8,zl6,zl4,zl2,zkj,zmq⟩,⟨⟨zg7,zjz,zjA,zjG⟩,zmr,znK,znJ,znH,znG,znF,znE,znD,znC,znB,znA,zk5,znL⟩,⟨⟨zh9,zkJ,zkK,zkO⟩,znM,zpw,zpv,zpu,zpt,zps,zpr,zpq,zpp,zpo,zpn,zmi,zpx⟩,⟨⟨zf4,ziI,ziK,ziN⟩,zk7,zmm,zmk,zmf,zmd,zmb,zl9,zl7,zl5,zl3,zl1,zki,zmp⟩,⟨⟨zjB,zmV,zmX,zmZ⟩,zpy,zqz,zqy,zqt,zqs,zqr,zqq,zqp,zqo,zqn,zqm,znI⟩,zas zoK zoJ zoI,?zdW,zuj zov zou zow zot ziy,zwJ (zuj zov zou zow zot ziy) zqu zqx (zoT zkk ( zoT ziV (zvN))),ztj,⟨zmj,zmo,zmh⟩,zcv,zdd,zcR,zdc,zcQ,zdF,zdb,zdE,zda,zef,zdD,zee,zcu,zc9,zcP,zc8,zdC,ze0,zed,zeZ,?zes,?zj8,?znl,?zlT,?zj7,?ze7,?zfI,?zhm,?zlS,?zol,?zhl,?zeP,?zj6,?znk,?zok,?zlR⟩,rfl,_,_,_,_,_,_,rfl⟩
 case zdW=>exact(zas (st:=zgB) zoK zoJ zoI).binds fun _ _ _ _ _ _ us hl=>match us,hl with | [_,_,_],_=>rfl
 case b_0=>exact(zas (st:=zcF) e2_0 e3_0 e4_0).binds fun _ _ _ _ _ _ us hl=>match us,hl with | [_,_],_=>rfl
 case b_1=>exact(zas (st:=zcE) e2_1 e3_1 e4_1).binds fun _ _ _ _ _ _ us hl=>match us,hl with | [_,_],_=>rfl
 case b_2=>exact(zas (st:=zcG) e2_2 e3_2 e4_2).binds fun _ _ _ _ _ _ us hl=>match us,hl with | [_],_=>rfl
 case b_3=>exact(zas (st:=zd8) e2_3 e3_3 e4_3).binds fun _ _ _ _ _ _ us hl=>match us,hl with | [_,_],_=>rfl
 case b_4=>exact(zas (st:=zbH) e2_4 e3_4 e4_4).binds fun _ _ _ _ _ _ us hl=>match us,hl with | [_],_=>rfl
 case b_5=>exact(zas (st:=zd7) e2_5 e3_5 e4_5).binds fun _ _ _ _ _ _ us hl=>match us,hl with | [_,_,_],_=>rfl
 case b_6=>exact(zas (st:=zd6) e2_6 e3_6 e4_6).binds fun _ _ _ _ _ _ us hl=>match us,hl with | [_],_=>rfl
 case b_7=>exact(zas (st:=zcD) e2_7 e3_7 e4_7).binds fun _ _ _ _ _ _ us hl=>match us,hl with | [_],_=>rfl
 case b_8=>exact(zas (st:=zc7) e2_8 e3_8 e4_8).binds fun _ _ _ _ _ _ us hl=>match us,hl with | [_,_],_=>rfl
 case b_9=>exact(zas (st:=zc3) e2_9 e3_9 e4_9).binds fun _ _ _ _ _ _ us hl=>match us,hl with | [_,_],_=>rfl
 case b_10=>exact(zas (st:=zfj) e2_10 e3_10 e4_10).binds fun _ _ _ _ _ _ us hl=>match us,hl with | [_],_=>rfl
 case b_11=>exact(zas (st:=zbt) e2_11 e3_11 e4_11).binds fun _ _ _ _ _ _ us hl=>match us,hl with | [_],_=>rfl
 case b_12=>exact(zas (st:=zd3) e2_12 e3_12 e4_12).binds fun _ _ _ _ _ _ us hl=>match us,hl with | [_],_=>rfl
 case b_13=>exact(zas (st:=zbu) e2_13 e3_13 e4_13).binds fun _ _ _ _ _ _ us hl=>match us,hl with | [_,_],_=>rfl
 case b_14=>exact(zas (st:=zd4) e2_14 e3_14 e4_14).binds fun _ _ _ _ _ _ us hl=>match us,hl with | [_],_=>rfl
 case b_15=>exact(zas (st:=zc1) e2_15 e3_15 e4_15).binds fun _ _ _ _ _ _ us hl=>match us,hl with | [_],_=>rfl
 case b_16=>exact(zas (st:=zd2) e2_16 e3_16 e4_16).binds fun _ _ _ _ _ _ us hl=>match us,hl with | [_],_=>rfl
 case b_17=>exact(zas (st:=zgD) e2_17 e3_17 e4_17).binds fun _ _ _ _ _ _ us hl=>match us,hl with | [_],_=>rfl
 case b_18=>exact(zas (st:=zbU) e2_18 e3_18 e4_18).binds fun _ _ _ _ _ _ us hl=>match us,hl with | [_,_],_=>rfl
 case b_19=>exact(zas (st:=zd5) e2_19 e3_19 e4_19).binds fun _ _ _ _ _ _ us hl=>match us,hl with | [_,_],_=>rfl
 case b_20=>exact(zas (st:=zcd) e2_20 e3_20 e4_20).binds fun _ _ _ _ _ _ us hl=>match us,hl with | [_],_=>rfl
 case b_21=>exact(zas (st:=zce) e2_21 e3_21 e4_21).binds fun _ _ _ _ _ _ us hl=>match us,hl with | [_,_],_=>rfl
 case b_22=>exact(zas (st:=zbF) e2_22 e3_22 e4_22).binds fun _ _ _ _ _ _ us hl=>match us,hl with | [_,_],_=>rfl
 case b_23=>exact(zas (st:=zbG) e2_23 e3_23 e4_23).binds fun _ _ _ _ _ _ us hl=>match us,hl with | [_,_],_=>rfl
 case b_24=>exact(zas (st:=zbs) e2_24 e3_24 e4_24).binds fun _ _ _ _ _ _ us hl=>match us,hl with | [_,_],_=>rfl
 case b_25=>exact(zas (st:=zbV) e2_25 e3_25 e4_25).binds fun _ _ _ _ _ _ us hl=>match us,hl with | [_,_],_=>rfl
 case b_26=>exact(zas (st:=zh4) e2_26 e3_26 e4_26).binds fun _ _ _ _ _ _ us hl=>match us,hl with | [_,_],_=>rfl
 case b_27=>exact(zas (st:=zkC) e2_27 e3_27 e4_27).binds fun _ _ _ _ _ _ us hl=>match us,hl with | [_,_],_=>rfl
 case b_28=>exact(zas (st:=zgC) e2_28 e3_28 e4_28).binds fun _ _ _ _ _ _ us hl=>match us,hl with | [_],_=>rfl
 case b_29=>exact(zas (st:=zcb) e2_29 e3_29 e4_29).binds fun _ _ _ _ _ _ us hl=>match us,hl with | [_],_=>rfl
 case b_30=>exact(zas (st:=zcB) e2_30 e3_30 e4_30).binds fun _ _ _ _ _ _ us hl=>match us,hl with | [_,_],_=>rfl
 case b_31=>exact(zas (st:=zcc) e2_31 e3_31 e4_31).binds fun _ _ _ _ _ _ us hl=>match us,hl with | [_,_,_],_=>rfl
 case b_32=>exact(zas (st:=zfi) e2_32 e3_32 e4_32).binds fun _ _ _ _ _ _ us hl=>match us,hl with | [_,_,_,_],_=>rfl
 case b_33=>exact(zas (st:=zbW) e2_33 e3_33 e4_33).binds fun _ _ _ _ _ _ us hl=>match us,hl with | [_,_],_=>rfl
 case b_34=>exact(zas (st:=zcC) e2_34 e3_34 e4_34).binds fun _ _ _ _ _ _ us hl=>match us,hl with | [_],_=>rfl
 case b_35=>exact(zas (st:=zc4) e2_35 e3_35 e4_35).binds fun _ _ _ _ _ _ us hl=>match us,hl with | [_,_],_=>rfl
 case b_36=>exact(zas (st:=zbv) e2_36 e3_36 e4_36).binds fun _ _ _ _ _ _ us hl=>match us,hl with | [_,_],_=>rfl
 case b_37=>exact(zas (st:=zc6) e2_37 e3_37 e4_37).binds fun _ _ _ _ _ _ us hl=>match us,hl with | [_,_,_],_=>rfl
 case b_38=>exact(zas (st:=zc5) e2_38 e3_38 e4_38).binds fun _ _ _ _ _ _ us hl=>match us,hl with | [_,_,_,_],_=>rfl
 case b_39=>exact(zas (st:=zc2) e2_39 e3_39 e4_39).binds fun _ _ _ _ _ _ us hl=>match us,hl with | [_,_,_,_],_=>rfl
 case b_40=>exact(zas (st:=zi0) e2_40 e3_40 e4_40).binds fun _ _ _ _ _ _ us hl=>match us,hl with | [_],_=>rfl
 case zes=>exact zdh (W.mg_of X G zjd)
 case zj8=>exact zdh (W.mg_of X G zuL)
 case znl=>exact zdh (W.mg_of X G zwI)
 case zlT=>exact zdh (W.mg_of X G zsK)
 case zj7=>exact zvV (W.mg_of X G zql)
 case ze7=>exact zdh (W.mg_of X G zkh)
 case zfI=>exact zdh (W.mg_of X G zk4)
 case zhm=>exact zdh (W.mg_of X G znz)
 case zlS =>
  obtain⟨od,its,n,sl,vs,rfl,h1,h2,h3⟩:=zsR
  exact zrH (W.mg_of X G zsJ) zsP h1 h2 h3
 case zol=>exact zdh (W.mg_of X G zyF)
 case zhl=>exact zdh (W.mg_of X G zuK)
 case zeP=>exact zdh (W.mg_of X G zsI)
 case zj6=>exact zdh (W.mg_of X G zwH)
 case znk=>exact zdh (W.mg_of X G zwG)
 case zok =>
  obtain⟨od,its,n,sl,vs,rfl,h1,h2,h3⟩:=zuW
  exact zrH (W.mg_of X G zuJ) zuT h1 h2 h3
 case zlR=>exact zdh (W.mg_of X G zuI)
theorem txt_wr {K:W.Frag}{mg:Str->Option Value}{a:Addr}{R:Adr->Prop}(h:∃ t:Adr,Txt K mg t/\t.zoo=a/\R t):∃ t:Adr,Txt K mg t/\mg "law"=some (.ref t.zoo)/\R t:=h.elim fun t ⟨T,_,r⟩=>⟨t,T,T.zzn,r⟩
theorem zw4 (K:W.Frag)(H:Hp)(a:Addr)(ns:List Int)(hl:ns.length<=63)(hS:SqL K H a (ns.map V.int)):spD K 1 zrF [.ref a] H (fun v _=>v=.bl true) fun _ _ _=>False:=by
 refine⟨rfl,H,[.lst (ns.map D.int)],zaM.refl _,Reps.cons (Rep.lst_iff.mpr ⟨a,_,rfl,hS,Reps.ints ns⟩) Reps.nil,?_⟩
 rw[ztE ns hl]
 exact fun v H' H₀' _ r=>Rep.bl_iff.mp r
end K35
def PySem.W.Fast.tw18151508841247956417 : Nat := 0
def PySem.W.Fast.tw15108704711374867969 : Nat := 0
def PySem.W.Fast.tw7826618242989946565 : Nat := 0
def PySem.W.Fast.tw4712494399818404327 : Nat := 0
def PySem.W.Fast.tw16301089704538841288 : Nat := 0
def PySem.W.Fast.tw13820137677258155848 : Nat := 0
def PySem.W.Fast.tw1802560971706408172 : Nat := 0
def PySem.W.Fast.tw11200506293776580014 : Nat := 0
def PySem.W.Fast.tw17307089553812077458 : Nat := 0
def PySem.W.Fast.tw6584502913366539287 : Nat := 0
def PySem.W.Fast.tw5607853801874311032 : Nat := 0
def PySem.W.Fast.tw9934264079519650042 : Nat := 0
def PySem.W.Fast.tw1758549978556291002 : Nat := 0
def PySem.W.Fast.tw7093784626909676603 : Nat := 0
def PySem.W.Fast.tw3235360787282835356 : Nat := 0
def PySem.W.Fast.tw11203892437958582845 : Nat := 0
open PySem PySem.W PyProof.Rows
set_option maxRecDepth 100000 in
set_option maxHeartbeats 0 in
theorem PySem.Challenge.cw_farthestcut_k35_rooms_of_sides_holds : PySem.Challenge.rw_farthestcut_k35_rooms_of_sides.Holds := by
 w_on;o_law;k_head;(case hw=>w_witness2)
 k_fill
 refine L2.walk_ofK (l:=PySem.Challenge.rw_farthestcut_k35_rooms_of_sides) (n:=63) (k:=10) (x:="_law_script") (CX:=L2.CX0) (sp:=fun K=>DL.spD K 1 K35.zrF) rfl (by decide) rfl ⟨rfl,by decide,by decide⟩ (fun w h Y=>W.kIn_of Y) ?F ?S ?C
 case S=>exact fun K H a ns hl _ hS=>K35.zw4 K H a ns hl hS
 case C=>exact fun _ _ _ _ h=>h
 case F =>
  intro w mg fa h KX G hmg
  have T:∃ t:K35.Adr,K35.Txt (L2.KOf KX) mg t/\mg "law"=some (.ref t.zoo)/\∃ kV doc pm an cdv ct,t.zp7=W.fnOf "law" "law" (L2.defArgs K35.zi0) (L2.defBody K35.zi0) (L2.defScope K35.zi0) .none kV doc pm an cdv ct:=by
   dsimp only[L2.KOf]
   refine' K35.txt_wr (K35.txt_mk KX G ?_ ?_ ?_ ?_ ?_ ?_ ?_ ?_ ?_ ?_ ?_ ?_ ?_ ?_ ?_ ?_ ?_ ?_ ?_ ?_ ?_ ?_ ?_ ?_ ?_ ?_ ?_ ?_ ?_ ?_ ?_ ?_ ?_ ?_ ?_ ?_ ?_ ?_ ?_ ?_ ?_ ?_ ?_ ?_ ?_ ?_ ?_ ?_ ?_ ?_ ?_ ?_ ?_ ?_ ?_ ?_ ?_ ?_ ?_ ?_ ?_ ?_ ?_ ?_ ?_ ?_ ?_ ?_ ?_ ?_ ?_ ?_ ?_ ?_ ?_ ?_ ?_ ?_ ?_ ?_ ?_ ?_ ?_ ?_ ?_ ?_ ?_ ?_ ?_ ?_ ?_ ?_ ?_ ?_ ?_ ?_ ?_ ?_ ?_ ?_ ?_ ?_ ?_ ?_ ?_ ?_ ?_ ?_ ?_ ?_ ?_ ?_ ?_ ?_ ?_ ?_ ?_ ?_ ?_ ?_ ?_ ?_ ?_ ?_ ?_ ?_ ?_ ?_ ?_ ?_ ?_ ?_ ?_ ?_ ?_ ?_ ?_ ?_ ?_ ?_ ?_ ?_ ?_ ?_ ?_ ?_ ?_ ?_ ?_ ?_ ?_ ?_ ?_ ?_ ?_ ?_ ?_ ?_ ?_ ?_ ?_ ?_ ?_ ?_ ?_ ?_ ?_ ?_ ?_ ?_ ?_ ?_ ?_ ?_ ?_ ?_ ?_ ?_ ?_ ?_ ?_ ?_ ?_ ?_ ?_ ?_ ?_ ?_ ?_ ?_ ?_ ?_ ?_ ?_ ?_ ?_ ?_ ?_ ?_ ?_ ?_ ?_ ?_ ?_ ?_ ?_ ?_ ?_ ?_ ?_ ?_ ?_ ?_ ?_ ?_ ?_ ?_ ?_ ?_ ?_ ?_ ?_ ?_ ?_ ?_ ?_ ?_ ?_ ?_ ?_ ?_ ?_ ?_ ?_ ?_ ?_ ?_ ?_ ?_ ?_ ?_ ?_ ?_ ?_ ?_ ?_ ?_ ?_ ?_ ?_ ?_ ?_ ?_ ?_ ?_ ?_ ?_ ?_ ?_ ?_ ?_ ?_ ?_ ?_ ?_ ?_ ?_ ?_ ?_ ?_ ?_ ?_ ?_ ?_ ?_ ?_ ?_ ?_ ?_ ?_ ?_ ?_ ?_ ?_ ?_ ?_ ?_ ?_ ?_ ?_ ?_ ?_ ?_ ?_ ?_ ?_ ?_ ?_ ?_ ?_ ?_ ?_ ?_ ?_ ?_ ?_ ?_ ?_ ?_ ?_ ?_ ?_ ?_ ?_ ?_ ?_ ?_ ?_ ?_ ?_ ?_ ?_ ?_ ?_ ?_)
   all_goals try first | k_is | k_exc | rfl
   exact⟨_,_,_,_,[.int 0,.int 1],rfl,.cons ⟨_,rfl⟩ (.cons ⟨_,rfl⟩ (.nil)),by decide,fun H=>DL.Reps.cons (DL.ri _) (DL.Reps.cons (DL.ri _) (DL.Reps.nil))⟩
   exact⟨_,_,_,_,[.str "one",.str "both"],rfl,.cons ⟨_,rfl⟩ (.cons ⟨_,rfl⟩ (.nil)),by decide,fun H=>DL.Reps.cons (DL.Rep.str_iff.mpr rfl) (DL.Reps.cons (DL.Rep.str_iff.mpr rfl) (DL.Reps.nil))⟩
  obtain⟨t,T,e0,kV,doc,pm,an,cdv,ct,ed⟩:=T
  have e1:=hmg.symm.trans e0
  cases e1
  refine⟨t.zp7,fun s u=>?_,fun base kb nb=>K35.zxM T⟩
  rw[ed]
  exact .of_eq rfl
